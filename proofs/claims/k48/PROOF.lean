import PyProof.Rows.All
import Wide.All
import OpenK.AllK
import Wide.FinOn
import Lean
import PyProof.EqAt
import PyProof.EqKinds
import PyProof.TupleCall
import PyProof.NeKinds
import PyProof.WalksEnum
import PyProof.EnumMake
import PyProof.ZipIter
import PyProof.Draws
import PyProof.DictIter
import PyProof.DictWalks
import PyProof.Rows.DictUnroll
import PyProof.DictCompW
import PyProof.ReprRoads
import PyProof.ReprLen
import PyProof.P3Eq
import PyProof.Rows.FStr
import PyProof.Rows.StrSplitAre
import PyProof.Rows.StrItems
import PyProof.Rows.FStrParts
import KE.KIntText
import PyProof.StrWalks
import PyProof.MeetsStr
import PyProof.StationsW
import PyProof.Rows.TopTwo
import PyProof.RulesAs
import PyProof.RulesDel
import PyProof.ExcArgs
import OpenK.KOwn
import KE.KRevIter
import PyProof.Rows.StrLen
import PyProof.SliceStr2
import PyProof.StrBlockI
import KE.KDictOf
import PyProof.AttrMissSeq
import KE.KRevSl
import PyProof.Rows.SetFrom
import PyProof.WalksMore
import PyProof.SetRoads
import KE.KEqDict
import PyProof.Rows.SumAny
import PyProof.InstStore
import PyProof.InstStoreFacts
import KE.KDictList
import PyProof.Rows.SortWalk
import PyProof.SetKind
import PyProof.MinMaxWalk
import PyProof.Rows.ReprOcc
import PyProof.StrLawsTight
import PySem.Challenge.RW_fuseboard_k48_pairs_reckoned
set_option Elab.async false
set_option linter.all false
set_option genSizeOf false
set_option genSizeOfSpec false
set_option maxRecDepth 100000
abbrev WA:=List (PySem.Addr×PySem.Obj)
abbrev WB:=List (Option Nat)
abbrev WC:=List (PySem.Str×PySem.Addr)
abbrev WD:=List (PySem.Str×PySem.Value)
abbrev WE:=List PySem.Addr
abbrev WG:=List PySem.Str
abbrev WH:=List PySem.Value
abbrev WI:=List PySem.Expr
abbrev WJ:=List Int
abbrev WK:=List Nat
abbrev WL:=Array PySem.Value
abbrev WM:=PySem.Str->Option PySem.Value
abbrev WN:=List PySem.Stmt
abbrev WO:=PySem.Value->PySem.Shared->Prop
abbrev WQ:=Nat->List PySem.Addr
abbrev WR:=PySem.W.Frag
abbrev WS:=Option PySem.Value
abbrev WT:=Option Nat
abbrev dL:=@List.length_map
abbrev eH:=@PySem.wpAny_bind
abbrev hD:=@PySem.Heap.get?_push_of_some
abbrev hH:=@PySem.wpAny_pure
abbrev hQ:=@List.mem_cons_of_mem
abbrev nA:=@List.getElem?_eq_getElem
abbrev oT:=@Nat.le_refl
abbrev re:=@List.mem_cons_self
abbrev ri:=@Classical.choose_spec
abbrev rj:=@List.mem_append_right
abbrev rm:=@Bool.false_ne_true
abbrev ro:=@if_neg
abbrev rx:=@List.getElem?_map
abbrev ry:=@if_pos
abbrev sd:=@List.nodup_nil
abbrev sg:=@List.mem_of_getElem?
abbrev sh:=@List.size_toArray
abbrev sj:=@PySem.Heap.get?_push_size
abbrev sw:=@List.map_cons
abbrev sK:=@PySem.Heap.lt_size
abbrev tt:=@List.length_append
abbrev tz:=@List.append_nil
abbrev tL:=@List.length_range
abbrev t4:=@Array.length_toList
abbrev t5:=@List.getD_eq_getElem?_getD
abbrev t6:=@decide_eq_true
abbrev t7:=@List.mem_append_left
abbrev t8:=@Nat.ne_of_lt
abbrev ud:=@List.getElem?_append_left
abbrev ue:=@List.map_append
abbrev uk:=@Bool.and_eq_true
abbrev ux:=@PySem.wpAny_newObj_type
abbrev uy:=@Nat.lt_of_lt_of_le
abbrev u0:=@List.nil_append
abbrev u8:=@Int.mul_le_mul_of_nonneg_right
abbrev vc:=@PySem.PassesOwn.never
abbrev vr:=@decide_eq_false
abbrev vu:=@List.length_cons
abbrev vv:=@Nat.le_of_ble_eq_true
abbrev vy:=@List.length_take
abbrev v1:=@List.getElem?_set_self
abbrev v2:=@List.take_add_one
abbrev v3:=@Array.getElem?_eq_getElem
abbrev v4:=@List.getElem?_set_ne
abbrev v5:=@Nat.zero_le
abbrev v6:=@PySem.wpAny_mono
abbrev v7:=@Option.some.inj
abbrev v8:=@PySem.F.plainAttrs_list
abbrev v9:=@List.map_map
abbrev wf:=@List.length_singleton
abbrev wh:=@List.append_assoc
abbrev wl:=@PySem.Obj.data_mapFields
abbrev wn:=@List.getElem?_cons_succ
abbrev wr:=@PySem.W.mg_none_of
abbrev ww:=@Array.getD_eq_getD_getElem?
abbrev wE:=@List.take_length
abbrev wP:=@of_decide_eq_true
abbrev wS:=@Int.toNat_natCast
abbrev wT:=@List.getElem?_append_right
abbrev xi:=@Int.emod_lt_of_pos
abbrev xz:=@PySem.Heap.get?_update_self
abbrev xL:=@List.lookup_cons
abbrev x0:=@List.find?_cons
abbrev x2:=@PySem.wpAny_holding
abbrev x4:=@List.getElem?_of_mem
abbrev z0:=@PySem.wpAny_call_entry
abbrev At:=@PyProof.Rows.F.plain_set_update_loop
abbrev AC:=@Nat.le_trans
abbrev AT:=@PySem.Heap.SameBut.update
abbrev A1:=@PySem.wpAny_callSpecial?_slot
abbrev Bi:=@Int.emod_nonneg
abbrev BB:=@PySem.Around.under_plainId
abbrev Ch:=@List.pairwise_singleton
abbrev C2:=@PyProof.Rows.slot_tuple_getitem
abbrev Da:=@Ne.symm
abbrev Db:=@List.drop_eq_getElem_cons
abbrev Do:=@PySem.Heap.size_push
abbrev Ew:=@List.filterMap_cons
abbrev EQ:=@decide_eq_true_eq
abbrev Fa:=@congrArg
abbrev Fk:=@PySem.boot_len
abbrev FM:=@List.getElem?_take_of_lt
abbrev FS:=@PySem.W.kia_one
abbrev Gc:=@PySem.builtinLookup_eq_fast
abbrev Go:=@PySem.codeAny_builtin
abbrev GM:=@PySem.sizeLine_eq
abbrev Ix:=@Nat.lt_succ_of_lt
abbrev IN:=@Nat.le_of_lt
abbrev IR:=@List.replicate_succ
abbrev KF:=@List.length_reverse
abbrev KM:=@PySem.wpAny_standAt
abbrev No:=@List.mem_or_eq_of_mem_set
abbrev NE:=@Array.getElem?_toList
abbrev On:=@List.sum_cons
abbrev Op:=@PySem.Obj.isFreed_of_fields
abbrev Os:=@PyProof.Rows.boot_tuple
abbrev OV:=@List.length_set
abbrev Ps:=@PySem.isSubtype_type
abbrev Pv:=@PyProof.Rows.F.entry_set_update_loop
abbrev PP:=@List.map_congr_left
abbrev P3:=@List.take_of_length_le
abbrev Re:=@List.length_drop
abbrev Rl:=@List.filter_cons
abbrev Rs:=@of_decide_eq_false
abbrev Sc:=@PySem.F.slot_dict_get
abbrev SC:=@PySem.Heap.get?_update_other
abbrev SL:=@PySem.wpAny_setField
abbrev SZ:=@List.mem_cons
abbrev Tk:=@List.any_cons
abbrev Tl:=@PySem.typeLookup_type
abbrev Tx:=@PySem.mem_of_lookup
abbrev Tz:=@PySem.wpAny_setState_of
abbrev TB:=@PySem.wpAny_of_eq
abbrev TC:=@PySem.wpAny_field
abbrev TD:=@List.getElem_mem
abbrev TF:=@PySem.wpAny_comprehension_free
abbrev TH:=@PySem.plainId_quiet
abbrev TJ:=@List.sublist_cons_self
abbrev TK:=@List.foldl_cons
abbrev TL:=@Nat.lt_irrefl
abbrev TN:=@List.all_cons
abbrev TQ:=@List.length_replicate
abbrev TR:=@List.getElem?_eq_none
abbrev TV:=@PyProof.Rows.callWith_type1
abbrev TW:=@List.take_sublist
abbrev TX:=@List.pairwise_map
abbrev TY:=@List.flatten_cons
abbrev TZ:=@List.any_eq_false
abbrev T0:=@PySem.wpAny_passesOwn
abbrev Ua:=@Sum.inr.inj
abbrev Ub:=@Nat.lt_succ_self
abbrev Uc:=@Nat.le_of_eq
abbrev Ud:=@List.drop_length
abbrev Ue:=@List.all_eq_true
abbrev Uf:=@Nat.not_lt_zero
abbrev Ug:=@List.length_nil
abbrev Uh:=@List.getElem_range
abbrev Ui:=@Bool.false_eq_true
abbrev Uj:=@PySem.F.args_dict_get_3
abbrev Uk:=@PySem.wpAny_setEntries_of
abbrev Ul:=@PySem.wpAny_attempt
abbrev Um:=@PySem.F.entry_dict_get
abbrev Uo:=@Nat.sub_self
abbrev Uq:=@Nat.ne_of_gt
abbrev Ur:=@List.flatMap_singleton
abbrev Us:=@List.Sublist.refl
abbrev Ut:=@Array.getElem?_eq_none
abbrev Uu:=@PySem.wpAny_specialOf
abbrev Uv:=@PySem.wpAny_rule
abbrev Uw:=@PySem.tupleKind_room_in1
abbrev Ux:=@PySem.Calls.spliced_cons
abbrev Uy:=@List.length_filter_le
abbrev Uz:=@PySem.wpAny_typeOf
abbrev UA:=@Int.le_refl
abbrev UB:=@PySem.Calls.callWith_builtin
abbrev UC:=@List.sum_append
abbrev UD:=@List.getElem_of_mem
abbrev UE:=@List.flatMap_append
abbrev UF:=@PySem.wpAny_isInstance
abbrev UG:=@List.map_nil
abbrev UH:=@Int.zero_mul
abbrev UI:=@if_false
abbrev UJ:=@Nat.lt_of_le_of_lt
abbrev UK:=@Int.mul_nonneg
abbrev UL:=@PySem.Calls.evalArgs_plain
abbrev UM:=@List.sublist_append_right
abbrev UN:=@Option.isSome_map
abbrev UO:=@Nat.le_succ
abbrev UP:=@List.reverse_cons
abbrev UQ:=@List.getElem?_inj
abbrev UR:=@List.foldl_append
abbrev US:=@PySem.codeAny_mono
abbrev UT:=@PySem.F.args_tuple_add_2
abbrev UU:=@List.sublist_append_left
abbrev UV:=@PySem.wpAny_Call_Name_kw
abbrev UW:=@PySem.F.entry_tuple_add
abbrev UX:=@Nat.zero_lt_succ
abbrev UY:=@List.map_reverse
abbrev UZ:=@List.any_eq_true
abbrev U0:=@if_true
abbrev U1:=@PySem.F.slot_tuple_add
abbrev Va:=@PyProof.Rows.boot_repr
abbrev Vb:=@Int.add_zero
abbrev Vc:=@PySem.wpAny_truthy_bool
abbrev Vd:=@PySem.wpAny_pyIter_list
abbrev Ve:=@PySem.wpAny_assign_Name
abbrev Vf:=@PySem.Obj.cls_mapFields
abbrev Vg:=@List.range_succ
abbrev Vh:=@List.mem_append
abbrev Vi:=@Bool.or_eq_true
abbrev Vj:=@Bool.eq_iff_iff
abbrev Vk:=@PyProof.Rows.boot_max
abbrev Vl:=@PyProof.Rows.boot_int
abbrev Vm:=@List.take_append_drop
abbrev Vn:=@PySem.wpAny_askSetting
abbrev Vo:=@List.mem_of_mem_take
abbrev Vp:=@Array.toArray_toList
abbrev Vq:=@Iff.rfl
abbrev Vr:=@PySem.meets_dict_get_default
abbrev Vs:=@List.getElem?_range
abbrev Vt:=@PySem.wpAny_execs_nil
abbrev Vu:=@PySem.codeAny_of_tree
abbrev Vv:=@PySem.exec_Assign_Name_used
abbrev Vw:=@PySem.wpAny_runValue
abbrev Vx:=@PySem.wpAny_newFunctionEnv
abbrev Vy:=@PySem.wpAny_fieldsOf
abbrev Vz:=@or_congr
abbrev VA:=@String.splitOnAux
abbrev VB:=@List.flatMap_cons
abbrev VC:=@List.ext_getElem?
abbrev VD:=@Nat.le_of_not_lt
abbrev VE:=@List.not_mem_nil
abbrev VF:=@List.nil_sublist
abbrev VG:=@List.flatMap_nil
abbrev VH:=@PySem.signature?_of
abbrev VI:=@PySem.evalPart_none
abbrev VJ:=@PySem.Paired.length
abbrev VL:=@Nat.log2_lt
abbrev VM:=@Int.add_mul
abbrev VN:=@PySem.wpAny_pyIter_tuple
abbrev VO:=@PySem.call_meets
abbrev VP:=@PyProof.Rows.boot_isinstance
abbrev VQ:=@List.of_mem_zip
abbrev VR:=@PySem.Heap.IsSliceOf.new
abbrev VS:=@PySem.wpAny_setEpoch_of
abbrev VT:=@PySem.wpAny_sequenceKey
abbrev VU:=@PySem.wpAny_pyIter_slot
abbrev VW:=@PySem.concat_meets
abbrev VX:=@PySem.codeAny_loop
abbrev VY:=@PySem.call_meetsIn
abbrev VZ:=@PySem.F.excBase_ValueError
abbrev Wa:=@List.length_eraseIdx_of_lt
abbrev Wb:=@PySem.Calls.spliced_nil
noncomputable section
namespace PySem.W.Fast
def tw18143182557537127546:=()
def tw8763093121595640734:=()
def tw13815749593340437731:=()
def tw16703448711334100044:=()
def tw3079252940316064186:=()
def tw6787398070316435923:=()
def tw8779016893111996358:=()
def tw1454737030885753311:=()
def tw3942089669875082663:=()
def tw14750152834411617789:=()
def tw4176450633121486169:=()
def tw3086858520063140166:=()
def tw15292202252167606756:=()
def tw4867631759512582963:=()
def tw3553217649368463890:=()
def tw8182917530047731326:=()
def tw8083104022455324954:=()
def tw17778255054110937658:=()
def tw17852061121165689341:=()
def tw7338646200585409669:=()
def tw17232168956915907027:=()
def tw17830231220931815718:=()
def tw9022117785125985843:=()
def tw10140470869302743074:=()
def tw6507750356871470094:=()
def tw3455836463289825508:=()
def tw1932634747704799340:=()
def tw1192072398087808103:=()
def tw89484605503816101:=()
def tw14706809271645955013:=()
def tw10828539511485094405:=()
def tw11209816644705191847:=()
def tw9438299184070107061:=()
def tw6591243160364538747:=()
def tw12440996313241205257:=()
def tw15019228018562437990:=()
def tw17749712417835962060:=()
def tw10430859894745137752:=()
def tw10709877302328742602:=()
def tw8229047242662643026:=()
def tw12084840677021929013:=()
def tw13071982837243617378:=()
def tw6417094706062230572:=()
def tw17450249288272090803:=()
def tw2772702725307436962:=()
def tw14556869935305748018:=()
def tw16274730550617533317:=()
def tw8258433525436549725:=()
def tw18156516699975621257:=()
def tw13360117242331543738:=()
def tw1704366011087549919:=()
def tw5674186796292566436:=()
def tw292521478372523365:=()
def tw12604725086711492458:=()
def tw5893101046616258546:=()
def tw2071938262165573568:=()
def tw11855589454520516236:=()
def tw6076918172245191989:=()
def tw734041975441685823:=()
def tw10589402042609516283:=()
def tw15857129530173296686:=()
def tw10424746256583403289:=()
def tw1183165751933039075:=()
def tw10829797591190746730:=()
def tw4423625732802018690:=()
def tw13322070521490026820:=()
def tw14509227762925673345:=()
def tw5741914873514519181:=()
def tw3086378235995533736:=()
def tw13462500881038175519:=()
def tw7902891990155661830:=()
def tw15887589347086175907:=()
def tw6005260592249419920:=()
def tw15460763434067711752:=()
def tw14087447003089542992:=()
def tw5266409471277099631:=()
def tw8472253227426652698:=()
def tw16291779675120567066:=()
def tw3575517797351542898:=()
def tw6418972415165955143:=()
def tw6342843652688890186:=()
def tw5794259327433849343:=()
def tw1889209391101435817:=()
def tw14119013089259169522:=()
def tw507427960039929788:=()
def tw9007998190525220739:=()
def tw12896700229983489453:=()
def tw3040694676023691577:=()
def tw777946591210714454:=()
def tw6508912690025868238:=()
def tw9946194090860510293:=()
def tw3171613489984817653:=()
def tw17347525784629463714:=()
def tw14436447942927306160:=()
def tw14729908364305924115:=()
def tw18311176135504301144:=()
def tw14443879409678633885:=()
def tw9665364200651283019:=()
def tw13328077065186471390:=()
def tw10868980370278268928:=()
def tw5734377834306804016:=()
def tw6619108178081415078:=()
def tw8217336989609956819:=()
def tw14580176296605083223:=()
def tw12164337795683543929:=()
def tw6603878643318406031:=()
def tw8087320552401987690:=()
def tw888071297573450676:=()
def tw16973522449447271467:=()
def tw15667086475635006524:=()
def tw14723060719509716615:=()
def tw12761348728989195712:=()
def tw10901591890035007157:=()
def tw9550631069392441368:=()
def tw6504349100127525451:=()
def tw3509845078296808078:=()
def tw12570141915049754483:=()
def tw793770263523249745:=()
def tw17738617483576233548:=()
def tw16534995357137782095:=()
def tw17768504968692120350:=()
def tw4035711958129788113:=()
def tw6682830241297090946:=()
def tw8231374455342104072:=()
def tw4939867660402275547:=()
def tw4304513870041652973:=()
def tw8282720236746710021:=()
def tw10309928728769414176:=()
def tw6288269051222663457:=()
def tw18216487361510685977:=()
def tw2086516406780019481:=()
def tw18335376765437796504:=()
def tw5916898382589898219:=()
def tw17564665339798957873:=()
def tw10240529790946777707:=()
def tw10138767507479398434:=()
def tw157783815055415784:=()
def tw13364823917756714543:=()
def tw7267623952771812421:=()
def tw17527114720473281746:=()
def tw14138607782857925856:=()
def tw18365334229839881291:=()
def tw938906713524024531:=()
def tw3385162822986842953:=()
def tw13284301391718470916:=()
def tw4586537760979882218:=()
def tw8742951927466008385:=()
def tw6078085468907315281:=()
def tw10540463410228775417:=()
def tw3219203692195727672:=()
def tw6774980052589450267:=()
def tw10987506613326665893:=()
def tw10490714291843791310:=()
def tw3380435979969116499:=()
def tw6655534120954695109:=()
def tw6356234965763019026:=()
def tw4102741079396389079:=()
def tw5813166362385161489:=()
def tw5157073970586311841:=()
def tw17618044048969554650:=()
def tw131479075839676768:=()
def tw11336927714892949366:=()
def tw1646607847643185107:=()
def tw16697761841380991840:=()
def tw4075840428838669025:=()
def tw12921900573684161248:=()
def tw17934481154942631886:=()
def tw13515435352128799153:=()
def tw5713832843762965153:=()
def tw11893230828402339618:=()
def tw4661273987920287006:=()
def tw839062244668530915:=()
def tw16403569098207649864:=()
def tw17327180922188051952:=()
def tw10057757275498921918:=()
def tw7302055393357157865:=()
def tw4709870530723193012:=()
def tw13228068738846166869:=()
def tw2412127916621867669:=()
def tw8032507022736682515:=()
def tw4778702610874895827:=()
def tw6822469830758328325:=()
def tw14264299776675016838:=()
def tw186917352982319158:=()
def tw13724737501920722884:=()
def tw533933098420523809:=()
def tw13025854918606448223:=()
def tw17041877576444473642:=()
def tw2252531227512982947:=()
def tw17263070226087248520:=()
def tw12038386826849792460:=()
def tw7208232764187339486:=()
def tw8884001378671197158:=()
def tw8947855678156051966:=()
def tw12635050603778804037:=()
def tw7574849612661475041:=()
def tw12713890973981857060:=()
def tw7305807984624667466:=()
def tw356907720428942686:=()
def tw15283902763507261106:=()
def tw16061579800997241151:=()
def tw16328278288733935825:=()
def tw14073799145513920264:=()
def tw13240048330238073751:=()
def tw11302764645606309078:=()
def tw5114711962414512248:=()
def tw1589000410345786016:=()
def tw8522557120021681474:=()
def tw3819869825633236057:=()
def tw7624815352070687657:=()
def tw6492318392798204027:=()
def tw16202714195177645317:=()
def tw653355506438881583:=()
def tw3176511651106320192:=()
def tw18431829509124522490:=()
def tw5483870827897364914:=()
def tw11251248408692580382:=()
def tw12655367612932673950:=()
def tw17300424293101511828:=()
def tw834965241944145435:=()
def tw13187582181200605183:=()
def tw12648921830977461194:=()
def tw5257307040803680859:=()
def tw14007791511502102824:=()
def tw6602199116113967883:=()
def tw13054226251939148851:=()
def tw5992538303128260865:=()
def tw12942729332895225403:=()
def tw11607741677490771148:=()
def tw2028790932243199509:=()
def tw8001445804647467970:=()
def tw18029347879203071498:=()
def tw9837678540687999507:=()
def tw1573601352565234605:=()
def tw5981439284717383447:=()
def tw5448918665183609478:=()
def tw11109099328555228225:=()
def tw16713736099436944334:=()
def tw18233625576417702027:=()
def tw7240125319252098719:=()
def tw842507915390599586:=()
def tw3148483681716621570:=()
def tw15679331777247248275:=()
def tw10143209390001076365:=()
def tw4423370851740940186:=()
def tw13686723342349437818:=()
def tw13867782737360532287:=()
def tw8694323405500849941:=()
def tw10424088672975559202:=()
def tw7083071719837669925:=()
def tw8159850851495898757:=()
def tw12563141852174877341:=()
def tw3193696080581697446:=()
def tw11614416636669442154:=()
def tw3197156828168011954:=()
def tw16027327015504809360:=()
def tw7642481999478556502:=()
def tw17749019338905245372:=()
def tw6577652181662733858:=()
def tw6826984910158253390:=()
def tw458842301810820529:=()
def tw14734512924171446059:=()
def tw12287523984535487155:=()
def tw16925271998374463153:=()
def tw9490056416572320234:=()
def tw2141482901371868191:=()
def tw17471361129306308290:=()
def tw10854389687424642957:=()
def tw14988957822885203552:=()
def tw2068110637807163925:=()
def tw14159695254346947932:=()
def tw13950894416913187053:=()
def tw10933054241816131516:=()
def tw17702104358347329772:=()
def tw16115308845647157014:=()
def tw3270991543629165038:=()
def tw6407160579890316669:=()
def tw17787529329502722573:=()
def tw9081811180736891832:=()
def tw11509213066788998291:=()
def tw6483918980425637507:=()
def tw5925843277136617012:=()
def tw7037161691209936938:=()
def tw1608069915192114487:=()
def tw15955100664458734918:=()
def tw524609436351607887:=()
def tw4637411778889816813:=()
def tw13582974961065317091:=()
def tw15329482285124683571:=()
def tw16156425993058824538:=()
def tw18267201711902375166:=()
def tw5359387645825088132:=()
def tw15071670755145000542:=()
def tw16656052774063930779:=()
def tw9288613366022723328:=()
def tw16271699632550956654:=()
def tw14310979171846441095:=()
def tw7758108445913572289:=()
def tw15742391970235231297:=()
def tw10620725547623006636:=()
def tw16791797567419162314:=()
def tw14883323360748476613:=()
def tw12780426884408631158:=()
def tw909131131541269767:=()
def tw16354717443354794600:=()
def tw17290075951960965542:=()
def tw927155909764566067:=()
def tw16617042716850017839:=()
def tw3745337519518688800:=()
def tw5296636535075223380:=()
def tw17833833089228455898:=()
def tw18123779744842157728:=()
def tw13828944421796848451:=()
def tw11892194930614097198:=()
def tw8106295012894656057:=()
def tw6761249870139766988:=()
def tw12556023274132618309:=()
def tw652586093807727511:=()
def tw6299966569202724894:=()
def tw1580001608518936008:=()
end PySem.W.Fast
namespace L2
open PySem PySem.Spec PyProof.Rows
abbrev Key:=Sum Int Str
def aM:Key->Value->Bool
 | .inl k,v=>Value.isInt k v
 | .inr x,v=>Value.isStrOf x v
def Qs(w:World):Key->Int
 | .inl k=>hashInt k
 | .inr x=>hashStr w x
theorem l6:∀{k:Key} {v:Value},aM k v=true->(∃i t,k=Sum.inl i/\v=Value.int i t)\/(∃x t,k=Sum.inr x/\v=Value.str x t)
 | .inl i,v,h=>by
  obtain⟨t,e⟩:=Value.isInt_shape   h;exact .inl ⟨i,t,rfl,e⟩
 | .inr x,v,h=>by
  obtain⟨t,e⟩:=Value.isStrOf_shape   h;exact .inr ⟨x,t,rfl,e⟩
theorem lE(i:Int)(t:Tok):aM (.inl i) (.int i t)=true:=by simp[aM,Value.isInt]
theorem yZ(x:Str)(t:Tok):aM (.inr x) (.str x t)=true:=by simp[aM,Value.isStrOf]
theorem Lg(a b:Int):decide ((Sum.inl a:Key)=Sum.inl b)=(a == b):=by
 by_cases e:a=b
 ·subst e;simp
 ·have h:¬(Sum.inl a:Key)=Sum.inl b:=λq=>e (Sum.inl.inj q);rw[vr h];exact(beq_eq_false_iff_ne.mpr e).symm
theorem Nj(a b:Str):decide ((Sum.inr a:Key)=Sum.inr b)=decide (a=b):=by
 by_cases e:a=b
 ·simp
 ·have h:¬(Sum.inr a:Key)=Sum.inr b:=λq=>e (Ua q);rw[vr h,vr e]
theorem Lq(a:Int)(b:Str):decide ((Sum.inl a:Key)=Sum.inr b)=false:=vr (λq=>nomatch q)
theorem LW(a:Str)(b:Int):decide ((Sum.inr a:Key)=Sum.inl b)=false:=vr (λq=>nomatch q)
def i7(prog:Program)(w:World):PySem.KeyKind prog w Key where
 is:=aM
 hash:=Qs w
 inj:=λv a b o g=>by
  rcases l6 o with⟨i,t,rfl,rfl⟩ | ⟨x,t,rfl,rfl⟩
  ·rcases l6 g with⟨j,u,rfl,e⟩ | ⟨y,u,rfl,e⟩
   ·injection e with c _;rw[c]
   ·exact nomatch e
  ·rcases l6 g with⟨j,u,rfl,e⟩ | ⟨y,u,rfl,e⟩
   ·exact nomatch e
   ·injection e with c _;rw[c]
 byValue:=λk v h=>by
  rcases l6 h with⟨i,t,rfl,rfl⟩ | ⟨x,t,rfl,rfl⟩<;>rfl
 pyHash:=λd h=>by
  rcases l6 d with⟨i,t,rfl,rfl⟩ | ⟨x,t,rfl,rfl⟩
  ·exact wpAny_pyHash_int h
  ·exact wpAny_pyHash_str h
 eqBool:=λl d h=>by
  rcases l6 l with⟨i,t,rfl,rfl⟩ | ⟨x,t,rfl,rfl⟩
  ·rcases l6 d with⟨j,u,rfl,rfl⟩ | ⟨y,u,rfl,rfl⟩
   ·rw[Lg] at h;exact wpAny_eqBool_int h
   ·rw[Lq] at h;exact SeqAt.EqAt.int_str i t y u _ _ _ _ h
  ·rcases l6 d with⟨j,u,rfl,rfl⟩ | ⟨y,u,rfl,rfl⟩
   ·rw[LW] at h;exact SeqAt.EqAt.str_int x t j u _ _ _ _ h
   ·rw[Nj] at h;exact wpAny_eqBool_str h
 «strs»:=λk x t v h=>by
  rcases l6 h with⟨i,u,rfl,e⟩ | ⟨y,u,rfl,e⟩
  ·exact nomatch e
  ·injection e with c _
   subst c;cases v<;>rfl
theorem qU(prog:Program)(w:World)(i:Int)(t:Tok):(i7 prog w).is (.inl i) (.int i t)=true:=lE i t
theorem oR(prog:Program)(w:World)(x:Str)(t:Tok):(i7 prog w).is (.inr x) (.str x t)=true:=yZ x t
theorem sD{E:WO}(h:Q 0xFCA86420 { s with toks:=s.toks+1 }):wpAny (model prog w) A (pyHash .none) Q E s:=by
 have a:s.TypeIs .none "NoneType":=rfl;unfold pyHash;have b:[Value.none].any Value.onHeap=false:=rfl;refine eH ?_;rw[cRoomFor,ro (by rw[b];exact rm)];refine hH ?_;refine eH (Uu a F.slot_NoneType_hash.lookup ?_);show wpAny _ _ (if (some (Value.builtin "NoneType.__hash__") == some Value.none)=true then _ else _) Q E s;rw[ro (by rw[beq_builtin_none];exact rm)];refine eH (Uu a F.slot_NoneType_hash.lookup ?_);show wpAny _ _ (callSpecialIfBoundUnlessNone? .none "__hash__" _ >>= _) Q E s
 refine eH (wpAny_callSpecialIfBoundUnlessNone?_slot a F.slot_NoneType_hash
  (z0 F.slot_NoneType_hash a F.entry_NoneType_hash
   (show wpAny _ _ (do ret (<-mkInt 0xFCA86420)) _ _ s from wpAny_ret_mkInt ?_) (F.args_NoneType_hash_1 _)))
 show wpAny _ _ (if (decide (-(2:Int)^63<=0xFCA86420)&&decide ((0xFCA86420:Int)<2^63))=true then _ else _) Q E _;rw[ry (by decide)];exact hH h
abbrev K3:=Option Key
def iL:K3->Value->Bool
 | some k,v=>aM k v
 | none,v=>v == .none
def Pq(w:World):K3->Int
 | some k=>Qs w k
 | none=>0xFCA86420
theorem A4(h:iL none v=true):v=.none:=eq_of_beq h
def aB(prog:Program)(w:World):PySem.KeyKind prog w K3 where
 is:=iL
 hash:=Pq w
 inj:=λv a b o l=>by
  cases a with
  | none=>
   cases b with
   | none=>rfl
   | some k=>
    have e:=A4 o;subst e;rcases l6 l with⟨i,t,rfl,e⟩ | ⟨x,t,rfl,e⟩<;>cases e
  | some k=>
   cases b with
   | none=>
    have e:=A4 l;subst e;rcases l6 o with⟨i,t,rfl,e⟩ | ⟨x,t,rfl,e⟩<;>cases e
   | some d=>rw[(i7 prog w).inj v k d o l]
 byValue:=λk v h=>by
  cases k with
  | none=>rw[A4 h];rfl
  | some k=>exact(i7 prog w).byValue k v h
 pyHash:=λ{A E s k v Q} c h=>by
  cases k with
  | none=>rw[A4 c];exact sD h
  | some k=>exact(i7 prog w).pyHash c h
 eqBool:=λ{A E s a b u v Q} j c h=>by
  cases a with
  | none=>
   have e:=A4 j;subst e
   cases b with
   | none=>
    have e:=A4 c;subst e;exact SeqAt.EqAt.same _ _ _ _ _ (by simpa using h)
   | some k=>
    have g:Q false s:=by simpa using h
    rcases l6 c with⟨i,t,rfl,rfl⟩ | ⟨x,t,rfl,rfl⟩
    ·exact SeqAt.EqAt.none_int i t _ _ _ _ g
    ·exact SeqAt.EqAt.none_str x t _ _ _ _ g
  | some k=>
   cases b with
   | none=>
    have e:=A4 c;subst e;have g:Q false s:=by simpa using h
    rcases l6 j with⟨i,t,rfl,rfl⟩ | ⟨x,t,rfl,rfl⟩
    ·exact SeqAt.EqAt.int_none i t _ _ _ _ g
    ·exact SeqAt.EqAt.str_none x t _ _ _ _ g
   | some d=>
    refine(i7 prog w).eqBool j c ?_
    have e:decide ((some k:K3)=some d)=decide (k=d):=by
     by_cases e:k=d
     ·subst e;simp
     ·rw[vr e,vr λq=>e (v7 q)]
    rwa [e] at h
 «strs»:=λk x t v h=>by
  cases k with
  | none=>cases A4 h
  | some k=>exact(i7 prog w).strs k x t v h
inductive V where
 | l3 | bl (b:Bool) | int (i:Int) | str (x:Str) | byt (b:Array UInt8) | flt (b:UInt64) | ref (a:Addr) | ty (n:String)
 deriving DecidableEq
def RelV:V->Value->Prop
 | .l3,u=>u=Value.none
 | .bl b,u=>u=Value.bool b
 | .int i,u=>∃t,u=Value.int i t
 | .str x,u=>∃t,u=Value.str x t
 | .byt b,u=>∃t,u=Value.bytes b t
 | .flt b,u=>∃t,u=Value.float b t
 | .ref a,u=>u=Value.ref a
 | .ty n,u=>u=Value.type n
abbrev Vals:List V->WH->Prop:=Paired RelV
theorem Vals.length(r:Vals xs a):xs.length=a.length:=VJ r
theorem Vals.get:∀{xs:List V} {a:WH} {i:Nat} {x:V},Vals xs a->xs[i]?=some x->∃u,a[i]?=some u/\RelV x u
 | _,_,_,_,.nil,e=>by simp at e
 | _,_,0,_,.cons r _,e=>by simp at e;subst e;exact⟨_,rfl,r⟩
 | _,_,i+1,x,.cons _ t,e=>by
  obtain⟨u,c,b⟩:=Vals.get   t (by simpa using e);exact⟨u,by simpa using c,b⟩
theorem Vals.set(r:RelV x u):∀{xs:List V} {a:WH} (i:Nat),Vals xs a->Vals (xs.set i x) (a.set i u)
 | _,_,_,.nil=>.nil
 | _,_,0,.cons _ t=>.cons r t
 | _,_,i+1,.cons q t=>.cons q (Vals.set r i t)
theorem Vals.append:∀{xs ys:List V} {b a:WH},Vals xs b->Vals ys a->Vals (xs++ys) (b++a)
 | _,_,_,_,.nil,s=>s
 | _,_,_,_,.cons r t,s=>.cons r (Vals.append t s)
theorem Vals.take:∀{xs:List V} {a:WH} (n:Nat),Vals xs a->Vals (xs.take n) (a.take n)
 | _,_,0,_=>.nil
 | _,_,_+1,.nil=>.nil
 | _,_,n+1,.cons r t=>.cons r (Vals.take n t)
theorem Vals.drop:∀{xs:List V} {a:WH} (n:Nat),Vals xs a->Vals (xs.drop n) (a.drop n)
 | _,_,0,r=>r
 | _,_,_+1,.nil=>.nil
 | _,_,n+1,.cons _ t=>Vals.drop n t
def dC:Option V->WS->Prop
 | some v,some u=>RelV v u
 | none,none=>True
 | _,_=>False
def KV:List (a×V)->List (a×Value)->Prop:=Paired λ(p:a×V) (q:a×Value)=>p.1=q.1/\RelV p.2 q.2
def kV:Key->V
 | .inl i=>.int i
 | .inr x=>.str x
inductive HO where
 /-- a list -/
 | lst (xs:List V)
 /-- a tuple (never changes) -/
 | tup (xs:List V)
 /-- a dict whose keys are ints and texts;one whose keys are tuples of ints and texts (the empty one is both) -/
 | dK (kvs:List (Key×V)) | dE (kvs:List (Key×V)) (ep:Nat) | dN (kvs:List (K3×V)) | dT (kvs:List (List Key×V))
 /-- a set of ints: its members,its size -/
 | set (S:Key->Bool) (n:Nat)
 /-- an instance of the class at C,its dict at dx,its attributes -/
 | ins (C dx:Addr) (fs:List (Str×V))
 /-- the dict of the instance at x -/
 | own (x:Addr)
 /-- the dict of an exception -/
 | xd (fs:List (Str×V))
 /-- a bound method,f of x -/
 | met (f x:Addr)
 /-- a range object lo,lo+1,.. below hi -/
 | rng (lo hi:Int)
 /-- a thing that is known to the object (the script;a dict while a loop walks it): read,never written while it is so -/
 | frz (o:Obj) (u:HO)
 /-- a code object's table -/
 | tbl (ps:WL)
 /-- any other thing,by what is true of its one object (a def of one's own: SetO a S n:=HO.ext fun h=>..) -/
 | ext (φ:Heap->Prop)
abbrev Hp:=Addr->Option HO
def upd(H:Hp)(a:Addr)(o:HO):Hp:=λb=>if b=a then some o else H b
theorem c7:upd H a o a=some o:=by unfold upd;rw[ry rfl]
theorem e9(h:b≠a):upd H a o b=H b:=by unfold upd;rw[ro h]
theorem Y7:upd (upd H a o) a u=upd H a u:=by
 funext b;unfold upd;split<;>rfl
theorem oA{H:Hp}(h:H a=some o)(h':H b=some u)(d:o≠u):a≠b:=by
 intro e;subst e;rw[h] at h';exact d (v7 h')
theorem o6{H:Hp}(h:H a=some o)(h':H b=none):a≠b:=by
 intro e;subst e;rw[h] at h';cases h'
section
variable(P:Program)(w:World)
def p4(H:Hp)(h:Heap)(a:Addr):HO->Prop
 | .lst d=>d.length<=sizeLine/\∃(c:WH) (n:Nat),Vals d c/\h.get? a=some { cls:=.type "list",data:=.seq c.toArray n }
 | .tup d=>d.length<=sizeLine/\∃c:WH,Vals d c/\IsTup h a c.toArray
 | .dK b=>b.length<=sizeLine/\(a == sysModules)=false/\∃vs,KV b vs/\h.DictOf (i7 P w) a vs
 | .dE b j=>b.length<=sizeLine/\(a == sysModules)=false/\∃vs,KV b vs/\h.DictAt (i7 P w) a vs j
 | .dN b=>b.length<=sizeLine/\(a == sysModules)=false/\∃vs,KV b vs/\h.DictOf (aB P w) a vs
 | .dT b=>b.length<=sizeLine/\(a == sysModules)=false/\∃d:List (List Key×Addr×Value),
   Paired (λ(p:List Key×V) (q:List Key×Addr×Value)=>p.1=q.1/\H q.2.1=some (.tup (p.1.map kV))/\RelV p.2 q.2.2) b d /\
   ∃o y j,h.get? a=some o/\o.ExactDict/\o.data=.dict y j/\y.toList=d.map (entryOfKey (tupleKind (i7 P w)))/\(d.map (·.1)).Nodup
 | .set S n=>h.SetOf (i7 P w) a S n
 | .ins C g fs=>H g=some (.own a)/\fs.length<=1000/\g≠a/\h.get? a=some (PySem.W.instObj C g) /\
   ∃e,h.Ns1 g e/\(∀f,dC (fs.lookup f) (e f))/\PySem.Within e (fs.map (·.1))
 | .own _=>∃o,h.get? a=some o
 | .xd fs=>∃e,h.Ns1 a e/\∀f,dC (fs.lookup f) (e f)
 | .rng lo B=>∃t u v,h.get? a=some { cls:=.type "range",data:=.fields #[.int lo t,.int B u,.int 1 v] }
 | .frz o u=>h.get? a=some o/\p4 H h a u
 | .tbl z=>h.get? a=some { cls:=.none,data:=.fields z }
 | .met f x=>h.get? a=some (PySem.W.methodObj (.ref f) (.ref x))
 | .ext i=>i h/\(∃o,h.get? a=some o)/\∀r l,i r->(∀o,r.get? a=some o->l.get? a=some o)->i l
def U8(H:Hp)(h:Heap):Prop:=∀a o,H a=some o->p4 P w H h a o
end
section
variable{P:Program}{w:World}{H H':Hp}{h h':Heap}{a:Addr}{o:HO}
theorem p4.lt(x:p4 P w H h a o):a<h.objs.size:=by
 cases o with
 | lst c=>obtain⟨_,_,_,_,e⟩:=x;exact sK e
 | tup c=>obtain⟨_,_,_,p⟩:=x;exact p.lt
 | dK b=>obtain⟨_,_,_,_,o,_,_,e,_⟩:=x;exact sK e
 | dE b j=>obtain⟨_,_,_,_,o,_,e,_⟩:=x;exact sK e
 | dN b=>obtain⟨_,_,_,_,o,_,_,e,_⟩:=x;exact sK e
 | dT b=>obtain⟨_,_,_,_,o,_,_,e,_⟩:=x;exact sK e
 | set S n=>obtain⟨o,_,_,_,e,_⟩:=x;exact sK e
 | ins C l fs=>obtain⟨_,_,_,e,_⟩:=x;exact sK e
 | own y=>obtain⟨_,e⟩:=x;exact sK e
 | xd fs=>obtain⟨_,⟨_,_,_,e,_⟩,_⟩:=x;exact sK e
 | rng lo i=>obtain⟨_,_,_,e⟩:=x;exact sK e
 | frz ob u=>obtain⟨e,_⟩:=x;exact sK e
 | tbl g=>exact sK (x)
 | met f y=>exact sK (x)
 | ext d=>obtain⟨_,⟨_,e⟩,_⟩:=x;exact sK e
theorem Paired.LM:∀{d:List g} {c:List e},Paired F d c->(∀a b,F a b->G a b)->Paired G d c
 | _,_,.nil,_=>.nil
 | _,_,.cons r t,f=>.cons (f _ _ r) (Paired.LM t f)
theorem p4.cQ(x:p4 P w H h a o)(k:∀b u,(b=a\/H b=some (.own a))->h.get? b=some u->h'.get? b=some u)
  (M:∀b,H b=some (.own a)->H' b=some (.own a)) (J:∀b xs,H b=some (.tup xs)->H' b=some (.tup xs)):p4 P w H' h' a o:=by
 induction o with
 | lst xs=>obtain⟨z,l,n,r,e⟩:=x;exact⟨z,l,n,r,k _ _ (.inl rfl) e⟩
 | tup xs=>obtain⟨z,l,r,ob,e,c⟩:=x;exact⟨z,l,r,ob,k _ _ (.inl rfl) e,c⟩
 | dK j=>obtain⟨z,y,vs,r,ob,g,i,e,c⟩:=x;exact⟨z,y,vs,r,ob,g,i,k _ _ (.inl rfl) e,c⟩
 | dN j=>obtain⟨z,y,vs,r,ob,g,i,e,c⟩:=x;exact⟨z,y,vs,r,ob,g,i,k _ _ (.inl rfl) e,c⟩
 | dE j i=>obtain⟨z,y,vs,r,ob,g,e,c⟩:=x;exact⟨z,y,vs,r,ob,g,k _ _ (.inl rfl) e,c⟩
 | dT j=>
  obtain⟨z,y,xs,r,ob,g,i,e,c⟩:=x;exact⟨z,y,xs,Paired.LM r λp q z=>⟨z.1,J _ _ z.2.1,z.2.2⟩,ob,g,i,k _ _ (.inl rfl) e,c⟩
 | set S n=>obtain⟨ob,g,i,t,e,c⟩:=x;exact⟨ob,g,i,t,k _ _ (.inl rfl) e,c⟩
 | ins C T fs=>
  obtain⟨d,z,ne,e,E,⟨B,g,i,O,c⟩,r⟩:=x;exact⟨M _ d,z,ne,k _ _ (.inl rfl) e,E,⟨B,g,i,k _ _ (.inr d) O,c⟩,r⟩
 | own y=>obtain⟨ob,e⟩:=x;exact⟨ob,k _ _ (.inl rfl) e⟩
 | xd fs=>obtain⟨E,⟨B,g,i,e,c⟩,r⟩:=x;exact⟨E,⟨B,g,i,k _ _ (.inl rfl) e,c⟩,r⟩
 | rng lo R=>obtain⟨t,u,v,e⟩:=x;exact⟨t,u,v,k _ _ (.inl rfl) e⟩
 | frz ob u I=>obtain⟨e,q⟩:=x;exact⟨k _ _ (.inl rfl) e,I q⟩
 | tbl G=>
  have e:=x;exact k a _ (.inl rfl) e
 | met f y=>
  have e:=x;exact k a _ (.inl rfl) e
 | ext Q=>obtain⟨p,⟨o,e⟩,st⟩:=x;exact⟨st _ _ p λo q=>k _ _ (.inl rfl) q,⟨o,k _ _ (.inl rfl) e⟩,st⟩
theorem U8.lt(x:U8 P w H h)(e:H a=some o):a<h.objs.size:=(x a o e).lt
theorem U8.fresh(x:U8 P w H h)(e:h.objs.size<=a):H a=none:=by
 cases q:H a with
 | none=>rfl
 | some u=>exact absurd (uy (x.lt q) e) (TL _)
theorem U8.kept(x:U8 P w H h)(k:∀b u,h.get? b=some u->h'.get? b=some u):U8 P w H h':=λa o e=>
 (x a o e).cQ (λb u _ q=>k b u q) (λ_ q=>q) λ_ _ q=>q
theorem U8.laid(x:U8 P w H h)(k:∀b u,h.get? b=some u->h'.get? b=some u)(i:h.objs.size<=a)(new:p4 P w (upd H a o) h' a o):U8 P w (upd H a o) h':=λb u e=>by
 have d:=x.fresh i
 by_cases g:b=a
 ·subst g;rw[c7] at e;cases e;exact new
 ·rw[e9 g] at e;exact(x b u e).cQ (λc v _ q=>k c v q) (λc q=>by rw[e9 (o6 q d)];exact q) λc j q=>by rw[e9 (o6 q d)];exact q
end
def Dd(H:Hp)(a:Addr)(kvs:List (Key×V)):Prop:=H a=some (.dK kvs)\/∃b,H a=some (.dE kvs b)
theorem Dd.ok(r:Dd H a kvs)(x:U8 P w H h):p4 P w H h a (.dK kvs):=by
 rcases r with r | ⟨c,r⟩
 ·exact x a _ r
 ·obtain⟨z,y,vs,b,d⟩:=(x a _ r)
  exact⟨z,y,vs,b,d.dictOf⟩
def Rd(H:Hp)(a:Addr)(u:HO):Prop:=H a=some u\/∃o,H a=some (.frz o u)
theorem Rd.of(h:H a=some u):Rd H a u:=.inl h
theorem Rd.ok(r:Rd H a u)(x:U8 P w H h):p4 P w H h a u:=by
 rcases r with r | ⟨o,r⟩
 ·exact x a u r
 ·obtain⟨_,q⟩:=x a _ r;exact q
def dG:Option HO->Prop
 | some (.lst _)=>True
 | some (.dK _)=>True
 | some (.dE _ _)=>True
 | some (.dN _)=>True
 | some (.dT _)=>True
 | some (.set _ _)=>True
 | some (.ins _ _ _)=>True
 | some (.ext _)=>True
 | _=>False
theorem Dd.mut(r:Dd H a kvs):dG (H a):=by
 rcases r with r | ⟨b,r⟩<;>(rw[r];exact True.intro)
section
variable{P:Program}{w:World}{H:Hp}{h h':Heap}{x e:Addr}{o':HO}
theorem U8.write(ok:U8 P w H h)(j:dG (H x))(C:e=x\/H e=some (.own x))(k:∀b u,b≠e->h.get? b=some u->h'.get? b=some u)(p:∃u,h'.get? e=some u)
  (new:p4 P w (upd H x o') h' x o'):U8 P w (upd H x o') h':=λb u q=>by
 have d:∀c y,H c=some (.own y)->c≠x:=λc y r z=>by subst z;rw[r] at j;exact j
 have g:∀c i,H c=some (.tup i)->c≠x:=λc i r z=>by subst z;rw[r] at j;exact j
 by_cases o:b=x
 ·subst o;rw[c7] at q;cases q;exact new
 ·rw[e9 o] at q
  by_cases a:b=e
  ·have B:H b=some (.own x):=by
    rcases C with z | z
    ·exact absurd (a.trans z) o
    ·rw[a];exact z
   rw[q] at B;cases B;obtain⟨v,E⟩:=p;exact⟨v,by rw[a];exact E⟩
  ·refine(ok b u q).cQ (λc v l r=>k c v ?_ r) (λc r=>by rw[e9 (d c b r)];exact r) λc i r=>by rw[e9 (g c i r)];exact r
   rcases l with rfl | l
   ·exact a
   ·rintro rfl;rcases C with z | z
    ·exact d c b l z
    ·rw[l] at z;cases z;exact o rfl
end
structure Un(fs ex:WE)(H H':Hp)(h h':Heap):Prop where
 keep:∀b o,h.get? b=some o->H b=none->b∉fs->b∉ex->h'.get? b=some o
 slot:∀b o,h.get? b=some o->H b=none->b∈fs->b∉ex->∃sl,h'.get? b=some { o with slots:=sl }
 free:∀b o,h.get? b=some o->H b=none->b∉ex->H' b=none
 there:∀b o,h.get? b=some o->b∉ex->∃o',h'.get? b=some o'
 P4:∀b xs,H b=some (.tup xs)->H' b=some (.tup xs)
 frzs:∀b o u,H b=some (.frz o u)->H' b=some (.frz o u)
 tbls:∀b ps,H b=some (.tbl ps)->∃more,H' b=some (.tbl (ps++more))
section
variable{fs fs' ex ex':WE}{H H1 H2:Hp}{h h1 h2 h':Heap}{a x e:Addr}{o:HO}
theorem Un.any(u:Un fs ex H H1 h h1)(q:h.get? b=some ob)(n:H b=none)(c:b∉ex):∃g,h1.get? b=some { ob with slots:=g }:=by
 by_cases d:b∈fs
 ·exact u.slot b ob q n d c
 ·exact⟨ob.slots,u.keep b ob q n d c⟩
theorem Un.trans(a:Un fs ex H H1 h h1)(b:Un fs ex H1 H2 h1 h2):Un fs ex H H2 h h2 where
 keep:=λc ob q n j d=>b.keep c ob (a.keep c ob q n j d) (a.free c ob q n d) j d
 slot:=λc ob q n j d=>by
  obtain⟨y,g⟩:=a.slot c ob q n j d;obtain⟨l,r⟩:=b.slot c _ g (a.free c ob q n d) j d;exact⟨l,r⟩
 free:=λc ob q n d=>by
  obtain⟨p,g⟩:=a.there c ob q d;exact b.free c p g (a.free c ob q n d) d
 there:=λc ob q d=>by
  obtain⟨p,g⟩:=a.there c ob q d;exact b.there c p g d
 P4:=λc i q=>b.P4 c i (a.P4 c i q)
 frzs:=λc ob i q=>b.frzs c ob i (a.frzs c ob i q)
 tbls:=λc u q=>by
  obtain⟨v,g⟩:=a.tbls c u q;obtain⟨m2,r⟩:=b.tbls c _ g;exact⟨v++m2,by rw[r,Array.append_assoc]⟩
theorem Un.kept(k:∀b u,h.get? b=some u->h'.get? b=some u):Un fs ex H H h h':=
 ⟨λb ob q _ _ _=>k b ob q,λb ob q _ _ _=>⟨ob.slots,k b ob q⟩,λ_ _ _ n _=>n,λb ob q _=>⟨ob,k b ob q⟩,λ_ _ q=>q,λ_ _ _ q=>q,λ_ c q=>⟨#[],by rw[q];simp⟩⟩
theorem Un.refl:Un fs ex H H h h:=Un.kept λ_ _ q=>q
theorem Un.laid(k:∀b u,h.get? b=some u->h'.get? b=some u)(g:h.objs.size<=a)(c:H a=none):Un fs ex H (upd H a o) h h' where
 keep:=λb u q _ _ _=>k b u q
 slot:=λb u q _ _ _=>⟨u.slots,k b u q⟩
 free:=λb u q n _=>by rw[e9 (t8 (uy (sK q) g))];exact n
 there:=λb u q _=>⟨u,k b u q⟩
 P4:=λb d q=>by rw[e9 (o6 q c)];exact q
 frzs:=λb u d q=>by rw[e9 (o6 q c)];exact q
 tbls:=λb i q=>⟨#[],by rw[e9 (o6 q c),q];simp⟩
theorem Un.write(d:dG (H x))(v:e=x\/H e=some (.own x))(k:∀b u,b≠e->h.get? b=some u->h'.get? b=some u)(i:∃u,h'.get? e=some u):Un fs ex H (upd H x o) h h':=by
 have j:∀b,H b=none->b≠x:=λb n z=>by subst z;rw[n] at d;exact d
 have l:∀b,H b=none->b≠e:=λb n z=>by
  subst z;rcases v with r | r
  ·exact j b n r
  ·rw[n] at r;cases r
 have g:∀b u,H b=some u->¬dG (some u)->b≠x:=λb u q nm z=>by subst z;rw[q] at d;exact nm d
 refine⟨λb u q n _ _=>k b u (l b n) q,λb u q n _ _=>⟨u.slots,k b u (l b n) q⟩,λb u q n _=>by rw[e9 (j b n)];exact n,λb u q _=>?_,
  λb p q=>by rw[e9 (g b _ q λz=>z)];exact q,λb u p q=>by rw[e9 (g b _ q λz=>z)];exact q,λb y q=>⟨#[],by rw[e9 (g b _ q λz=>z),q];simp⟩⟩
 by_cases c:b=e
 ·subst c;exact i
 ·exact⟨u,k b u c q⟩
theorem Un.mono(u:Un fs ex H H1 h h1)(g:∀b∈fs,b∈fs')(d:∀b∈ex,b∈ex'):Un fs' ex' H H1 h h1:=
 ⟨λb ob q n i c=>u.keep b ob q n (λz=>i (g b z)) λz=>c (d b z),λ_ _ q n _ c=>u.any q n λz=>c (d _ z),λb ob q n c=>u.free b ob q n λz=>c (d b z),λb ob q c=>u.there b ob q λz=>c (d b z),u.P4,u.frzs,u.tbls⟩
end
def dD(h:Heap)(H:Hp):WE:=(List.range h.objs.size).filter λa=>(H a).isSome
def oh(h:Heap)(H:Hp):Heap:=PySem.W.hideAll h (dD h H)
theorem zL(h:Heap)(H:Hp):(oh h H).objs.size=h.objs.size:=PySem.W.hideAll_size _ _
theorem Bf(e:h.get? b=some o)(n:H b=none):(oh h H).get? b=some o:=
 PySem.W.hideAll_get _ e λa=>by
  have q:=(List.mem_filter.mp a).2;rw[n] at q;simp at q
theorem Hn(e:(oh h H).get? b=some o):h.get? b=some o/\H b=none:=by
 have a:=PySem.W.of_hideAll (dD h H) e;refine⟨a,?_⟩
 cases q:H b with
 | none=>rfl
 | some x=>
  have c:b∈dD h H:=List.mem_filter.mpr ⟨List.mem_range.mpr (sK a),by simp[q]⟩;have z:(oh h H).get? b=none:=PySem.W.hideAll_none (dD h H) c;rw[z] at e;cases e
structure Mod(K:WR)(mg:WM)(base:Heap):Prop where
 kin:K.In base
 glob:base.Ns mainGlobals mg
 blt:∃mb,base.Ns builtinsNs mb/\∀x:Str,x ≠ "__name__"->mb x=bootBuiltins x
 nolimit:base.NoLimit
structure Cx where
 prog:Program
 w:World
 K:WR
 mg:Str->WS
 base:Heap
 A:Around
 N:WG
 s₀:Shared
 H₀:Hp
 env:Env
 outer:List Env
 stack:List Env
 ex:WE
 fn:Str->Bool
 calm:Bool
 pn:WA
 xe:Value->Shared->Prop
def Z5(l:List Env):WE:=l.filterMap (·.frame)
abbrev Cx.fs(X:Cx):WE:=Z5 X.outer
def NY(a:Scope)(x:Str):Prop:=a.names.lookup x=some .local\/a.names.lookup x=some .cell\/a.names.lookup x=some .free
def Loc(a:Scope)(x:Str):Prop:=a.names.lookup x=some .local\/a.names.lookup x=some .cell
def Look(env:Env)(h:Heap)(m:WM)(x:Str)(u:Value):Prop:=
 (env.kindOf x=some .local/\m x=some u)\/((env.kindOf x=some .cell\/env.kindOf x=some .free)/\∃c,env.cells.lookup x=some c/\h.IsCell c (some u))
structure Cx.Ok(X:Cx):Prop where
 mod:Mod X.K X.mg X.base
 kind:X.env.scope.kind=.function
 glob:X.env.globals=mainGlobals
 blt:X.env.builtins=builtinsNs
 above:X.s₀.heap.objs.size<=X.env.locals
 inj:∀x y c,X.env.cells.lookup x=some c->X.env.cells.lookup y=some c->x=y
 has:∀x,(X.env.kindOf x=some .cell\/X.env.kindOf x=some .free)->∃c,X.env.cells.lookup x=some c
 cab:∀x c,X.fn x=true->X.env.cells.lookup x=some c->X.s₀.heap.objs.size<=c
 hd:X.calm=true->X.A.handled=none
 frames:X.A.frames=some X.stack
 stk:X.stack=X.outer\/(X.stack=X.env::X.outer/\X.env.frame=some X.env.locals)
 exf:∀b∈X.ex,b≠X.env.locals/\∀x c,X.env.cells.lookup x=some c->c≠b
 bs:∀b o,X.base.get? b=some o->X.s₀.heap.get? b=some o/\X.H₀ b=none
 bsz:X.base.objs.size<=X.s₀.heap.objs.size
 noex:∀b o,X.base.get? b=some o->b∉X.ex
 exfs:∀b∈X.ex,b∉X.fs
 fC:X.s₀.heap.FunFrames X.base X.outer
 frf:∀b∈X.fs,X.H₀ b=none
structure Inv(X:Cx)(pins:WA)(σ:List (Option V))(H:Hp)(s:Shared):Prop where
 ok:X.Ok
 os:s.os=X.s₀.os
 bare:AllBare s.gens
 base:Un X.fs X.ex X.H₀ H X.s₀.heap s.heap
 loc:∃m,s.heap.Ns X.env.locals m/\∀(i:Nat) (x:Str) (v:V),X.N[i]?=some x->σ[i]?=some (some v)->NY X.env.scope x->∃u,RelV v u/\Look X.env s.heap m x u
 cell:∀x c,X.env.cells.lookup x=some c->∃v,s.heap.IsCell c v
 free:H X.env.locals=none
 freeC:∀x c,X.env.cells.lookup x=some c->H c=none
 pin:∀p∈X.pn++pins,s.heap.get? p.1=some p.2/\H p.1=none/\p.1≠X.env.locals/\p.1∉X.fs/\∀v,p.2.data≠.cell v
 hok:U8 X.prog X.w H s.heap
 len:σ.length=X.N.length
section
variable{X:Cx}{pins:WA}{σ:List (Option V)}{H H':Hp}{s:Shared}{h':Heap}
theorem Cx.Ok.Rn(ok:X.Ok)(e:X.base.get? b=some o):b∉X.fs:=λa=>by
 have:=(ok.fC.mem a).1;rw[e] at this;cases this
theorem Inv.bs(I:Inv X pins σ H s):∀b o,X.base.get? b=some o->s.heap.get? b=some o/\H b=none:=λb o e=>
 ⟨I.base.keep b o (I.ok.bs b o e).1 (I.ok.bs b o e).2 (I.ok.Rn e) (I.ok.noex b o e),I.base.free b o (I.ok.bs b o e).1 (I.ok.bs b o e).2 (I.ok.noex b o e)⟩
theorem Inv.bk(I:Inv X pins σ H s):∀b o,X.base.get? b=some o->s.heap.get? b=some o:=λb o e=>(I.bs b o e).1
theorem Inv.mod(I:Inv X pins σ H s):Mod X.K X.mg X.base:=I.ok.mod
theorem Inv.pq(I:Inv X pins σ H s):X.K.In s.heap:=I.ok.mod.kin.keeps I.bk
theorem Inv.lt(I:Inv X pins σ H s):X.env.locals<s.heap.objs.size:=let ⟨_,a,_⟩:=I.loc;a.lt
theorem Inv.sz(I:Inv X pins σ H s):X.s₀.heap.objs.size<=s.heap.objs.size:=AC I.ok.above (IN I.lt)
theorem Inv.So(I:Inv X pins σ H s){a:Addr}(h:s.heap.objs.size<=a):a∉X.fs:=λc=>by
 obtain⟨_,o,b,_⟩:=I.ok.fC.mem c;exact absurd (uy (sK b) (AC I.sz h)) (TL _)
theorem Inv.NM(I:Inv X pins σ H s):∀x c,X.env.cells.lookup x=some c->c≠X.env.locals:=λx c e z=>by
 obtain⟨v,o,d,hd⟩:=I.cell x c e;obtain⟨m,⟨g,h,i,a,b,_⟩,_⟩:=I.loc;rw[z,a] at d;cases d;rw[b] at hd;cases hd
theorem Inv.fC(I:Inv X pins σ H s):s.heap.FunFrames X.base X.outer:=by
 have all:∀(l:List Env),(∀b∈Z5 l,b∈X.fs)->X.s₀.heap.FunFrames X.base l->s.heap.FunFrames X.base l:=by
  intro l
  induction l with
  | nil=>intro _ _;trivial
  | cons env r h=>
   intro g q;obtain⟨u,⟨L,o,a,p,j,hd⟩,i⟩:=q;have d:=g L (by unfold Z5;rw[Ew,a];exact re);obtain⟨v,e⟩:=I.base.slot L o j (I.ok.frf L d) d λz=>I.ok.exfs L z d;exact⟨u,⟨L,_,a,p,e,hd⟩,h (λb c=>g b (by unfold Z5;rw[Ew,a];exact hQ _ c)) i⟩
 exact all X.outer (λ_ c=>c) I.ok.fC
theorem Inv.stack(I:Inv X pins σ H s):s.heap.FunFrames X.base X.stack:=by
 rcases I.ok.stk with e | ⟨e,b⟩
 ·rw[e];exact I.fC
 ·rw[e];obtain⟨m,a,_⟩:=I.loc;refine .cons (by rw[I.ok.kind];decide) b a ?_ I.fC;exact Heap.get?_none_of_le (AC I.ok.bsz I.ok.above)
theorem Inv.tN(I:Inv X pins σ H s):∀b∈Z5 X.stack,b∈X.env.locals::X.fs:=λb a=>by
 rcases I.ok.stk with e | ⟨e,c⟩
 ·rw[e] at a;exact hQ _ a
 ·rw[e] at a;unfold Z5 at a;rw[Ew,c] at a;exact a
theorem Inv.mi(I:Inv X pins σ H s):∀b∈Z5 X.stack,H b=none:=λb a=>by
 rcases List.mem_cons.mp (I.tN b a) with e | a
 ·rw[e];exact I.free
 ·obtain⟨_,o,c,_⟩:=I.ok.fC.mem a;exact I.base.free b o c (I.ok.frf b a) λz=>I.ok.exfs b z a
theorem Inv.step{ch:WE}(I:Inv X pins σ H s)
  (h:∀b∈ch,(b∈X.ex\/X.s₀.heap.objs.size<=b)/\b≠X.env.locals/\(∀x c,X.env.cells.lookup x=some c->c≠b)/\∀p∈X.pn++pins,p.1≠b)
  (keep:∀b o,b≠X.env.locals->b∉X.fs->b∉ch->s.heap.get? b=some o->H b=none->h'.get? b=some o)
  (slot:∀b o,b≠X.env.locals->b∈X.fs->b∉ch->s.heap.get? b=some o->H b=none->∃Q,h'.get? b=some { o with slots:=Q }) (free:∀b o,b∉ch->s.heap.get? b=some o->H b=none->H' b=none)
  (there:∀b o,b∉ch->s.heap.get? b=some o->∃G,h'.get? b=some G)
  (P4:∀b xs,H b=some (.tup xs)->H' b=some (.tup xs)) (frzs:∀b o u,H b=some (.frz o u)->H' b=some (.frz o u)) (tbls:∀b ps,H b=some (.tbl ps)->∃more,H' b=some (.tbl (ps++more)))
  (ns:∀m,s.heap.Ns X.env.locals m->h'.Ns X.env.locals m) (hok:U8 X.prog X.w H' h') (hg:AllBare g') :
  Inv X pins σ H' { s with heap:=h',gens:=g',drawn:=d',toks:=t' }:=by
 have J:∀b o,X.s₀.heap.get? b=some o->b≠X.env.locals:=λb o e=>t8 (uy (sK e) I.ok.above)
 have y:∀b o,X.s₀.heap.get? b=some o->b∉X.ex->b∉ch:=λb o e a C=>by
  rcases(h b C).1 with z | z
  ·exact a z
  ·exact absurd (uy (sK e) z) (TL _)
 have j:∀x c,X.env.cells.lookup x=some c->∀v,s.heap.IsCell c v->h'.IsCell c v:=λx c e v ⟨o,E,hd⟩=>by
  have g:=λz=>(h c z).2.2.1 x c e rfl
  by_cases T:c∈X.fs
  ·obtain⟨Q,q⟩:=slot c o (I.NM x c e) T g E (I.freeC x c e);exact⟨_,q,hd⟩
  ·exact⟨o,keep c o (I.NM x c e) T g E (I.freeC x c e),hd⟩
 refine⟨I.ok,I.os,hg,⟨λb o e n C a=>?_,λb o e n C a=>?_,λb o e n a=>?_,λb o e a=>?_,λb xs e=>P4 b xs (I.base.P4 b xs e),λb o xs e=>frzs b o xs (I.base.frzs b o xs e),λb ps e=>?_⟩,?_,λx c e=>?_,?_,λx c e=>?_,λp S=>?_,hok,I.len⟩
 ·exact keep b o (J b o e) C (y b o e a) (I.base.keep b o e n C a) (I.base.free b o e n a)
 ·obtain⟨Q,B⟩:=I.base.slot b o e n C a;obtain⟨O,M⟩:=slot b _ (J b o e) C (y b o e a) B (I.base.free b o e n a);exact⟨O,M⟩
 ·obtain⟨G,B⟩:=I.base.there b o e a;exact free b G (y b o e a) B (I.base.free b o e n a)
 ·obtain⟨G,B⟩:=I.base.there b o e a;exact there b G (y b o e a) B
 ·obtain⟨U,B⟩:=I.base.tbls b ps e;obtain⟨m2,M⟩:=tbls b _ B;exact⟨U++m2,by rw[M,Array.append_assoc]⟩
 ·obtain⟨m,Y,hl⟩:=I.loc;refine⟨m,ns m Y,λi x v B M e3=>?_⟩;obtain⟨u,r,l⟩:=hl i x v B M e3;refine⟨u,r,?_⟩;rcases l with l | ⟨k,c,e,z⟩
  ·exact .inl l
  ·exact .inr ⟨k,c,e,j x c e _ z⟩
 ·obtain⟨v,z⟩:=I.cell x c e;exact⟨v,j x c e v z⟩
 ·obtain⟨m,⟨o,_,_,E,_⟩,_⟩:=I.loc;exact free _ o (λz=>(h _ z).2.1 rfl) E I.free
 ·obtain⟨v,o,E,hd⟩:=I.cell x c e;exact free c o (λz=>(h c z).2.2.1 x c e rfl) E (I.freeC x c e)
 ·obtain⟨e,n,ne,R,d⟩:=I.pin p S;have g:=λz=>(h p.1 z).2.2.2 p S rfl;exact⟨keep p.1 p.2 ne R g e n,free p.1 p.2 g e n,ne,R,d⟩
theorem Inv.un(I:Inv X pins σ H s)(u:Un X.fs [] H H' s.heap h')(hok:U8 X.prog X.w H' h'):Inv X pins σ H' { s with heap:=h',toks:=t' }:=by
 obtain⟨m,⟨o,x,y,h,r⟩,_⟩:=id I.loc;obtain⟨p,l⟩:=u.any h I.free (by simp)
 exact I.step   (ch:=[]) (λ_ z=>nomatch z) (λb o _ c _ e n=>u.keep b o e n c (by simp)) (λb o _ c _ e n=>u.slot b o e n c (by simp)) (λb o _ e n=>u.free b o e n (by simp)) (λb o _ e=>u.there b o e (by simp)) u.P4 u.frzs u.tbls (λv j=>by
  obtain⟨q,d,g,a,i⟩:=j;rw[h] at a;cases a;exact⟨_,d,g,l,i⟩) hok I.bare
theorem Inv.call(I:Inv X pins σ H s)(u:Un (Z5 X.stack) ch H H' s.heap h')(hok:U8 X.prog X.w H' h')(y:AllBare g')
  (g:∀b∈ch,(b∈X.ex\/X.s₀.heap.objs.size<=b)/\b≠X.env.locals/\(∀x c,X.env.cells.lookup x=some c->c≠b)/\∀p∈X.pn++pins,p.1≠b) :
  Inv X pins σ H' { s with heap:=h',gens:=g',drawn:=d',toks:=t' }:=by
 obtain⟨m,⟨o,J,M,l,r⟩,_⟩:=id I.loc;obtain⟨C,h⟩:=u.any l I.free λz=>(g _ z).2.1 rfl
 exact I.step  g (λb o h B a e n=>u.keep b o e n (λz=>(List.mem_cons.mp (I.tN b z)).elim h B) a) (λb o _ _ a e n=>u.any e n a) (λb o a e n=>u.free b o e n a) (λb o a e=>u.there b o e a) u.P4 u.frzs u.tbls (λG v=>by
  obtain⟨E,i,j,d,q⟩:=v;rw[l] at d;cases d;exact⟨_,i,j,h,q⟩) hok y
theorem Inv.turned(I:Inv X pins σ H s)(k:∀b o,b≠it->s.heap.get? b=some o->h'.get? b=some o)(i:H it=none)(g:it≠X.env.locals)
  (C:it∈X.ex\/X.s₀.heap.objs.size<=it) (B:∀x c,X.env.cells.lookup x=some c->c≠it) (y:∀p∈X.pn++pins,p.1≠it):Inv X pins σ H { s with heap:=h',toks:=t' }:=by
 have d:∀b u,H b=some u->b≠it:=λb u e z=>by rw[z,i] at e;cases e
 refine I.step   (ch:=[it]) (λb l=>?_) (λb o _ _ a e _=>k b o (λz=>a (by simp[z])) e) (λb o _ _ a e _=>⟨o.slots,k b o (λz=>a (by simp[z])) e⟩) (λ_ _ _ _ n=>n)
  (λb o a e=>⟨o,k b o (λz=>a (by simp[z])) e⟩) (λ_ _ e=>e) (λ_ _ _ e=>e) (λb J e=>⟨#[],by rw[e];simp⟩) (λm j=>?_) (λb u e=>?_) I.bare
 ·have e:=by simpa using l
  subst e;exact⟨C,g,B,y⟩
 ·obtain⟨o,E,G,h,r⟩:=j;exact⟨o,E,G,k _ o (Da g) h,r⟩
 ·refine(I.hok b u e).cQ (λc v a q=>k c v ?_ q) (λ_ q=>q) λ_ _ q=>q;rcases a with z | z
  ·rw[z];exact d b u e
  ·exact d c _ z
theorem Inv.tok(I:Inv X pins σ H s)(t:Nat):Inv X pins σ H { s with toks:=t }:=I.un   Un.refl I.hok
theorem Inv.kept(I:Inv X pins σ H s)(k:∀b u,s.heap.get? b=some u->h'.get? b=some u):Inv X pins σ H { s with heap:=h',toks:=t' }:=I.un (Un.kept k) (I.hok.kept k)
theorem Inv.laid{a:Addr}(I:Inv X pins σ H s)(k:∀b u,s.heap.get? b=some u->h'.get? b=some u)(c:s.heap.objs.size<=a)(new:p4 X.prog X.w (upd H a o) h' a o) :
  Inv X pins σ (upd H a o) { s with heap:=h',toks:=t' }:=I.un (Un.laid k c (I.hok.fresh c)) (I.hok.laid k c new)
theorem Inv.write(I:Inv X pins σ H s)(c:dG (H x))(d:e=x\/H e=some (.own x))(k:∀b u,b≠e->s.heap.get? b=some u->h'.get? b=some u)(a:∃u,h'.get? e=some u)
  (new:p4 X.prog X.w (upd H x o) h' x o):Inv X pins σ (upd H x o) { s with heap:=h',toks:=t' }:=I.un (Un.write c d k a) (I.hok.write c d k a new)
theorem Inv.wX(I:Inv X pins σ H s)(h:∀p∈a,s.heap.get? p.1=some p.2/\H p.1=none/\p.1≠X.env.locals/\p.1∉X.fs/\∀v,p.2.data≠.cell v):Inv X a σ H s:=
 ⟨I.ok,I.os,I.bare,I.base,I.loc,I.cell,I.free,I.freeC,λp b=>(List.mem_append.mp b).elim (λz=>I.pin p (t7 _ z)) (h p),I.hok,I.len⟩
theorem pN{N:WG}(c:N.Nodup){i j:Nat}(a:N[i]?=some x)(b:N[j]?=some x):i=j:=by
 obtain⟨h,e⟩:=List.getElem?_eq_some_iff.mp a;obtain⟨g,d⟩:=List.getElem?_eq_some_iff.mp b;exact(List.getElem_inj c).mp (e.trans d.symm)
theorem aX{E:WO}(I:Inv X pins σ H s)(hN:X.N.Nodup)(hi:X.N[i]?=some x)(G:Loc X.env.scope x)(r:RelV v u)
  (h:∀s',Inv X pins (σ.set i (some v)) H s'->(∃a,Heap.SameBut a s.heap s'.heap/\(a=X.env.locals\/X.env.cells.lookup x=some a))->Q () s') (hf:X.fn x=true\/X.env.scope.names.lookup x=some .local:=by first | exact .inl rfl | exact .inr rfl | assumption):wpAny M A (storeName X.env x u) Q E s:=by
 obtain⟨m,hn,hl⟩:=id I.loc;have a2:(X.env.scope.kind == .class||(X.env.scope.kind == .module&&X.env.locals != X.env.globals))=false:=by rw[I.ok.kind];rfl
 have S:i<σ.length:=by rw[I.len];exact(List.getElem?_eq_some_iff.mp hi).1
 have NM:=I.NM
 have l:∀{a:Addr} {h':Heap},(∃o,s.heap.get? a=some o/\H a=none)->Heap.SameBut a s.heap h'->U8 X.prog X.w H h':=λ{a h'} ha g b ob e=>by
  obtain⟨_,_,J⟩:=ha;refine(I.hok b ob e).cQ (λc w' C q=>(g.2 c ?_).trans q) (λ_ q=>q) λ_ _ q=>q;rintro rfl;rcases C with rfl | C
  ·rw[J] at e;cases e
  ·rw[J] at C;cases C
 rcases G with R | R
 ·refine wpAny_storeName_local R hn (λh' ab g=>?_) a2;obtain⟨oL,_,_,a5,_⟩:=id hn;refine h _ ⟨I.ok,I.os,I.bare,⟨λb o e n Y G=>?_,λb o e n Y G=>?_,I.base.free,λb o e G=>?_,I.base.P4,I.base.frzs,I.base.tbls⟩,⟨_,ab,λj y v' B O e3=>?_⟩,λy c e=>?_,I.free,I.freeC,λp hp=>?_,l ⟨oL,a5,I.free⟩ g,by simpa using I.len⟩ ⟨_,g,.inl rfl⟩
  ·exact(g.2 b (t8 (uy (sK e) I.ok.above))).trans (I.base.keep b o e n Y G)
  ·obtain⟨sl,B⟩:=I.base.slot b o e n Y G;exact⟨sl,(g.2 b (t8 (uy (sK e) I.ok.above))).trans B⟩
  ·obtain⟨o',B⟩:=I.base.there b o e G;exact⟨o',(g.2 b (t8 (uy (sK e) I.ok.above))).trans B⟩
  ·by_cases T:j=i
   ·subst T;rw[hi] at B;cases B;rw[v1 S] at O;cases O;exact⟨u,r,.inl ⟨R,by simp⟩⟩
   ·rw[v4 (Da T)] at O;obtain⟨u',r',q⟩:=hl j y v' B O e3;refine⟨u',r',?_⟩;rcases q with⟨k,e⟩ | ⟨k,c,e,z⟩
    ·refine .inl ⟨k,?_⟩;have:y≠x:=λe=>T (pN hN B (e▸hi));simp[this,e]
    ·exact .inr ⟨k,c,e,z.sameBut g (NM y c e)⟩
  ·obtain⟨w',z⟩:=I.cell y c e;exact⟨w',z.sameBut g (NM y c e)⟩
  ·obtain⟨e,n,ne,nf,d⟩:=I.pin p hp;exact⟨(g.2 p.1 ne).trans e,n,ne,nf,d⟩
 ·have U:X.fn x=true:=by
   rcases hf with z | z
   ·exact z
   ·rw[z] at R;cases R
  obtain⟨c,C⟩:=I.ok.has x (.inl R);obtain⟨w',z⟩:=I.cell x c C;refine wpAny_storeName_cell I.ok.kind R C z (λh' a4 g=>?_);obtain⟨oc,a1,a0⟩:=id z;refine h { s with heap:=h' } ⟨I.ok,I.os,I.bare,⟨λb o e n Y G=>?_,λb o e n Y G=>?_,I.base.free,λb o e G=>?_,I.base.P4,I.base.frzs,I.base.tbls⟩,⟨m,hn.sameBut g (Da (NM x c C)),λj y v' B O e3=>?_⟩,λy c' e=>?_,I.free,I.freeC,λp hp=>?_,l ⟨oc,a1,I.freeC x c C⟩ g,by simpa using I.len⟩ ⟨c,g,.inr C⟩
  ·exact(g.2 b (t8 (uy (sK e) (I.ok.cab x c U C)))).trans (I.base.keep b o e n Y G)
  ·obtain⟨sl,B⟩:=I.base.slot b o e n Y G;exact⟨sl,(g.2 b (t8 (uy (sK e) (I.ok.cab x c U C)))).trans B⟩
  ·obtain⟨o',B⟩:=I.base.there b o e G;exact⟨o',(g.2 b (t8 (uy (sK e) (I.ok.cab x c U C)))).trans B⟩
  ·by_cases T:j=i
   ·subst T;rw[hi] at B;cases B;rw[v1 S] at O;cases O;exact⟨u,r,.inr ⟨.inl R,c,C,a4⟩⟩
   ·rw[v4 (Da T)] at O;obtain⟨u',r',q⟩:=hl j y v' B O e3;refine⟨u',r',?_⟩;rcases q with q | ⟨k,c',e,z'⟩
    ·exact .inl q
    ·refine .inr ⟨k,c',e,z'.sameBut g ?_⟩;rintro rfl;exact T (pN hN B (I.ok.inj _ _ _ e C▸hi))
  ·by_cases a3:c'=c
   ·subst a3;exact⟨_,a4⟩
   ·obtain⟨w2,z2⟩:=I.cell y c' e;exact⟨w2,z2.sameBut g a3⟩
  ·obtain⟨e,n,ne,nf,d⟩:=I.pin p hp;refine⟨(g.2 p.1 ?_).trans e,n,ne,nf,d⟩;intro q;rw[q,a1] at e;have q':oc=p.2:=v7 e;exact d w' (by rw[<-q'];exact a0)
theorem aq{E:WO}(I:Inv X pins σ H s)(e:X.N.Nodup)(c:X.N[i]?=some x)(b:Loc X.env.scope x)(r:RelV v u)
  (h:∀a,Inv X pins (σ.set i (some v)) H a->Q () a) (d:X.fn x=true\/X.env.scope.names.lookup x=some .local:=by first | exact .inl rfl | exact .inr rfl | assumption):wpAny M A (storeName X.env x u) Q E s:=
 aX I e c b r (λa g _=>h a g) d
theorem Inv.CM(I:Inv X pins σ H s)(i:a.os=s.os)(u:Un (Z5 X.stack) ch H H' s.heap a.heap)(hok:U8 X.prog X.w H' a.heap)(j:AllBare a.gens)
  (d:∀b∈ch,(b∈X.ex\/X.s₀.heap.objs.size<=b)/\b≠X.env.locals/\(∀x c,X.env.cells.lookup x=some c->c≠b)/\∀p∈X.pn++pins,p.1≠b):Inv X pins σ H' a:=by
 obtain⟨h',l,o,g,h⟩:=a;have e:=i;subst e;exact I.call    u hok j d
end
abbrev XK:=Value->Option Addr->Hp->Prop
abbrev St:=List (Option V)
abbrev VK:=V->Hp->Prop
abbrev TE:=St->Hp->VK->Prop
abbrev TT:=St->Hp->(Bool->Hp->Prop)->Prop
abbrev TA:=St->Hp->(List V->Hp->Prop)->Prop
structure Ends where
 nx:St->Hp->Prop
 rt:VK
 bk:St->Hp->Prop:=λ_ _=>False
 ct:St->Hp->Prop:=λ_ _=>False
abbrev TS:=Ends->St->Hp->Prop
def EP(X:Cx)(pins:WA)(σ:St)(Q:VK)(u:Value)(b:Shared):Prop:=∃v a,Inv X pins σ a b/\RelV v u/\Q v a
def TP(X:Cx)(pins:WA)(σ:St)(Q:Bool->Hp->Prop)(b:Bool)(c:Shared):Prop:=∃a,Inv X pins σ a c/\Q b a
def AP(X:Cx)(pins:WA)(σ:St)(Q:List V->Hp->Prop)(b:WH)(c:Shared):Prop:=∃vs a,Inv X pins σ a c/\Vals vs b/\Q vs a
def SP(X:Cx)(pins:WA)(D:Ends)(f:Flow)(c:Shared):Prop:=
 match f with
 | .next=>∃a b,Inv X pins a b c/\D.nx a b
 | .brk=>∃a b,Inv X pins a b c/\D.bk a b
 | .cont=>∃a b,Inv X pins a b c/\D.ct a b
 | .ret u=>∃v a b,Inv X pins a b c/\RelV v u/\D.rt v b
structure PE(X:Cx)(e:Expr)(t:TE) : Prop where
 of ::
 run :
 ∀(pins:WA) (s:Shared) (σ:St) (H:Hp) (Q:VK),Inv X pins σ H s->t σ H Q->wpAny (model X.prog X.w) X.A (eval e X.env) (EP X pins σ Q) X.xe s
instance {X:Cx} {e:Expr} {t:TE} : CoeFun (PE X e t) λ_=>
 ∀(pins:WA) (s:Shared) (σ:St) (H:Hp) (Q:VK),Inv X pins σ H s->t σ H Q->wpAny (model X.prog X.w) X.A (eval e X.env) (EP X pins σ Q) X.xe s:=⟨PE.run⟩
structure PT(X:Cx)(e:Expr)(t:TT) : Prop where
 of ::
 run :
 ∀(pins:WA) (s:Shared) (σ:St) (H:Hp) (Q:Bool->Hp->Prop),Inv X pins σ H s->t σ H Q->wpAny (model X.prog X.w) X.A (isTrue e X.env (eval e X.env)) (TP X pins σ Q) X.xe s
instance {X:Cx} {e:Expr} {t:TT} : CoeFun (PT X e t) λ_=>
 ∀(pins:WA) (s:Shared) (σ:St) (H:Hp) (Q:Bool->Hp->Prop),Inv X pins σ H s->t σ H Q->wpAny (model X.prog X.w) X.A (isTrue e X.env (eval e X.env)) (TP X pins σ Q) X.xe s:=⟨PT.run⟩
structure PW(X:Cx)(e:Expr)(t:TT) : Prop where
 of ::
 run :
 ∀(whole:Sem Value) (pins:WA) (s:Shared) (σ:St) (H:Hp) (Q:Bool->Hp->Prop),Inv X pins σ H s->t σ H Q->wpAny (model X.prog X.w) X.A (isTrue e X.env whole) (TP X pins σ Q) X.xe s
instance {X:Cx} {e:Expr} {t:TT} : CoeFun (PW X e t) λ_=>
 ∀(whole:Sem Value) (pins:WA) (s:Shared) (σ:St) (H:Hp) (Q:Bool->Hp->Prop),Inv X pins σ H s->t σ H Q->wpAny (model X.prog X.w) X.A (isTrue e X.env whole) (TP X pins σ Q) X.xe s:=⟨PW.run⟩
theorem PW.pt(h:PW X e t):PT X e t:=.of (h _)
structure PA(X:Cx)(es:WI)(t:TA) : Prop where
 of ::
 run :
 ∀(pos:Pos) (pins:WA) (s:Shared) (σ:St) (H:Hp) (Q:List V->Hp->Prop),Inv X pins σ H s->t σ H Q->wpAny (model X.prog X.w) X.A (spliced (backTo pos (starEach es X.env))) (AP X pins σ Q) X.xe s
instance {X:Cx} {es:WI} {t:TA} : CoeFun (PA X es t) λ_=>
 ∀(pos:Pos) (pins:WA) (s:Shared) (σ:St) (H:Hp) (Q:List V->Hp->Prop),Inv X pins σ H s->t σ H Q->wpAny (model X.prog X.w) X.A (spliced (backTo pos (starEach es X.env))) (AP X pins σ Q) X.xe s:=⟨PA.run⟩
structure PS(X:Cx)(st:Stmt)(t:TS) : Prop where
 of ::
 run :
 ∀(pins:WA) (s:Shared) (σ:St) (H:Hp) (D:Ends),Inv X pins σ H s->t D σ H->wpAny (model X.prog X.w) X.A (exec st X.env) (SP X pins D) X.xe s
instance {X:Cx} {st:Stmt} {t:TS} : CoeFun (PS X st t) λ_=>
 ∀(pins:WA) (s:Shared) (σ:St) (H:Hp) (D:Ends),Inv X pins σ H s->t D σ H->wpAny (model X.prog X.w) X.A (exec st X.env) (SP X pins D) X.xe s:=⟨PS.run⟩
structure qE(X:Cx)(st:WN)(t:TS) : Prop where
 of ::
 run :
 ∀(pins:WA) (s:Shared) (σ:St) (H:Hp) (D:Ends),Inv X pins σ H s->t D σ H->wpAny (model X.prog X.w) X.A (execs st X.env) (SP X pins D) X.xe s
instance {X:Cx} {st:WN} {t:TS} : CoeFun (qE X st t) λ_=>
 ∀(pins:WA) (s:Shared) (σ:St) (H:Hp) (D:Ends),Inv X pins σ H s->t D σ H->wpAny (model X.prog X.w) X.A (execs st X.env) (SP X pins D) X.xe s:=⟨qE.run⟩
theorem p9{M:Model}{A:Around}{E:WO}{s:Shared}(h:wpAny M A t Q E s)(d:∀a s,Q a s->c a s):wpAny M A t c E s:=v6 h d λ_ _ x=>x
section
variable{X:Cx}
def bq(i:Nat):TE:=λa H Q=>∃v,a[i]?=some (some v)/\Q v H
def tC(v:V):TE:=λ_ H Q=>Q v H
theorem MR   {j:Pos} (E:X.N[i]?=some x) (y:NY X.env.scope x) (hd:(x == ("__debug__" : Str))=false:=by decide) (o:(x == ("__classdict__" : Str))=false:=by decide):PE X (.Name x j) (bq i):=by
 refine .of ?_;intro g s q H Q I h;obtain⟨v,e,h⟩:=h;obtain⟨m,z,C⟩:=I.loc;obtain⟨u,r,l⟩:=C i x v E e y;have d:EP X g q Q u s:=⟨v,H,I,r,h⟩
 rcases l with⟨b,B⟩ | ⟨b,c,p,a⟩
 ·exact wpAny_Name (wpAny_loadName_local I.ok.kind b z B d) hd
 ·rcases b with b | b
  ·exact wpAny_Name (wpAny_loadName_cell I.ok.kind b p a d) hd
  ·exact wpAny_Name (wpAny_loadName_free I.ok.kind b p a d o) hd
theorem NC:PE X (.Constant (.int i) j a) (tC (.int i)):=.of <| λ_ _ _ H _ I h=>wpAny_Constant_int ⟨.int i,H,I.tok _,⟨_,rfl⟩,h⟩
theorem OU:PE X (.Constant (.bool b) j a) (tC (.bl b)):=.of <| λ_ _ _ H _ I h=>Constant_bool ⟨.bl b,H,I,rfl,h⟩
theorem LR:PE X (.Constant .none j a) (tC .l3):=.of <| λ_ _ _ H _ I h=>Constant_none ⟨.l3,H,I,rfl,h⟩
theorem MN:PE X (.Constant (.str x) j a) (tC (.str x)):=.of <| λ_ _ _ H _ I h=>Calls.Constant_str ⟨.str x,H,I.tok _,⟨_,rfl⟩,h⟩
def Gl(X:Cx)(x:Str):Prop:=X.env.kindOf x=some .globalImplicit
theorem yf{E:WO}{σ:St}{Q:WO}(I:Inv X pins σ H s)(c:Gl X x)(b:X.mg x=some u)(h:Q u s)
  (hd:(x == ("__debug__" : Str))=false:=by decide):wpAny (model X.prog X.w) X.A (eval (.Name x a) X.env) Q E s:=
 Calls.Name_function_global I.ok.kind c (Calls.loadGlobal_global (by rw[I.ok.glob];exact I.mod.glob.keeps I.bk) b h) hd
theorem bA{E:WO}{σ:St}{a:Pos}{Q:WO}(I:Inv X pins σ H s)(e:Gl X x)(d:X.mg x=none)(b:bootBuiltins x=some u)(h:Q u s)
  (c:x ≠ "__name__":=by decide) (hd:(x == ("__debug__" : Str))=false:=by decide):wpAny (model X.prog X.w) X.A (eval (.Name x a) X.env) Q E s:=by
 obtain⟨j,i,g⟩:=I.mod.blt;exact Calls.Name_function_global I.ok.kind e (Calls.loadGlobal_builtin (by rw[I.ok.glob];exact I.mod.glob.keeps I.bk) d (by rw[I.ok.blt];exact i.keeps I.bk) ((g x c).trans b) h) hd
theorem xg    {a:Pos} (e:Gl X x) (d:X.mg x=none) (b:bootBuiltins x=some u) (r:RelV v u) (c:x ≠ "__name__":=by decide) (hd:(x == ("__debug__" : Str))=false:=by decide):PE X (.Name x a) (tC v):=.of <| 
 λ_ _ _ H _ I h=>bA I e d b ⟨v,H,I,r,h⟩ c hd
variable{a b:Expr}{ta tb:TE}{pos:Pos}
variable{tA tB':TT}{rest:WI}
def RK(t u:TT):TT:=λd H Q=>t d H λc e=>if c=true then u d e Q else Q false e
def Th(t u:TT):TT:=λd H Q=>t d H λc e=>if c=true then Q true e else u d e Q
def RJ(t:TT):TT:=λd H Q=>t d H λc e=>Q (!c) e
theorem GA(i:PT X a tA):PW X (.BoolOp .And [a] pos) tA:=by
 refine .of ?_;intro j d s g H Q I h;refine isTrue_and (p9 (i d s g H Q I h) λc l e=>?_)
 cases c with
 | true=>exact isTrue_and_nil e
 | false=>exact e
theorem Nv(i:PT X a tA):PW X (.BoolOp .Or [a] pos) tA:=by
 refine .of ?_;intro j d s g H Q I h;refine isTrue_or (p9 (i d s g H Q I h) λc l e=>?_)
 cases c with
 | false=>exact isTrue_or_nil e
 | true=>exact e
theorem Mp(q:PT X a tA)(p:PW X (.BoolOp .And (b::rest) pos) tB'):PW X (.BoolOp .And (a::b::rest) pos) (RK tA tB'):=by
 refine .of ?_;intro l d s e H Q I h;refine isTrue_and (p9 (q d s e H _ I h) λc o ⟨j,i,g⟩=>?_)
 cases c with
 | true=>exact p l d o e j Q i g
 | false=>exact⟨j,i,g⟩
theorem Qk(q:PT X a tA)(p:PW X (.BoolOp .Or (b::rest) pos) tB'):PW X (.BoolOp .Or (a::b::rest) pos) (Th tA tB'):=by
 refine .of ?_;intro l d s e H Q I h;refine isTrue_or (p9 (q d s e H _ I h) λc o ⟨j,i,g⟩=>?_)
 cases c with
 | true=>exact⟨j,i,g⟩
 | false=>exact p l d o e j Q i g
theorem Nk(g:PT X a tA):PT X (.UnaryOp .Not a pos) (RJ tA):=by
 refine .of ?_;intro d s e H Q I h;exact isTrue_not (g d s e H (λc i=>Q (!c) i) I h)
def QE(ta tb:TE):TE:=λd H Q=>ta d H λx e=>∃c,x=.bl c/\if c=true then tb d e Q else Q (.bl false) e
def Ss(ta tb:TE):TE:=λd H Q=>ta d H λx e=>∃c,x=.bl c/\if c=true then Q (.bl true) e else tb d e Q
theorem Mh(h:PE X a t):PE X (.BoolOp e [a] pos) t:=.of <| λc s d H Q I hw=>BoolOp_one (h c s d H Q I hw)
theorem ME(q:PE X a ta)(p:PE X (.BoolOp .And (b::rest) pos) tb):PE X (.BoolOp .And (a::b::rest) pos) (QE ta tb):=by
 refine .of ?_;intro d s g H Q I h;refine BoolOp_and (p9 (q d s g H _ I h) λv l ⟨x,j,i,o,e⟩=>?_);obtain⟨c,rfl,e⟩:=e;cases o;refine Vc ?_
 cases c with
 | true=>exact p d l g j Q i e
 | false=>exact⟨.bl false,j,i,rfl,e⟩
theorem OW(q:PE X a ta)(p:PE X (.BoolOp .Or (b::rest) pos) tb):PE X (.BoolOp .Or (a::b::rest) pos) (Ss ta tb):=by
 refine .of ?_;intro d s g H Q I h;refine BoolOp_or (p9 (q d s g H _ I h) λv l ⟨x,j,i,o,e⟩=>?_);obtain⟨c,rfl,e⟩:=e;cases o;refine Vc ?_
 cases c with
 | false=>exact p d l g j Q i e
 | true=>exact⟨.bl true,j,i,rfl,e⟩
def Tg(t:TT)(ta tb:TE):TE:=λd H Q=>t d H λc e=>if c=true then ta d e Q else tb d e Q
theorem CN(p:PT X c tA)(r:PE X a ta)(q:PE X b tb):PE X (.IfExp c a b pos) (Tg tA ta tb):=by
 refine .of ?_;intro e s g H Q I h;refine wpAny_IfExp (p9 (p e s g H _ I h) λd i ⟨o,l,j⟩=>?_)
 cases d with
 | true=>exact r e i g o Q l j
 | false=>exact q e i g o Q l j
end
def G7(K:WR)(H:Hp)(a:Addr)(xs:List V):Prop:=
 Rd H a (.lst xs) \/
  ∃(o:Obj) (b:WL) (n:Nat),K.lookup a=some o/\o.cls=.type "list" /\ o.dict=none/\o.data=.seq b n/\b.size<=sizeLine/\Vals xs b.toList
def P8(K:WR)(H:Hp)(a:Addr)(xs:List V):Prop:=
 Rd H a (.tup xs) \/
  ∃(o:Obj) (b:WL) (n:Nat),K.lookup a=some o/\o.cls=.type "tuple" /\ o.data=.seq b n/\b.size<=sizeLine/\Vals xs b.toList
def Su:Value->Option V
 | .none=>some .l3
 | .bool b=>some (.bl b)
 | .int i _=>some (.int i)
 | .str x _=>some (.str x)
 | .bytes b _=>some (.byt b)
 | .float b _=>some (.flt b)
 | .ref a=>some (.ref a)
 | .type n=>some (.ty n)
 | _=>none
theorem RelV.abs(r:RelV x u):Su u=some x:=by
 cases x with
 | l3=>cases r;rfl
 | bl _=>cases r;rfl
 | int _=>obtain⟨t,rfl⟩:=r;rfl
 | str _=>obtain⟨t,rfl⟩:=r;rfl
 | byt _=>obtain⟨t,rfl⟩:=r;rfl
 | flt _=>obtain⟨t,rfl⟩:=r;rfl
 | ref _=>cases r;rfl
 | ty _=>cases r;rfl
theorem RelV.inj(r:RelV x u)(q:RelV y u):x=y:=v7 (r.abs.symm.trans q.abs)
theorem Vals.inj:∀{xs ys:List V} {a:WH},Vals xs a->Vals ys a->xs=ys
 | _,_,_,.nil,.nil=>rfl
 | _,_,_,.cons r t,.cons c b=>by rw[r.inj c,Vals.inj t b]
section
variable{X:Cx}{pins:WA}{σ:St}{H:Hp}{s:Shared}{a:Addr}{xs ys:List V}
theorem G7.of{K:WR}(h:H a=some (.lst xs)):G7 K H a xs:=.inl (.inl h)
theorem P8.of{K:WR}(h:H a=some (.tup xs)):P8 K H a xs:=.inl (.inl h)
theorem Inv.list(I:Inv X pins σ H s)(h:G7 X.K H a xs):∃its:WH,Vals xs its/\PlainL s.heap a its.toArray/\xs.length<=sizeLine:=by
 rcases h with h | ⟨o,its,n,c,d,hd,b,g,r⟩
 ·obtain⟨z,its,n,r,e⟩:=h.ok I.hok;exact⟨its,r,⟨_,n,e,rfl,rfl,rfl⟩,z⟩
 ·refine⟨its.toList,r,⟨o,n,I.pq a o c,d,hd,by simpa using b⟩,?_⟩;have e:=r.length;simp only[t4] at e;omega
theorem Inv.tuple(I:Inv X pins σ H s)(h:P8 X.K H a xs):∃its:WH,Vals xs its/\IsTup s.heap a its.toArray/\xs.length<=sizeLine:=by
 rcases h with h | ⟨o,its,n,c,d,b,g,r⟩
 ·obtain⟨z,its,r,p⟩:=h.ok I.hok;exact⟨its,r,p,z⟩
 ·refine⟨its.toList,r,⟨o,I.pq a o c,d,n,by simpa using b⟩,?_⟩;have e:=r.length;simp only[t4] at e;omega
theorem Inv.qT(I:Inv X pins σ H s)(h:G7 X.K H a xs)(h':G7 X.K H a ys):xs=ys:=by
 obtain⟨c,r,⟨o,n,e,_,_,d⟩,_⟩:=I.list h;obtain⟨b,j,⟨l,p,g,_,_,i⟩,_⟩:=I.list h';rw[e] at g;cases g;rw[d] at i
 injection i with d1 _
 have:=by simpa using congrArg Array.toList d1
 subst this;exact r.inj j
theorem Inv.kG(I:Inv X pins σ H s)(h:P8 X.K H a xs)(h':P8 X.K H a ys):xs=ys:=by
 obtain⟨c,r,⟨o,e,_,n,d⟩,_⟩:=I.tuple h;obtain⟨b,j,⟨l,g,_,p,i⟩,_⟩:=I.tuple h';rw[e] at g;cases g;rw[d] at i
 injection i with d1 _
 have:=by simpa using congrArg Array.toList d1
 subst this;exact r.inj j
end
abbrev Cx.jP(X:Cx)(E:WO):Cx:={ X with xe:=E }
abbrev Cx.Og(X:Cx):Cx:=X.jP λ_ _=>False
theorem Cx.Ok.jP{X:Cx}(ok:X.Ok)(E:WO):(X.jP E).Ok:=
 ⟨ok.mod,ok.kind,ok.glob,ok.blt,ok.above,ok.inj,ok.has,ok.cab,ok.hd,ok.frames,ok.stk,ok.exf,ok.bs,ok.bsz,ok.noex,ok.exfs,ok.fC,ok.frf⟩
theorem Cx.Ok.aJ{X:Cx}(ok:(X.jP E).Ok):X.Ok:=
 ⟨ok.mod,ok.kind,ok.glob,ok.blt,ok.above,ok.inj,ok.has,ok.cab,ok.hd,ok.frames,ok.stk,ok.exf,ok.bs,ok.bsz,ok.noex,ok.exfs,ok.fC,ok.frf⟩
section
variable{X:Cx}{pins:WA}{σ:St}{H:Hp}{s:Shared}{E:WO}
theorem Inv.jP(I:Inv X pins σ H s)(E:WO):Inv (X.jP E) pins σ H s:=⟨I.ok.jP E,I.os,I.bare,I.base,I.loc,I.cell,I.free,I.freeC,I.pin,I.hok,I.len⟩
theorem Inv.aJ(I:Inv (X.jP E) pins σ H s):Inv X pins σ H s:=⟨I.ok.aJ,I.os,I.bare,I.base,I.loc,I.cell,I.free,I.freeC,I.pin,I.hok,I.len⟩
theorem SP.aJ(h:SP (X.jP E) pins D f c):SP X pins D f c:=by
 cases f with
 | next=>obtain⟨a,b,I,q⟩:=h;exact⟨a,b,I.aJ,q⟩
 | brk=>obtain⟨a,b,I,q⟩:=h;exact⟨a,b,I.aJ,q⟩
 | cont=>obtain⟨a,b,I,q⟩:=h;exact⟨a,b,I.aJ,q⟩
 | ret u=>obtain⟨v,a,b,I,r,q⟩:=h;exact⟨v,a,b,I.aJ,r,q⟩
theorem qE.Og{st:WN}(h:qE X.Og st t):qE X st t:=.of <| λpins s σ H D I hw=>
 v6 (h pins s σ H D (I.jP _) hw) (λ_ _ q=>q.aJ) λ_ _ z=>False.elim z
end
section
variable{X:Cx}{st:Stmt}{rest:WN}{t u:TS}{e:Expr}{te:TE}{pos:Pos}
def PF:TS:=λD a H=>D.nx a H
def Sq(t u:TS):TS:=λD a H=>t { D with nx:=u D } a H
theorem Jz:qE X [] PF:=.of <| λ_ _ a H _ I h=>Vt ⟨a,H,I,h⟩
theorem Am(i:PS X st t)(g:qE X rest u):qE X (st::rest) (Sq t u):=by
 refine .of ?_;intro a s c H D I h;refine wpAny_execs_cons (p9 (i a s c H { D with nx:=u D } I h) λf d q=>?_)
 cases f with
 | next=>
  obtain⟨b,l,j,q⟩:=q;exact g a d b l D j q
 | ret v=>exact q
 | brk=>exact q
 | cont=>exact q
theorem Jn(c:PS X st t):qE X [st] t:=by
 refine .of ?_;intro a s b H D I h;refine wpAny_execs_cons (p9 (c a s b H D I h) λf d q=>?_)
 cases f with
 | next=>exact Vt q
 | ret v=>exact q
 | brk=>exact q
 | cont=>exact q
theorem Inv.quiet{σ:St}(I:Inv X pins σ H s):interactive X.env=false:=by simp[interactive,I.ok.kind]
def PV(te:TE):TS:=λD a H=>te a H λ_ b=>D.nx a b
theorem Ji(g:PE X e te)(d:swapsWith e none pos.line X.env=pure false:=by rfl):PS X (.Expr e pos) (PV te):=by
 refine .of ?_;intro a s b H D I h;exact wpAny_Expr_any (p9 (g a s b H _ I h) λv l ⟨x,j,i,o,c⟩=>⟨b,j,i,c⟩) I.quiet d
def Si(te:TE):TS:=λD a H=>te a H D.rt
theorem nF(g:PE X e te):PS X (.Return (some e) pos) (Si te):=by
 refine .of ?_;intro a s b H D I h;exact wpAny_Return_some (p9 (g a s b H _ I h) λv l ⟨x,j,i,c,d⟩=>⟨x,b,j,i,c,d⟩)
def Rt(c:TT)(t u:TS):TS:=λD a H=>c a H λb d=>if b=true then t D a d else u D a d
theorem Qg(q:PT X c tc)(v:qE X a t)(r:qE X b u):PS X (.If c a b pos) (Rt tc t u):=by
 refine .of ?_;intro g s i H D I h;refine wpAny_If (p9 (q g s i H _ I h) λd j ⟨p,o,l⟩=>?_)
 cases d with
 | true=>exact v g j i p D o l
 | false=>exact r g j i p D o l
def MA:TS:=λ_ _ _=>False
theorem AG:PS X st MA:=.of <| λ_ _ _ _ _ _ h=>h.elim
end
abbrev TG:=V->St->Hp->(St->Hp->Prop)->Prop
abbrev HR:=List V->St->Hp->(St->Hp->Prop)->Prop
structure PG(X:Cx)(target:Expr)(t:TG) : Prop where
 of ::
 run :
 ∀(pins:WA) (s:Shared) (σ:St) (H:Hp) (v:V) (u:Value) (Q:St->Hp->Prop),Inv X pins σ H s->RelV v u->t v σ H Q ->
  wpAny (model X.prog X.w) X.A (assign target X.env u) (λ_ s'=>∃σ' H',Inv X pins σ' H' s'/\Q σ' H') X.xe s
instance {X:Cx} {target:Expr} {t:TG} : CoeFun (PG X target t) λ_=>
 ∀(pins:WA) (s:Shared) (σ:St) (H:Hp) (v:V) (u:Value) (Q:St->Hp->Prop),Inv X pins σ H s->RelV v u->t v σ H Q ->
  wpAny (model X.prog X.w) X.A (assign target X.env u) (λ_ s'=>∃σ' H',Inv X pins σ' H' s'/\Q σ' H') X.xe s:=⟨PG.run⟩
structure FO(X:Cx)(ts:WI)(t:HR) : Prop where
 of ::
 run :
 ∀(pins:WA) (s:Shared) (σ:St) (H:Hp) (vs:List V) (us:WH) (Q:St->Hp->Prop),Inv X pins σ H s->Vals vs us->t vs σ H Q ->
  wpAny (model X.prog X.w) X.A (assignInOrder ((assignEach ts X.env).map (·.2)) us) (λ_ s'=>∃σ' H',Inv X pins σ' H' s'/\Q σ' H') X.xe s
instance {X:Cx} {ts:WI} {t:HR} : CoeFun (FO X ts t) λ_=>
 ∀(pins:WA) (s:Shared) (σ:St) (H:Hp) (vs:List V) (us:WH) (Q:St->Hp->Prop),Inv X pins σ H s->Vals vs us->t vs σ H Q ->
  wpAny (model X.prog X.w) X.A (assignInOrder ((assignEach ts X.env).map (·.2)) us) (λ_ s'=>∃σ' H',Inv X pins σ' H' s'/\Q σ' H') X.xe s:=⟨FO.run⟩
abbrev Lf:=V->V->V->Hp->(Hp->Prop)->Prop
def Oq(X:Cx)(t:Lf):Prop:=
 ∀(a:WA) (s:Shared) (b:St) (H:Hp) (o i v:V) (c d u:Value) (Q:Hp->Prop),Inv X a b H s->RelV o c->RelV i d->RelV v u->t o i v H Q ->
  wpAny (model X.prog X.w) X.A (setItem c d u) (λ_ g=>∃e,Inv X a b e g/\Q e) X.xe s
abbrev Rh:=V->V->Hp->VK->Prop
def SD(X:Cx)(c:Operator)(t:Rh):Prop:=
 ∀(a:WA) (s:Shared) (b:St) (H:Hp) (x y:V) (v u:Value) (Q:VK),Inv X a b H s->RelV x v->RelV y u->t x y H Q ->
  wpAny (model X.prog X.w) X.A (inplaceOp c v u) (EP X a b Q) X.xe s
section
variable{X:Cx}{pos:Pos}
def kh(i:Nat):TG:=λv a H Q=>Q (a.set i (some v)) H
theorem wO(e:X.N.Nodup)(c:X.N[i]?=some x)(b:Loc X.env.scope x)(d:X.fn x=true\/X.env.scope.names.lookup x=some .local:=by first | exact .inl rfl | exact .inr rfl | assumption):PG X (.Name x pos) (kh i):=by
 refine .of ?_;intro a s j H v u Q I r h;exact Ve (aq I e c b r (λl g=>⟨_,H,g,h⟩) d)
def Se:HR:=λvs a H Q=>vs=[]/\Q a H
def OL(t:TG)(u:HR):HR:=λvs b H Q=>∃v r,vs=v::r/\t v b H λa c=>u r a c Q
theorem Gq:FO X [] Se:=by
 refine .of ?_;intro a s b H vs c Q I r h;obtain⟨e,h⟩:=h;subst e;cases r;exact assignInOrder_nil ⟨b,H,I,h⟩
theorem DT(p:PG X e t)(o:FO X b u)
  (l:(assignEach (e::b) X.env).map (·.2)=assign e X.env::(assignEach b X.env).map (·.2):=by rfl):FO X (e::b) (OL t u):=by
 refine .of ?_;intro a s d H vs B Q I r h;obtain⟨v,z,q,h⟩:=h;subst q
 cases r with
 | cons r i=>
  rw[l];refine assignInOrder_cons (p9 (p a s d H _ _ _ I r h) λ_ g ⟨c,y,x,j⟩=>?_);exact o a g c y _ _ Q x i j
def OZ(K:WR)(n:Nat)(t:HR):TG:=λv c H Q=>∃a b,v=.ref a/\P8 K H a b/\b.length=n/\t b c H Q
theorem aF{k:Nat}(B:X.calm=true)(h:FO X d t)
  (y:(assignEach d X.env).length=n:=by rfl) (g:(assignEach d X.env).findIdx? (·.1)=none:=by rfl):PG X (.Tuple d k pos) (OZ X.K n t):=by
 refine .of ?_;intro c s i H v u Q I r hw;obtain⟨a,j,E,x,z,hw⟩:=hw;subst E;cases r;obtain⟨l,rv,q,J⟩:=I.tuple x;refine assign_Tuple_tuple (I.ok.hd B) q (by simp[y,<-z,rv.length]) g λC p=>?_;have G:=I.kept (t':=s.toks) λb o e=>p b o (t8 (sK e)) e;exact h c _ i H j _ Q G (by simpa using rv) hw
def T1(b c:TE)(t:Lf):TG:=λv a H Q=>b a H λo g=>c a g λi e=>t o i v e λd=>Q a d
theorem iF(G:PE X o e)(J:PE X i g)(E:Oq X t)
  (M:∀v,assign (.Subscript o i pos) X.env v=(do
   let b <-holding [v] (eval o X.env)
   let c <-holding [v,b] (eval i X.env)
   standAt pos
   holding [v,b,c] (setItem b c v)
   release [v,b,c] []):=by intro _;rfl):PG X (.Subscript o i pos) (T1 e g t):=by
 refine .of ?_;intro a s d H v u Q I r h;refine eH (x2 (p9 (G a s d H _ I h) λb l ⟨x,Y,S,q,C⟩=>?_));refine eH (x2 (p9 (J a l d Y _ S C) λc j ⟨y,U,R,p,B⟩=>?_));refine eH (KM (eH (x2 (p9 (E a j d U x y v b c u _ R q p r B) λ_ s3 ⟨T,O,z⟩=>?_))));exact wpAny_release ⟨d,T,O,z⟩
def qp(te:TE)(g:TG):TS:=λD a H=>te a H λx b=>g x a b D.nx
theorem Z0(p:PE X e te)(o:PG X b g)(l:swapsWithSole [b] e pos.line X.env=pure false:=by rfl)(hw:swappedStores [b] e X.env=pure none:=by rfl)
  (r:(assignEach [b] X.env).map (·.2)=[assign b X.env]:=by rfl):PS X (.Assign [b] e pos) (qp te g):=by
 refine .of ?_;intro a s c H D I h;refine wpAny_Assign_stores (p9 (p a s c H _ I h) λv d ⟨x,y,u,i,j⟩=>?_) l hw;rw[r];exact p9 (o a d c y x v _ u i j) λ_ z q=>q
theorem DH(r:X.N.Nodup)(o:X.N[i]?=some x)(j:Loc X.env.scope x)(q:PE X e te)(l:swapsWith e (some (.Name x a)) pos.line X.env=pure false:=by rfl)(p:X.fn x=true\/X.env.scope.names.lookup x=some .local:=by first | exact .inl rfl | exact .inr rfl | assumption) :
  PS X (.Assign [.Name x a] e pos) (qp te (kh i)):=by
 refine .of ?_;intro b s c H D I h;refine wpAny_Assign_Name (p9 (q b s c H _ I h) λv E ⟨y,B,z,d,g⟩=>?_) l;exact aq z r o j d (λC u=>⟨_,B,u,g⟩) p
def Sv(i j:Nat)(b:TA):TS:=λD a H=>b a H λvs c=>∃v w,vs=[v,w]/\D.nx ((a.set i (some v)).set j (some w)) c
theorem KP(hc:X.calm=true)(S:X.N.Nodup)(hi:X.N[i]?=some x)(hj:X.N[j]?=some y)(J:i≠j)
  (R:X.env.scope.names.lookup x=some .local) (Q:X.env.scope.names.lookup y=some .local) (ha:PA X [a,b] O)
  (hw:swappedStores [.Tuple [.Name x C,.Name y B] E pt] (.Tuple [a,b] k2 d) X.env=pure (some [x,y]))
  (hs:swapsWithSole [.Tuple [.Name x C,.Name y B] E pt] (.Tuple [a,b] k2 d) pos.line X.env=pure false:=by rfl) :
  PS X (.Assign [.Tuple [.Name x C,.Name y B] E pt] (.Tuple [a,b] k2 d) pos) (Sv i j O):=by
 refine .of ?_;intro c s M H D I h;refine eH (KM ?_);refine eH (hH ?_);refine eH (Tuple_ (p9 (ha _ c s M H _ I h) λY r ⟨vs,U,I1,r1,z⟩=>?_));obtain⟨v,w,e1,z⟩:=z;subst e1
 obtain⟨l,u2,rfl,rv,u⟩:∃l u2,Y=[l,u2]/\RelV v l/\RelV w u2:=by
  cases r1 with
  | cons p q=>
   cases q with
   | cons p' q'=>
    cases q';exact⟨_,_,rfl,p,p'⟩
 refine ux ?_ (by show 2<=sizeLine;decide);have I2:Inv X c M U { r with heap:=r.heap.push { cls:=.type "tuple",data:=.seq [l,u2].toArray } }:=I1.kept (t':=r.toks) λb o e=>hD _ e;rw[hw];refine eH (hH ?_);refine eH (Uv (eH (unpackItems_tuple (items:=#[l,u2]) (I.ok.hd hc) (IsTup.new r.heap _) λh' G=>?_)));have I3:=I2.kept (h':=h') (t':=r.toks) λb o e=>G b o (t8 (sK e)) e;refine eH (assignInOrder_cons (wpAny_bindName (aq I3 S hj (.inl Q) u (λs2 I4=>?_) (.inr Q))));refine assignInOrder_cons (wpAny_bindName (aq I4 S hi (.inl R) rv (λs3 T=>assignInOrder_nil (hH ?_)) (.inr R)));rw[List.set_comm _ _ (Da J)] at T;exact⟨_,U,T,z⟩
def Qh(i:Nat)(te:TE)(b:Rh):TS:=λD a H=>∃x,a[i]?=some (some x)/\te a H λy d=>b x y d λz c=>D.nx (a.set i (some z)) c
theorem Le(hN:X.N.Nodup)(G:X.N[i]?=some x)(B:Loc X.env.scope x)(he:PE X e te)(S:SD X q E)(hf:X.fn x=true\/X.env.scope.names.lookup x=some .local:=by first | exact .inl rfl | exact .inr rfl | assumption) :
  PS X (.AugAssign (.Name x o) q e pos) (Qh i te E):=by
 refine .of ?_;intro a s C H D I h;obtain⟨v,e1,h⟩:=h;obtain⟨m,T,Y⟩:=I.loc;have p:NY X.env.scope x:=by rcases B with k | k;exact .inl k;exact .inr (.inl k)
 obtain⟨u,r,l⟩:=Y i x v G e1 p;refine wpAny_AugAssign_Name ?_
 have go:wpAny (model X.prog X.w) X.A (eval e X.env) (λw j=>wpAny (model X.prog X.w) X.A (inplaceOp q u w) (λr g=>wpAny (model X.prog X.w) X.A (storeName X.env x r) (λ_=>SP X a D .next) X.xe g) X.xe j) X.xe s:=by
  refine p9 (he a s C H _ I h) λw J ⟨y,H1,I1,O,R⟩=>?_;refine p9 (S a J C H1 v y u w _ I1 r O R) λz s2 ⟨zv,H2,I2,M,Q⟩=>?_;exact aq I2 hN G B M (λs3 I3=>⟨_,H2,I3,Q⟩) hf
 rcases l with⟨b,U⟩ | ⟨b,c,hc,d⟩
 ·exact wpAny_loadName_local I.ok.kind b T U go
 ·rcases b with b | b
  ·exact wpAny_loadName_cell I.ok.kind b hc d go
  ·rcases B with k | k
   ·have:X.env.scope.names.lookup x=some .free:=b;rw[k] at this;cases this
   ·have:X.env.scope.names.lookup x=some .free:=b;rw[k] at this;cases this
def SQ(f:Int->Int->Int):Rh:=λx y H Q=>∃i j,x=.int i/\y=.int j/\Q (.int (f i j)) H
theorem Cn:SD X .Add (SQ λi j=>i+j):=by
 intro a s g H x y v u Q I c b h;obtain⟨i,j,e,d,q⟩:=h;subst e;subst d;obtain⟨t,rfl⟩:=c;obtain⟨l,rfl⟩:=b;exact iadd_int ⟨.int _,H,I.tok _,⟨_,rfl⟩,q⟩
def Mv(c:TT)(i:TS):TS:=λD a H=>∃W:Nat->St->Hp->Prop,(∃m,W m a H)/\∀m a H,W m a H ->
 c a H λb g=>if b=true then ∃N:St->Hp->Prop,(∀d h,N d h->∃e,e<m/\W e d h)/\i { D with nx:=N,ct:=N,bk:=D.nx } a g else D.nx a g
theorem AL(z:PassesOwn (model X.prog X.w) X.A X.env X.xe)(Y:PT X c tc)(hb:qE X body y):PS X (.While c body [] pos) (Mv tc y):=by
 refine .of ?_;intro d s M H D I h;obtain⟨W,⟨U,Q⟩,i⟩:=h;refine wpAny_While (codeAny_whileLoop (λn T=>∃g J,Inv X d g J T/\W n g J) ?_ U ⟨M,H,I,Q⟩);rintro n S ⟨e,G,I1,O⟩;refine T0 z (p9 (Y d S e G _ I1 (i n e G O)) λb R ⟨E,C,o⟩=>?_)
 cases b with
 | true=>
  obtain⟨N,B,o⟩:=o;refine T0 z (p9 (hb d R e E _ C o) λf s3 l=>?_)
  cases f with
  | next=>
   obtain⟨a,j,x,q⟩:=l;obtain⟨r,u,p⟩:=B a j q;exact⟨r,u,a,j,x,p⟩
  | cont=>
   obtain⟨a,j,x,q⟩:=l;obtain⟨r,u,p⟩:=B a j q;exact⟨r,u,a,j,x,p⟩
  | brk=>exact l
  | ret v=>exact l
 | false=>
  exact Vt ⟨e,E,C,o⟩
end
structure It where
 go:Nat->Hp->Prop
 yld:Nat->Hp->V->Hp->Prop
 stop:Nat->Hp->Prop
def L8(X:Cx)(pins:WA)(H:Hp)(b:Addr):Prop:=
 H b=none/\b≠X.env.locals/\b∉X.fs/\(b∈X.ex\/X.s₀.heap.objs.size<=b)/\(∀x c,X.env.cells.lookup x=some c->c≠b)/\∀p∈X.pn++pins,p.1≠b
theorem Inv.fP{σ:St}{b:Addr}(I:Inv X pins σ H s)(a:s.heap.objs.size<=b)(h:d b=none):L8 X pins d b:=by
 refine⟨h,Uq (uy I.lt a),I.So a,.inr (AC I.sz a),λx c e z=>?_,λp g z=>?_⟩
 ·obtain⟨v,q⟩:=I.cell x c e;exact absurd (uy q.lt (by rw[z];exact a)) (TL _)
 ·exact absurd (uy (sK (I.pin p g).1) (by rw[z];exact a)) (TL _)
structure Turn(P:Program)(w:World)(K:WR)(tg:Expr)(J:It)(fp:WE)(it:Addr)(tn:Nat->Heap->Prop):Prop where
 mem:it∈fp
 obj:∀i h,tn i h->∀b∈fp,∃o,h.get? b=some o/\∀v,o.data≠.cell v
 keep:∀i h h',tn i h->(∀b∈fp,∀o,h.get? b=some o->h'.get? b=some o)->tn i h'
 item:∀(X:Cx),X.prog=P->X.w=w->X.K=K->X.calm=true->∀(i:Nat) (pins:WA) (s:Shared) (σ:St) (H:Hp) (E:WO),Inv X pins σ H s->(∀b∈fp,L8 X pins H b)->tn i s.heap->J.go i H ->
  wpAny (model P w) X.A (pyNext (.ref it)) (λr s1=>∃u,r=some u /\
   wpAny (model P w) X.A (letOwnedTupleGo tg (.ref it) u) (λ_ s2=>∃x H',Inv X pins σ H' s2/\RelV x u/\J.yld i H x H'/\tn (i+1) s2.heap/\∀b∈fp,H' b=none) E s1) E s
 done:∀(X:Cx),X.prog=P->X.w=w->X.K=K->X.calm=true->∀(i:Nat) (pins:WA) (s:Shared) (σ:St) (H:Hp) (E:WO),Inv X pins σ H s->(∀b∈fp,L8 X pins H b)->tn i s.heap->J.stop i H ->
  wpAny (model P w) X.A (pyNext (.ref it)) (λr s1=>r=none/\Inv X pins σ H s1) E s
 self:∀(A:Around) (i:Nat) (s:Shared) (Q:WO) (E:WO),tn i s.heap->Q (.ref it) s->wpAny (model P w) A (pyIter (.ref it)) Q E s
abbrev TI:=St->Hp->(It->Hp->Prop)->Prop
def RA(X:Cx)(pins:WA)(σ:St)(i:Expr)(R:It->Hp->Prop)(a:Value)(e:Shared):Prop:=
 ∃(g:Addr) (h:WE) (d:Nat->Heap->Prop) (J:It) (c:Hp),a=.ref g/\Inv X pins σ c e/\Turn X.prog X.w X.K i J h g d/\d 0 e.heap/\(∀b∈h,L8 X pins c b)/\R J c
structure PI(X:Cx)(tg iter:Expr)(wi:TI) : Prop where
 of ::
 run :
 ∀(pins:WA) (s:Shared) (σ:St) (H:Hp) (R:It->Hp->Prop),Inv X pins σ H s->wi σ H R ->
  wpAny (model X.prog X.w) X.A (eval iter X.env) (λv s1=>wpAny (model X.prog X.w) X.A (pyIter v) (RA X pins σ tg R) X.xe s1) X.xe s
instance {X:Cx} {tg iter:Expr} {wi:TI} : CoeFun (PI X tg iter wi) λ_=>
 ∀(pins:WA) (s:Shared) (σ:St) (H:Hp) (R:It->Hp->Prop),Inv X pins σ H s->wi σ H R ->
  wpAny (model X.prog X.w) X.A (eval iter X.env) (λv s1=>wpAny (model X.prog X.w) X.A (pyIter v) (RA X pins σ tg R) X.xe s1) X.xe s:=⟨PI.run⟩
theorem qJ{E:WO}{vs:WL}(c:s.heap.get? it=some o)(e:o.cls=.type n)(hd:o.data=.fields vs)
    (d:["enumerate","zip","dict_itemiterator","dict_reverseitemiterator","odict_iterator","itertools.zip_longest","itertools.pairwise"].contains n=false) (a:Q () s):wpAny M A (letOwnedTupleGo b (.ref it) u) Q E s:=by
  cases b<;>first
    | exact hH a
    | (cases u<;>first
        | exact hH a
        | (refine eH (wpAny_load c ?_)
           rw[e,hd];show wpAny M A (if (["enumerate","zip","dict_itemiterator","dict_reverseitemiterator","odict_iterator","itertools.zip_longest","itertools.pairwise"].contains n&&vs[0]? == some (rawInt _))=true then _ else _) Q E s;rw[ro (by intro h;rw[d] at h;cases h)];exact hH a))
def Rg(K:WR)(a:Addr):It:=
 ⟨λi H=>∃b x,G7 K H a b/\b[i]?=some x,λi H x c=>c=H/\∀b,G7 K H a b->b[i]?=some x,λi H=>∃b,G7 K H a b/\b.length<=i⟩
def QS(K:WR)(a:Addr):It:=
 ⟨λi H=>∃b x,P8 K H a b/\b[i]?=some x,λi H x c=>c=H/\∀b,P8 K H a b->b[i]?=some x,λi H=>∃b,P8 K H a b/\b.length<=i⟩
def QN(lo:Int)(n:Nat):It:=⟨λi _=>i<n,λi H x a=>a=H/\x=.int (lo+i),λi _=>n<=i⟩
theorem yz{K:WR}(a it:Addr):Turn P w K tg (Rg K a) [it] it (λi h=>h.IsListIter it a i) where
 mem:=by simp
 obj:=λi h st b j=>by
  have e:=by simpa using j
  subst e;obtain⟨o,e,c,d⟩:=st;exact⟨o,e,λv z=>by rw[d] at z;cases z⟩
 keep:=λi h y st k=>st.at λo e=>k it (by simp) o e
 item:=by
  intro X J hw M Y i g s U H E I r st G;subst J hw M;obtain⟨xs,x,q,C⟩:=G;obtain⟨B,rv,p,hz⟩:=I.list q;obtain⟨u,hu,ru⟩:=rv.get C;obtain⟨T,S,f2,R,Q,O⟩:=r it (by simp);refine wpAny_pyNext_list_item st p.isList  (by simpa using hu) λy l sb=>?_;have I1:=I.turned (t':=s.toks) (λb o j e=>(sb.2 b j).trans e) T S R Q O;obtain⟨o,e,c,d⟩:=id l;exact⟨u,rfl,qJ  e c d (by decide) ⟨x,H,I1,ru,⟨rfl,λys hy=>by rw[I.qT hy q];exact C⟩,l,λb j=>(r b j).1⟩⟩
 done:=by
  intro X J hw M Y i g s U H E I r st G;subst J hw M;obtain⟨xs,q,C⟩:=G;obtain⟨B,rv,p,hz⟩:=I.list q;obtain⟨T,S,f2,R,Q,O⟩:=r it (by simp);have hl:=rv.length;exact wpAny_pyNext_list_end (I.ok.hd Y) st p.isList (by simp;omega) λy eb=>⟨rfl,I.turned (t':=s.toks) (λb o j e=>eb b o j e) T S R Q O⟩
 self:=λ_ _ _ _ _ st h=>wpAny_pyIter_listiter st h
theorem jg{K:WR}(a it:Addr):Turn P w K tg (QS K a) [it] it (λi h=>h.IsTupleIter it a i) where
 mem:=by simp
 obj:=λi h st b l=>by
  have e:=by simpa using l
  subst e;obtain⟨o,e,c,d⟩:=st;exact⟨o,e,λv z=>by rw[d] at z;cases z⟩
 keep:=λi h B st k=>st.at λo e=>k it (by simp) o e
 item:=by
  intro X J hw M Y i g s U H E I y st G;subst J hw M;obtain⟨xs,x,r,C⟩:=G;obtain⟨j,rv,p,hz⟩:=I.tuple r;obtain⟨u,hu,ru⟩:=rv.get C;obtain⟨T,S,f2,R,Q,O⟩:=y it (by simp);refine wpAny_pyNext_tuple_item st (p)  (by simpa using hu) λB q sb=>?_;have I1:=I.turned (t':=s.toks) (λb o l e=>(sb.2 b l).trans e) T S R Q O;obtain⟨o,e,c,d⟩:=id q;exact⟨u,rfl,qJ  e c d (by decide) ⟨x,H,I1,ru,⟨rfl,λys hy=>by rw[I.kG hy r];exact C⟩,q,λb l=>(y b l).1⟩⟩
 done:=by
  intro X J hw M Y i g s U H E I y st G;subst J hw M;obtain⟨xs,r,C⟩:=G;obtain⟨j,rv,p,hz⟩:=I.tuple r;obtain⟨T,S,f2,R,Q,O⟩:=y it (by simp);have hl:=rv.length;exact wpAny_pyNext_tuple_end (I.ok.hd Y) st (show s.heap.IsTuple a j.toArray from p) (by simp;omega) λB eb=>⟨rfl,I.turned (t':=s.toks) (λb o l e=>eb b o l e) T S R Q O⟩
 self:=λ_ _ _ _ _ st h=>wpAny_pyIter_tupleiter st h
theorem vP{K:WR}(it:Addr)(lo:Int)(n:Nat):Turn P w K M (QN lo n) [it] it (λi h=>IsRangeIter h it (lo+(i:Nat)*1) ((n:Int)-(i:Nat)) 1) where
 mem:=by simp
 obj:=λi h st b c=>by
  have e:=by simpa using c
  subst e
  exact⟨_,st,λv z=>by
   have J:=z;cases J⟩
 keep:=λi h j st k=>k it (by simp) _ st
 item:=by
  intro X q hw r p i a s G H E I g st l;subst q hw r;obtain⟨C,B,R,y,x,u⟩:=g it (by simp);have W:=Walks.range (prog:=X.prog) (w:=X.w) (I.ok.hd p) it lo 1 n;refine W.item i s _ _ l st λv j tk Q d O=>?_;obtain⟨t,rfl⟩:=Q;have T:Inv X a G H { s with heap:=j,toks:=tk }:=I.turned (λb o c e=>O b o (by simpa using c) e) C B y x u;refine⟨_,rfl,qJ (s:={ s with heap:=j,toks:=tk }) (n:="range_iterator") d rfl rfl (by decide) ⟨.int (lo+i),H,T,⟨t,?_⟩,⟨rfl,rfl⟩,d,λb c=>(g b c).1⟩⟩;rw[Int.mul_one]
 done:=by
  intro X q hw r p i a s G H E I g st l;subst q hw r;obtain⟨C,B,R,y,x,u⟩:=g it (by simp);exact wpAny_pyNext_range_end (I.ok.hd p) st (by have:n<=i:=l;omega) λj S=>⟨rfl,I.turned (t':=s.toks) (λb o c e=>S b o c e) C B y x u⟩
 self:=λ_ _ _ _ _ st h=>wpAny_pyIter_rangeiter st h
section
variable{X:Cx}{tg:Expr}
def RE(K:WR)(e:TE):TI:=λc H R=>e c H λx b=>∃a,x=.ref a/\(∃d,P8 K b a d)/\R (QS K a) b
theorem Lk(B:PE X l j):PI X tg l (RE X.K j):=by
 refine .of ?_;intro d s r H R I h;refine p9 (B d s r H _ I h) λv c ⟨x,E,g,u,y⟩=>?_;obtain⟨a,e,⟨G,z⟩,q⟩:=y;subst e;cases u;obtain⟨i,rv,p,J⟩:=g.tuple z;refine VN (p) ?_;refine⟨c.heap.objs.size,[c.heap.objs.size],_,_,E,rfl,g.kept  λb o e=>hD _ e,jg a _,⟨_,sj _ rfl,rfl,rfl⟩,λb C=>?_,q⟩;have e:=by simpa using C
 subst e;exact g.fP (oT _) (g.hok.fresh (oT _))
theorem oy{σ:St}{E:WO}{lo a:Int}(I:Inv X pins σ H s)(j:-(2^62)<=lo)(i:lo<2^62)(h:-(2^62)<=a)(g:a<2^62)
  (q:R (QN lo (a-lo).toNat) H):wpAny (model X.prog X.w) X.A (pyIter (.ref s.heap.objs.size)) (RA X pins σ tg R) E { s with heap:=s.heap.push { cls:=.type "range",data:=.fields #[.int lo t,.int a u,.int 1 v] },toks:=tk }:=by
 refine wpAny_pyIter_range (IsRange.new ..) (small_one j i h g) ?_;have c:Inv X pins σ H { s with heap:=s.heap.push { cls:=.type "range",data:=.fields #[.int lo t,.int a u,.int 1 v] },toks:=tk }:=I.kept λb o e=>hD _ e
 refine⟨(s.heap.push { cls:=.type "range",data:=.fields #[.int lo t,.int a u,.int 1 v] }).objs.size,[(s.heap.push { cls:=.type "range",data:=.fields #[.int lo t,.int a u,.int 1 v] }).objs.size],_,_,H,rfl,
  c.kept  λb o e=>hD _ e,vP _ lo (a-lo).toNat,?_,λb d=>?_,q⟩
 ·have p:lo+((0:Nat))*1=lo:=by simp
  have l:(((a-lo).toNat))-((0:Nat))=Builtin.Range.rangeSize lo a 1:=by rw[rangeSize_one];split<;>omega
  rw[p,l];exact sj _ rfl
 ·have e:b=(s.heap.push { cls:=.type "range",data:=.fields #[.int lo t,.int a u,.int 1 v] }).objs.size:=by simpa using d
  subst e;exact c.fP (oT _) (c.hok.fresh (oT _))
def CL(b:TA):TI:=λa H R=>b a H λvs c=>∃j:Int,vs=[.int j]/\-(2^62)<=j/\j<2^62/\R (QN 0 j.toNat) c
def Kx(b:TA):TI:=λa H R=>b a H λvs c=>∃i j:Int,vs=[.int i,.int j]/\(-(2^62)<=i/\i<2^62/\-(2^62)<=j/\j<2^62)/\R (QN i (j-i).toNat) c
theorem J9    (y:Gl X "range") (x:X.mg "range"=none) (z:PA X [a] g) (v:starEach [a] X.env=[(false,eval a X.env)]:=by rfl):PI X tg (.Call (.Name "range" p) [a] [] b) (CL g):=by
 refine .of ?_;intro c s i H R I h;refine Call_ (bA I y x boot_range (TV (p9 (z b c s i H _ I h) λC E ⟨vs,G,B,o,d⟩=>?_) v rfl));obtain⟨j,e,d,u,q⟩:=d;subst e
 cases o with
 | cons r l=>
  cases l;obtain⟨t,rfl⟩:=r;exact call_range_1 (oy B (by omega) (by omega) d u (by simpa using q))
theorem lp   {p c:Pos} (J:Gl X "range") (G:X.mg "range"=none) (M:PA X [a,b] u) (E:starEach [a,b] X.env=[(false,eval a X.env),(false,eval b X.env)]:=by rfl) (g:starEach [b] X.env=[(false,eval b X.env)]:=by rfl) :
  PI X tg (.Call (.Name "range" p) [a,b] [] c) (Kx u):=by
 refine .of ?_;intro d s v H R I h;refine Call_ (bA I J G boot_range (TV (p9 (M c d s v H _ I h) λQ T ⟨vs,U,O,x,o⟩=>?_) (by rw[E,g]) (by rw[g];rfl)));obtain⟨i,j,e,⟨o,C,B,z⟩,q⟩:=o;subst e
 cases x with
 | cons r l=>
  cases l with
  | cons y l=>
   cases l;obtain⟨t,rfl⟩:=r;obtain⟨S,rfl⟩:=y;exact call_range_2 (oy O o C B z q)
def Py(h:TI)(g:TG)(j:TS):TS:=λD a H=>h a H λJ o=>∃W:Nat->Nat->St->Hp->Prop,(∃m,W 0 m a o)/\∀i m a H,W i m a H ->
 (J.stop i H/\D.nx a H)\/(J.go i H/\∃N:St->Hp->Prop,(∀b c,N b c->∃e,e<m/\W (i+1) e b c)/\∀x c,J.yld i H x c->g x a c λd l=>j { D with nx:=N,ct:=N,bk:=D.nx } d l)
def aA(a:WE)(h:Heap):WA:=a.filterMap λb=>(h.get? b).map λo=>(b,o)
theorem A9(c:b∈a)(e:h.get? b=some o):(b,o)∈aA a h:=List.mem_filterMap.mpr ⟨b,c,by rw[e];rfl⟩
theorem zf(c:p∈aA a h):p.1∈a/\h.get? p.1=some p.2:=by
 obtain⟨b,d,e⟩:=List.mem_filterMap.mp c
 cases q:h.get? b with
 | none=>rw[q] at e;cases e
 | some o=>
  rw[q] at e;have g:=v7 e;subst g;exact⟨d,q⟩
theorem Inv.pinned{σ:St}(I:Inv X pins σ H s)(j:∀b∈a,L8 X pins H b)(i:∀b∈a,∃o,s.heap.get? b=some o/\∀v,o.data≠.cell v):Inv X (pins++aA a s.heap) σ H s:=
 I.wX λp h=>(List.mem_append.mp h).elim (λz=>I.pin p (rj _ z)) λz=>by
  obtain⟨c,e⟩:=zf z;obtain⟨r,q,l,_⟩:=j p.1 c;obtain⟨o,g,d⟩:=i p.1 c;rw[e] at g;cases g;exact⟨e,r,q,l,d⟩
theorem Inv.R1{σ:St}(I:Inv X (pins++pl) σ H s):Inv X pins σ H s:=I.wX λp a=>I.pin p (rj _ (t7 _ a))
theorem y1(R:PassesOwn (model X.prog X.w) X.A X.env X.xe)(hc:X.calm=true)(hi:PI X tg q wi)(hg:PG X tg g)(y:qE X body tb)
  (hs:∀x,foldedSetIterable q X.env x=pure x:=by intro _;rfl):PS X (.For tg q body [] a2) (Py wi g tb):=by
 refine .of ?_;intro c s σ H D I h;refine wpAny_For (p9 (hi c s σ H _ I h) λv s1 h1=>p9 h1 λa5 s2 h2=>?_) hs;obtain⟨it,U,tn,J,H2,e,I2,T,a1,f2,W,⟨m0,w0⟩,M⟩:=h2;subst e;have p:∀{C:Hp},(∀b∈U,C b=none)->∀b∈U,L8 X c C b:=λhn b y=>⟨hn b y,(f2 b y).2⟩
 refine codeAny_forLoop_any (λn s'=>∃i l C,Inv X c l C s'/\tn i s'.heap/\(∀b∈U,C b=none)/\W i n l C) ?_ m0 ⟨0,σ,H2,I2,a1,λb y=>(f2 b y).1,w0⟩;rintro n s3 ⟨i,j,Y,I3,O,S,w3⟩;rcases M i n j Y w3 with⟨stop,qn⟩ | ⟨go,N,hN,step⟩
 ·refine T0 R (p9 (T.done X rfl rfl rfl hc i c s3 j Y X.xe I3 (p S) O stop) λr s4 ⟨hr,I4⟩=>?_);subst hr;exact Vt ⟨j,Y,I4,qn⟩
 ·refine T0 R (p9 (T.item X rfl rfl rfl hc i c s3 j Y X.xe I3 (p S) O go) λr s4 ⟨u,hr,h4⟩=>?_);subst hr;refine T0 R (p9 h4 λ_ s5 ⟨x,H5,I5,r5,y5,G,a3⟩=>?_);have a4:=I5.pinned (p a3) (T.obj _ _ G);refine T0 R (p9 (hg _ s5 j H5 x u _ a4 r5 (step x H5 y5)) λ_ s6 ⟨a0,H6,I6,q6⟩=>?_);refine T0 R (p9 (y _ s6 a0 H6 _ I6 q6) λf s7 E=>?_)
  have again:∀{a:St} {B:Hp},Inv X (c++aA U s5.heap) a B s7->N a B->∃m,m<n/\∃i l C,Inv X c l C s7/\tn i s7.heap/\(∀b∈U,C b=none)/\W i m l C:=λ{a B} z Q=>by
   obtain⟨m',hm,w7⟩:=hN a B Q;refine⟨m',hm,i+1,a,B,z.R1,T.keep _ _ _ G λb y o e=>(z.pin (b,o) (rj _ (rj _ (A9 y e)))).1,λb y=>?_,w7⟩;obtain⟨o,e,d⟩:=T.obj _ _ G b y;exact(z.pin (b,o) (rj _ (rj _ (A9 y e)))).2.1
  cases f with
  | next=>obtain⟨a,B,z,Q⟩:=E;exact again z Q
  | cont=>obtain⟨a,B,z,Q⟩:=E;exact again z Q
  | brk=>obtain⟨a,B,z,E⟩:=E;exact⟨a,B,z.R1,E⟩
  | ret v=>obtain⟨x7,a,B,z,r7,E⟩:=E;exact⟨x7,a,B,z.R1,r7,E⟩
end
abbrev R2:=V->V->Hp->VK->Prop
def N6(X:Cx)(f:Value->Value->Sem Value)(r:R2):Prop:=
 ∀(a:WA) (s:Shared) (b:St) (H:Hp) (x y:V) (v u:Value) (Q:VK),Inv X a b H s->RelV x v->RelV y u->r x y H Q ->
  wpAny (model X.prog X.w) X.A (f v u) (EP X a b Q) X.xe s
def Sk(X:Cx)(f:Value->Sem Value)(r:V->Hp->VK->Prop):Prop:=
 ∀(a:WA) (s:Shared) (b:St) (H:Hp) (x:V) (v:Value) (Q:VK),Inv X a b H s->RelV x v->r x H Q ->
  wpAny (model X.prog X.w) X.A (f v) (EP X a b Q) X.xe s
def D4(X:Cx)(f:Value)(r:List V->Hp->VK->Prop):Prop:=
 ∀(a:WA) (s:Shared) (b:St) (H:Hp) (c:List V) (d:WH) (Q:VK),Inv X a b H s->Vals c d->r c H Q ->
  wpAny (model X.prog X.w) X.A (call f d) (EP X a b Q) X.xe s
def Rp(X:Cx)(r:V->Hp->(Bool->Hp->Prop)->Prop):Prop:=
 ∀(a:WA) (s:Shared) (b:St) (H:Hp) (x:V) (v:Value) (Q:Bool->Hp->Prop),Inv X a b H s->RelV x v->r x H Q ->
  wpAny (model X.prog X.w) X.A (truthy v) (TP X a b Q) X.xe s
def Oe(r:R2)(c b:TE):TE:=λa H Q=>c a H λx e=>b a e λy d=>r x y d Q
def Ts(r:V->Hp->VK->Prop)(b:TE):TE:=λa H Q=>b a H λx c=>r x c Q
def rI(C:Int->Int->Prop)(g:Int->Int->V):R2:=λx y H Q=>∃i j,x=.int i/\y=.int j/\C i j/\Q (g i j) H
def Aj(g:Int->Int->V):R2:=λx y H Q=>∃i j,x=.int i/\y=.int j/\Q (g i j) H
def rU(g:Int->V):V->Hp->VK->Prop:=λx H Q=>∃i,x=.int i/\Q (g i) H
section
variable{X:Cx}{a b c:Expr}{ta tb tc:TE}{pos:Pos}
theorem MM(C:PE X a ta)(B:PE X b tb){σ:St}{R:V->V->Hp->Prop}(I:Inv X pins σ H s)
  (h:ta σ H λx j=>tb σ j λy d=>R x y d) {Q:WO} {f:Value->Value->Sem Value}
  (z:∀v u i x y d,Inv X pins σ d i->RelV x v->RelV y u->R x y d->wpAny (model X.prog X.w) X.A (f v u) Q X.xe i) :
  wpAny (model X.prog X.w) X.A (eval a X.env) (λv g=>wpAny (model X.prog X.w) X.A (eval b X.env) (λu e=>wpAny (model X.prog X.w) X.A (f v u) Q X.xe e) X.xe g) X.xe s:=by
 refine p9 (C pins s σ H _ I h) λv l ⟨x,j,G,p,r⟩=>?_;refine p9 (B pins l σ j _ G r) λu i ⟨y,d,E,o,q⟩=>?_;exact z v u i x y d E p o q
theorem JN(o:N6 X (binaryOp e) r)(z:PE X a ta)(p:PE X b tb):PE X (.BinOp a e b pos) (Oe r ta tb):=by
 refine .of ?_;intro d s g H Q I h;exact wpAny_BinOp (MM z p I h λv u i x y C B l j q=>o d i g C x y v u Q B l j q)
theorem QK(o:Sk X (unaryOp g) r)(p:PE X a ta):PE X (.UnaryOp g a pos) (Ts r ta):=by
 refine .of ?_;intro d s e H Q I h;exact UnaryOp_ (p9 (p d s e H _ I h) λv i ⟨x,u,q,j,l⟩=>o d i e u x v Q q j l)
theorem QV{g:Int->Int->Int}
  (rule:∀(i j:Int) (t u:Tok) (s:Shared) (Q:WO) (E:WO),C i j->Q (.int (g i j) s.toks) { s with toks:=s.toks+1 }->wpAny (model X.prog X.w) X.A (f (.int i t) (.int j u)) Q E s) :
  N6 X f (rI C λi j=>.int (g i j)):=by
 intro d s r H x y v u Q I o l h;obtain⟨i,j,rfl,rfl,p,q⟩:=h;obtain⟨t,rfl⟩:=o;obtain⟨e,rfl⟩:=l;exact rule i j t e s _ _ p ⟨.int (g i j),H,I.tok _,⟨_,rfl⟩,q⟩
theorem PK{g:Int->Int->Int}
  (rule:∀(i j:Int) (t u:Tok) (s:Shared) (Q:WO) (E:WO),Q (.int (g i j) s.toks) { s with toks:=s.toks+1 }->wpAny (model X.prog X.w) X.A (f (.int i t) (.int j u)) Q E s) :
  N6 X f (Aj λi j=>.int (g i j)):=by
 intro d s p H x y v u Q I o l h;obtain⟨i,j,rfl,rfl,q⟩:=h;obtain⟨t,rfl⟩:=o;obtain⟨e,rfl⟩:=l;exact rule i j t e s _ _ ⟨.int (g i j),H,I.tok _,⟨_,rfl⟩,q⟩
theorem Hq{g:Int->Int->Bool}
  (rule:∀(i j:Int) (t u:Tok) (s:Shared) (Q:WO) (E:WO),Q (.bool (g i j)) s->wpAny (model X.prog X.w) X.A (f (.int i t) (.int j u)) Q E s) :
  N6 X f (Aj λi j=>.bl (g i j)):=by
 intro d s p H x y v u Q I o l h;obtain⟨i,j,rfl,rfl,q⟩:=h;obtain⟨t,rfl⟩:=o;obtain⟨e,rfl⟩:=l;exact rule i j t e s _ _ ⟨.bl (g i j),H,I,rfl,q⟩
def ae(i j:Int):Prop:=0<=j/\j<=1000000/\i.natAbs<2^64
def K8(i j:Int):Prop:=(-(2^64)<i/\i<2^64)\/(-(2^64)<j/\j<2^64)
theorem K8.ok(h:K8 i j):IntMulOk i j:=by
 rcases h with⟨e,d⟩ | ⟨e,d⟩
 ·exact .of_left (intBits_le_64 e d)
 ·exact .of_right (intBits_le_64 e d)
theorem MF:N6 X (binaryOp .Add) (Aj λi j=>.int (i+j)):=PK λ_ _ _ _ _ _ _ q=>add_int q
theorem Nt:N6 X (binaryOp .Sub) (Aj λi j=>.int (i-j)):=PK λ_ _ _ _ _ _ _ q=>sub_int q
theorem Nm:N6 X (binaryOp .Mult) (rI K8 λi j=>.int (i*j)):=QV λ_ _ _ _ _ _ _ d q=>mul_int q d.ok
theorem Ft:N6 X (binaryOp .Mod) (rI (λ_ j=>0<j) λi j=>.int (i%j)):=QV λi j _ _ _ _ _ d q=>by
 exact mod_int' (by omega) (by rw[Int.fmod_eq_emod_of_nonneg i (by omega)];exact q)
theorem Nd:N6 X (binaryOp .Pow) (rI ae λi j=>.int (i^j.toNat)):=QV λ_ _ _ _ _ _ _ d q=>pow_int_small d.1 d.2.1 d.2.2 q
theorem Tp{g:Int->Int}
  (rule:∀(i:Int) (t:Tok) (s:Shared) (Q:WO) (E:WO),Q (.int (g i) s.toks) { s with toks:=s.toks+1 }->wpAny (model X.prog X.w) X.A (f (.int i t)) Q E s) :
  Sk X f (rU λi=>.int (g i)):=by
 intro d s j H x v Q I e h;obtain⟨i,rfl,q⟩:=h;obtain⟨t,rfl⟩:=e;exact rule i t s _ _ ⟨.int (g i),H,I.tok _,⟨_,rfl⟩,q⟩
theorem KN:Sk X (unaryOp .USub) (rU λi=>.int (-i)):=Tp λ_ _ _ _ _ q=>neg_int q
end
def Ln:V->V->Bool
 | .l3,.l3=>true | .l3,.int _=>true | .int _,.l3=>true | .l3,.bl _=>true | .bl _,.l3=>true | .l3,.str _=>true | .str _,.l3=>true
 | .int _,.int _=>true | .bl _,.bl _=>true | .str _,.str _=>true | .byt _,.byt _=>true
 | .int _,.str _=>true | .str _,.int _=>true | .bl _,.str _=>true | .str _,.bl _=>true
 | _,_=>false
def SI:R2:=λx y H Q=>Ln x y=true/\Q (.bl (decide (x=y))) H
def SY:R2:=λx y H Q=>Ln x y=true/\Q (.bl (!decide (x=y))) H
theorem xf:decide (V.int i=V.int j)=(i == j):=by
 rw[Vj];simp
theorem EU:decide (V.bl i=V.bl j)=(i == j):=by
 rw[Vj];simp
theorem xR:decide (V.str i=V.str j)=(i == j):=by
 rw[Vj];simp
theorem wQ:decide (V.byt i=V.byt j)=(i.toList == j.toList):=by
 rw[Vj];cases i;cases j;simp
section
variable{X:Cx}{a b c:Expr}{ta tb tc:TE}{pos:Pos}
theorem o5{σ:St}(I:Inv X pins σ H s)(q:Q (.bl k) H)(e:k=d):EP X pins σ Q (.bool d) s:=by
 subst e;exact⟨.bl k,H,I,rfl,q⟩
theorem Dp:N6 X (compareOp .Eq) SI:=by
 intro o s p H x y v u Q I l d h;obtain⟨g,q⟩:=h
 cases x with
 | l3=>
  cases l
  cases y with
  | l3=>cases d;exact PySem.EqNone.eq_none_none (o5 I q (by simp))
  | bl j=>cases d;exact PySem.EqNone.eq_none_bool (o5 I q (by simp))
  | int j=>obtain⟨e,rfl⟩:=d;exact PySem.EqNone.eq_none_int (o5 I q (by simp))
  | str j=>obtain⟨e,rfl⟩:=d;exact PySem.EqNone.eq_none_str (o5 I q (by simp))
  | _=>exact absurd (g) rm
 | bl i=>
  cases l
  cases y with
  | l3=>cases d;exact PySem.EqNone.eq_bool_none (o5 I q (by simp))
  | bl j=>cases d;exact eq_bool (o5 I q EU)
  | str j=>obtain⟨e,rfl⟩:=d;exact PySem.EqMixed.eq_bool_str (o5 I q (by simp))
  | _=>exact absurd (g) rm
 | int i=>
  obtain⟨t,rfl⟩:=l
  cases y with
  | l3=>cases d;exact PySem.EqNone.eq_int_none (o5 I q (by simp))
  | int j=>obtain⟨e,rfl⟩:=d;exact eq_int (o5 I q xf)
  | str j=>obtain⟨e,rfl⟩:=d;exact PySem.EqMixed.eq_int_str (o5 I q (by simp))
  | _=>exact absurd (g) rm
 | str i=>
  obtain⟨t,rfl⟩:=l
  cases y with
  | l3=>cases d;exact PySem.EqNone.eq_str_none (o5 I q (by simp))
  | bl j=>cases d;exact PySem.EqMixed.eq_str_bool (o5 I q (by simp))
  | int j=>obtain⟨e,rfl⟩:=d;exact PySem.EqMixed.eq_str_int (o5 I q (by simp))
  | str j=>obtain⟨e,rfl⟩:=d;exact eq_str (o5 I q xR)
  | _=>exact absurd (show false=true from g) rm
 | byt i=>
  obtain⟨t,rfl⟩:=l
  cases y with
  | byt j=>obtain⟨e,rfl⟩:=d;exact PySem.W.eq_bytes (o5 I q wQ)
  | _=>exact absurd (show false=true from g) rm
 | _=>cases y<;>exact absurd (show false=true from g) rm
theorem PQ:N6 X (compareOp .NotEq) SY:=by
 intro o s p H x y v u Q I l d h;obtain⟨g,q⟩:=h
 cases x with
 | l3=>
  cases l
  cases y with
  | l3=>cases d;exact PySem.EqNone.ne_none_none (o5 I q (by simp))
  | bl j=>cases d;exact PySem.EqNone.ne_none_bool (o5 I q (by simp))
  | int j=>obtain⟨e,rfl⟩:=d;exact PySem.EqNone.ne_none_int (o5 I q (by simp))
  | str j=>obtain⟨e,rfl⟩:=d;exact PySem.EqNone.ne_none_str (o5 I q (by simp))
  | _=>exact absurd (g) rm
 | bl i=>
  cases l
  cases y with
  | l3=>cases d;exact PySem.EqNone.ne_bool_none (o5 I q (by simp))
  | bl j=>cases d;exact ne_bool (o5 I q (Fa not EU))
  | str j=>obtain⟨e,rfl⟩:=d;exact PySem.EqMixed.ne_bool_str (o5 I q (by simp))
  | _=>exact absurd (g) rm
 | int i=>
  obtain⟨t,rfl⟩:=l
  cases y with
  | l3=>cases d;exact PySem.EqNone.ne_int_none (o5 I q (by simp))
  | int j=>obtain⟨e,rfl⟩:=d;exact ne_int (o5 I q (Fa not xf))
  | str j=>obtain⟨e,rfl⟩:=d;exact PySem.EqMixed.ne_int_str (o5 I q (by simp))
  | _=>exact absurd (show false=true from g) rm
 | str i=>
  obtain⟨t,rfl⟩:=l
  cases y with
  | l3=>cases d;exact PySem.EqNone.ne_str_none (o5 I q (by simp))
  | bl j=>cases d;exact PySem.EqMixed.ne_str_bool (o5 I q (by simp))
  | int j=>obtain⟨e,rfl⟩:=d;exact PySem.EqMixed.ne_str_int (o5 I q (by simp))
  | str j=>obtain⟨e,rfl⟩:=d;exact ne_str (o5 I q (Fa not xR))
  | _=>exact absurd (show false=true from g) rm
 | byt i=>
  obtain⟨t,rfl⟩:=l
  cases y with
  | byt j=>obtain⟨e,rfl⟩:=d;exact PySem.W.ne_bytes (o5 I q (Fa not wQ))
  | _=>exact absurd (show false=true from g) rm
 | _=>cases y<;>exact absurd (show false=true from g) rm
theorem JV:N6 X (compareOp .Lt) (Aj λi j=>.bl (decide (i<j))):=Hq λ_ _ _ _ _ _ _ q=>lt_int q
theorem OP:N6 X (compareOp .LtE) (Aj λi j=>.bl (decide (i<=j))):=Hq λ_ _ _ _ _ _ _ q=>le_int q
theorem CF:N6 X (compareOp .Gt) (Aj λi j=>.bl (decide (j<i))):=Hq λ_ _ _ _ _ _ _ q=>gt_int q
theorem QL:N6 X (compareOp .GtE) (Aj λi j=>.bl (decide (j<=i))):=Hq λ_ _ _ _ _ _ _ q=>ge_int q
theorem yW:N6 X (compareOp .In) (λx y H Q=>∃i j,x=.str i/\y=.str j/\Q (.bl (!(Builtin.Str.occurrences j i 0 j.length 1).isEmpty)) H):=by
 intro d s l H x y v u Q I g e h;obtain⟨i,j,rfl,rfl,q⟩:=h;obtain⟨t,rfl⟩:=g;obtain⟨o,rfl⟩:=e;exact in_str (o5 I q rfl)
theorem EJ:N6 X (compareOp .Is) (λx y H Q=>y=.l3/\Q (.bl (decide (x=.l3))) H):=by
 intro e s i H x y v u Q I d g h;obtain⟨rfl,q⟩:=h;cases g;refine is_none_gen (o5 I q ?_)
 cases x<;>first
  | (cases d;rfl)
  | (obtain⟨t,rfl⟩:=d;rfl)
theorem Hd:N6 X (compareOp .IsNot) (λx y H Q=>y=.l3/\Q (.bl (!decide (x=.l3))) H):=by
 intro e s i H x y v u Q I d g h;obtain⟨rfl,q⟩:=h;cases g;refine isnot_none_gen (o5 I q ?_)
 cases x<;>first
  | (cases d;rfl)
  | (obtain⟨t,rfl⟩:=d;rfl)
theorem nN:N6 X (compareOp .NotIn) (λx y H Q=>∃i j,x=.str i/\y=.str j/\Q (.bl (!(!(Builtin.Str.occurrences j i 0 j.length 1).isEmpty))) H):=by
 intro d s l H x y v u Q I g e h;obtain⟨i,j,rfl,rfl,q⟩:=h;obtain⟨t,rfl⟩:=g;obtain⟨o,rfl⟩:=e;exact notIn_str (o5 I q rfl)
theorem N6.or(h:N6 X f r)(h':N6 X f j):N6 X f (λx y H Q=>r x y H Q\/j x y H Q):=by
 intro d s e H x y v u Q I i g q;rcases q with q | q
 ·exact h d s e H x y v u Q I i g q
 ·exact h' d s e H x y v u Q I i g q
theorem j6(b:Expr)(h:d≠.In:=by decide)(e:d≠.NotIn:=by decide):behindInMarks d b=false:=by
 have i:(d == CmpOp.In)=false:=by cases d<;>first | rfl | exact absurd rfl h
 have g:(d == CmpOp.NotIn)=false:=by cases d<;>first | rfl | exact absurd rfl e
 cases b<;>simp[behindInMarks,i,g]
theorem wR(o:N6 X (compareOp e) r)(B:PE X a ta)(z:PE X b tb)(p:behindInMarks e b=false):PE X (.Compare a [e] [b] pos) (Oe r ta tb):=by
 refine .of ?_;intro d s g H Q I h;exact wpAny_Compare1 (MM B z I h λv u i x y E C l j q=>o d i g E x y v u Q C l j q) p
def OX(t:TE):TT:=λd H Q=>t d H λx e=>∃k,x=.bl k/\Q k e
theorem xa(G:N6 X (compareOp i) r)(O:PE X a ta)(M:PE X b tb)(J:behindInMarks i b=false):PT X (.Compare a [i] [b] pos) (OX (Oe r ta tb)):=by
 refine .of ?_;intro d s g H Q I h
 refine wpAny_isTrue_Compare1 (p9 (O d s g H _ I h) λv l ⟨x,H1,T,q,E⟩=>p9 (M d l g H1 _ T E) λu j ⟨y,Y,S,p,C⟩=>
  p9 (G d j g Y x y v u _ S q p C) λc s3 ⟨z,U,R,o,k,e,B⟩=>?_) J
 subst e;cases o;exact Vc ⟨U,R,B⟩
def PR(K:WR)(x:V)(H:Hp)(k:Bool):Prop:=
 match x with
 | .l3=>k=false
 | .bl b=>k=b
 | .int i=>k=(i != 0)
 | .str y=>y.length<=sizeLine/\k=((y.length:Int) != 0)
 | .byt y=>y.size<=sizeLine/\k=((y.size:Int) != 0)
 | .ref p=>(∃d,G7 K H p d/\k=!d.isEmpty)\/(∃d,P8 K H p d/\k=!d.isEmpty)\/∃e,Dd H p e/\k=!e.isEmpty
 | _=>False
theorem vL(r:KV kvs vs):(!vs.isEmpty)=!kvs.isEmpty:=by
 cases r<;>rfl
theorem iS(r:Vals xs its):(!its.toArray.isEmpty)=!xs.isEmpty:=by
 cases r<;>simp
theorem eN:(sizeLine:Nat)<2^63:=by decide
theorem LI:Rp X (λx H Q=>∃k,PR X.K x H k/\Q k H):=by
 intro B s J H x v Q I o h;obtain⟨k,e,q⟩:=h;have M:sizeLine=16777216:=GM
 cases x with
 | l3=>
  cases o;have d:k=false:=e;subst d;exact truthy_none ⟨H,I,q⟩
 | bl b=>
  cases o;have d:k=b:=e;subst d;exact Vc ⟨H,I,q⟩
 | int i=>
  obtain⟨t,rfl⟩:=o;have d:k=(i != 0):=e;subst d;exact PySem.P.truthy_int ⟨H,I,q⟩
 | str y=>
  obtain⟨t,rfl⟩:=o;obtain⟨E,d⟩:y.length<=sizeLine/\k=((y.length:Int) != 0):=e;subst d;exact PySem.P.truthy_str (by omega) ⟨H,I.tok _,q⟩
 | byt y=>
  obtain⟨t,rfl⟩:=o;obtain⟨E,d⟩:y.size<=sizeLine/\k=((y.size:Int) != 0):=e;subst d;exact PySem.W.truthy_bytes (by omega) ⟨H,I.tok _,q⟩
 | ref p=>
  cases o;have d:(∃l,G7 X.K H p l/\k=!l.isEmpty)\/(∃l,P8 X.K H p l/\k=!l.isEmpty)\/∃g,Dd H p g/\k=!g.isEmpty:=e;rcases d with⟨l,u,d⟩ | ⟨l,u,d⟩ | ⟨g,u,d⟩
  ·subst d;obtain⟨z,r,pl,C⟩:=I.list u;have j:=r.length;exact wpAny_truthy_list pl.isList (by simp only[sh];omega) ⟨H,I.tok _,by rw[iS r];exact q⟩
  ·subst d;obtain⟨z,r,pl,C⟩:=I.tuple u;have j:=r.length;exact truthy_tuple pl (by simp only[sh];omega) ⟨H,I.tok _,by rw[iS r];exact q⟩
  ·subst d;obtain⟨C,G,vs,r,m⟩:g.length<=sizeLine/\(p == sysModules)=false/\∃vs,KV g vs/\s.heap.DictOf (i7 X.prog X.w) p vs:=(show p4 X.prog X.w H s.heap p (.dK g) from u.ok I.hok)
   have j:g.length=vs.length:=VJ r;exact wpAny_truthy_dict G m (by omega) ⟨H,I.tok _,by rw[vL r];exact q⟩
 | _=>exact(show False from e).elim
theorem Dr(p:PE X a ta)(o:∀d,isTrue a X.env d=(do let v <-d;standAt a.pos;holding [v] (truthy v))) :
  PT X a (λσ H Q=>ta σ H λx g=>∃k,PR X.K x g k/\Q k g):=by
 refine .of ?_;intro e s σ H Q I h;exact isTrue_plain (p9 (p e s σ H _ I h) λv i ⟨x,r,q,j,l⟩=>LI e i σ r x v Q q j l) (o _)
theorem uq:N6 X (binaryOp .Add) (λx y H Q=>∃i j,x=.str i/\y=.str j/\i.length+j.length<=sizeLine/\Q (.str (i++j)) H):=by
 intro d s p H x y v u Q I l g h;obtain⟨i,j,rfl,rfl,o,q⟩:=h;obtain⟨t,rfl⟩:=l;obtain⟨e,rfl⟩:=g;exact add_str (λe tk=>⟨.str (i++j),H,I.tok _,⟨_,rfl⟩,q⟩) o
theorem vals1(r:Vals [x] d):∃u,d=[u]/\RelV x u:=by
 cases r with
 | cons g e=>cases e;exact⟨_,rfl,g⟩
theorem vals2(r:Vals [x,y] e):∃u d,e=[u,d]/\RelV x u/\RelV y d:=by
 cases r with
 | cons j i=>
  cases i with
  | cons h g=>cases g;exact⟨_,_,rfl,j,h⟩
theorem eE(g:X.calm=true):D4 X (.builtin "max") (λxs H Q=>∃i j,xs=[.int i,.int j]/\Q (.int (if j>i then j else i)) H):=by
 intro e s l H xs p Q I r h;obtain⟨i,j,rfl,q⟩:=h;obtain⟨u,o,rfl,⟨t,rfl⟩,⟨v,rfl⟩⟩:=vals2 r;refine max_two_ints (I.ok.hd g) λx tk k=>⟨_,H,I.kept k,?_,q⟩
 by_cases d:j>i
 ·rw[ry d,ry d];exact⟨_,rfl⟩
 ·rw[ro d,ro d];exact⟨_,rfl⟩
theorem yO:D4 X (.type "int") (λxs H Q=>(∃i,xs=[.int i]/\Q (.int i) H)\/∃k,xs=[.bl k]/\Q (.int (if k then 1 else 0)) H):=by
 intro d s g H xs j Q I r h;rcases h with⟨i,rfl,q⟩ | ⟨k,rfl,q⟩
 ·obtain⟨u,rfl,t,rfl⟩:=vals1 r;exact call_int_int ⟨.int i,H,I,⟨_,rfl⟩,q⟩
 ·obtain⟨u,rfl,e⟩:=vals1 r;cases e;exact call_int_bool ⟨.int (if k then 1 else 0),H,I.tok _,⟨_,rfl⟩,q⟩
def Lv(K:WR)(x:V)(H:Hp)(n:Nat):Prop:=
 match x with
 | .str y=>y.length<=sizeLine/\n=y.length
 | .byt y=>y.size<=sizeLine/\n=y.size
 | .ref p=>(∃d,G7 K H p d/\n=d.length)\/∃d,P8 K H p d/\n=d.length
 | _=>False
theorem C6:D4 X (.builtin "len") (λxs H Q=>∃x n,xs=[x]/\Lv X.K x H n/\Q (.int n) H):=by
 intro v s C H xs E Q I r h;obtain⟨x,n,rfl,e,q⟩:=h;obtain⟨u,rfl,i⟩:=vals1 r;have G:=GM
 cases x with
 | str y=>
  obtain⟨t,rfl⟩:=i;obtain⟨B,g⟩:y.length<=sizeLine/\n=y.length:=e;subst g;exact len_str (by omega) ⟨.int _,H,I.tok _,⟨_,rfl⟩,q⟩
 | byt y=>
  obtain⟨t,rfl⟩:=i;obtain⟨B,g⟩:y.size<=sizeLine/\n=y.size:=e;subst g;exact PySem.W.len_bytes (by omega) ⟨.int _,H,I.tok _,⟨_,rfl⟩,q⟩
 | ref p=>
  cases i;have g:=e;rcases g with⟨xs,o,g⟩ | ⟨xs,o,g⟩
  ·subst g;obtain⟨l,j,pl,z⟩:=I.list o;have d:=j.length;exact Calls.call_len_list pl.isList (by simp only[sh];omega) ⟨.int xs.length,H,I.tok _,⟨_,by simp only[sh];rw[d]⟩,q⟩
  ·subst g;obtain⟨l,j,pl,z⟩:=I.tuple o;have d:=j.length;exact len_tuple pl (by simp only[sh];omega) ⟨.int xs.length,H,I.tok _,⟨_,by simp only[sh];rw[d]⟩,q⟩
 | _=>exact(e).elim
end
structure Hk(h:Heap)(x dx C:Addr)(mA:WM):Prop where
 obj:h.get? x=some (PySem.W.instObj C dx)
 ns:h.Ns1 dx mA
 ne:dx≠x
theorem Ae{h:Heap}{d:WM}(n:h.Ns1 i d):∃c,h.get? i=some c/\∀name,PySem.W.lookIn name c=some (d name):=by
 obtain⟨o,g,v,l,hd,r,_,p⟩:=n;refine⟨o,l,λname=>?_⟩;have e:=p name;unfold nsFind findBy at e;rw[<-Array.find?_toList] at e;unfold PySem.W.lookIn;rw[hd];dsimp only;split
 ·rename_i y q
  rw[q] at e;exact Fa some e
 ·rename_i q
  rw[q] at e
  have a:g.toList.any (·.refKey)=false:=by
   rw[TZ];intro y j;obtain⟨z,t,b⟩:=r y (Array.mem_toList_iff.mp j);simp[DictEntry.refKey,b]
  have u:¬g.toList.any (·.refKey)=true:=by rw[a];exact rm
  rw[ro u];exact Fa some e
theorem Hk.look(I:Hk h x c C b):∃a,PySem.W.InstAt h x (PySem.W.instObj C c) C (some a)/\∀name,PySem.W.lookIn name a=some (b name):=
 let ⟨a,d,e⟩:=Ae I.ns
 ⟨a,⟨I.obj,rfl,rfl,d⟩,e⟩
section
variable{prog:Program}{w:World}{A:Around}{E:WO}{s:Shared}{K:WR}{x dx C f:Addr}{mA:WM}{name:Str}{v:Value}
theorem get_map{Q:WO}(X:K.In s.heap)(I:Hk s.heap x dx C mA)(g:PySem.W.plainGet K C name=true)(e:PySem.W.hasDictIn K C=true)
  (i:PySem.W.findIn K (.ref C) name=some none) (c:mA name=some v) (b:PySem.W.handedIn v=true) (h:Q v { s with toks:=s.toks+1 }) :
  wpAny (model prog w) A (getAttr (.ref x) name a) Q E s:=by
 obtain⟨j,J,d⟩:=I.look;exact PySem.W.get_value X J (PySem.W.plainGet_of g).1 (PySem.W.findObj_own e i rfl (by rw[d,c])) b h
end
theorem dC.some_of(r:dC (some v) o):∃u,o=some u/\RelV v u:=by
 cases o with
 | none=>exact(r).elim
 | some u=>exact⟨u,rfl,r⟩
section
variable{P:Program}{w:World}{H H':Hp}{h h':Heap}{a C dx:Addr}{fs fs':List (Str×V)}
theorem GC(hok:U8 P w H h)(e:H a=some (.ins C dx fs)):∃b,Hk h a dx C b/\(∀f,dC (fs.lookup f) (b f))/\PySem.Within b (fs.map (·.1))/\fs.length<=1000/\H dx=some (.own a):=by
 obtain⟨d,z,ne,ob,b,n,r,q⟩:=(hok a _ e)
 exact⟨b,⟨ob,n,ne⟩,r,q,z,d⟩
end
structure Sn(K:WR)(C:Addr):Prop where
 pg:PySem.W.plainGet K C Str.empty=true
 hd:PySem.W.hasDictIn K C=true
 po:PySem.W.plainOver K C=true
 sa:PySem.W.findIn K (.ref C) "__setattr__"=some (some (.builtin "object.__setattr__"))
theorem Sn.get{K:WR}(c:Sn K C)(f:Str):PySem.W.plainGet K C f=true:=c.pg
section
variable{X:Cx}{pins:WA}{σ:St}{H:Hp}{s:Shared}{a C dx:Addr}{fs:List (Str×V)}{f:Str}{v:V}{A:Around}{E:WO}
end
def Ry(X:Cx)(d:Operator)(c:V->V->Hp->VK->Prop):Prop:=
 ∀(a:WA) (s:Shared) (b:St) (H:Hp) (x y:V) (u v:Value) (Q:VK),Inv X a b H s->RelV x u->RelV y v->c x y H Q->wpAny (model X.prog X.w) X.A (inplaceOp d u v) (EP X a b Q) X.xe s
section
variable{X:Cx}{o e value:Expr}{f:Str}{pos pos' tpos:Pos}{ta tv:TE}
end
section
variable{X:Cx}{pins:WA}{σ:St}{H:Hp}{s:Shared}{A:Around}{E Q:WO}{c:Value}{b:Bool}
inductive cw(K:WR)(H:Hp):V->Value->Prop where
 | l3:cw K H .l3 (.type "NoneType")
 | bl (x:Bool):cw K H (.bl x) (.type "bool")
 | int (i:Int):cw K H (.int i) (.type "int")
 | str (x:Str):cw K H (.str x) (.type "str")
 | flt (x:UInt64):cw K H (.flt x) (.type "float")
 | lst {a:Addr} {xs:List V} (e:H a=some (.lst xs)):cw K H (.ref a) (.type "list")
 | frz {a:Addr} {o:Obj} {xs:List V} (e:H a=some (.frz o (.lst xs))):cw K H (.ref a) (.type "list")
 | tup {a:Addr} {xs:List V} (e:H a=some (.tup xs)):cw K H (.ref a) (.type "tuple")
 | dK {a:Addr} {kvs:List (Key×V)} (e:Dd H a kvs):cw K H (.ref a) (.type "dict")
 | dT {a:Addr} {kvs:List (List Key×V)} (e:H a=some (.dT kvs)):cw K H (.ref a) (.type "dict")
 | ins {a C dx:Addr} {fs:List (Str×V)} (e:H a=some (.ins C dx fs)) (cl:Sn K C) (ha:PySem.W.findIn K (.ref C) "__class__"=some (some (.builtin "object.__class__")))
   (hn:PySem.W.specialIn K (.builtin "object.__class__") "__get__"=some (some (.builtin "getset_descriptor.__get__"))) (htk:PySem.W.takesIn K (.builtin "object.__class__")=some true)
   (hm:PySem.W.mroIn K C (.type "object")=some true):cw K H (.ref a) (.ref C)
theorem yL(I:Inv X pins σ H s)(d:RelV x u)(ty:cw X.K H x t)(e:PySem.W.kitOne X.K t c=some b)(h:∀tk,Q (.bool b) { s with toks:=tk }) :
  wpAny (model X.prog X.w) A (call (.builtin "isinstance") [u,c]) Q E s:=by
 cases ty with
 | l3=>cases(d);exact FS PySem.W.kitx_none I.pq True.intro e (λz=>nomatch z) h
 | bl y=>cases(d);exact FS PySem.W.kitx_bool I.pq True.intro e (λz=>nomatch z) h
 | int i=>obtain⟨t,q⟩:=(d);cases q;exact FS PySem.W.kitx_int I.pq True.intro e (λz=>nomatch z) h
 | str y=>obtain⟨t,q⟩:=(d);cases q;exact FS PySem.W.kitx_str I.pq True.intro e (λz=>nomatch z) h
 | flt y=>obtain⟨t,q⟩:=(d);cases q;exact FS PySem.W.kitx_float I.pq True.intro e (λz=>nomatch z) h
 | @lst a r g=>
  cases(d);obtain⟨_,_,n,_,j⟩:=(I.hok a _ g)
  exact FS PySem.W.kitx_list I.pq ⟨_,j,rfl⟩ e (λz=>nomatch z) h
 | @frz a ob r g=>
  cases(d);obtain⟨_,_,_,n,_,j⟩:=(I.hok a _ g)
  exact FS PySem.W.kitx_list I.pq ⟨_,j,rfl⟩ e (λz=>nomatch z) h
 | @tup a r g=>
  cases(d);obtain⟨_,_,_,p⟩:=(I.hok a _ g)
  obtain⟨o,j,v,_⟩:=p;exact FS PySem.W.kitx_tuple I.pq ⟨o,j,v⟩ e (λz=>nomatch z) h
 | @dK a l g=>
  cases(d);obtain⟨_,_,vs,_,p⟩:=(g.ok I.hok)
  obtain⟨o,S,T,j,v,_⟩:=p;exact FS PySem.W.kitx_dict I.pq ⟨o,j,v.1⟩ e (λz=>nomatch z) h
 | @dT a l g=>
  cases(d);obtain⟨_,_,r,_,o,S,T,j,v,_⟩:=(I.hok a _ g)
  exact FS PySem.W.kitx_dict I.pq ⟨o,j,v.1⟩ e (λz=>nomatch z) h
 | @ins a C dx fs g cl R G B M=>
  cases(d);obtain⟨Y,O,_⟩:=GC I.hok g;obtain⟨U,J,_⟩:=O.look;exact FS (PySem.W.kitx_own (cl.get _) cl.hd R G B M) I.pq J e (λz=>nomatch z) h
end
structure E7(k:Nat)(A:Around):Prop where
 hd:A.handled=none
 dp:A.depth+3*k+5<recursionLimit
 un:A.units+16*k+200<cLine
 gd:A.guards=some []
theorem E7.mono(r:E7 k A)(h:j<=k):E7 j A:=⟨r.hd,by have:=r.dp;omega,by have:=r.un;omega,r.gd⟩
theorem E7.deeper(r:E7 (k+1) A)(env:Env):E7 k (A.deeper env):=
 ⟨r.hd,by have:=r.dp;show A.depth+1+3*k+5<_;omega,by have:=r.un;show A.units+3+16*k+200<_;omega,r.gd⟩
theorem E7.depth(r:E7 k A):A.depth<recursionLimit:=by have:=r.dp;omega
theorem E7.units(r:E7 k A):A.units+64<cLine:=by have:=r.un;omega
def Sa:TA:=λ_ H Q=>Q [] H
def Ku(c:TE)(tr:TA):TA:=λa H Q=>c a H λx e=>tr a e λb d=>Q (x::b) d
section
variable{X:Cx}{e:Expr}{es:WI}{te:TE}{t:TA}{pos:Pos}
theorem M7:PA X [] Sa:=.of <| λ_ _ _ _ H Q I h=>Wb ⟨[],H,I,.nil,h⟩
theorem wV(q:PE X e te)(p:PA X es t)(o:starEach (e::es) X.env=(false,eval e X.env)::starEach es X.env:=by rfl):PA X (e::es) (Ku te t):=by
 refine .of ?_;intro pos a s b H Q I h;rw[o];refine Ux (p9 (q a s b H _ I h) λu d ⟨x,z,v,i,l⟩=>?_);exact p9 (p pos a d b z _ v l) λB C ⟨c,y,r,g,j⟩=>⟨x::c,y,r,.cons i g,j⟩
def Rr(t:TA):TE:=λc H Q=>t c H λa b=>a.length<=sizeLine/\∀p,b p=none->Q (.ref p) (upd b p (.tup a))
def RP(t:TA):TE:=λc H Q=>t c H λa b=>a.length<=sizeLine/\∀p,b p=none->Q (.ref p) (upd b p (.lst a))
theorem nq(h:PA X es t):PE X (.Tuple es l pos) (Rr t):=by
 refine .of ?_;intro a s i H Q I p;refine wpAny_Tuple_spliced (p9 (h pos a s i H _ I p) λo c ⟨j,g,d,r,z,q⟩=>⟨by rw[<-r.length];exact z,?_⟩);have v:=d.hok.fresh (oT _);refine⟨.ref c.heap.objs.size,upd g c.heap.objs.size (.tup j),d.laid  (λb u e=>hD _ e) (oT _) ?_,rfl,q _ v⟩;exact⟨z,o,r,⟨_,sj _ rfl,rfl,_,rfl⟩⟩
theorem Au(h:PA X es t):PE X (.List es pos) (RP t):=by
 refine .of ?_;intro a s i H Q I o;refine wpAny_List_spliced (p9 (h pos a s i H _ I o) λl c ⟨j,g,d,r,z,q⟩=>⟨by rw[<-r.length];exact z,?_⟩);have p:=d.hok.fresh (oT _);refine⟨.ref c.heap.objs.size,upd g c.heap.objs.size (.lst j),d.laid  (λb u e=>hD _ e) (oT _) ?_,rfl,q _ p⟩;exact⟨z,l,0,r,sj _ rfl⟩
end
abbrev Sp:=List V->Hp->VK->XK->Prop
abbrev we:=List Env->Hp->Shared->XK->Value->Shared->Prop
structure HQ(P:Program)(w:World)(K:WR)(mg:WM)(base:Heap)(A:Around)(outer:List Env)(s:Shared)(H:Hp):Prop where
 frames:A.frames=some outer
 mod:Mod K mg base
 bs:∀b o,base.get? b=some o->s.heap.get? b=some o/\H b=none
 bsz:base.objs.size<=s.heap.objs.size
 fC:s.heap.FunFrames base outer
 frf:∀b∈Z5 outer,H b=none
 hok:U8 P w H s.heap
 bare:AllBare s.gens
def CE(outer:List Env)(P:Program)(w:World)(H:Hp)(s:Shared)(Q:VK)(u:Value)(a:Shared):Prop:=
 ∃v b,a.os=s.os/\AllBare a.gens/\Un (Z5 outer) [] H b s.heap a.heap/\U8 P w b a.heap/\RelV v u/\Q v b
def CR(CX:we)(outer:List Env)(P:Program)(w:World)(H:Hp)(s:Shared)(Q:VK)(E:XK)(r:Result)(a:Shared):Prop:=
 match r with
 | .ok (.ret u)=>CE outer P w H s Q u a
 | .ok _=>False
 | .error e=>CX outer H s E e a
structure p3(P:Program)(w:World)(K:WR)(mg:WM)(base:Heap)(CX:we)(k:Nat)(f:Addr)(fd:FuncData)(ps:WG)(sp:Sp):Prop where
 len:∀vs H Q E,sp vs H Q E->vs.length=ps.length
 run:∀(A:Around) (outer:List Env) (s:Shared) (H:Hp) (args:Args) (us:WH) (vs:List V) (Q:VK) (E:XK),E7 k A->HQ P w K mg base A outer s H->BindsTo s fd args (ps.zip us)->Vals vs us->sp vs H Q E ->
  codeAny (model P w) A (.call (.ref f) args) (CR CX outer P w H s Q E) s
theorem p3.mono{K:WR}(F:p3 P w K mg base CX j f b ps sp)(h:j<=k) :
  p3 P w K mg base CX k f b ps sp:=⟨F.len,λA outer s H a c vs Q E d=>F.run A outer s H a c vs Q E (d.mono h)⟩
theorem p3.imp{K:WR}(F:p3 P w K mg base CX k f c ps sp)
  (h:∀vs H Q E,a vs H Q E->sp vs H Q E):p3 P w K mg base CX k f c ps a:=
 ⟨λvs H Q E q=>F.len vs H Q E (h _ _ _ _ q),λA outer s H b d vs Q E i j l e g=>F.run A outer s H b d vs Q E i j l e (h _ _ _ _ g)⟩
section
variable{X:Cx}{pins:WA}{σ:St}{H:Hp}{s s':Shared}
theorem Inv.Sf(I:Inv X pins σ H s):HQ X.prog X.w X.K X.mg X.base X.A X.stack s H:=
 ⟨I.ok.frames,I.ok.mod,I.bs,AC I.ok.bsz I.sz,I.stack,I.mi,I.hok,I.bare⟩
theorem Inv.after(I:Inv X pins σ H s)(h:CE X.stack X.prog X.w H s Q u s'):EP X pins σ Q u s':=by
 obtain⟨v,e,os,bare,un,hok,r,q⟩:=h;obtain⟨c,g,d,t,a⟩:=s';obtain rfl:a=s.os:=os;exact⟨v,e,I.call      un hok bare (λb z=>absurd z (by simp)),r,q⟩
end
def Qr(sp:Sp)(a:List V)(E:XK)(t:TA):TE:=λb H Q=>t b H λvs c=>sp (vs++a) c Q E
def Binds(K:WR)(b:FuncData)(ps:WG)(ds:WH):Prop:=
 ∀(s:Shared) (a:WH),K.In s.heap->(a++ds).length=ps.length->BindsTo s b ⟨a,[]⟩ (ps.zip (a++ds))
theorem Binds.all{K:WR}(h:∀a:WH,a.length=ps.length->bindArgs c ⟨a,[]⟩=pure (ps.zip a)):Binds K c ps []:=λs a _ b=>by
 rw[tz] at b ⊢;exact .of_eq (h a b)
def Passes(CX:we)(X:Cx)(E:XK):Prop:=∀(a:WA) (c:St) (H:Hp) (s:Shared) (e:Value) (b:Shared),Inv X a c H s->CX X.stack H s E e b->X.xe e b
section
variable{X:Cx}{CX:we}{k:Nat}{f C:Addr}{fd:FuncData}{ps:WG}{sp:Sp}{dvs:List V}{ds:WH}{E:XK}{x m:Str}{p pos apos:Pos}{e o:Expr}{es:WI}{ta:TE}{t:TA}
theorem Mx{σ:St}(F:p3 X.prog X.w X.K X.mg X.base CX k f fd ps sp)(i:E7 k X.A)(l:Binds X.K fd ps ds)(hd:Vals dvs ds)(g:Passes CX X E)
  (I:Inv X pins σ H s) (r:Vals vs a) (h:sp (vs++dvs) H Q E):wpAny (model X.prog X.w) X.A (call (.ref f) a) (EP X pins σ Q) X.xe s:=by
 have c:=r.append hd;have j:(a++ds).length=ps.length:=by rw[<-c.length];exact F.len _ _ _ _ h
 refine wpAny_call (US (F.run X.A X.stack s H ⟨a,[]⟩ (a++ds) (vs++dvs) Q E i I.Sf (l s a I.pq j) c h) λr d b=>?_)
 cases r with
 | error e=>exact g pins σ H s e d I b
 | ok q=>
  cases q with
  | ret u=>exact I.after b
  | next=>exact False.elim b
  | brk=>exact False.elim b
  | cont=>exact False.elim b
theorem cZ(F:p3 X.prog X.w X.K X.mg X.base CX k f fd ps sp)(j:E7 k X.A)(v:Gl X x)(l:X.mg x=some (.ref f))(u:PySem.W.keepIn X.K (.ref f)=true)(z:Binds X.K fd ps ds)(hd:Vals dvs ds)(i:Passes CX X E)
  (B:PA X (e::es) t) (c:(x == ("__debug__" : Str))=false:=by decide) (y:starEach (e::es) X.env=(false,eval e X.env)::starEach es X.env:=by rfl) (b:(backTo pos (starEach es X.env)).any (·.1)=false:=by rfl) :
  PE X (.Call (.Name x p) (e::es) [] pos) (Qr sp dvs E t):=by
 refine .of ?_;intro a s g H Q I h;refine UV (yf I v l ?_ c);refine PySem.W.callWith_K  I.ok.mod.kin u (p9 (B pos a s g H _ I h) λG J ⟨vs,M,d,r,q⟩=>⟨d.pq,?_⟩) y b;exact Mx F j z hd i d r q
end
section
variable{X:Cx}{CX:we}{k:Nat}{f C:Addr}{fd:FuncData}{ps ks:WG}{sp:Sp}{E:XK}{x m:Str}{p pos apos kpos:Pos}{e o:Expr}{es:WI}{kws:List Keyword}{te ta:TE}{t tk:TA}{nm:Option Str}
variable{g:WH->WH->WH}{gV:List V->List V->List V}
end
structure i3(N P:WG)(sc:Scope):Prop where
 kind:sc.kind=.function
 co:sc.isCoroutine=false
 gen:sc.isGenerator=false
 nd:N.Nodup
 pre:N.take P.length=P
 par:∀x∈P,sc.names.lookup x=some .local\/sc.names.lookup x=some .cell
 nofree:∀y∈sc.names,y.2≠.free
theorem lJ{kindOf:Str->Option NameKind}:∀{binds:WD} {m:WM},(∀v,(x,v)∉binds)->bindL kindOf binds m x=m x
 | [],_,_=>rfl
 | (n,v)::r,m,h=>by
  unfold bindL;rw[lJ λw hw=>h w (hQ _ hw)];split
  ·have:x≠n:=by rintro rfl;exact h v re
   simp[this]
  ·rfl
theorem lW{kindOf:Str->Option NameKind}:∀{binds:WD} {m:WM},(∀v,(x,v)∉binds)->bindC kindOf binds m x=m x
 | [],_,_=>rfl
 | (n,v)::r,m,h=>by
  unfold bindC;rw[lW λw hw=>h w (hQ _ hw)];split
  ·rfl
  ·have:x≠n:=by rintro rfl;exact h v re
   simp[this]
theorem ku{kindOf:Str->Option NameKind}{x:Str}{v:Value}:∀{P:WG} {vs:WH} {i:Nat} {m:WM},P.Nodup->P[i]?=some x->vs[i]?=some v->kindOf x=some .local ->
  bindL kindOf (P.zip vs) m x=some v
 | [],_,_,_,_,h,_,_=>by simp at h
 | _::_,[],_,_,_,_,h,_=>by simp at h
 | p::P,w::vs,0,m,nd,b,a,c=>by
  simp at b a;subst b;subst a;show bindL kindOf ((p,w)::P.zip vs) m p=_;unfold bindL;rw[lJ λv d=>(List.nodup_cons.mp nd).1 (VQ d).1,ry c];simp
 | p::P,w::vs,i+1,m,nd,b,a,c=>by
  unfold bindL;exact ku  (List.nodup_cons.mp nd).2 (by simpa using b) (by simpa using a) c
theorem lP{kindOf:Str->Option NameKind}{x:Str}{v:Value}:∀{P:WG} {vs:WH} {i:Nat} {m:WM},P.Nodup->P[i]?=some x->vs[i]?=some v->kindOf x≠some .local ->
  bindC kindOf (P.zip vs) m x=some v
 | [],_,_,_,_,h,_,_=>by simp at h
 | _::_,[],_,_,_,_,h,_=>by simp at h
 | p::P,w::vs,0,m,nd,b,a,c=>by
  simp at b a;subst b;subst a;show bindC kindOf ((p,w)::P.zip vs) m p=_;unfold bindC;rw[lW λv d=>(List.nodup_cons.mp nd).1 (VQ d).1,ro c];simp
 | p::P,w::vs,i+1,m,nd,b,a,c=>by
  unfold bindC;exact lP  (List.nodup_cons.mp nd).2 (by simpa using b) (by simpa using a) c
def start(N:WG)(vs:List V):St:=vs.map some++List.replicate (N.length-vs.length) none
def eR(CX:we)(P:Program)(w:World)(K:WR)(mg:WM)(base:Heap)(N:WG)(a:Str)(scope:Scope)(f:Addr)(c:Value)(A:Around)(outer:List Env)(s:Shared)(H:Hp)(E:XK):Cx where
 prog:=P
 w:=w
 K:=K
 mg:=mg
 base:=base
 A:=A.deeper (envOfC a scope s.heap.objs.size f c)
 N:=N
 s₀:=s
 H₀:=H
 env:=envOfC a scope s.heap.objs.size f c
 outer:=outer
 stack:=envOfC a scope s.heap.objs.size f c::outer
 ex:=[]
 calm:=true
 fn:=λ_=>true
 pn:=[]
 xe:=λe d=>wpAny (model P w) (A.deeper (envOfC a scope s.heap.objs.size f c)) (leaving (envOfC a scope s.heap.objs.size f c) e) (λ_ b=>CX outer H s E e b) (λg b=>CX outer H s E g b) d
theorem sf{a:Scope}(h:a.names.lookup x=some .cell):∃c,(cellsFrom n a.names []).lookup x=some c:=by
 have q:=PySem.W.cellsFrom_some a.names n [] (.inl h);exact Option.isSome_iff_exists.mp q
theorem zH{K:WR}
  (S:i3 N ps scope) (hd:A.handled=none) (j:HQ P w K mg base A outer s H) (X:vs.length=ps.length) (r:Vals vs M)
  (x:InCallC s s.heap.objs.size (bindL (envOfC d scope s.heap.objs.size f J).kindOf (ps.zip M) λ_=>none) (cellsFrom (s.heap.objs.size+1) scope.names []) (bindC (envOfC d scope s.heap.objs.size f J).kindOf (ps.zip M) λ_=>none) O) :
  Inv (eR CX P w K mg base N d scope f J A outer s H E) [] (start N vs) H O:=by
 have T:ps.length<=N.length:=by have:=Fa List.length S.pre;rw[vy] at this;omega
 obtain⟨I,tk,rfl,R⟩:=x.done;have l:∀b:Addr,b∉(eR CX P w K mg base N d scope f J A outer s H E).ex:=λb z=>absurd (show b∈([]:WE) from z) (by simp)
 refine⟨⟨j.mod,S.kind,rfl,rfl,oT _,λy z c I g=>?_,λy o=>?_,λy c _ h=>?_,λ_=>hd,Around.frames_deeper j.frames,.inr ⟨rfl,rfl⟩,λb z=>absurd z (l b),j.bs,j.bsz,λb _ _=>l b,λb z=>absurd z (l b),j.fC,j.frf⟩,
  rfl,j.bare,Un.kept R,⟨_,x.toInCall.ns,λi y v I g Y=>?_⟩,λy c h=>⟨_,x.cell y c h⟩,j.hok.fresh (oT _),λy c h=>?_,λp C=>absurd (show p∈([]:WA) from C) (by simp),j.hok.kept R,?_⟩
 ·exact name_of_addr x.apart (Tx I) (Tx g)
 ·have o:scope.names.lookup y=some .cell\/scope.names.lookup y=some .free:=o;rcases o with o | o
  ·exact sf o
  ·exact absurd rfl (S.nofree _ (Tx o))
 ·exact IN (x.above y c (Tx h))
 ·have G:i<vs.length:=by
   unfold start at g
   by_cases G:i<vs.length
   ·exact G
   ·rw[wT (by simpa using G)] at g;rw[List.getElem?_replicate] at g;split at g<;>cases g
  have U:vs[i]?=some v:=by
   unfold start at g;rw[ud (by simpa using G),rx] at g
   cases e:vs[i]? with
   | none=>rw[e] at g;cases g
   | some a=>rw[e] at g;cases g;rfl
  obtain⟨u,Q,rv⟩:=r.get U
  have C:ps[i]?=some y:=by
   rw[<-S.pre,FM (by omega)];exact I
  have B:ps.Nodup:=by rw[<-S.pre];exact S.nd.sublist (TW _ _)
  refine⟨u,rv,?_⟩;rcases S.par y (sg C) with k | k
  ·exact .inl ⟨k,ku B C Q k⟩
  ·obtain⟨c,e⟩:=sf (n:=s.heap.objs.size+1) k;refine .inr ⟨.inl k,c,e,?_⟩;have q:=x.cell y c e;rw[lP B C Q (by show scope.names.lookup y≠_;rw[k];decide)] at q;exact q
 ·exact j.hok.fresh (IN (x.above y c (Tx h)))
 ·unfold start;show _=N.length;rw[tt,dL,TQ];omega
theorem Kn{K:WR}{body:WN}{X kV B U c ct oc:Value}
  {G:Array (WS)}   (lk:K.lookup f=some ⟨oc,od,.func (PySem.W.fnOf name a params body scope X kV B U an c ct),G⟩) (R:PySem.W.codeIn K c a=true) (S:i3 N ps scope)
  (len:∀vs H Q E,sp vs H Q E->vs.length=ps.length)
  (i:∀(A:Around) (outer:List Env) (s:Shared) (H:Hp) (vs:List V) (Q:VK) (E:XK),E7 k (A.deeper (envOfC a scope s.heap.objs.size f c))->sp vs H Q E ->
   ∃t,qE (eR CX P w K mg base N a scope f c A outer s H E) body t/\t { nx:=λ_ g=>Q .l3 g,rt:=Q } (start N vs) H) :
  p3 P w K mg base CX (k+1) f (PySem.W.fnOf name a params body scope X kV B U an c ct) ps sp:=by
 refine⟨len,λA outer s H Y us vs Q E O z hb r l=>?_⟩;have hl:=len _ _ _ _ l;have KX:=z.mod.kin.keeps λb o e=>(z.bs b o e).1;have M:=z.mod.nolimit.keeps λb o e=>(z.bs b o e).1
 have h:∀y∈ps.zip us,scope.names.lookup y.1=some .local\/(scope.names.lookup y.1=some .cell/\((cellsFrom (s.heap.objs.size+1) scope.names []).lookup y.1).isSome=true):=λ⟨n,v⟩ hy=>by
  rcases S.par n (VQ hy).1 with q | q
  ·exact .inl q
  ·exact .inr ⟨q,PySem.W.cellsFrom_some _ _ _ (.inl q)⟩
 refine codeAny_call_function O.depth (KX _ _ lk) rfl S.co S.gen rfl (PySem.W.codeRec_of KX R) (hb _ _ _ _ ?_);refine wpAny_newFunctionEnv_cells S.kind h λenv he T x=>?_;subst he;refine⟨M.keeps x.toInCall.keep,codeAny_func ?_⟩;obtain⟨t,ht,hq⟩:=i A outer s H vs Q E (O.deeper _) l;have I:Inv (eR CX P w K mg base N a scope f c A outer s H E) [] (start N vs) H T:=zH S O.hd z hl r x;refine v6 (ht [] T (start N vs) H _ I hq) (λfl C j=>?_) λe C j=>j
 have p:∀{d:St} {g:Hp} {v:V} {u:Value},Inv (eR CX P w K mg base N a scope f c A outer s H E) [] d g C->RelV v u->Q v g->CE outer P w H s Q u C:=
  λ{d g v u} J rv q=>⟨v,g,J.os,J.bare,J.base,J.hok,rv,q⟩
 cases fl with
 | ret u=>
  obtain⟨v,d,g,J,rv,q⟩:=j;exact p J rv q
 | next=>
  obtain⟨d,g,J,q⟩:=j;exact p (v:=V.l3)  J rfl q
 | brk=>
  obtain⟨_,_,_,q⟩:=j;exact False.elim q
 | cont=>
  obtain⟨_,_,_,q⟩:=j;exact False.elim q
section
variable{X:Cx}{x:Str}{p pos:Pos}{e:Expr}{es:WI}{t:TA}{id T:String}{r:List V->Hp->VK->Prop}
def Rj(r:List V->Hp->VK->Prop)(t:TA):TE:=λa H Q=>t a H λvs b=>r vs b Q
theorem gB (z:D4 X (.builtin id) r) (v:Gl X x) (u:X.mg x=none) (o:bootBuiltins x=some (.builtin id)) (B:PA X (e::es) t) (q:x ≠ "__name__":=by decide) (c:(x == ("__debug__" : Str))=false:=by decide)
  (y:starEach (e::es) X.env=(false,eval e X.env)::starEach es X.env:=by rfl) (b:(backTo pos (starEach es X.env)).any (·.1)=false:=by rfl):PE X (.Call (.Name x p) (e::es) [] pos) (Rj r t):=by
 refine .of ?_;intro a s d H Q I h;refine UV (bA I v u o ?_ q c);exact PyProof.Rows.callWith_builtin1 (p9 (B pos a s d H _ I h) λg i ⟨vs,E,C,j,l⟩=>z a i d E vs g Q C j l) y b
theorem dJ (z:D4 X (.type T) r) (v:Gl X x) (u:X.mg x=none) (o:bootBuiltins x=some (.type T)) (B:PA X (e::es) t) (q:x ≠ "__name__":=by decide) (c:(x == ("__debug__" : Str))=false:=by decide)
  (y:starEach (e::es) X.env=(false,eval e X.env)::starEach es X.env:=by rfl) (b:(backTo pos (starEach es X.env)).any (·.1)=false:=by rfl):PE X (.Call (.Name x p) (e::es) [] pos) (Rj r t):=by
 refine .of ?_;intro a s d H Q I h;refine UV (bA I v u o ?_ q c);exact TV (p9 (B pos a s d H _ I h) λg i ⟨vs,E,C,j,l⟩=>z a i d E vs g Q C j l) y b
end
end L2
namespace HT
open PySem PyProof.Rows
section
open PySem.SeqAt
open PySem.AutoSeq1 (wpAny_loadPart')
open PySem.MeetsSeq PySem.MeetsSeq2 PySem.MeetsSeq3
end
section
variable{prog:Program}{w:World}{A:Around}{E:WO}{s:Shared}
theorem Ik{vs a:WH}{Q:WO}(v:IsTup s.heap t vs.toArray)(x:IsTup s.heap b a.toArray)(o:vs≠[])
  (z:a=[]->Q (.ref t) s) (y:a≠[]->Q (.ref s.heap.objs.size) { s with heap:=s.heap.push { cls:=.type "tuple",data:=.seq (vs++a).toArray } })
  (hsz:vs.length+a.length<=sizeLine):wpAny (model prog w) A (binaryOp .Add (.ref t) (.ref b)) Q E s:=by
 obtain⟨⟨B,q,r,l⟩,j,p,n,hd⟩:=id v;obtain⟨⟨u,i,data2,d⟩,c,h,n2,g⟩:=id x;subst p hd h g;have e:vs.toArray++a.toArray=(vs++a).toArray:=by simp
 by_cases hw:a=[]
 ·exact VW ⟨_,j,rfl⟩ ⟨_,c,rfl⟩ noFill_tuple_add seq_tuple_add U1 UW (UT _ _)
   (tuple_addW1 t b vs.toArray a.toArray n n2 q i l d (by simpa using o) (by simp[hw])) ⟨j,c,z hw⟩
 ·refine VW ⟨_,j,rfl⟩ ⟨_,c,rfl⟩ noFill_tuple_add seq_tuple_add U1 UW (UT _ _)
   (tuple_addW2 t b vs.toArray a.toArray n n2 q i l d (by simpa using o) (by simpa using hw) (by exact hsz)) ⟨j,c,?_⟩
  rw[e];exact y hw
def D3(n d:Nat):Option Int->Nat
 | none=>d
 | some v=>if v<0 then(v+(n:Int)).toNat else min v.toNat n
theorem Nr(n d:Nat)(hd:d<=n)(o:Option Int):D3 n d o<=n:=by
 cases o with
 | none=>exact hd
 | some v=>
  show(if v<0 then(v+n).toNat else min v.toNat n)<=n
  by_cases a:v<0
  ·rw[ry a];omega
  ·rw[ro a];exact Nat.min_le_right _ _
theorem xv(v:Int)(n d:Nat):(if v<0 then max (v+(n:Int)) 0 else min v (n:Int))=((D3 n d (some v):Nat):Int):=by
 show(if v<0 then max (v+n) 0 else min v n)=(((if v<0 then(v+n).toNat else min v.toNat n)))
 by_cases a:v<0
 ·simp only[ry a];omega
 ·simp only[ro a];omega
theorem sS(lo a:Option Int)(n:Nat):Builtin.Slice.sliceAdjust lo a 1 (n:Int)=(((D3 n 0 lo:Nat):Int),((D3 n n a:Nat):Int)):=by
 have b:=by omega
 unfold Builtin.Slice.sliceAdjust;refine Prod.ext ?_ ?_
 ·cases lo with
  | none=>rfl
  | some v=>exact xv v n 0
 ·cases a with
  | none=>rfl
  | some v=>exact xv v n n
theorem vJ(i j:Nat):Builtin.Slice.slicePlaces (i:Int) (j:Int) 1=j-i:=by
 unfold Builtin.Slice.slicePlaces;have a:=by omega
 split<;>omega
theorem R9(p:IsPart v o)(h:Q o s):wpAny (model prog w) A (Builtin.Slice.slicePartIndex v) Q E s:=by
 cases p with
 | none=>exact slicePart_none h
 | int i t=>exact slicePart_int h
theorem V5{lo b:Option Int}{Q:Int×Int×Nat->Shared->Prop}(j:s.heap.IsSliceOf g e d .none)(pl:IsPart e lo)(i:IsPart d b)
  (h:Q (((D3 n 0 lo:Nat):Int),1,D3 n n b-D3 n 0 lo) s):wpAny (model prog w) A (Builtin.Slice.sliceApplied (.ref g) (pure (n:Int))) Q E s:=by
 obtain⟨os,a,l,c⟩:=id j;refine eH (eH (TC a c  rfl (eH (TC a c  rfl (eH (TC a c  rfl (hH ?_)))))));refine eH (slicePart_none ?_);refine eH (R9 pl (eH (R9 i (eH (hH ?_)))));show wpAny _ _ (match Builtin.Slice.sliceAdjust lo b 1 n with | (lo,b)=>pure (lo,(1:Int),Builtin.Slice.slicePlaces lo b 1)) _ _ s;rw[sS lo b n];show wpAny _ _ (pure (((D3 n 0 lo):Int),1,Builtin.Slice.slicePlaces ((D3 n 0 lo)) ((D3 n n b)) 1)) _ _ s;rw[vJ];exact hH h
theorem ET(xs:WL)(i k:Nat):((List.range k).filterMap λ(m:Nat)=>xs[((i:Int)+(m:Int)*1).toNat]?).toArray=((xs.toList.drop i).take k).toArray:=by
 have e:(λ(m:Nat)=>xs[(i+(m:Int)*1).toNat]?)=λm=>xs[i+m]?:=by
  funext m
  have:(i+(m:Int)*1).toNat=i+m:=by omega
  rw[this]
 rw[e];have:=pick_run xs i k;rw[List.filterMap_map] at this;have a:((λx=>xs[x]?)∘λx=>i+x)=λm=>xs[i+m]?:=rfl;rw[a] at this;rw[this]
theorem cP{items:WL}{lo b:Option Int}{Q:WO}(c:IsTup s.heap t items)(p:s.heap.IsSliceOf d o l .none)(pl:IsPart o lo)(r:IsPart l b)
  (hw:¬(D3 items.size 0 lo=0/\D3 items.size items.size b=items.size))
  (h:Q (.ref s.heap.objs.size) { s with heap:=s.heap.push { cls:=.type "tuple",data:=.seq ((items.toList.drop (D3 items.size 0 lo)).take (D3 items.size items.size b-D3 items.size 0 lo)).toArray } })
  (hsz:items.size<=sizeLine):wpAny (model prog w) A (getItem (.ref t) (.ref d)) Q E s:=by
 have a:sizeOk (.seq ((items.toList.drop (D3 items.size 0 lo)).take (D3 items.size items.size b-D3 items.size 0 lo)).toArray):=by
  show((items.toList.drop (D3 items.size 0 lo)).take (D3 items.size items.size b-D3 items.size 0 lo)).toArray.size<=sizeLine;rw[sh,vy,Re,t4];omega
 obtain⟨os,e,i,u⟩:=id p;have j:s.TypeIs (.ref d) "slice":=⟨os,e,i⟩
 unfold getItem
 try with_reducible refine x2 ?_
 refine eH (VT c.typeIs (by decide) ?_)
 refine eH (A1 (name:=Str.ofString "__getitem__") c.typeIs C2
  (z0 C2 c.typeIs entry_tuple_getitem ?_ (args_tuple_getitem _ _)))
 show wpAny _ _ (Builtin.Tuple.tupleItemsOf (.ref t) >>= _) _ _ s;refine eH (tupleItemsOf_ c ?_);refine eH (Uz j ?_);rw[ry (by decide)];refine eH (V5 p pl r ?_)
 have g:¬((((D3 items.size 0 lo:Nat):Int) == 0&&(1:Int) == 1&&(D3 items.size items.size b-D3 items.size 0 lo) == items.size)=true):=by
  intro q;rw[uk,uk] at q;have x:((D3 items.size 0 lo:Nat):Int)=0:=eq_of_beq q.1.1;have v:D3 items.size items.size b-D3 items.size 0 lo=items.size:=eq_of_beq q.2;exact hw ⟨by omega,by omega⟩
 show wpAny _ _ (if (((D3 items.size 0 lo:Nat):Int) == 0&&(1:Int) == 1&&(D3 items.size items.size b-D3 items.size 0 lo) == items.size)=true then _ else _) _ _ s;rw[ro g,ET]
 first
  | exact eH (m:=Builtin.Tuple.tupleExact _) (ux (hH ⟨_,rfl,hH h⟩) a)
  | exact eH (m:=Builtin.Tuple.tupleExact _) (ux (eH (hH (hH ⟨_,rfl,hH h⟩))) a)
  | exact eH (eH (m:=Builtin.Tuple.tupleExact _) (ux (hH (hH ⟨_,rfl,hH h⟩)) a))
  | exact eH (eH (m:=Builtin.Tuple.tupleExact _) (ux (hH ⟨_,rfl,hH h⟩) a))
end
end HT
namespace L2
open PySem PySem.Spec PyProof.Rows
abbrev TO:=St->Hp->(Option Int->Hp->Prop)->Prop
structure PO(X:Cx)(e:Option Expr)(t:TO) : Prop where
 of ::
 run :
 ∀(pins:WA) (s:Shared) (σ:St) (H:Hp) (Q:Option Int->Hp->Prop),Inv X pins σ H s->t σ H Q ->
  wpAny (model X.prog X.w) X.A (evalPart e X.env) (λu s'=>∃o H',Inv X pins σ H' s'/\IsPart u o/\Q o H') X.xe s
instance {X:Cx} {e:Option Expr} {t:TO} : CoeFun (PO X e t) λ_=>
 ∀(pins:WA) (s:Shared) (σ:St) (H:Hp) (Q:Option Int->Hp->Prop),Inv X pins σ H s->t σ H Q ->
  wpAny (model X.prog X.w) X.A (evalPart e X.env) (λu s'=>∃o H',Inv X pins σ H' s'/\IsPart u o/\Q o H') X.xe s:=⟨PO.run⟩
def Iz:TO:=λ_ H Q=>Q none H
def Pl(t:TE):TO:=λa H Q=>t a H λx b=>∃i,x=.int i/\Q (some i) b
section
variable{X:Cx}{e:Expr}{te:TE}{lo hi:Option Expr}{tl th:TO}{pos p2:Pos}
theorem HK:PO X none Iz:=by
 refine .of ?_;intro a s b H Q I h;exact hH ⟨none,H,I,.none,h⟩
theorem FU(h:PE X e te):PO X (some e) (Pl te):=by
 refine .of ?_;intro a s b H Q I hw;refine p9 (h a s b H _ I hw) λu l ⟨x,j,g,c,d⟩=>?_;obtain⟨i,rfl,q⟩:=d;obtain⟨t,rfl⟩:=c;exact⟨some i,j,g,.int i t,q⟩
def KD(X:Cx)(r:V->Option Int->Option Int->Hp->VK->Prop):Prop:=
 ∀(a:WA) (s:Shared) (b:St) (H:Hp) (x:V) (v d c:Value) (lo hi:Option Int) (g:Addr) (Q:VK),Inv X a b H s->RelV x v->s.heap.IsSliceOf g d c .none->IsPart d lo->IsPart c hi->r x lo hi H Q ->
  ∃T id,typeLookup (.type T) "__getitem__"=pure (some (.builtin id))/\s.TypeIs v T/\wpAny (model X.prog X.w) X.A (getItem v (.ref g)) (EP X a b Q) X.xe s
theorem KD.or(h:KD X r)(h':KD X j):KD X (λx lo hi H Q=>r x lo hi H Q\/j x lo hi H Q):=by
 intro a s b H x v d c lo hi g Q I i o pl l q;rcases q with q | q
 ·exact h a s b H x v d c lo hi g Q I i o pl l q
 ·exact h' a s b H x v d c lo hi g Q I i o pl l q
def Tr(r:V->Option Int->Option Int->Hp->VK->Prop)(te:TE)(tl th:TO):TE:=λa H Q=>te a H λx d=>tl a d λl c=>th a c λu b=>r x l u b Q
theorem Bm(M:KD X r)(S:PE X e te)(O:PO X lo tl)(G:PO X hi th):PE X (.Subscript e (.Slice lo hi none p2) pos) (Tr r te tl th):=by
 refine .of ?_;intro a s d H Q I h;refine Subscript_ (p9 (S a s d H _ I h) λv p ⟨x,H1,I1,y,C⟩=>?_);refine wpAny_Slice (p9 (O a p d H1 _ I1 C) λi o ⟨l,H2,I2,pl,B⟩=>p9 (G a o d H2 _ I2 B) λg c ⟨u,j,I3,E,z⟩=>?_);refine hH ?_;have Y:Inv X a d j { c with heap:=c.heap.push { cls:=.type "slice",data:=.fields #[i,g,.none] } }:=I3.kept  λb ob q=>hD _ q;obtain⟨T,id,U,J,R⟩:=M a { c with heap:=c.heap.push { cls:=.type "slice",data:=.fields #[i,g,.none] } } d j x v i g l u c.heap.objs.size Q Y y (VR ..) pl E z;exact tail_any  J U R (by with_unfolding_all rfl)
def iQ(xs:List V)(lo hi:Option Int):List V:=(xs.drop (HT.D3 xs.length 0 lo)).take (HT.D3 xs.length xs.length hi-HT.D3 xs.length 0 lo)
theorem eS(xs:List V)(lo hi:Option Int):(iQ xs lo hi).length<=xs.length:=by
 unfold iQ;rw[vy,Re];omega
def Rv(K:WR):V->Option Int->Option Int->Hp->VK->Prop:=λx lo hi H Q=>∃a b,x=.ref a/\P8 K H a b /\
 ¬(HT.D3 b.length 0 lo=0/\HT.D3 b.length b.length hi=b.length)/\∀p,H p=none->Q (.ref p) (upd H p (.tup (iQ b lo hi)))
theorem NA:KD X (Rv X.K):=by
 intro i s B H x v E C lo hi G Q I p z pl u h;obtain⟨a,d,rfl,y,hw,q⟩:=h;cases p;obtain⟨g,r,l,j⟩:=I.tuple y;have c:g.toArray.size=d.length:=by exact r.length.symm
 refine⟨"tuple",_,PyProof.Rows.slot_tuple_getitem.lookup,l.typeIs,?_⟩;refine HT.cP l z pl u (by rw[c];exact hw) ?_ (by rw[c];exact j);rw[c];refine⟨.ref s.heap.objs.size,_,I.laid   (λb ob q=>hD _ q) (oT _) ?_,rfl,q _ (I.hok.fresh (oT _))⟩;exact⟨AC (eS d lo hi) j,_,(r.drop (HT.D3 d.length 0 lo)).take (HT.D3 d.length d.length hi-HT.D3 d.length 0 lo),IsTup.new _ _⟩
def PZ(K:WR):R2:=λx y H Q=>∃a b d c,x=.ref a/\y=.ref b/\P8 K H a d/\P8 K H b c/\d≠[]/\d.length+c.length<=sizeLine /\
 (c=[]->Q (.ref a) H)/\(c≠[]->∀p,H p=none->Q (.ref p) (upd H p (.tup (d++c))))
theorem Vals.gg(r:Vals xs a):a=[] ↔ xs=[]:=by
 cases r with
 | nil=>simp
 | cons _ _=>simp
theorem IF:N6 X (binaryOp .Add) (PZ X.K):=by
 intro g s S H x y v u Q I B r h;obtain⟨a,b,p,l,rfl,rfl,R,O,M,j,E,C⟩:=h;cases B;cases r;obtain⟨J,d,G,_⟩:=I.tuple R;obtain⟨i,c,p2,_⟩:=I.tuple O;refine HT.Ik G p2 (λz=>M (d.gg.mp z)) (λz=>⟨.ref a,H,I,rfl,E (c.gg.mp z)⟩) (λz=>?_) (by rw[<-d.length,<-c.length];exact j);refine⟨.ref s.heap.objs.size,_,I.laid   (λb ob q=>hD _ q) (oT _) ?_,rfl,C (λw=>z (c.gg.mpr w)) _ (I.hok.fresh (oT _))⟩;exact⟨by rw[tt];exact j,_,d.append c,IsTup.new _ _⟩
end
def kS(n:Nat)(i:Int):WT:=if 0<=i then(if i<n then some i.toNat else none) else if -(n:Int)<=i then some (i+n).toNat else none
def N8{a:Type}(xs:List a)(i:Int):Option a:=(kS xs.length i).bind λj=>xs[j]?
theorem wZ(h:kS n i=some j):seqIndex? i n=some j/\j<n/\-(n:Int)<=i/\i<n:=by
 unfold kS at h
 by_cases b:0<=i
 ·rw[ry b] at h
  by_cases a:i<n
  ·rw[ry a] at h;have e:=v7 h;exact⟨by rw[seqIndex_of b a,e],by omega,by omega,a⟩
  ·rw[ro a] at h;cases h
 ·rw[ro b] at h
  by_cases a:-n<=i
  ·rw[ry a] at h;have e:=v7 h;exact⟨by rw[seqIndex_neg (by omega) a,e],by omega,a,by omega⟩
  ·rw[ro a] at h;cases h
theorem mE(h:N8 xs i=some v):∃j,seqIndex? i xs.length=some j/\xs[j]?=some v/\j<xs.length/\-(xs.length:Int)<=i/\i<xs.length:=by
 unfold N8 at h
 cases e:kS xs.length i with
 | none=>rw[e] at h;cases h
 | some j=>
  rw[e] at h;obtain⟨g,d,c,b⟩:=wZ e;exact⟨j,g,h,d,c,b⟩
theorem mF{j:Nat}{v:a}(h:xs[j]?=some v):N8 xs (j:Int)=some v:=by
 have b:=(List.getElem?_eq_some_iff.mp h).1
 have e:kS xs.length j=some j:=by
  unfold kS;rw[ry (by omega),ry (by omega)];simp
 unfold N8;rw[e];exact h
def fU(b:Expr):Prop:=∀o i,subscripted b false o i=operate [o,i] (getItem o i)
def FN(X:Cx)(r:R2):Prop:=
 ∀(c a:Expr) (b:WA) (s:Shared) (d:St) (H:Hp) (x y:V) (v u:Value) (Q:VK),Inv X b d H s->RelV x v->RelV y u->r x y H Q ->
  subscripted a false v u=operate [v,u] (getItem v u)->wpAny (model X.prog X.w) X.A (subscriptTail c a v u) (EP X b d Q) X.xe s
def Sg(X:Cx)(id:String)(r:V->List V->Hp->VK->Prop):Prop:=
 ∀(a:WA) (s:Shared) (b:St) (H:Hp) (x:V) (c:List V) (v:Value) (d:WH) (Q:VK),Inv X a b H s->RelV x v->Vals c d->r x c H Q ->
  wpAny (model X.prog X.w) X.A (call (.builtin id) (v::d)) (EP X a b Q) X.xe s
section
variable{X:Cx}{a b:Expr}{ta tb:TE}{pos:Pos}
theorem FN.or(h:FN X r)(h':FN X l):FN X (λx y H Q=>r x y H Q\/l x y H Q):=by
 intro c d e s g H x y v u Q I j i q o;rcases q with q | q
 ·exact h c d e s g H x y v u Q I j i q o
 ·exact h' c d e s g H x y v u Q I j i q o
theorem Kh(l:FN X r)(p:PE X a ta)(o:PE X b tb)(j:fU b):PE X (.Subscript a b pos) (Oe r ta tb):=by
 refine .of ?_;intro c s d H Q I h;exact Subscript_ (MM p o I h λv u e x y B z i g q=>l a b c e d B x y v u Q z i g q (j _ _))
def Pm(K:WR):R2:=λx y H Q=>∃p c i v,x=.ref p/\y=.int i/\G7 K H p c/\N8 c i=some v/\Q v H
def Qm(K:WR):R2:=λx y H Q=>∃p c i v,x=.ref p/\y=.int i/\P8 K H p c/\N8 c i=some v/\Q v H
def OC:R2:=λx y H Q=>∃z i c,x=.str z/\y=.int i/\z.length<=sizeLine/\N8 z.cps.toList i=some c/\Q (.str ⟨#[c]⟩) H
theorem Ja:FN X (Pm X.K):=by
 intro g l c s E H x y v u Q I S R h G;obtain⟨p,xs,i,z,rfl,rfl,T,Y,q⟩:=h;cases S;obtain⟨t,rfl⟩:=R;obtain⟨B,r,pl,hz⟩:=I.list T;obtain⟨j,e,h2,h3,h4,h5⟩:=mE Y;obtain⟨w,M,o⟩:=r.get h2;have U:=r.length;have hn:=eN;have d:EP X c E Q w s:=⟨z,H,I,o,q⟩
 by_cases J:0<=i
 ·have C:=by
   rw[seqIndex_of J h5] at e;exact v7 e
  exact item_listR pl.isList J (by omega) (by rw[C];simpa using M) d G
 ·have C:(i+B.toArray.size).toNat=j:=by
   rw[seqIndex_neg (by omega) h4] at e;rw[sh,<-U];exact v7 e
  exact subscriptTail_builtinR  pl.isList.typeIs slot_list_getitem.lookup
   (wpAny_getItem_list_neg  pl.isList (by omega) (by rw[sh]<;>omega) (by omega) (by rw[C];simpa using M) ⟨rfl,d⟩) G
theorem Mu:FN X (Qm X.K):=by
 intro d e c s o H x y v u Q I E C h J;obtain⟨p,Y,i,z,rfl,rfl,M,R,q⟩:=h;cases E;obtain⟨t,rfl⟩:=C;obtain⟨G,r,pl,hz⟩:=I.tuple M;obtain⟨j,T,S,h3,h4,h5⟩:=mE R;obtain⟨w,U,g⟩:=r.get S;have O:=r.length;have hn:=eN;have l:EP X c o Q w s:=⟨z,H,I,g,q⟩
 exact subscriptTail_builtinR  pl.typeIs slot_tuple_getitem.lookup
  (getItem_tuple   pl (by omega) (by omega) (by rw[sh,<-O];exact T) (by simpa using U) ⟨rfl,l⟩) J
theorem NP:FN X OC:=by
 intro d e g s R H x y v u Q I p o h r;obtain⟨z,i,c,rfl,rfl,T,C,q⟩:=h;obtain⟨t,rfl⟩:=p;obtain⟨S,rfl⟩:=o;obtain⟨j,l,J,Y,G,E⟩:=mE C;have B:z.cps.toList.length=z.length:=by simp[Str.length]
 rw[B] at l G E;have U:=eN
 exact tail_any (typeIs_str s z t) slot_str_getitem.lookup (getItem_str  (by
  have O:decide (i < -(2^63:Int))=false:=vr (by omega);have M:decide (i ≥ 2^63)=false:=vr (by omega);rw[O,M,Bool.or_false]) (by rw[l];simpa using J) ⟨.str ⟨#[c]⟩,H,I.tok _,⟨_,rfl⟩,q⟩) r
def Ra(K:WR):R2:=λx y H Q=>Pm K x y H Q\/Qm K x y H Q\/OC x y H Q
theorem CU:FN X (Ra X.K):=Ja.or (Mu.or NP)
theorem tZ(its:WH)(n j:Nat)(u:Value):Obj.mapSeq (·.setIfInBounds j u) { cls:=.type "list",data:=.seq its.toArray n }={ cls:=.type "list",data:=.seq (its.set j u).toArray n }:=by
 simp[Obj.mapSeq]
theorem Inv.lst{σ:St}(I:Inv X pins σ H s)(h:H p=some (.lst xs)) :
  ∃(its:WH) (n:Nat),Vals xs its/\s.heap.get? p=some { cls:=.type "list",data:=.seq its.toArray n }/\xs.length<=sizeLine:=by
 obtain⟨z,its,n,r,e⟩:=I.hok p _ h;exact⟨its,n,r,e,z⟩
theorem Inv.Lu{σ:St}{its its':WH}(I:Inv X pins σ H s)(h:H p=some (.lst xs))
  (g:s.heap.get? p=some { cls:=.type "list",data:=.seq its.toArray n }) (d:f { cls:=.type "list",data:=.seq its.toArray n }={ cls:=.type "list",data:=.seq its'.toArray c }) (r:Vals ys its') (hz:ys.length<=sizeLine) (t:Nat) :
  Inv X pins σ (upd H p (.lst ys)) { s with heap:=s.heap.update p f,toks:=t }:=by
 have e:(s.heap.update p f).get? p=some { cls:=.type "list",data:=.seq its'.toArray c }:=by
  rw[xz f g (by rw[d]<;>rfl),d]
 refine I.write   (by rw[h];trivial) (.inl rfl) (λb u i q=>(SC _ _ (Da i)).trans q) ⟨_,e⟩ ?_;exact⟨hz,its',c,r,e⟩
def Kl:V->V->V->Hp->(Hp->Prop)->Prop:=λo i v H Q=>∃p c k j,o=.ref p/\i=.int k/\H p=some (.lst c)/\kS c.length k=some j/\Q (upd H p (.lst (c.set j v)))
theorem set_list:Oq X Kl:=by
 intro c s G H o i v T U u Q I M O rv h;obtain⟨p,J,k,j,rfl,rfl,y,S,q⟩:=h;cases M;obtain⟨t,rfl⟩:=O;obtain⟨d,n,r,g,R⟩:=I.lst y;obtain⟨e,h2,B,z⟩:=wZ S;have l:=r.length;have Y:=eN
 have E:=
  I.Lu y g (tZ d n j u) (r.set rv j) (by rw[OV];exact R) s.toks
 by_cases C:0<=k
 ·have x:=by
   rw[seqIndex_of C z] at e;exact v7 e
  exact PySem.W.ki_setAt g C (by omega) (by rw[sh,<-l];exact z) (by rw[x];exact⟨_,E,q⟩)
 ·have x:(k+d.toArray.size).toNat=j:=by
   rw[seqIndex_neg (by omega) B] at e;rw[sh,<-l];exact v7 e
  exact PySem.W.ki_setBack g (by omega) (by rw[sh,<-l];exact B) (by omega) (by rw[x];exact⟨_,E,q⟩)
theorem mJ(lo c:Option Int)(n:Nat):(sliceBounds lo c none n).1=((HT.D3 n 0 lo:Nat):Int)/\(sliceBounds lo c none n).2.1=((HT.D3 n n c:Nat):Int)/\(sliceBounds lo c none n).2.2=1:=by
 refine⟨?_,?_,rfl⟩
 ·cases lo with
  | none=>simp[sliceBounds,HT.D3]
  | some i=>
   simp only[sliceBounds,HT.D3,Option.getD_none]
   by_cases h:i<0
   ·simp only[h,U0]<;>omega
   ·simp only[h,UI]<;>omega
 ·cases c with
  | none=>simp[sliceBounds,HT.D3]
  | some i=>
   simp only[sliceBounds,HT.D3,Option.getD_none,show(1:Int)>0 by decide,U0]
   by_cases h:i<0
   ·simp only[h,U0]<;>omega
   ·simp only[h,UI]<;>omega
theorem jI(its:WH)(lo c:Option Int):slicePick its.toArray lo c none=((its.drop (HT.D3 its.length 0 lo)).take (HT.D3 its.length its.length c-HT.D3 its.length 0 lo)).toArray:=by
 obtain⟨g,e,d⟩:=mJ lo c its.toArray.size;unfold slicePick;rw[g,e,d];simp only[sliceRange_one,pick_run,sh]
def Qn(K:WR):V->Option Int->Option Int->Hp->VK->Prop:=λx lo d H Q=>∃a c,x=.ref a/\G7 K H a c/\∀p,H p=none->Q (.ref p) (upd H p (.lst (iQ c lo d)))
theorem Jl:KD X (Qn X.K):=by
 intro g s B H x v E C lo e G Q I j z pl l h;obtain⟨a,c,rfl,y,q⟩:=h;cases j;obtain⟨p,r,i,u⟩:=I.list y;have d:=r.length;refine⟨"list",_,slot_list_getitem.lookup,i.isList.typeIs,?_⟩;refine wpAny_getItem_list_slice i.isList z pl l .none (by simp) ?_ (by rw[sh]<;>omega);rw[jI,<-d];refine⟨.ref s.heap.objs.size,_,I.laid   (λb ob q=>hD _ q) (oT _) ?_,rfl,q _ (I.hok.fresh (oT _))⟩;exact⟨AC (eS c lo e) u,_,0,(r.drop (HT.D3 c.length 0 lo)).take (HT.D3 c.length c.length e-HT.D3 c.length 0 lo),sj _ rfl⟩
def ay:V->Bool
 | .l3=>true
 | .bl _=>true
 | .int _=>true
 | .str _=>true
 | _=>false
def Iy:V->V->Bool
 | .l3,.l3=>true
 | .bl a,.bl b=>a == b
 | .bl a,.int b=>(if a then 1 else 0) == b
 | .int a,.bl b=>a == (if b then 1 else 0)
 | .int a,.int b=>a == b
 | .str a,.str b=>a == b
 | _,_=>false
theorem Mr{u v:Value}(e:RelV y u)(c:RelV x v)(h:ay y=true)(g:ay x=true):SeqAt.EqAt A s u v (Iy y x):=by
 cases y with
 | l3=>
  cases e
  cases x with
  | l3=>cases c;exact SeqAt.EqAt.same _
  | bl b=>cases c;exact SeqAt.EqAt.none_bool b
  | int b=>obtain⟨t,rfl⟩:=c;exact SeqAt.EqAt.none_int b t
  | str b=>obtain⟨t,rfl⟩:=c;exact SeqAt.EqAt.none_str b t
  | _=>exact absurd (show false=true from g) rm
 | bl a=>
  cases e
  cases x with
  | l3=>cases c;exact SeqAt.EqAt.bool_none a
  | bl b=>cases c;exact SeqAt.EqAt.bool_bool a b
  | int b=>obtain⟨t,rfl⟩:=c;exact SeqAt.EqAt.bool_int a b t
  | str b=>obtain⟨t,rfl⟩:=c;exact SeqAt.EqAt.bool_str a b t
  | _=>exact absurd (show false=true from g) rm
 | int a=>
  obtain⟨d,rfl⟩:=e
  cases x with
  | l3=>cases c;exact SeqAt.EqAt.int_none a d
  | bl b=>cases c;exact SeqAt.EqAt.int_bool a d b
  | int b=>obtain⟨t,rfl⟩:=c;exact SeqAt.EqAt.int_int a d b t
  | str b=>obtain⟨t,rfl⟩:=c;exact SeqAt.EqAt.int_str a d b t
  | _=>exact absurd (show false=true from g) rm
 | str a=>
  obtain⟨d,rfl⟩:=e
  cases x with
  | l3=>cases c;exact SeqAt.EqAt.str_none a d
  | bl b=>cases c;exact SeqAt.EqAt.str_bool a d b
  | int b=>obtain⟨t,rfl⟩:=c;exact SeqAt.EqAt.str_int a d b t
  | str b=>obtain⟨t,rfl⟩:=c;exact SeqAt.EqAt.str_str a d b t
  | _=>exact absurd (show false=true from g) rm
 | _=>exact absurd (show false=true from h) rm
def vd(x:V)(u:Value):Bool:=match u with
 | .none=>Iy .l3 x
 | .bool b=>Iy (.bl b) x
 | .int i _=>Iy (.int i) x
 | .str z _=>Iy (.str z) x
 | _=>false
theorem DG(r:RelV y u)(f:ay y=true):vd x u=Iy y x:=by
 cases y with
 | l3=>cases r;rfl
 | bl b=>cases r;rfl
 | int i=>obtain⟨t,rfl⟩:=r;rfl
 | str z=>obtain⟨t,rfl⟩:=r;rfl
 | _=>exact absurd (f) rm
theorem cA:∀{xs:List V} {c:WH},Vals xs c->xs.all ay=true->c.any (vd x)=xs.any λy=>Iy y x
 | _,_,.nil,_=>rfl
 | y::xs,u::c,.cons r t,f=>by
  rw[TN,uk] at f;rw[Tk,Tk,DG r f.1,cA t f.2]
theorem aL{x:V}{v:Value}(e:RelV x v)(g:ay x=true):∀{xs:List V} {d:WH},Vals xs d->xs.all ay=true->∀u∈d,SeqAt.EqAt A s u v (vd x u)
 | _,_,.nil,_=>λu c=>by cases c
 | y::xs,u::d,.cons r t,f=>λh c=>by
  rw[TN,uk] at f;rcases List.mem_cons.mp c with rfl | c
  ·rw[DG r f.1];exact Mr r e f.1 g
  ·exact aL e g t f.2 h c
def QQ(x:V)(xs:List V):Bool:=xs.any λy=>Iy y x
def Pa(K:WR)(d:Bool):R2:=λx y H Q=>∃p c,y=.ref p/\(G7 K H p c\/P8 K H p c)/\ay x=true/\c.all ay=true/\Q (.bl (if d then !QQ x c else QQ x c)) H
theorem lH:N6 X (compareOp .In) (Pa X.K false):=by
 intro g s o H x y v u Q I e j h;obtain⟨p,z,rfl,d,i,fs,q⟩:=h;cases j;rcases d with d | d
 ·obtain⟨c,r,pl,l⟩:=I.list d;refine SeqAt.in_listAt (vd x) pl.isList (λw hw=>aL e i r fs w (by simpa using hw)) ⟨.bl _,H,I,rfl,?_⟩;rw[show c.toArray.any (vd x)=c.any (vd x) by simp,cA r fs];exact q
 ·obtain⟨c,r,pl,l⟩:=I.tuple d;refine SeqAt.in_tupleAt (vd x) pl (λw hw=>aL e i r fs w (by simpa using hw)) ⟨.bl _,H,I,rfl,?_⟩;rw[show c.toArray.any (vd x)=c.any (vd x) by simp,cA r fs];exact q
theorem nS:N6 X (compareOp .NotIn) (Pa X.K true):=by
 intro g s o H x y v u Q I e j h;obtain⟨p,z,rfl,d,i,fs,q⟩:=h;cases j;rcases d with d | d
 ·obtain⟨c,r,pl,l⟩:=I.list d;refine SeqAt.notIn_listAt (vd x) pl.isList (λw hw=>aL e i r fs w (by simpa using hw)) ⟨.bl _,H,I,rfl,?_⟩;rw[show c.toArray.any (vd x)=c.any (vd x) by simp,cA r fs];exact q
 ·obtain⟨c,r,pl,l⟩:=I.tuple d;refine SeqAt.notIn_tupleAt (vd x) pl (λw hw=>aL e i r fs w (by simpa using hw)) ⟨.bl _,H,I,rfl,?_⟩;rw[show c.toArray.any (vd x)=c.any (vd x) by simp,cA r fs];exact q
theorem nP:D4 X (.type "list") (λxs H Q=>∃p ys,xs=[.ref p]/\(G7 X.K H p ys\/P8 X.K H p ys)/\∀l,H l=none->Q (.ref l) (upd H l (.lst ys))):=by
 intro j s G H xs M Q I r h;obtain⟨p,ys,rfl,x,q⟩:=h;obtain⟨u,rfl,J⟩:=vals1 r;cases J
 have z:∀(c:WH),Vals ys c->ys.length<=sizeLine->∀(d:Heap) (i:Nat),(∀b E,s.heap.get? b=some E->d.get? b=some E) ->
   d.get? s.heap.objs.size=some { cls:=.type "list",dict:=none,data:=.seq c.toArray i,slots:=#[] }->EP X j G Q (.ref s.heap.objs.size) { s with heap:=d }:=λc g v d i kp e=>
  ⟨.ref s.heap.objs.size,_,I.laid  kp (oT _) (show p4 X.prog X.w _ d _ (.lst ys) from⟨v,c,i,g,e⟩),rfl,q _ (I.hok.fresh (oT _))⟩
 rcases x with x | x
 ·obtain⟨c,g,pl,v⟩:=I.list x;have y:=g.length;obtain⟨o,B,C,n,hd⟩:=pl.isList;exact call_list_seq p (.inl rfl) B C hd (λd i kp e=>z c g v d i kp e) (by simp only[sh]<;>omega)
 ·obtain⟨c,g,pl,v⟩:=I.tuple x;have y:=g.length;obtain⟨o,B,C,n,hd⟩:=pl;exact call_list_seq p (.inr rfl) B C hd (λd i kp e=>z c g v d i kp e) (by simp only[sh]<;>omega)
theorem C7:D4 X (.type "tuple") (λxs H Q=>∃p ys,xs=[.ref p]/\((G7 X.K H p ys/\∀l,H l=none->Q (.ref l) (upd H l (.tup ys)))\/(P8 X.K H p ys/\Q (.ref p) H))):=by
 intro c s v H xs E Q I r h;obtain⟨p,ys,rfl,h⟩:=h;obtain⟨u,rfl,B⟩:=vals1 r;cases B;rcases h with⟨j,q⟩ | ⟨j,q⟩
 ·obtain⟨d,i,pl,x⟩:=I.list j;have y:=i.length;refine call_tuple_list pl.isList (λg kp=>?_) (by simp only[sh]<;>omega);have z:=I.kept (t':=s.toks) kp
  have C:=
   z.laid (t':=s.toks) (λb o e=>hD _ e) (oT _) (show p4 X.prog X.w _ _ _ (.tup ys) from⟨x,d,i,IsTup.new _ _⟩)
  exact⟨.ref g.objs.size,_,C,rfl,q _ (z.hok.fresh (oT _))⟩
 ·obtain⟨d,i,pl,x⟩:=I.tuple j;exact call_tuple_same pl ⟨.ref p,H,I,rfl,q⟩
def RD(K:WR)(T:String)(x:V)(H:Hp):Prop:=match x with
 | .str _=>T="str"
 | .int _=>T="int"
 | .ref p=>(T="list" /\ ∃d,G7 K H p d)\/(T="tuple" /\ ∃o,K.lookup p=some o/\o.cls=.type "tuple" /\ o.dict=none) \/
   (T="dict" /\ ((∃c,Dd H p c)\/∃c,H p=some (.dT c)))\/(T="set" /\ ∃S n,H p=some (.set S n))
 | _=>False
theorem Dh{σ:St}(I:Inv X pins σ H s)(r:RelV x v)(ty:RD X.K T x H) :
  s.TypeIs v T/\∀a,v=.ref a->∃ob,s.heap.get? a=some ob/\ob.dict=none:=by
 cases x with
 | str z=>
  obtain⟨t,rfl⟩:=r;cases(ty);exact⟨typeIs_str s z t,λ_ e=>nomatch e⟩
 | int i=>
  obtain⟨t,rfl⟩:=r;cases(ty);exact⟨typeIs_int s i t,λ_ e=>nomatch e⟩
 | ref p=>
  cases r;rcases ty with⟨rfl,u,l⟩ | ⟨rfl,o,d,q,hd⟩ | ⟨rfl,d⟩ | ⟨rfl,S,n,d⟩
  ·obtain⟨j,_,pl,_⟩:=I.list l;refine⟨pl.isList.typeIs,λa e=>?_⟩;cases e;obtain⟨o,n,e,c,hd,_⟩:=pl;exact⟨o,e,hd⟩
  ·refine⟨⟨o,I.pq p o d,q⟩,λa e=>?_⟩;cases e;exact⟨o,I.pq _ o d,hd⟩
  ·have z:∃o,s.heap.get? p=some o/\o.ExactDict:=by
    rcases d with⟨g,d⟩ | ⟨g,d⟩
    ·obtain⟨_,_,_,_,o,_,_,e,ex,_⟩:=(d.ok I.hok)
     exact⟨o,e,ex⟩
    ·obtain⟨_,_,_,_,o,_,_,e,ex,_⟩:=I.hok p _ d;exact⟨o,e,ex⟩
   obtain⟨o,e,ex⟩:=z;refine⟨⟨o,e,ex.1⟩,λa h=>?_⟩;cases h;exact⟨o,e,ex.2.1⟩
  ·obtain⟨o,_,_,_,e,ex,_⟩:=I.hok p _ d;refine⟨⟨o,e,ex.1⟩,λa h=>?_⟩;cases h;exact⟨o,e,ex.2.1⟩
 | _=>exact False.elim ty
def Ol(K:WR)(T:String)(r:V->List V->Hp->VK->Prop)(e:TE):TE:=λd H Q=>e d H λx c=>RD K T x c/\r x [] c Q
def Sb(K:WR)(T:String)(r:V->List V->Hp->VK->Prop)(g:TE)(t:TA):TE:=λc H Q=>g c H λx d=>RD K T x d/\t c d λe h=>r x e h Q
variable{o e:Expr}{es:WI}{to:TE}{t:TA}{name:Str}{apos cpos:Pos}{T id:String}{r:V->List V->Hp->VK->Prop}
theorem NJ (y:PlainAttrs T) (slot:Slot T name id) (i:typeOf (.builtin id)=pure (.type "method_descriptor")) (B:Sg X id r) (z:PE X o to)
  (g:attributeBase o name X.env (eval o X.env)=eval o X.env:=by rfl) (d:(apos.endLine == cpos.line)=true:=by rfl):PE X (.Call (.Attribute o name apos) [] [] cpos) (Ol X.K T r to):=by
 refine .of ?_;intro c s j H Q I h;refine wpAny_Call_method0_late g d (p9 (z c s j H _ I h) λv q ⟨x,G,p,l,ty,u⟩=>?_);obtain⟨E,C⟩:=Dh p l ty;exact⟨T,id,y,slot,i,E,C,UB rfl (PySem.evalArgs_none (B c q j G x [] v [] Q p l .nil u))⟩
theorem Z3 (M:PlainAttrs T) (slot:Slot T name id) (p:typeOf (.builtin id)=pure (.type "method_descriptor")) (S:Sg X id r) (R:PE X o to) (U:PA X (e::es) t)
  (i:attributeBase o name X.env (eval o X.env)=eval o X.env:=by rfl)
  (j:((backTo cpos (starEach (e::es) X.env)).all (λx=>!x.1)&&(backToKw cpos (keywordEach [] X.env)).all (λx=>x.1.isSome)
   && decide ((e::es).length+([]:List Keyword).length+(if ([]:List Keyword).isEmpty then 0 else 1)<30))=true:=by rfl)
  (g:(apos.endLine == cpos.line)=true:=by rfl) (O:starEach (e::es) X.env=(false,eval e X.env)::starEach es X.env:=by rfl) (d:(backTo cpos (starEach es X.env)).any (·.1)=false:=by rfl) :
  PE X (.Call (.Attribute o name apos) (e::es) [] cpos) (Sb X.K T r to t):=by
 refine .of ?_;intro c s l H Q I h;refine wpAny_Call_method_late i j g rfl (p9 (R c s l H _ I h) λv C ⟨x,H1,y,q,ty,J⟩=>?_);obtain⟨h1,Y⟩:=Dh y q ty;refine⟨T,id,M,slot,p,h1,Y,?_⟩;have u:=U cpos c C l H1 _ y J;rw[O] at u ⊢;refine UB (by show(false||(backTo cpos (starEach es X.env)).any (·.1))=false;rw[d]<;>rfl) (UL ?_);exact p9 u λz B ⟨vs,H2,I2,E,G⟩=>S c B l H2 x vs v z Q I2 q E G
end
def SU(X:Cx)(id:String)(r:V->List V->Hp->VK->Prop):Prop:=
 ∀(a:WA) (s:Shared) (b:St) (H:Hp) (x:V) (c:List V) (v:Value) (d:WH) (Q:VK),Inv X a b H s->RelV x v->Vals c d->r x c H Q ->
  wpAny (model X.prog X.w) X.A (call (.builtin id) (v::d)) (EP X a b Q) X.xe s
theorem Vals.one:∀{x:V} {a:WH},Vals [x] a->∃u,a=[u]/\RelV x u
 | _,_,.cons r .nil=>⟨_,rfl,r⟩
theorem Vals.zero:∀{a:WH},Vals [] a->a=[]
 | _,.nil=>rfl
theorem Vals.reverse(h:Vals xs a):Vals xs.reverse a.reverse:=by
 induction h with
 | nil=>exact .nil
 | cons r t b=>rw[UP,UP];exact Vals.append b (.cons r .nil)
theorem Vals.rep(h:Vals xs a):∀k:Nat,Vals (List.replicate k xs).flatten (List.replicate k a).flatten
 | 0=>.nil
 | k+1=>by
  exact Vals.append h (Vals.rep h k)
theorem foldl_rep(its:WH):∀(k:Nat) (acc:WH),
  List.foldl (λb a=>b++a) acc.toArray (List.replicate k its.toArray)=(acc++(List.replicate k its).flatten).toArray
 | 0,acc=>by simp
 | k+1,acc=>by
  have e:acc.toArray++its.toArray=(acc++its).toArray:=by simp
  have c:(acc++its)++(List.replicate k its).flatten=acc++(List.replicate (k+1) its).flatten:=by
   rw[IR,TY,wh]
  rw[<-c,<-foldl_rep its k (acc++its),<-e,IR,TK]
section
variable{X:Cx}{pins:WA}{σ:St}{H:Hp}{s:Shared}{l b:Addr}{xs ys zs:List V}
theorem Inv.Ov{its its':WH}{f:WL->WL}(I:Inv X pins σ H s)(h:H l=some (.lst xs))
  (e:s.heap.get? l=some { cls:=.type "list",data:=.seq its.toArray n }) (d:f its.toArray=its'.toArray) (a:Vals ys its') (hz:ys.length<=sizeLine) :
  Inv X pins σ (upd H l (.lst ys)) { s with heap:=s.heap.update l (Obj.mapSeq f),toks:=t' }:=by
 have q:=PySem.IsL.update e f;rw[d] at q;refine I.write   (by rw[h];exact trivial) (.inl rfl) (λi u g c=>(SC s.heap (Obj.mapSeq f) (Da g)).trans c) ⟨_,q⟩ ?_;exact⟨hz,its',_,a,q⟩
theorem Inv.BW(I:Inv X pins σ H s)(a:Vals ys its)(hz:ys.length<=sizeLine) :
  Inv X pins σ (upd H s.heap.objs.size (.lst ys)) { s with heap:=s.heap.push { cls:=.type "list",data:=.seq its.toArray },toks:=t' }:=
 I.laid (λ_ _ q=>hD _ q) (oT _) ⟨hz,its,0,a,sj _ rfl⟩
theorem Inv.fresh(I:Inv X pins σ H s):H s.heap.objs.size=none:=I.hok.fresh (oT _)
theorem Inv.Bu(I:Inv X pins σ H s)(a:H l=some (.lst xs)):xs.length<=sizeLine/\∃(its:WH) (n:Nat),Vals xs its/\xs.length=its.length/\s.heap.get? l=some { cls:=.type "list",data:=.seq its.toArray n }:=by
 obtain⟨z,its,n,r,e⟩:=I.hok l _ a;exact⟨z,its,n,r,r.length,e⟩
theorem BG(h:n<=sizeLine):Builtin.List.listTooLong n=false:=by
 exact vr (by omega)
end
section
variable{X:Cx}
def E8:V->List V->Hp->VK->Prop:=λx vs H Q=>∃l a y,x=.ref l/\vs=[y]/\H l=some (.lst a)/\a.length<sizeLine/\Q .l3 (upd H l (.lst (a++[y])))
theorem y4:SU X "list.append" E8:=by
 intro b s i H x vs v o Q I d rv h;obtain⟨l,j,y,rfl,rfl,c,p,q⟩:=h;cases d;obtain⟨u,rfl,g⟩:=rv.one;obtain⟨z,a,n,r,B,e⟩:=I.Bu c;refine VO F.slot_list_append ⟨_,e,rfl⟩ F.entry_list_append (F.args_list_append_2 _ _) (PySem.list_append l a.toArray n u (by rw[List.size_toArray];omega)) ⟨e,?_⟩;refine⟨.l3,_,I.Ov  c e (by simp) (r.append (.cons g .nil)) ?_,rfl,q⟩;rw[tt,wf];omega
def BE:V->List V->Hp->VK->Prop:=λx vs H Q=>∃l a,x=.ref l/\vs=[]/\H l=some (.lst a)/\Q .l3 (upd H l (.lst []))
theorem Ex:SU X "list.clear" BE:=by
 intro c s i H x vs v o Q I g rv h;obtain⟨l,j,rfl,rfl,d,q⟩:=h;cases g;have b:=rv.zero;subst b;obtain⟨z,a,n,r,p,e⟩:=I.Bu d;refine VO F.slot_list_clear ⟨_,e,rfl⟩ F.entry_list_clear (F.args_list_clear_1 _) (AutoSeq1.list_clear_list_0 l a.toArray n (by rw[sh];omega)) ⟨e,?_⟩;exact⟨.l3,_,I.Ov   d e rfl .nil (v5 _),rfl,q⟩
def Mb:R2:=λx y H Q=>∃l b c a,x=.ref l/\y=.ref b/\H l=some (.lst c)/\H b=some (.lst a)/\c.length+a.length<=sizeLine/\∀p,H p=none->Q (.ref p) (upd H p (.lst (c++a)))
theorem MP:N6 X (binaryOp .Add) Mb:=by
 intro d s G H x y v u Q I i g h;obtain⟨l,b,M,J,rfl,rfl,p,B,O,q⟩:=h;cases i;cases g;obtain⟨z,c,n,r,R,e⟩:=I.Bu p;obtain⟨z2,a,n2,j,o,E⟩:=I.Bu B;refine PySem.P.add_list e E ?_ (by rw[sh,sh];omega);have C:c.toArray++a.toArray=(c++a).toArray:=by simp
 rw[C];exact⟨.ref _,_,I.BW  (r.append j) (by rw[tt];omega),rfl,q _ I.fresh⟩
def Om:R2:=λx y H Q=>∃l k a,x=.ref l/\y=.int k/\H l=some (.lst a)/\-(2^63)<=k/\k<2^63/\a.length*k.toNat<=sizeLine /\
 ∀p,H p=none->Q (.ref p) (upd H p (.lst (List.replicate k.toNat a).flatten))
theorem len_rep{a:Type}(xs:List a)(k:Nat):(List.replicate k xs).flatten.length=k*xs.length:=by
 induction k with
 | zero=>simp
 | succ k b=>rw[IR,TY,tt,b,Nat.succ_mul,Nat.add_comm]
theorem NO:N6 X (binaryOp .Mult) Om:=by
 intro B s σ H x y v u Q I J G h;obtain⟨l,k,xs,rfl,rfl,O,S,R,C,q⟩:=h;cases J;obtain⟨t,rfl⟩:=G;obtain⟨z,b,n,r,M,e⟩:=I.Bu O;have g:b.toArray.size*k.toNat<=sizeLine:=by rw[sh,<-M];exact C
 have j:¬b.toArray.size*k.toNat>(2^63-1)/8:=by
  have:sizeLine<=(2^63-1)/8:=by decide
  omega
 have i:¬(!Builtin.List.listFitsIndex k)=true:=by
  rw[fitsIndex_both S R];exact rm
 have c:¬Builtin.List.listTooLong (b.toArray.size*k.toNat)=true:=by
  rw[BG g];exact rm
 have d:List.foldl (λp o=>p++o) #[] (List.replicate (if b.toArray.isEmpty=true then 0 else k.toNat) b.toArray)=(List.replicate k.toNat b).flatten.toArray:=by
  have Y:=λm=>by
   have:=foldl_rep b m [];rw[u0] at this;exact this
  rw[Y]
  cases b with
  | nil=>simp
  | cons a r'=>rw[ro (by simp)]
 refine wpAny_binaryOp_repeat_ref (T:="list") (U:="int") (by decide) ⟨_,e,rfl⟩ (λE=>typeIs_int E k t) noFill_list_mul F.fills_int_mul F.slot_int_rmul repeat_list F.slot_int_index.lookup
  (VO F.slot_int_rmul (typeIs_int s k t) F.entry_int_rmul (F.args_int_rmul_2 _ _) (int___rmul___int_list k t l b.toArray n)
   ⟨e,rfl,⟨_,e,rfl⟩,VO F.slot_list_mul ⟨_,e,rfl⟩ F.entry_list_mul (F.args_list_mul_2 _ _) (AutoListH.list___mul___list_int_3 l b.toArray n k t i j c) ⟨e,?_⟩⟩)
 rw[d];exact⟨.ref _,_,I.BW (t':=s.toks) (r.rep k.toNat) (by rw[len_rep,Nat.mul_comm];exact C),rfl,q _ I.fresh⟩
end
section
variable{prog:Program}{w:World}{A:Around}{E:WO}{s:Shared}
end
section
variable{X:Cx}
end
end L2
namespace Att
open PySem PySem.W PySem.Calls PyProof.Rows
theorem fN:∀(ns:WJ) (vs:WH),WellAll P h vs (ns.map WData.int)->IntsAre vs ns:=by
 intro ns
 induction ns with
 | nil=>
  intro vs w;cases w;exact .nil
 | cons n ns c=>
  intro vs w;cases w with
  | cons a b=>
   cases a;exact .cons _ _ (c _ b)
theorem zK{l:OpenLaw}(C:l.most=some n){c:WH}
  (e:l.row.toRowW.claim.pre b=true) (p:WellAll P h c b) :
  ∃a vs ns,c=[Value.ref a]/\b=[WData.list (ns.map WData.int)]/\h.get? a=some { cls:=.type "list",data:=.seq vs.toArray }/\IntsAre vs ns/\ns.length<=n:=by
 have u:=(pre_splitW e).1;have v:l.pre.holds [] { args:=b }=true:=(pre_splitW e).2;obtain⟨d,r,rfl,H,G⟩:=hasAllW_cons u;obtain rfl:=hasAllW_nil G;obtain⟨I,rfl,E⟩:=hasW_list H;obtain⟨ns,rfl⟩:=items_int E
 have g:ns.length<=n:=by
  have o:=by
   have o:=(holds_andW v).1;rw[C] at o;exact o
  have j:=condW_of o (w_not (w_lt w_lit (w_len_list (w_arg rfl))));refine VD λq=>?_;first
   | (exact absurd j (by decide))
   | (simp at j;omega)
 cases p with
 | cons y x=>
  cases x
  cases y with
  | list B i=>exact⟨_,_,ns,rfl,rfl,B,fN ns _ i,g⟩
theorem zX(l:OpenLaw)(a:List WData):l.row.toRowW.claim.post a (.bool true) a=true:=
 postW_of  
  (show WShape.has [] (.bool true) .bool=true by first | rfl | decide | simp[])
  (w_eq_bool (w_res rfl) w_lit) rfl
theorem qW{l:OpenLaw}{c:WG}{Q:(WM)->Heap->Prop}
  (U:l.most=some n) (C:d.params.defaults=[])
  (call:∀(w:World) (s₀ b:Shared) (mg y:WM) (p:Addr) (o:Obj) (x v g:Value) (a:Addr) (vs:WH) (ns:WJ),
   Ground q c [] Q w s₀ mg y b.heap->O w b.heap ->
   b.heap.get? p=some o->o.data=.func (docDef d.name d.params d.body d.scope x v g)->b.heap.CodeRec v d.name->mg d.name=some (.ref p) ->
   b.heap.get? a=some { cls:=.type "list",data:=.seq vs.toArray }->IntsAre vs ns->ns.length<=n->b.gens=#[] ->
   codeAny (model l.prog w) callerA (.call (.ref p) ⟨[.ref a],[]⟩) (λr u=>r=.ok (.ret (.bool true))/\OldK b.heap u.heap/\u.os=b.os/\AllBare u.gens) b) :
  WalkO q c Q O l.row.toRowW d [] (λf vs=>PySem.call f vs):=by
 intro w s₀ b mg y G Y p o x v g dV kV T hd E J B hg M H as h I R z a0;obtain rfl:dV=.none:=Dflts.none J C;obtain rfl:kV=.none:=Dflts.noKw J;obtain⟨a,vs,ns,rfl,rfl,i,e,j⟩:=zK U h z;refine enter_call (US (call w s₀ b mg y p o x v g a vs ns G Y T (fd_plain hd) E B i e j hg) λr u S=>?_);obtain⟨rfl,h2,h3,h4⟩:=S;exact⟨.inl ⟨.bool true,.bool true,[],rfl,λ_=>rfl,.bool true,zX l _,λ_=>⟨List.Pairwise.nil,λ_ X=>(nomatch X)⟩⟩,h2,h3,h4⟩
section
variable{prog:Program}{w:World}{A:Around}{E:WO}{s:Shared}{K:Frag}
end
end Att
namespace L2
open PySem PySem.Spec PyProof.Rows
theorem lM:∀{vs:WH} {ns:WJ},IntsAre vs ns->Vals (ns.map V.int) vs
 | _,_,.nil=>.nil
 | _,_,.cons n t h=>.cons ⟨t,rfl⟩ (lM h)
def MH(H:Hp):Prop:=∀b,H b=none\/∃o a,H b=some (.frz o (.lst a))
theorem Dx{K:WR}{mg S:WM}{vs:WH}{ns:WJ}
  (KX:K.In c.heap) (G:c.heap.Ns mainGlobals mg) (i:c.heap.Ns builtinsNs S) (X:∀x:Str,x ≠ "__name__"->S x=bootBuiltins x) (I:c.heap.NoLimit) (hg:c.gens=#[])
  (Q:c.heap.get? a=some { cls:=.type "list",data:=.seq vs.toArray }) (hi:IntsAre vs ns) (hl:ns.length<=sizeLine) (hr:E7 k callerA)
  (F:∀base:Heap,K.In base->base.Ns mainGlobals mg->p3 P w K mg base CX k fa fd [x] sp) (y:∀(s:Shared) (u:Value),BindsTo s fd ⟨[u],[]⟩ [(x,u)])
  (T:∀H:Hp,MH H->G7 K H a (ns.map V.int)->sp [.ref a] H (λv _=>v=.bl true) λ_ _ _=>False)
  (Y:∀H e j,CX [] H c (λ_ _ _=>False) e j->False) :
  codeAny (model P w) callerA (.call (.ref fa) ⟨[.ref a],[]⟩) (λr j=>r=.ok (.ret (.bool true))/\OldK c.heap j.heap/\j.os=c.os/\AllBare j.gens) c:=by
 have rv:=lM hi;have C:=hi.length
 have p:∀H,MH H->G7 K H a (ns.map V.int)->U8 P w H c.heap->(∀b,H b≠none->b=a)->(H a≠none->K.lookup a=none) ->
   codeAny (model P w) callerA (.call (.ref fa) ⟨[.ref a],[]⟩) (λr j=>r=.ok (.ret (.bool true))/\OldK c.heap j.heap/\j.os=c.os/\AllBare j.gens) c:=by
  intro H hO hS hok hA hK;have g:∀{b:Addr} {o:Obj},c.heap.get? b=some o->H b=none->(oh c.heap H).get? b=some o:=λe n=>Bf e n
  have R:∀{b:Addr} {o:Obj} {M:Array DictEntry} {O:Nat},c.heap.get? b=some o->o.data=.dict M O->H b=none:=λ{b o M O} e d=>by
   cases q:H b with
   | none=>rfl
   | some u=>
    have e':b=a:=hA b (by rw[q];simp);subst e';rw[Q] at e;cases e;have d':Data.seq vs.toArray _=Data.dict M O:=d;cases d'
  have l:∀{b:Addr} {m:WM},c.heap.Ns b m->(oh c.heap H).Ns b m:=λ{b m} ⟨o,M,O,e,d,r⟩=>⟨o,M,O,g e (R e d),d,r⟩
  have J:K.In (oh c.heap H):=λb o e=>g (KX b o e) (by
   cases q:H b with
   | none=>rfl
   | some u=>
    have e':b=a:=hA b (by rw[q];simp);subst e';rw[hK (by rw[q];simp)] at e;cases e)
  have hM:Mod K mg (oh c.heap H):=⟨J,l G,⟨S,l i,X⟩,let ⟨mc,h1,h2⟩:=I;⟨mc,l h1,h2⟩⟩
  have e0:HQ P w K mg (oh c.heap H) callerA [] c H:=⟨rfl,hM,λb o e=>Hn e,Uc (zL _ _),trivial,λb i=>absurd (show b∈([]:WE) from i) (by simp),hok,.of_eq hg⟩
  refine US ((F _ J (l G)).run callerA [] c H ⟨[.ref a],[]⟩ [.ref a] [.ref a] _ _ hr e0 (y c (.ref a)) (.cons rfl .nil) (T H hO hS)) λr j h=>?_
  cases r with
  | error e=>exact(Y H e j h).elim
  | ok fl=>
   cases fl with
   | next=>exact False.elim h
   | brk=>exact False.elim h
   | cont=>exact False.elim h
   | ret u=>
    obtain⟨v,H',os,bare,un,E,r',q⟩:=h;have q':v=.bl true:=q;subst q';obtain rfl:u=Value.bool true:=r';refine⟨rfl,OldK.of_keep λb o e=>?_,os,bare⟩
    cases q:H b with
    | none=>exact un.keep b o e q (by intro z;exact absurd (show b∈([]:WE) from z) (by simp)) (by simp)
    | some u=>
     rcases hO b with z | ⟨ob,xs,z⟩
     ·rw[q] at z;cases z
     ·have z2:=un.frzs b ob _ z;obtain⟨e1,_⟩:=hok b _ z;obtain⟨e2,_⟩:=E b _ z2;rw[e] at e1;cases e1;exact e2
 cases U:K.lookup a with
 | some o=>
  have e:=KX a o U;rw[Q] at e;cases e;refine p (λ_=>none) (λ_=>.inl rfl) (.inr ⟨_,vs.toArray,_,U,rfl,rfl,rfl,by rw[sh,C];exact hl,by simpa using rv⟩) (λb u z=>by have B:(none:Option HO)=some u:=z;cases B) (λb z=>absurd rfl z) λz=>absurd rfl z
 | none=>
  refine p (λb=>if b=a then some (.frz { cls:=.type "list",data:=.seq vs.toArray } (.lst (ns.map V.int))) else none) (λb=>?_) (.inl (.inr ⟨{ cls:=.type "list",data:=.seq vs.toArray },ry rfl⟩)) (λb u z=>?_) (λb z=>?_) λ_=>U
  ·by_cases i:b=a
   ·exact .inr ⟨_,_,ry i⟩
   ·exact .inl (ro i)
  ·by_cases i:b=a
   ·have B:=(ry i).symm.trans z;cases B;subst i;exact⟨Q,by rw[dL];exact hl,vs,_,rv,Q⟩
   ·have B:=(ro i).symm.trans z;cases B
  ·by_cases i:b=a
   ·exact i
   ·exact absurd (ro i) z
abbrev Tw{K:WR}{h:Heap}(_:K.In h):WR:=K
theorem IC{l:PySem.W.OpenLaw}{i:WG}{XP:(WM)->Heap->Prop}{K:Params->WR}{CX:World->we}{sp:World->Sp}
  (S:l.most=some n) (C:n<=sizeLine) (I:d.params.defaults=[]) (R:E7 k callerA)
  (hY:∀(w:World) (h:Heap),O w h->(K w.params).In h)
  (F:∀(w:World) (mg:WM) (y:Addr) (h:Heap),(K w.params).In h->h.Ns mainGlobals mg->mg d.name=some (.ref y) ->
   ∃M:FuncData,(∀(s:Shared) (u:Value),BindsTo s M ⟨[u],[]⟩ [(x,u)]) /\
    ∀base:Heap,(K w.params).In base->base.Ns mainGlobals mg->p3 l.prog w (K w.params) mg base (CX w) k y M [x] (sp w))
  (B:∀(w:World) (H:Hp) (a:Addr) (ns:WJ),ns.length<=n->MH H->G7 (K w.params) H a (ns.map V.int)->sp w [.ref a] H (λv _=>v=.bl true) λ_ _ _=>False)
  (J:∀(w:World) (H:Hp) (s:Shared) (e:Value) (z:Shared),CX w [] H s (λ_ _ _=>False) e z->False) :
  PySem.W.WalkO q i XP O l.row.toRowW d [] (λf vs=>PySem.call f vs):=by
 refine Att.qW S I λw s₀ p mg mb y o pm cd a0 a vs ns G Y ho hd X E r j c U=>?_;have Q:=hY w _ Y;obtain⟨M,hb,hF⟩:=F w mg y _ Q G.T.g E;exact Dx Q G.T.g G.T.b G.T.builtins G.T.nolimit U r j (AC c C) R hF hb (λH hO hS=>B w H a ns c hO hS) λH e z=>J w H p e z
def X6(s:Stmt):Arguments:=match s with
 | .FunctionDef _ a _ _ _ _ _ _ _ _=>a
 | _=>{ posonlyargs:=[],args:=[],vararg:=none,kwonlyargs:=[],kw_defaults:=[],kwarg:=none,defaults:=[] }
def G9(s:Stmt):WN:=match s with
 | .FunctionDef _ _ b _ _ _ _ _ _ _=>b
 | _=>[]
def c6(s:Stmt):Scope:=match s with
 | .FunctionDef _ _ _ _ _ _ a _ _ _=>a
 | _=>{ kind:=.function,names:=[],isGenerator:=false,isCoroutine:=false }
abbrev M1:we:=λ_ _ _ _ _ _=>False
abbrev E0:XK:=λ_ _ _=>False
theorem xS:Passes M1 X E0:=λ_ _ _ _ _ _ _ h=>h.elim
structure M0(K:WR)(x qual:Str)(st:Stmt)(f:Addr)(fd:FuncData):Prop where
 ex:∃(oc:Value) (od:Option Addr) (kV doc pm:Value) (an:Option Addr) (cdv ct:Value) (osl:Array (WS)),
  fd=PySem.W.fnOf x qual (X6 st) (G9 st) (c6 st) .none kV doc pm an cdv ct/\K.lookup f=some ⟨oc,od,.func fd,osl⟩/\PySem.W.codeIn K cdv qual=true
 kp:PySem.W.keepIn K (.ref f)=true
section
variable{P:Program}{w:World}{K:WR}{mg:WM}{base:Heap}
theorem M0.ok{st:Stmt}(F:M0 K x a st f g)(S:i3 N ps (c6 st))(len:∀vs H Q E,sp vs H Q E->vs.length=ps.length)
  (c:∀(b:Value) (A:Around) (outer:List Env) (s:Shared) (H:Hp) (vs:List V) (Q:VK) (E:XK),E7 k (A.deeper (envOfC a (c6 st) s.heap.objs.size f b))->sp vs H Q E ->
   ∃t,qE (eR M1 P w K mg base N a (c6 st) f b A outer s H E).Og (G9 st) t/\t { nx:=λ_ o=>Q .l3 o,rt:=Q } (start N vs) H):p3 P w K mg base M1 (k+1) f g ps sp:=by
 obtain⟨u,r,kV,l,p,v,b,ct,i,rfl,lk,e⟩:=F.ex;refine Kn lk e S len λA outer s H vs Q E j d=>?_;obtain⟨t,h,q⟩:=c b A outer s H vs Q E j d;exact⟨t,h.Og,q⟩
theorem M0.binds{st:Stmt}(F:M0 K x a st f i)
  (h:∀(kV b e:Value) (g:Option Addr) (c ct:Value) (d:WH),d.length=ps.length->bindArgs (PySem.W.fnOf x a (X6 st) (G9 st) (c6 st) .none kV b e g c ct) ⟨d,[]⟩=pure (ps.zip d)):Binds K i ps []:=by
 obtain⟨p,o,kV,b,e,g,c,ct,j,rfl,lk,l⟩:=F.ex;exact .all (h kV b e g c ct)
theorem Ce{st:Stmt}{e:Array (WS)}{kV d g b ct:Value}(l:K.lookup f=some ⟨j,i,.func (PySem.W.fnOf x a (X6 st) (G9 st) (c6 st) .none kV d g h b ct),e⟩)
  (c:PySem.W.codeIn K b a=true) (k:PySem.W.keepIn K (.ref f)=true):M0 K x a st f (PySem.W.fnOf x a (X6 st) (G9 st) (c6 st) .none kV d g h b ct):=⟨⟨j,i,kV,d,g,h,b,ct,e,rfl,l,c⟩,k⟩
end
theorem B9(a:E7 k A):A.units+1<cLine:=UJ (Nat.add_le_add_left (by decide) _) a.units
theorem yG(h:n<=1000):n<sizeLine:=UJ h (by decide)
section
variable{X:Cx}
theorem pv (i:Nat)  {a:Pos} (d:X.N[i]?=some x:=by rfl) (c:NY X.env.scope x:=by first | exact Or.inl rfl | exact Or.inr (Or.inl rfl) | exact Or.inr (Or.inr rfl)) (hd:(x == ("__debug__" : Str))=false:=by decide)
  (b:(x == ("__classdict__" : Str))=false:=by decide):PE X (.Name x a) (bq i):=MR d c hd b
end
def c9(H a:Hp):Prop:=∀b o,H b=some o->a b=some o
theorem c9.refl(H:Hp):c9 H H:=λ_ _ h=>h
theorem c9.trans(a:c9 H e)(b:c9 e d):c9 H d:=λc o h=>b c o (a c o h)
theorem c9.free(e:c9 H a)(h:a l=Option.none):H l=Option.none:=by
 cases q:H l with
 | none=>rfl
 | some o=>
  rw[e l o q] at h;cases h
theorem c9.seq{K:WR}(e:c9 H b)(h:G7 K H a xs):G7 K b a xs:=by
 rcases h with(h | ⟨o,h⟩) | h
 ·exact .inl (.inl (e _ _ h))
 ·exact .inl (.inr ⟨o,e _ _ h⟩)
 ·exact .inr h
end L2
set_option maxHeartbeats 4000000
namespace L2
open PySem PySem.Spec PyProof.Rows
theorem mI{e:WI}(I:Nat->Shared->Prop)
  (i:∀n s,I n s->wpAny (model prog w) A (pyNext it) (λr o=>match r with
   | none=>R (.ok .next) o
   | some v=>wpAny (model prog w) A (letOwnedTupleGo a it v) (λ_ y=>wpAny (model prog w) A (assign a env v) (λ_ u=>
     wpAny (model prog w) A (forIn e true λc r=>if r=true then do let ok <-isTrue c env (eval c env);pure (ForInStep.yield ok) else pure (ForInStep.yield r)) (λok l=>
      if ok=true then wpAny (model prog w) A (eval g env) (λx q=>
       wpAny (model prog w) A (call (.builtin "list.append") [acc,x]) (λ_ p=>∃m,m<n/\I m p) (λ_ _=>False) q) (λ_ _=>False) l
      else ∃m,m<n/\I m l) (λ_ _=>False) u) (λ_ _=>False) y) (λ_ _=>False) o) (λ_ _=>False) s)
  (n:Nat) (h:I n s) :
  codeAny (model prog w) A (.compLoop (.ListComp g [⟨a,d,e,0⟩] scope j) 0 it acc env) R s:=by
 refine VX rfl I (λn s C=>?_) n h;refine wpAny_noted ?_;refine eH (KM (eH (v6 (i n s C) (λr o B=>?_) λ_ _ b=>b.elim)))
 cases r with
 | none=>exact hH B
 | some v=>
  refine eH (v6 B (λ_ y J=>?_) λ_ _ b=>b.elim);refine eH (v6 J (λ_ u H=>eH (v6 H (λok l z=>?_) λ_ _ b=>b.elim)) λ_ _ b=>b.elim)
  cases ok with
  | false=>exact hH ⟨rfl,z⟩
  | true=>
   exact eH (eH (v6 z (λx q G=>eH (v6 G (λ_ p E=>hH (hH ⟨rfl,E⟩)) λ_ _ b=>b.elim)) λ_ _ b=>b.elim))
def A2(env:Env):List (Str×NameKind)->WC->WC
 | [],b=>b
 | (n,k)::r,b=>if (k == .free)=true then(match env.cells.lookup n with
   | some a=>A2 env r ((n,a)::b)
   | none=>A2 env r b) else A2 env r b
theorem gA:∀(names:List (Str×NameKind)) (acc:WC),(∀x∈names,x.2=.free->∃a,env.cells.lookup x.1=some a) ->
  (forIn names acc λ(x:Str×NameKind) (cs:WC)=>(if (x.2 == NameKind.free)=true then(do let c <-cellOf env x.1;pure (ForInStep.yield ((x.1,c)::cs))) else pure (ForInStep.yield cs):Sem (ForInStep (WC))))=(pure (A2 env names acc):Sem (WC))
 | [],acc,_=>rfl
 | (n,k)::r,acc,h=>by
  have i:=λb=>gA  r b λx j=>h x (hQ _ j);rw[List.forIn_cons];unfold A2
  by_cases e:(k == NameKind.free)=true
  ·obtain⟨a,l⟩:=h (n,k) re (by simpa using e);have g:=l;simp only[e,cellOf,g];exact i _
  ·have d:(k == NameKind.free)=false:=by simpa using e
   simp only[d];exact i _
theorem R0(h:∀x∈scope.names,x.2=.free->∃a,env.cells.lookup x.1=some a):closureFor scope env=pure (A2 env scope.names []):=by
 have e:=gA  scope.names [] h;exact(Fa (λz=>z >>= λcs=>pure cs) e).trans (by simp)
theorem cU:∀{names:List (Str×NameKind)} {acc:WC} {x:Str} {c:Addr},(A2 env names acc).lookup x=some c->acc.lookup x=some c\/env.cells.lookup x=some c
 | [],acc,x,c,h=>.inl h
 | (n,k)::r,acc,x,c,h=>by
  unfold A2 at h
  by_cases d:(k == NameKind.free)=true
  ·rw[ry d] at h
   cases e:env.cells.lookup n with
   | none=>rw[e] at h;exact cU h
   | some a=>
    rw[e] at h;rcases cU h with z | z
    ·by_cases b:x=n
     ·subst b;simp at z;subst z;exact .inr e
     ·rw[xL] at z;have:(x == n)=false:=by simpa using b
      rw[this] at z;exact .inl z
    ·exact .inr z
  ·rw[ro d] at h;exact cU h
theorem V6:∀{names:List (Str×NameKind)} {acc:WC} {x:Str} {c:Addr},acc.lookup x=some c->∃g,(A2 env names acc).lookup x=some g
 | [],acc,x,c,h=>⟨c,h⟩
 | (n,k)::r,acc,x,c,h=>by
  unfold A2
  by_cases d:(k == NameKind.free)=true
  ·rw[ry d]
   cases e:env.cells.lookup n with
   | none=>exact V6 h
   | some a=>
    by_cases b:x=n
    ·subst b;exact V6 (c:=a) (by simp)
    ·refine V6 (c:=c) ?_;rw[xL];have:(x == n)=false:=by simpa using b
     rw[this];exact h
  ·rw[ro d];exact V6 h
theorem gP:∀{names:List (Str×NameKind)} {acc:WC} {x:Str},(∀y∈names,y.2=.free->∃a,env.cells.lookup y.1=some a)->(x,NameKind.free)∈names->∃c,(A2 env names acc).lookup x=some c
 | [],acc,x,_,h=>by cases h
 | (n,k)::r,acc,x,i,h=>by
  unfold A2;rcases List.mem_cons.mp h with z | z
  ·injection z with o l
   subst o;subst l;obtain⟨a,e⟩:=i (x,.free) re rfl;have p:=e;rw[p];exact V6 (c:=a) (by simp)
  ·have d:=λb=>gP (acc:=b) (λy j=>i y (hQ _ j)) z
   by_cases g:(k == NameKind.free)=true
   ·rw[ry g]
    cases e:env.cells.lookup n with
    | none=>exact d _
    | some a=>exact d _
   ·rw[ro g];exact d _
theorem Y0{env:Env}:∀{names:List (Str×NameKind)} {x:Str} {k:NameKind},
  (names.map λ(n,k)=>if (k == NameKind.free&&env.scope.kind == .function&&env.kindOf n == some .cell) then(n,NameKind.cell) else(n,k)).lookup x=some k->(k=.cell\/k=.free)->(∀y∈names,y.2≠.cell)->(x,NameKind.free)∈names
 | [],_,_,h,_,_=>by cases h
 | (n,q)::r,x,k,h,g,i=>by
  have j:=@Y0 env r x k;rw[sw] at h
  by_cases e:(q == NameKind.free&&env.scope.kind == .function&&env.kindOf n == some .cell)=true
  ·have c:=by
    have:=(Bool.and_eq_true_iff.mp (Bool.and_eq_true_iff.mp e).1).1;simpa using this
   simp only[e,U0] at h
   by_cases a:x=n
   ·subst a;rw[c];exact re
   ·rw[xL] at h;have:(x == n)=false:=by simpa using a
    rw[this] at h;exact hQ _ (j h g λy b=>i y (hQ _ b))
  ·have d:(q == NameKind.free&&env.scope.kind == .function&&env.kindOf n == some .cell)=false:=by simpa using e
   simp only[d,Ui,UI] at h
   by_cases a:x=n
   ·subst a;simp at h;subst h;rcases g with z | z
    ·exact absurd z (i (x,q) re)
    ·rw[z];exact re
   ·rw[xL] at h;have:(x == n)=false:=by simpa using a
    rw[this] at h;exact hQ _ (j h g λy b=>i y (hQ _ b))
def y8(X:Cx)(N:WG)(scope:Scope)(cl:WC)(a:WE)(s:Shared)(H:Hp):Cx where
 prog:=X.prog
 w:=X.w
 K:=X.K
 mg:=X.mg
 base:=X.base
 A:=X.A
 N:=N
 s₀:=s
 H₀:=H
 env:=compEnvC scope cl s.heap.objs.size X.env
 outer:=X.stack
 stack:=X.stack
 ex:=a
 fn:=λ_=>false
 calm:=X.calm
 pn:=[]
 xe:=λ_ _=>False
def K5(cap:WB)(σ:St):St:=cap.map λo=>match o with
 | some j=>(σ[j]?).join
 | none=>none
def V4(XN N:WG)(XS scope:Scope)(cap:WB):Bool:=
 (cap.length == N.length)&&(List.range N.length).all (λi=>match N[i]?,cap[i]? with
  | some x,some (some j)=>(XN[j]? == some x)&&((XS.names.lookup x == some .cell)||(XS.names.lookup x == some .free))&&(scope.names.lookup x == some .free)
  | some _,some none=>true
  | _,_=>false)
 && scope.names.all (λy=>y.2 != .cell)&&scope.names.all (λy=>y.2 != .free||(XS.names.lookup y.1 == some .cell)||(XS.names.lookup y.1 == some .free))
 && scope.names.all (λy=>y.2 != .local||(scope.names.lookup y.1 == some .local))
theorem cM{env:Env}:∀{names:List (Str×NameKind)} {x:Str},names.lookup x=some .free ->
  (names.map λ(n,k)=>if (k == NameKind.free&&env.scope.kind == .function&&env.kindOf n == some .cell) then(n,NameKind.cell) else(n,k)).lookup x=some .cell \/
  (names.map λ(n,k)=>if (k == NameKind.free&&env.scope.kind == .function&&env.kindOf n == some .cell) then(n,NameKind.cell) else(n,k)).lookup x=some .free
 | [],_,h=>by cases h
 | (n,q)::r,x,h=>by
  have g:=@cM env r x;rw[sw]
  by_cases e:x=n
  ·subst e;simp at h;subst h
   by_cases c:(NameKind.free == NameKind.free&&env.scope.kind == .function&&env.kindOf x == some .cell)=true
   ·left
    simp only[c,U0];simp
   ·right
    have a:(NameKind.free == NameKind.free&&env.scope.kind == .function&&env.kindOf x == some .cell)=false:=by simpa using c
    simp only[a,Ui,UI];rw[xL];simp
  ·have d:(x == n)=false:=by simpa using e
   rw[xL,d] at h;have b:=g h
   by_cases c:(q == NameKind.free&&env.scope.kind == .function&&env.kindOf n == some .cell)=true
   ·simp only[c,U0];rw[xL,d];exact b
   ·have a:(q == NameKind.free&&env.scope.kind == .function&&env.kindOf n == some .cell)=false:=by simpa using c
    simp only[a,Ui,UI];rw[xL,d];exact b
structure L0(X:Cx)(N:WG)(scope:Scope)(cap:WB):Prop where
 len:cap.length=N.length
 slot:∀(i:Nat) (x:Str) (j:Nat),N[i]?=some x->cap[i]?=some (some j)->X.N[j]?=some x/\(X.env.kindOf x=some .cell\/X.env.kindOf x=some .free)/\scope.names.lookup x=some .free
 nocell:∀y∈scope.names,y.2≠.cell
 free:∀y∈scope.names,y.2=.free->(X.env.kindOf y.1=some .cell\/X.env.kindOf y.1=some .free)
 loc:∀y∈scope.names,y.2=.local->scope.names.lookup y.1=some .local
theorem O0(B:X.N=XN)(v:X.env.scope=XS)(h:V4 XN N XS scope cap=true):L0 X N scope cap:=by
 subst B;subst v;unfold V4 at h;rw[uk,uk,uk,uk] at h;obtain⟨⟨⟨⟨C,l⟩,g⟩,e⟩,d⟩:=h;rw[Ue] at l g e d;have c:=by simpa using C
 refine⟨c,λi x j o E=>?_,λy b z=>?_,λy b z=>?_,λy b z=>?_⟩
 ·have u:=(List.getElem?_eq_some_iff.mp o).1;have q:=l i (List.mem_range.mpr u);rw[o,E] at q;rw[uk,uk,Vi] at q;obtain⟨⟨r,a⟩,p⟩:=q;refine⟨by simpa using r,?_,by simpa using p⟩;rcases a with a | a
  ·exact .inl (beq_iff_eq.mp a)
  ·exact .inr (beq_iff_eq.mp a)
 ·have q:=g y b;rw[z] at q;exact absurd q (by decide)
 ·have q:=e y b;rw[z,Vi,Vi] at q;rcases q with(q | q) | q
  ·exact absurd q (by decide)
  ·exact .inl (beq_iff_eq.mp q)
  ·exact .inr (beq_iff_eq.mp q)
 ·have q:=d y b;rw[z,Vi] at q;rcases q with q | q
  ·exact absurd q (by decide)
  ·simpa using q
section
variable{X:Cx}{N:WG}{scope:Scope}{cap:WB}{fp:WE}{pins:WA}{σ:St}{H:Hp}{s:Shared}
theorem Inv.S3(I:Inv X pins σ H s)(c:L0 X N scope cap):∀y∈scope.names,y.2=.free->∃a,X.env.cells.lookup y.1=some a:=λy b z=>I.ok.has y.1 (c.free y b z)
theorem X2(h:(A2 X.env scope.names []).lookup x=some c):X.env.cells.lookup x=some c:=by
 rcases cU h with z | z
 ·cases z
 ·exact z
theorem qN(I:Inv X pins σ H s)(M:L0 X N scope cap)(S:∀b∈fp,∀x c,X.env.cells.lookup x=some c->c≠b){C:Addr}{Y:Hp}{h':Heap}(u:Un (Z5 X.stack) fp H Y s.heap h') :
  ∀(i:Nat) (x:Str) (v:V),N[i]?=some x->(K5 cap σ)[i]?=some (some v)->∃w,RelV v w/\∀m,Look (compEnvC scope (A2 X.env scope.names []) C X.env) h' m x w:=by
 intro i x v U a;unfold K5 at a;rw[rx] at a
 cases E:cap[i]? with
 | none=>rw[E] at a;cases a
 | some o=>
  rw[E] at a
  cases o with
  | none=>cases a
  | some j=>
   have p:(σ[j]?).join=some v:=v7 a
   have T:σ[j]?=some (some v):=by
    cases q:σ[j]? with
    | none=>rw[q] at p;cases p
    | some o'=>rw[q] at p;exact Fa some p
   obtain⟨O,J,G⟩:=M.slot i x j U E;obtain⟨m,hn,R⟩:=I.loc
   have y:NY X.env.scope x:=by
    rcases J with k | k
    ·exact .inr (.inl k)
    ·exact .inr (.inr k)
   obtain⟨w,r,l⟩:=R j x v O T y;refine⟨w,r,λm'=>?_⟩;rcases l with⟨h,_⟩ | ⟨_,c,B,o,Q,hd⟩
   ·rcases J with k | k
    ·rw[k] at h;cases h
    ·rw[k] at h;cases h
   ·obtain⟨c',g⟩:=gP  (I.S3 M) (Tx G);have d:=X2 g;rw[B] at d;cases d;obtain⟨sl,e⟩:=u.any Q (I.freeC x c B) (λz=>S c z x c B rfl);exact .inr ⟨cM G,c,g,⟨_,e,hd⟩⟩
theorem Cx.Ok.comp(I:Inv X pins σ H s)(i:L0 X N scope cap)(j:scope.kind=.function)(d:∀b∈fp,L8 X pins H b)(l:∀b∈fp,b<s.heap.objs.size):(y8 X N scope (A2 X.env scope.names []) fp s H).Ok:=by
 refine⟨I.ok.mod,j,I.ok.glob,I.ok.blt,oT _,λx y c r p=>I.ok.inj x y c (X2 r) (X2 p),λx a=>?_,λx c z=>absurd (z) rm,I.ok.hd,I.ok.frames,.inl rfl,λb z=>⟨t8 (l b z),λx c h=>(d b z).2.2.2.2.1 x c (X2 h)⟩,I.bs,AC I.ok.bsz I.sz,λb o e z=>?_,λb z q=>?_,I.stack,I.mi⟩
 ·have g:(x,NameKind.free)∈scope.names:=by
   rcases a with a | a
   ·exact Y0 a (.inl rfl) i.nocell
   ·exact Y0 a (.inr rfl) i.nocell
  exact gP  (I.S3 i) g
 ·rcases(d b z).2.2.2.1 with q | q
  ·exact I.ok.noex b o e q
  ·exact absurd (uy (sK e) (AC I.ok.bsz q)) (TL _)
 ·rcases List.mem_cons.mp (I.tN b q) with e | e
  ·exact(d b z).2.1 e
  ·exact(d b z).2.2.1 e
theorem gC(I:Inv X pins σ H s)(d:L0 X N scope cap)(u:scope.kind=.function)(e:∀b∈fp,L8 X pins H b)(y:∀b∈fp,b<s.heap.objs.size){m:WM}
  (q:a.Ns s.heap.objs.size m) (keep:∀b o,s.heap.get? b=some o->a.get? b=some o):Inv (y8 X N scope (A2 X.env scope.names []) fp s H) [] (K5 cap σ) H { s with heap:=a,toks:=tk }:=by
 refine⟨Cx.Ok.comp I d u e y,rfl,I.bare,Un.kept keep,⟨m,q,λi x v E B _=>?_⟩,λx c h=>?_,I.hok.fresh (oT _),λx c h=>I.freeC x c (X2 h),λp g=>absurd (show p∈([]) from g) (by simp),I.hok.kept keep,?_⟩
 ·obtain⟨w,r,l⟩:=qN  I d (λb z=>(e b z).2.2.2.2.1) (Un.kept keep) i x v E B;exact⟨w,r,l m⟩
 ·obtain⟨v,o,j,hd⟩:=I.cell x c (X2 h);exact⟨v,o,keep c o j,hd⟩
 ·unfold K5;rw[dL];exact d.len
theorem eu(I:Inv X pins σ H s)(e:L0 X N scope cap)(j:∀b∈fp,L8 X pins H b){c:St}(J:Inv (y8 X N scope (A2 X.env scope.names []) fp s H) a c g d) :
  Inv (y8 X N scope (A2 X.env scope.names []) fp s H) a (K5 cap σ) g d:=by
 refine⟨J.ok,J.os,J.bare,J.base,?_,J.cell,J.free,J.freeC,J.pin,J.hok,?_⟩
 ·obtain⟨m,h,_⟩:=J.loc;refine⟨m,h,λi x v p o _=>?_⟩;obtain⟨w,r,l⟩:=qN  I e (λb z=>(j b z).2.2.2.2.1) J.base i x v p o;exact⟨w,r,l m⟩
 ·unfold K5;rw[dL];exact e.len
theorem Inv.rD(I:Inv X pins σ H s)(a:L8 X pins H C)(c:Heap.SameBut C s.heap h'):Inv X pins σ H { s with heap:=h' }:=
 I.turned  (λb o d e=>(c.2 b d).trans e) a.1 a.2.1 a.2.2.2.1 a.2.2.2.2.1 a.2.2.2.2.2
end
def uY(X:Cx)(d:WI)(t:TT):Prop:=
 ∀(a:WA) (s:Shared) (b:St) (H:Hp) (Q:Bool->Hp->Prop),Inv X a b H s->t b H Q ->
  wpAny (model X.prog X.w) X.A (forIn d true λc r=>if r=true then do let ok <-isTrue c X.env (eval c X.env);pure (ForInStep.yield ok) else pure (ForInStep.yield r)) (TP X a b Q) X.xe s
def RX:TT:=λ_ H Q=>Q true H
theorem wz:uY X [] RX:=λ_ _ _ H _ I h=>wpAny_tests_nil ⟨H,I,h⟩
theorem Hh(h:PT X c t):uY X [c] t:=λa s b H Q I q=>wpAny_tests_one (h a s b H Q I q)
def QY(J:It)(g:TG)(tc:TT)(te:TE)(h:St)(Q:VK)(o:Hp):Prop:=∀d,o d=none ->
 ∃W:Nat->Nat->Hp->Prop,(∃m,W 0 m (upd o d (.lst [])))/\∀i m H,W i m H ->
  (J.stop i H/\Q (.ref d) H) \/
  (J.go i H/\∀x p,J.yld i H x p->g x h p λc q=>tc c q λb l=>
   if b=true then te c l λv j=>∃a,j d=some (.lst a)/\a.length<sizeLine/\∃e,e<m/\W (i+1) e (upd j d (.lst (a++[v])))
   else ∃e,e<m/\W (i+1) e l)
def RH(H c:Hp):Prop:=∀b a,H b=some (.tup a)->c b=some (.tup a)
theorem c9.P4(h:c9 H a):RH H a:=λb c e=>h b _ e
theorem c9.e7(h:H d=none):c9 H (upd H d o):=λb u e=>by
 rw[e9 (o6 e h)];exact e
section
variable{X:Cx}
def Qq:V->WS
 | .ty n=>some (.type n)
 | .ref a=>some (.ref a)
 | _=>none
theorem fg:D4 X (.builtin "isinstance") (λxs H Q=>∃x c t cv b,xs=[x,c]/\Qq c=some cv/\cw X.K H x t/\PySem.W.kitOne X.K t cv=some b/\Q (.bl b) H):=by
 intro g s v H xs y Q I r h;obtain⟨x,c,t,cv,b,rfl,d,l,o,q⟩:=h;obtain⟨u,i,rfl,j,e⟩:=vals2 r
 have p:i=cv:=by
  cases c with
  | ty n=>cases d;exact e
  | ref a=>cases d;exact e
  | _=>cases d
 subst p;exact yL I j l o λtk=>⟨.bl b,H,I.tok tk,rfl,q⟩
def R4(i j:Int):Prop:=0<j/\j.natAbs.log2<9000
theorem Fd:N6 X (binaryOp .FloorDiv) (rI R4 λi j=>.int (i/j)):=QV λi j _ _ _ _ _ a q=>by
 have b:=a.1;exact floordiv_int (by omega) (by rw[Int.fdiv_eq_ediv_of_nonneg i (by omega)];exact q) (.inl (PyProof.noPylong_of_log2 a.2))
end
section
variable{X:Cx}{pins:WA}{σ:St}{H:Hp}{s:Shared}{h':Heap}
theorem Inv.yy{ch:WE}{T:Addr}(I:Inv X pins σ H s)(a:∀b∈ch,L8 X pins H b)(k:∀b o,b∉ch->s.heap.get? b=some o->h'.get? b=some o)
  (j:s.heap.objs.size<=T) (rv:Vals xs its) (hz:xs.length<=sizeLine) (p:IsTup h' T its.toArray):Inv X pins σ (upd H T (.tup xs)) { s with heap:=h',toks:=t' }:=by
 have i:=I.hok.fresh j;have h:∀b u,H b=some u->b∉ch:=λb u e z=>by rw[(a b z).1] at e;cases e
 have neT:∀b o,s.heap.get? b=some o->b≠T:=λb o e=>t8 (uy (sK e) j)
 refine I.step    (λb g=>⟨(a b g).2.2.2.1,(a b g).2.1,(a b g).2.2.2.2.1,(a b g).2.2.2.2.2⟩) (λb o _ _ d e _=>k b o d e) (λb o _ _ d e _=>⟨o.slots,k b o d e⟩)
  (λb o d e n=>by rw[e9 (neT b o e)];exact n) (λb o d e=>⟨o,k b o d e⟩) (λb l e=>by rw[e9 (o6 e i)];exact e) (λb o u e=>by rw[e9 (o6 e i)];exact e)
  (λb E e=>⟨#[],by rw[e9 (o6 e i),e];simp⟩) (λm y=>?_) (λb u e=>?_) I.bare
 ·obtain⟨o,B,C,x,r⟩:=y;exact⟨o,B,C,k _ o (λz=>(a _ z).2.1 rfl) x,r⟩
 ·by_cases g:b=T
  ·subst g;rw[c7] at e;cases e;exact⟨hz,its,rv,p⟩
  ·rw[e9 g] at e;refine(I.hok b u e).cQ (λc v d q=>k c v ?_ q) (λc q=>by rw[e9 (o6 q i)];exact q) λc l q=>by rw[e9 (o6 q i)];exact q
   rcases d with z | z
   ·rw[z];exact h b u e
   ·exact h c _ z
theorem Inv.Jp{ch:WE}(I:Inv X pins σ H s)(a:∀b∈ch,L8 X pins H b)(k:∀b o,b∉ch->s.heap.get? b=some o->h'.get? b=some o):Inv X pins σ H { s with heap:=h',toks:=t' }:=by
 have g:∀b u,H b=some u->b∉ch:=λb u e z=>by rw[(a b z).1] at e;cases e
 refine I.step    (λb h=>⟨(a b h).2.2.2.1,(a b h).2.1,(a b h).2.2.2.2.1,(a b h).2.2.2.2.2⟩) (λb o _ _ d e _=>k b o d e) (λb o _ _ d e _=>⟨o.slots,k b o d e⟩)
  (λb o d e n=>n) (λb o d e=>⟨o,k b o d e⟩) (λ_ _ e=>e) (λ_ _ _ e=>e) (λb x e=>⟨#[],by rw[e];simp⟩) (λm j=>?_) (λb u e=>?_) I.bare
 ·obtain⟨o,l,p,i,r⟩:=j;exact⟨o,l,p,k _ o (λz=>(a _ z).2.1 rfl) i,r⟩
 ·refine(I.hok b u e).cQ (λc v d q=>k c v ?_ q) (λ_ q=>q) λ_ _ q=>q;rcases d with z | z
  ·rw[z];exact g b u e
  ·exact g c _ z
end
def GS(K:WR)(a:Addr):It:=
 ⟨λi H=>∃b x,G7 K H a b/\b[i]?=some x,λi H x c=>∃p y,x=.ref p/\H p=none/\c=upd H p (.tup [.int i,y])/\∀b,G7 K H a b->b[i]?=some y,λi H=>∃b,G7 K H a b/\b.length<=i⟩
theorem zg{K:WR}{M:WI}(a e it:Addr)(J:e≠it):Turn P w K (.Tuple M x1 tp) (GS K a) [e,it] e (λi h=>(∃old,IsEnum h e it (i:Nat) old)/\h.IsListIter it a i) where
 mem:=by simp
 obj:=λi h st b g=>by
  obtain⟨⟨old,r⟩,o,T,c,d⟩:=st;rcases List.mem_cons.mp g with rfl | g
  ·exact⟨_,r,λv z=>by
    have z':=z;cases z'⟩
  ·have z:=by simpa using g
   subst z;exact⟨o,T,λv z=>by rw[d] at z;cases z⟩
 keep:=λi h h' st k=>by
  obtain⟨⟨old,r⟩,hit⟩:=st;exact⟨⟨old,k e (by simp) _ r⟩,hit.at λo q=>k it (by simp) o q⟩
 item:=by
  intro X hP hw hK hc i j s σ H E I G st U;subst hP hw hK;obtain⟨⟨old,r⟩,hit⟩:=st;obtain⟨xs,x,O,R⟩:=U;obtain⟨Q,rv,p,hz⟩:=I.list O;obtain⟨u,hu,ru⟩:=rv.get R;refine wpAny_pyNext_enum_item r hit p.isList (x:=u) (by simpa using hu) J λh1 Y B hT a1 hk=>?_;refine⟨_,rfl,wpAny_letOwnedTupleGo_enum Y λh2 a0 y=>?_⟩;have l:e<s.heap.objs.size:=sK r;have C:it<s.heap.objs.size:=by obtain⟨o,T,_⟩:=hit;exact sK T
  have S:IsTup h2 s.heap.objs.size [Value.int i s.toks,u].toArray:=⟨_,(y.2 _ (Uq l)).trans hT,rfl,_,rfl⟩
  have I2:Inv X j σ (upd H s.heap.objs.size (.tup [.int i,x])) { s with heap:=h2,toks:=s.toks+1 }:=by
   refine I.yy (ch:=[e,it]) G (λb o g q=>?_) (oT _) (.cons ⟨_,rfl⟩ (.cons ru .nil)) (by show 2<=sizeLine;decide) S;have b1:b≠e:=λz=>g (by simp[z]);have b2:b≠it:=λz=>g (by simp[z]);exact(y.2 b b1).trans (hk b o b1 b2 q)
  refine⟨.ref s.heap.objs.size,_,I2,rfl,⟨s.heap.objs.size,x,rfl,I.fresh,rfl,λys hy=>by rw[I.qT hy O];exact R⟩,⟨⟨u,by simpa using a0⟩,B.extBut y.extBut (Ne.symm J)⟩,λb g=>?_⟩;rcases List.mem_cons.mp g with rfl | g
  ·rw[e9 (t8 l)];exact(G _ (by simp)).1
  ·have z:b=it:=by simpa using g
   subst z;rw[e9 (t8 C)];exact(G _ (by simp)).1
 done:=by
  intro X hP hw hK hc i j s σ H E I G st U;subst hP hw hK;obtain⟨⟨old,r⟩,hit⟩:=st;obtain⟨xs,O,R⟩:=U;obtain⟨Q,rv,p,hz⟩:=I.list O;have hl:=rv.length;refine wpAny_pyNext_enum_end (I.ok.hd hc) r hit p.isList (by simp;omega) λh1 eb=>⟨rfl,I.Jp (t':=s.toks) (ch:=[e,it]) G λb o g q=>eb b o (λz=>g (by simp[z])) q⟩
 self:=λ_ _ _ _ _ st h=>wpAny_pyIter_enum st.1.choose_spec h
def JX(K:WR)(e:TA):TI:=λc H R=>e c H λvs b=>∃a,vs=[.ref a]/\(∃d,G7 K b a d)/\R (GS K a) b
theorem HJ  {j:WI}      (U:Gl X "enumerate") (S:X.mg "enumerate"=none) (Y:PA X [a] v) (O:starEach [a] X.env=[(false,eval a X.env)]:=by rfl) :
  PI X (.Tuple j B tp) (.Call (.Name "enumerate" p) [a] [] i) (JX X.K v):=by
 refine .of ?_;intro c s u H R I h;refine Call_ (bA I U S boot_enumerate (TV (p9 (Y i c s u H _ I h) λus d ⟨vs,y,g,E,G⟩=>?_) O rfl));obtain⟨l,e,⟨xs,Q⟩,q⟩:=G;subst e
 cases E with
 | cons r C=>
  cases C;cases r;obtain⟨J,rv,pl,hz⟩:=g.list Q;refine call_enumerate_list pl.isList λh' x hit M T=>wpAny_pyIter_enum x ?_;have I2:=g.kept (t':=d.toks) T;refine⟨d.heap.objs.size+1,[d.heap.objs.size+1,d.heap.objs.size],_,_,y,rfl,I2,zg l _ _ (Nat.succ_ne_self _),⟨⟨_,x⟩,hit⟩,λb o=>?_,q⟩;rcases List.mem_cons.mp o with rfl | o
  ·exact g.fP (UO _) (g.hok.fresh (UO _))
  ·have z:=by simpa using o
   subst z;exact g.fP (oT _) (g.hok.fresh (oT _))
section
variable{prog:Program}{w:World}{A:Around}{E:WO}{s:Shared}
end
def RM(b:Bool)(h:Heap)(it l:Addr)(i:Nat):Prop:=match b with
 | true=>h.IsTupleIter it l i
 | false=>h.IsListIter it l i
def OD(b:Bool)(h:Heap)(l:Addr)(items:WL):Prop:=match b with
 | true=>h.IsTuple l items
 | false=>h.IsList l items
theorem RM.at(x:RM b h it l i)(k:∀o,h.get? it=some o->h'.get? it=some o):RM b h' it l i:=by
 cases b with
 | true=>obtain⟨o,a,r⟩:=x;exact⟨o,k o a,r⟩
 | false=>obtain⟨o,a,r⟩:=x;exact⟨o,k o a,r⟩
theorem OD.at(x:OD b h l items)(k:∀o,h.get? l=some o->h'.get? l=some o):OD b h' l items:=by
 cases b with
 | true=>obtain⟨o,a,r⟩:=x;exact⟨o,k o a,r⟩
 | false=>obtain⟨o,a,r⟩:=x;exact⟨o,k o a,r⟩
theorem OD.lt(x:OD b h l items):l<h.objs.size:=by
 cases b with
 | true=>obtain⟨o,a,r⟩:=x;exact sK a
 | false=>obtain⟨o,a,r⟩:=x;exact sK a
section
variable{prog:Program}{w:World}{A:Around}{E:WO}{s:Shared}{z TI TO i1 i2 l1 l2:Addr}{b1 b2:Bool}{k:Nat}{xs ys:WL}{x y a b:Value}
def Ro(b:Bool):String:=if b then "tuple_iterator" else "list_iterator"
end
end L2
namespace HT
open PySem PySem.Spec PyProof.Rows
section
variable{prog:Program}{w:World}{A:Around}{E:WO}{s:Shared}
theorem BH{a:WH}{Q:WO}(o:IsTup s.heap t ([]:WH).toArray)(p:IsTup s.heap b a.toArray)(h:Q (.ref b) s) :
  wpAny (model prog w) A (binaryOp .Add (.ref t) (.ref b)) Q E s:=by
 obtain⟨⟨c1,d1,r,l⟩,g1,i,n1,e⟩:=id o;obtain⟨⟨c2,d2,q,j⟩,c,g,n2,d⟩:=id p;subst i e g d;exact VW ⟨_,g1,rfl⟩ ⟨_,c,rfl⟩ noFill_tuple_add seq_tuple_add U1 UW (UT _ _) (tuple_addW0 t b _ a.toArray n1 n2 d1 d2 l j rfl) ⟨g1,c,h⟩
theorem uA{items:WL}{lo b:Option Int}{Q:WO}(a:IsTup s.heap t items)(l:s.heap.IsSliceOf c j i .none)(pl:IsPart j lo)(u:IsPart i b)
  (r:D3 items.size 0 lo=0) (q:D3 items.size items.size b=items.size) (h:Q (.ref t) s):wpAny (model prog w) A (getItem (.ref t) (.ref c)) Q E s:=by
 obtain⟨os,d,e,v⟩:=id l;have g:s.TypeIs (.ref c) "slice":=⟨os,d,e⟩
 unfold getItem
 try with_reducible refine x2 ?_
 first | refine eH (hH ?_) | skip
 refine eH (VT a.typeIs (by decide) ?_)
 refine eH (A1 (name:=Str.ofString "__getitem__") a.typeIs C2
  (z0 C2 a.typeIs entry_tuple_getitem ?_ (args_tuple_getitem _ _)))
 show wpAny _ _ (Builtin.Tuple.tupleItemsOf (.ref t) >>= _) _ _ s;refine eH (tupleItemsOf_ a ?_);refine eH (Uz g ?_);rw[ry (by decide)];refine eH (V5 l pl u ?_)
 have yes:(((D3 items.size 0 lo:Nat):Int) == 0&&(1:Int) == 1&&(D3 items.size items.size b-D3 items.size 0 lo) == items.size)=true:=by
  rw[r,q];simp
 show wpAny _ _ (if (((D3 items.size 0 lo:Nat):Int) == 0&&(1:Int) == 1&&(D3 items.size items.size b-D3 items.size 0 lo) == items.size)=true then _ else _) _ _ s;rw[ry yes];obtain⟨⟨c1,d1,x,y⟩,g1,p,n1,o⟩:=id a;simp only at p o;subst p o
 wp_walk using wpAny_loadPart' g1
 exact⟨_,rfl,hH h⟩
end
end HT
namespace L2
open PySem PySem.Spec PyProof.Rows
section
variable{X:Cx}{pos:Pos}
def Fh:R2:=λx y H Q=>∃a b d c,x=.ref a/\y=.ref b/\H a=some (.tup d)/\H b=some (.tup c)/\d.length+c.length<=sizeLine/\∀r e,c9 H e->e r=some (.tup (d++c))->Q (.ref r) e
theorem IG:N6 X (binaryOp .Add) Fh:=by
 intro c s o H x y v u Q I j i h;obtain⟨a,b,g,r,rfl,rfl,e,d,J,q⟩:=h
 by_cases l:g=[]
 ·subst l;cases j;cases i;obtain⟨G,B,E,_⟩:=I.tuple (P8.of e);obtain⟨R,O,C,_⟩:=I.tuple (P8.of d);obtain rfl:G=[]:=B.gg.mpr rfl;exact HT.BH E C ⟨.ref b,H,I,rfl,q b H (c9.refl _) d⟩
 ·refine IF c s o H _ _ v u Q I j i ⟨a,b,g,r,rfl,rfl,P8.of e,P8.of d,l,J,λz=>q a H (c9.refl _) (by rw[z,tz];exact e),λz p M=>q p _ (c9.e7 M) c7⟩
def RS:V->Option Int->Option Int->Hp->VK->Prop:=λx lo d H Q=>∃a c,x=.ref a/\H a=some (.tup c)/\∀r b,c9 H b->b r=some (.tup (iQ c lo d))->Q (.ref r) b
theorem Me:KD X RS:=by
 intro d s y H x v B z lo u C Q I i o pl j h;obtain⟨a,c,rfl,g,q⟩:=h
 by_cases hw:HT.D3 c.length 0 lo=0/\HT.D3 c.length c.length u=c.length
 ·cases i;obtain⟨e,r,l,G⟩:=I.tuple (P8.of g);have b:e.toArray.size=c.length:=by exact r.length.symm
  refine⟨"tuple",_,PyProof.Rows.slot_tuple_getitem.lookup,l.typeIs,?_⟩;refine HT.uA l o pl j (by rw[b];exact hw.1) (by rw[b];exact hw.2) ⟨.ref a,H,I,rfl,q a H (c9.refl _) ?_⟩;rw[g];unfold iQ;rw[hw.1,hw.2];simp
 ·exact NA d s y H _ v B z lo u C Q I i o pl j ⟨a,c,rfl,P8.of g,hw,λp E=>q p _ (c9.e7 E) c7⟩
end
section
variable{X:Cx}
def isStar:Expr->Bool
 | .Starred _ _=>true
 | _=>false
theorem M6{a:WI}(h:isStar e=false):starEach (e::a) env=(false,eval e env)::starEach a env:=by
 cases e<;>first | rfl | cases h
theorem bp(d:PE X e te)(c:PA X a t)(b:isStar e=false):PA X (e::a) (Ku te t):=wV d c (M6 b)
end
def Tn(b:Addr)(fs:List (Str×V)):HO:=.ext λh=>∃a,h.Ns1 b a/\(∀f,dC (fs.lookup f) (a f))/\Within a (fs.map (·.1))
end L2
namespace L3
open PySem PySem.Spec L2
inductive D where
 | l3 | bl (b:Bool) | int (i:Int) | str (x:Str)
 | tup (xs:List D) | lst (xs:List D) | dic (kvs:List (Key×D)) | ty (n:String) | adr (a:Addr) | fz (xs:List D) | st (ks:List Key) | xc (e dx:Addr) (fs:List (Str×V)) | dn (kvs:List (K3×Int))
mutual
def u9:D->Bool
 | .l3=>true
 | .bl _=>true
 | .int _=>true
 | .str _=>true
 | .tup xs=>u6 xs
 | .lst _=>false
 | .dic _=>false
 | .st _=>false
 | .dn _=>false
 | .xc _ _ _=>false
 | .ty _=>true
 | .adr _=>true
 | .fz xs=>u6 xs
def u6:List D->Bool
 | []=>true
 | x::xs=>u9 x&&u6 xs
end
def Kv(K:WR)(H:Hp)(a:Addr)(xs:List V):Prop:=
 (∃o,H a=some (.frz o (.lst xs))) \/
  ∃(o:Obj) (b:WL) (n:Nat),K.lookup a=some o/\o.cls=.type "list" /\ o.dict=none/\o.data=.seq b n/\b.size<=sizeLine/\Vals xs b.toList
theorem Kv.sq(h:Kv K H a xs):G7 K H a xs:=by
 rcases h with⟨o,h⟩ | h
 ·exact .inl (.inr ⟨o,h⟩)
 ·exact .inr h
mutual
inductive Rep(K:WR)(H:Hp):V->D->WE->Prop
 | l3:Rep K H .l3 .l3 []
 | bl {b:Bool}:Rep K H (.bl b) (.bl b) []
 | int {i:Int}:Rep K H (.int i) (.int i) []
 | str {x:Str}:Rep K H (.str x) (.str x) []
 | tup {p:Addr} {vs:List V} {ds:List D} {A:WE}:H p=some (.tup vs)->i5 K H vs ds A->Rep K H (.ref p) (.tup ds) A
 | lst {p:Addr} {vs:List V} {ds:List D} {A:WE}:H p=some (.lst vs)->i5 K H vs ds A->Rep K H (.ref p) (.lst ds) (p::A)
 | frz {p:Addr} {vs:List V} {ds:List D} {A:WE}:Kv K H p vs->i5 K H vs ds A->Rep K H (.ref p) (.fz ds) A
 | dic {p:Addr} {kvs:List (Key×V)} {kds:List (Key×D)} {A:WE} {ep:Nat}:H p=some (.dE kvs ep)->u7 K H kvs kds A->Rep K H (.ref p) (.dic kds) (p::A)
 | st {p:Addr} {S:Key->Bool} {n:Nat} {ks:List Key}:H p=some (.set S n)->(∀k:Key,S k=ks.any λz=>decide (z=k))->Rep K H (.ref p) (.st ks) [p]
 | xc {e dx:Addr} {fs:List (Str×V)}:H dx=some (Tn dx fs)->Rep K H (.ref e) (.xc e dx fs) [dx]
 | dn {p:Addr} {kvs:List (K3×Int)}:H p=some (.dN (kvs.map λq=>(q.1,V.int q.2)))->Rep K H (.ref p) (.dn kvs) [p]
 | ty {n:String}:Rep K H (.ty n) (.ty n) []
 | adr {p:Addr}:Rep K H (.ref p) (.adr p) []
inductive i5(K:WR)(H:Hp):List V->List D->WE->Prop
 | nil:i5 K H [] [] []
 | cons {v:V} {d:D} {vs:List V} {ds:List D} {A B:WE}:Rep K H v d A->i5 K H vs ds B->i5 K H (v::vs) (d::ds) (A++B)
inductive u7(K:WR)(H:Hp):List (Key×V)->List (Key×D)->WE->Prop
 | nil:u7 K H [] [] []
 | cons {k:Key} {v:V} {d:D} {vs:List (Key×V)} {ds:List (Key×D)} {A B:WE}:Rep K H v d A->u7 K H vs ds B->u7 K H ((k,v)::vs) ((k,d)::ds) (A++B)
end
structure V2(H H':Hp):Prop where
 P4:∀b xs,H b=some (.tup xs)->H' b=some (.tup xs)
 frzs:∀b o u,H b=some (.frz o u)->H' b=some (.frz o u)
 dom:∀b,H' b=none->H b=none
structure Tf(H H':Hp):Prop where
 P4:∀b xs,H b=some (.tup xs)->H' b=some (.tup xs)
 frzs:∀b o u,H b=some (.frz o u)->H' b=some (.frz o u)
theorem V2.tf(s:V2 H a):Tf H a:=⟨s.P4,s.frzs⟩
theorem V2.refl(H:Hp):V2 H H:=⟨λ_ _ h=>h,λ_ _ _ h=>h,λ_ h=>h⟩
theorem V2.trans(a:V2 H e)(b:V2 e d):V2 H d:=⟨λc x h=>b.P4 c x (a.P4 c x h),λc o u h=>b.frzs c o u (a.frzs c o u h),λc h=>a.dom c (b.dom c h)⟩
theorem V2.of(s:c9 H a):V2 H a:=⟨λb _ h=>s b _ h,λb _ _ h=>s b _ h,λb h=>s.free h⟩
theorem Tf.RV(s:Tf H b)(h:Kv K H a xs):Kv K b a xs:=by
 rcases h with⟨o,h⟩ | h
 ·exact .inl ⟨o,s.frzs _ _ _ h⟩
 ·exact .inr h
section
variable{K:WR}{H H':Hp}
theorem i5.ind{P:List V->List D->WE->Prop}(g:P [] [] [])(e:∀{v d A vs ds B},Rep K H v d A->i5 K H vs ds B->P vs ds B->P (v::vs) (d::ds) (A++B))(r:i5 K H vs ds A):P vs ds A:=by
 refine i5.rec (motive_1:=λ_ _ _ _=>True)  (motive_3:=λ_ _ _ _=>True) ?_ ?_ ?_ ?_ ?_ ?_ ?_ ?_ ?_ ?_ ?_ ?_ ?_ g (λh r _ p=>e h r p) ?_ ?_ r<;>intros<;>trivial
theorem u7.ind{P:List (Key×V)->List (Key×D)->WE->Prop}(g:P [] [] [])(e:∀{k v d A vs ds B},Rep K H v d A->u7 K H vs ds B->P vs ds B->P ((k,v)::vs) ((k,d)::ds) (A++B))(r:u7 K H vs ds A):P vs ds A:=by
 refine u7.rec (motive_1:=λ_ _ _ _=>True) (motive_2:=λ_ _ _ _=>True)  ?_ ?_ ?_ ?_ ?_ ?_ ?_ ?_ ?_ ?_ ?_ ?_ ?_ ?_ ?_ g (λh r _ p=>e h r p) r<;>intros<;>trivial
theorem Rep.W3(s:Tf H H')(r:Rep K H v d A):(∀a∈A,H' a=H a)->Rep K H' v d A:=
 Rep.rec  (motive_2:=λv d A _=>(∀a∈A,H' a=H a)->i5 K H' v d A) (motive_3:=λv d A _=>(∀a∈A,H' a=H a)->u7 K H' v d A)
  (λ_=>.l3) (λ_=>.bl) (λ_=>.int) (λ_=>.str) (λh _ i e=>.tup (s.P4 _ _ h) (i e)) (λh _ i e=>.lst ((e _ re).trans h) (i λa b=>e a (hQ _ b))) (λh _ i e=>.frz (s.RV h) (i e))
  (λh _ i e=>.dic ((e _ re).trans h) (i λa b=>e a (hQ _ b))) (λh q e=>.st ((e _ re).trans h) q) (λh e=>.xc ((e _ re).trans h)) (λh e=>.dn ((e _ re).trans h)) (λ_=>.ty) (λ_=>.adr)
  (λ_=>.nil) (λ_ _ g c e=>.cons (g λa b=>e a (t7 _ b)) (c λa b=>e a (rj _ b))) (λ_=>.nil) (λ_ _ g c e=>.cons (g λa b=>e a (t7 _ b)) (c λa b=>e a (rj _ b))) r
theorem i5.W3(s:Tf H H')(r:i5 K H v d A):(∀a∈A,H' a=H a)->i5 K H' v d A:=
 r.ind (P:=λv d A=>(∀a∈A,H' a=H a)->i5 K H' v d A) (λ_=>.nil) λh _ c e=>.cons (h.W3 s λa b=>e a (t7 _ b)) (c λa b=>e a (rj _ b))
theorem u7.W3(s:Tf H H')(r:u7 K H v d A):(∀a∈A,H' a=H a)->u7 K H' v d A:=
 r.ind (P:=λv d A=>(∀a∈A,H' a=H a)->u7 K H' v d A) (λ_=>.nil) λh _ c e=>.cons (h.W3 s λa b=>e a (t7 _ b)) (c λa b=>e a (rj _ b))
theorem Rep.mono(s:V2 H H')(r:Rep K H v d A)(h:∀a∈A,H' a=H a):Rep K H' v d A:=r.W3 s.tf h
theorem i5.mono(s:V2 H H')(r:i5 K H v d A)(h:∀a∈A,H' a=H a):i5 K H' v d A:=r.W3 s.tf h
theorem u7.mono(s:V2 H H')(r:u7 K H v d A)(h:∀a∈A,H' a=H a):u7 K H' v d A:=r.W3 s.tf h
theorem Rep.dD(r:Rep K H v d A):∀a∈A,dG (H a):=
 Rep.rec   (motive_3:=λ_ _ A _=>∀a∈A,dG (H a))
  (λa h=>(by cases h)) (λa h=>(by cases h)) (λa h=>(by cases h)) (λa h=>(by cases h)) (λ_ _ i=>i) (λh _ i a b=>(List.mem_cons.mp b).elim (λe=>by rw[e,h];trivial) (i a)) (λ_ _ i=>i) (λh _ i a b=>(List.mem_cons.mp b).elim (λe=>by rw[e,h];trivial) (i a))
  (λh _ a b=>by rw[List.mem_singleton.mp b,h];trivial) (λh a b=>by rw[List.mem_singleton.mp b,h];trivial) (λh a b=>by rw[List.mem_singleton.mp b,h];trivial) (λa h=>(by cases h)) (λa h=>(by cases h))
  (λa h=>(by cases h)) (λ_ _ i j a b=>(List.mem_append.mp b).elim (i a) (j a)) (λa h=>(by cases h)) (λ_ _ i j a b=>(List.mem_append.mp b).elim (i a) (j a)) r
theorem i5.dD(r:i5 K H v d A):∀a∈A,dG (H a):=
 r.ind (P:=λ_ _ A=>∀a∈A,dG (H a)) (λa h=>(by cases h)) λh _ j a b=>(List.mem_append.mp b).elim (h.dD a) (j a)
theorem u7.dD(r:u7 K H v d A):∀a∈A,dG (H a):=
 r.ind (P:=λ_ _ A=>∀a∈A,dG (H a)) (λa h=>(by cases h)) λh _ j a b=>(List.mem_append.mp b).elim (h.dD a) (j a)
theorem dG.some(h:dG o):∃x,o=Option.some x:=by
 cases o with
 | none=>cases h
 | some x=>exact⟨x,rfl⟩
theorem Rep.same(s:c9 H H')(r:Rep K H v d A):Rep K H' v d A:=
 r.mono (V2.of s) λa b=>by
  obtain⟨o,e⟩:=dG.some (r.dD a b);rw[e];exact s a o e
theorem i5.same(s:c9 H H')(r:i5 K H v d A):i5 K H' v d A:=
 r.mono (V2.of s) λa b=>by
  obtain⟨o,e⟩:=dG.some (r.dD a b);rw[e];exact s a o e
theorem Rep.C9(r:Rep K H v d A):u9 d=true->A=[]:=by
 refine Rep.rec  (motive_2:=λ_ d A _=>u6 d=true->A=[]) (motive_3:=λ_ _ _ _=>True)
  (λ_=>rfl) (λ_=>rfl) (λ_=>rfl) (λ_=>rfl) (λ_ _ i e=>i (by simpa[u9] using e)) ?_ (λ_ _ i e=>i (by simpa[u9] using e)) ?_ ?_ ?_ ?_ (λ_=>rfl) (λ_=>rfl) (λ_=>rfl) (λ_ _ i j e=>?_) trivial (λ_ _ _ _=>trivial) r
 case refine_6=>simp[u6] at e;rw[i e.1,j e.2];rfl
 all_goals intros;rename_i e;simp[u9] at e
theorem i5.C9(r:i5 K H v d A):u6 d=true->A=[]:=
 r.ind (P:=λ_ d A=>u6 d=true->A=[]) (λ_=>rfl) λh _ j e=>by
  simp[u6] at e;rw[h.C9 e.1,j e.2];rfl
theorem i5.length(r:i5 K H v d A):v.length=d.length:=r.ind (P:=λv d _=>v.length=d.length) rfl λ_ _ e=>Fa (·+1) e
theorem i5.get{i:Nat}(r:i5 K H vs ds A):ds[i]?=some d->∃v B,vs[i]?=some v/\Rep K H v d B/\B.Sublist A:=by
 refine r.ind (P:=λvs ds A=>∀{i:Nat},ds[i]?=some d->∃v B,vs[i]?=some v/\Rep K H v d B/\B.Sublist A) (λ{i} e=>by simp at e) λ{_ _ A _ _ _} h _ a {i} e=>?_
 cases i with
 | zero=>simp at e;subst e;exact⟨_,A,rfl,h,UU _ _⟩
 | succ i=>
  obtain⟨v,B,g,c,b⟩:=a (by simpa using e);exact⟨v,B,by simpa using g,c,b.trans (List.sublist_append_right _ _)⟩
theorem i5.append(r:i5 K H vs ds A)(q:i5 K H a b B):i5 K H (vs++a) (ds++b) (A++B):=r.ind (P:=λvs ds A=>i5 K H (vs++a) (ds++b) (A++B)) q λh _ c=>by rw[wh];exact .cons h c
theorem i5.split(n:Nat)(r:i5 K H vs ds A):∃B C,A=B++C/\i5 K H (vs.take n) (ds.take n) B/\i5 K H (vs.drop n) (ds.drop n) C:=by
 revert n
 refine r.ind (P:=λvs ds A=>∀n,∃B C,A=B++C/\i5 K H (vs.take n) (ds.take n) B/\i5 K H (vs.drop n) (ds.drop n) C) (λn=>⟨[],[],rfl,by rw[List.take_nil,List.take_nil];exact .nil,by rw[List.drop_nil,List.drop_nil];exact .nil⟩) λh r a n=>?_
 cases n with
 | zero=>exact⟨[],_,rfl,.nil,.cons h r⟩
 | succ n=>
  obtain⟨B,C,e,c,b⟩:=a n;exact⟨_++B,C,by rw[e,wh],.cons h c,b⟩
theorem i5.cut(i j:Nat)(r:i5 K H vs ds A):∃B,B.Sublist A/\i5 K H ((vs.drop i).take j) ((ds.drop i).take j) B:=by
 obtain⟨B,C,e,_,b⟩:=r.split i;obtain⟨d,g,c,a,_⟩:=b.split j;exact⟨d,by rw[e,c];exact(UU _ _).trans (UM _ _),a⟩
theorem i5.set:∀{vs:List V} {ds:List D} {A:WE} {v:V} {d:D} {B:WE} (i:Nat),i5 K H vs ds A->Rep K H v d B->∃C,i5 K H (vs.set i v) (ds.set i d) C/\(∀a∈C,a∈A\/a∈B)/\(A.Nodup->B.Nodup->(∀a∈B,a∉A)->C.Nodup)
 | _,_,_,_,_,_,_,.nil,_=>⟨[],.nil,(λ_ h=>absurd h (by simp)),λ_ _ _=>sd⟩
 | _,_,_,_,_,B,0,.cons  (B:=o) h r,q=>⟨B++o,.cons q r,λa c=>(List.mem_append.mp c).elim .inr λz=>.inl (rj _ z),λn1 n2 g=>by
   refine List.nodup_append.mpr ⟨n2,(List.nodup_append.mp n1).2.1,λa c b j e=>?_⟩;subst e;exact g a c (rj _ j)⟩
 | _,_,_,_,_,B,i+1,.cons (A:=p)  h r,q=>by
  obtain⟨C,x,l,u⟩:=i5.set i r q;refine⟨p++C,.cons h x,λa c=>?_,λn1 n2 g=>?_⟩
  ·rcases List.mem_append.mp c with z | z
   ·exact .inl (t7 _ z)
   ·exact(l a z).elim (λy=>.inl (rj _ y)) .inr
  ·have:=List.nodup_append.mp n1;refine List.nodup_append.mpr ⟨this.1,u this.2.1 n2 λa c z=>g a c (rj _ z),λa c b j e=>?_⟩;subst e;rcases l a j with z | z
   ·exact this.2.2 a c a z rfl
   ·exact g a z (t7 _ c)
end
inductive Cl where | own | bor | loc | mk (H:Hp)
abbrev Ev:=List (Option D)
structure Ent where
 H₀:Hp
 L:Nat->WE
 vs:List V
 cl:List Cl
 /-- what is frozen meanwhile (a loop's list),and how it stands -/
 Z:Addr->Prop
 Hz:Hp
def Ent.own(G:Ent)(i:Nat):Prop:=G.cl[i]?=some .own
structure Ent.Po(G:Ent):Prop where
 one:∀i,i<G.vs.length->G.own i->i=0
 lk:∀(j:Nat) (H':Hp),G.cl[j]?=some (.mk H')->∀a o,H' a=some o->G.H₀ a=some o/\∀i,i<G.vs.length->G.own i->a∉G.L i
structure E3(K:WR)(G:Ent)(ρ:Ev)(σ:St)(H:Hp)(fa:WQ):Prop where
 rep:∀i d,ρ[i]?=some (some d)->∃v,σ[i]?=some (some v)/\Rep K H v d (fa i)
 emp:∀i,(∀d,ρ[i]?≠some (some d))->fa i=[]
 len:ρ.length=σ.length
 nd:∀i,(G.own i\/G.cl[i]?=some .loc)->(fa i).Nodup
 dj:∀i j,i≠j->G.own i->∀a∈fa i,a∉fa j
 par:∀i,i<G.vs.length->G.own i->σ[i]?=some G.vs[i]?
 old:∀i,i<G.vs.length->G.own i->∀a∈fa i,a∈G.L i\/G.H₀ a=none
 new:∀i,(G.cl[i]?=some .loc\/(G.own i/\¬i<G.vs.length))->∀a∈fa i,G.H₀ a=none
 frm:∀a o,G.H₀ a=some o->(∀i,i<G.vs.length->G.own i->a∉G.L i)->H a=some o
 stb:V2 G.H₀ H
 zk:∀a,G.Z a->H a=G.Hz a
 zn:∀a,G.Z a->G.Hz a≠none
 zo:∀i,G.own i->∀a∈fa i,¬G.Z a
 po:G.Po
theorem E3.kept(E:E3 K G c σ H i){j:Nat}(h:G.cl[j]?=some (.mk b)):c9 b H:=λa o e=>let ⟨g,d⟩:=E.po.lk j b h a o e;E.frm a o g d
section
variable{K:WR}{G:Ent}{ρ:Ev}{σ:St}{H H':Hp}{fa:WQ}
theorem E3.dD(E:E3 K G ρ σ H fa)(i:Nat):∀a∈fa i,dG (H a):=λa b=>by
 cases e:ρ[i]? with
 | none=>rw[E.emp i (λd z=>by rw[e] at z;cases z)] at b;cases b
 | some o=>
  cases o with
  | none=>rw[E.emp i (λd z=>by rw[e] at z;cases z)] at b;cases b
  | some d=>
   obtain⟨v,_,r⟩:=E.rep i d e;exact r.dD a b
theorem E3.there(E:E3 K G ρ σ H fa)(i:Nat)(b:a∈fa i):H a≠none:=λz=>by
 have:=E.dD i a b;rw[z] at this;exact this
theorem E3.same(E:E3 K G ρ σ H fa)(s:c9 H H'):E3 K G ρ σ H' fa:=
 ⟨λi d e=>let ⟨v,c,b⟩:=E.rep i d e;⟨v,c,b.same s⟩,E.emp,E.len,E.nd,E.dj,E.par,E.old,E.new,λa o h n=>s a o (E.frm a o h n),E.stb.trans (V2.of s),λa z=>(by
  obtain⟨o,e⟩:=Option.ne_none_iff_exists'.mp (E.zn a z);have h:=E.zk a z;rw[e] at h ⊢;exact s a o h),E.zn,E.zo,E.po⟩
inductive Fl where | any | stab | locl | fresh
def y3(G:Ent)(H:Hp)(fa:WQ)(B:WE):Fl->Prop
 | .any=>True
 | .stab=>∀i,G.own i->∀a∈B,a∉fa i
 | .locl=>(∀i,G.own i->∀a∈B,a∉fa i)/\(∀a∈B,G.H₀ a=none)/\B.Nodup
 | .fresh=>B.Nodup/\∀a∈B,H a=none
def hZ:Fl->Fl->Bool
 | _,.any=>true
 | .any,_=>false
 | _,.stab=>true
 | .stab,_=>false
 | _,.locl=>true
 | .locl,_=>false
 | .fresh,.fresh=>true
theorem y3.br(E:E3 K G ρ σ H fa)(h:y3 G H fa B .fresh):y3 G H fa B .stab:=λi _ a b z=>E.there i z (h.2 a b)
theorem y3.jF(E:E3 K G ρ σ H fa)(h:y3 G H fa B .fresh):y3 G H fa B .locl:=⟨y3.br E h,λa b=>E.stb.dom a (h.2 a b),h.1⟩
theorem y3.weak(E:E3 K G ρ σ H fa)(h:y3 G H fa B f)(a:hZ f g=true):y3 G H fa B g:=by
 cases f<;>cases g<;>first | trivial | exact h | (cases a;done) | exact h.1 | exact y3.br E h | exact y3.jF E h
theorem y3.nil(f:Fl):y3 G H fa [] f:=by
 cases f with
 | any=>trivial
 | stab=>intro i _ a b;cases b
 | locl=>exact⟨λi _ a b=>(by cases b),λa b=>(by cases b),sd⟩
 | fresh=>exact⟨sd,λa b=>(by cases b)⟩
theorem y3.sub(h:y3 G H fa B f)(s:C.Sublist B):y3 G H fa C f:=by
 cases f with
 | any=>trivial
 | stab=>exactλi o a b=>h i o a (s.mem b)
 | locl=>exact⟨λi o a b=>h.1 i o a (s.mem b),λa b=>h.2.1 a (s.mem b),h.2.2.sublist s⟩
 | fresh=>exact⟨h.1.sublist s,λa b=>h.2 a (s.mem b)⟩
end
abbrev TU:=Ev->(D->Prop)->Prop
structure PU(X:Cx)(cl:List Cl)(e:Expr)(f:Fl)(u:TU):Prop where
 of ::
 run:∃t,PE X e t/\∀(G:Ent) (ρ:Ev) (σ:St) (H:Hp) (fa:WQ) (Q:D->Prop) (R:VK),G.cl=cl->E3 X.K G ρ σ H fa->u ρ Q ->
  (∀v H' d B,c9 H H'->Rep X.K H' v d B->y3 G H fa B f->Q d->R v H')->t σ H R
abbrev TM:=Ev->(D->Ev->Prop)->Prop
structure O8(K:WR)(G:Ent)(H:Hp)(fa:WQ)(H':Hp)(fa':WQ):Prop where
 frm:∀a o,H a=some o->(∀i,G.own i->a∉fa i)->H' a=some o
 stb:V2 H H'
 new:∀i,G.own i->∀a∈fa' i,a∈fa i\/H a=none
 bor:∀i,¬G.own i->fa' i=fa i
section
variable{K:WR}{G:Ent}{ρ ρ':Ev}{σ:St}{H H' H2:Hp}{fa fa' fa2:WQ}
theorem O8.refl:O8 K G H fa H fa:=⟨λ_ _ h _=>h,V2.refl H,λ_ _ _ h=>.inl h,λ_ _=>rfl⟩
theorem O8.same(s:c9 H H'):O8 K G H fa H' fa:=⟨λ_ _ h _=>s _ _ h,V2.of s,λ_ _ _ h=>.inl h,λ_ _=>rfl⟩
theorem O8.trans(a:O8 K G H fa H' fa')(b:O8 K G H' fa' H2 fa2):O8 K G H fa H2 fa2:=
  ⟨λx o h n=>b.frm x o (a.frm x o h n) λi c z=>(a.new i c x z).elim (n i c) (λe=>by rw[h] at e;cases e),a.stb.trans b.stb,
   λi c x d=>(b.new i c x d).elim (a.new i c x) (λe=>.inr (a.stb.dom x e)),λi c=>(b.bor i c).trans (a.bor i c)⟩
theorem O8.keep(c:O8 K G H fa H' fa')(r:Rep K H v d B)(n:∀i,G.own i->∀a∈B,a∉fa i):Rep K H' v d B:=
 r.mono c.stb λa b=>by
  obtain⟨o,e⟩:=dG.some (r.dD a b);rw[e];exact c.frm a o e λi g=>n i g a b
theorem O8.apart(c:O8 K G H fa H' fa'){B:WE}(t:∀a∈B,H a≠none)(n:∀i,G.own i->∀a∈B,a∉fa i):∀i,G.own i->∀a∈B,a∉fa' i:=λi b a d z=>
 (c.new i b a z).elim (n i b a d) (t a d)
theorem E3.step(E:E3 K G ρ σ H fa)(c:O8 K G H fa H' fa')(y:ρ'.length=ρ.length)(u:∀i,¬G.own i->ρ'[i]?=ρ[i]?)
  (x:∀i d,G.own i->ρ'[i]?=some (some d)->∃v,σ[i]?=some (some v)/\Rep K H' v d (fa' i)) (B:∀i,G.own i->(∀d,ρ'[i]?≠some (some d))->fa' i=[])
  (nd:∀i,G.own i->(fa' i).Nodup) (dj:∀i j,i≠j->G.own i->G.own j->∀a∈fa' i,a∉fa' j):E3 K G ρ' σ H' fa' where
 rep:=λi d e=>by
  by_cases b:G.own i
  ·exact x i d b e
  ·rw[u i b] at e;obtain⟨v,C,r⟩:=E.rep i d e;refine⟨v,C,?_⟩;rw[c.bor i b];exact c.keep r λj l a g z=>E.dj j i (λq=>b (q▸l)) l a z g
 emp:=λi e=>by
  by_cases b:G.own i
  ·exact B i b e
  ·rw[c.bor i b];exact E.emp i λd z=>e d (by rw[u i b];exact z)
 len:=y.trans E.len
 nd:=λi h=>by
  by_cases b:G.own i
  ·exact nd i b
  ·rw[c.bor i b];exact E.nd i h
 dj:=λi j n b a g=>by
  by_cases l:G.own j
  ·exact dj i j n b l a g
  ·rw[c.bor j l];intro z;rcases c.new i b a g with q | q
   ·exact E.dj i j n b a q z
   ·exact E.there j z q
 par:=E.par
 old:=λi h b a g=>(c.new i b a g).elim (E.old i h b a) λq=>.inr (E.stb.dom a q)
 new:=λi h a g=>by
  by_cases b:G.own i
  ·exact(c.new i b a g).elim (E.new i h a) λq=>E.stb.dom a q
  ·rw[c.bor i b] at g;exact E.new i h a g
 frm:=λa o h n=>c.frm a o (E.frm a o h n) λi b z=>by
  by_cases p:i<G.vs.length
  ·rcases E.old i p b a z with q | q
   ·exact n i p b q
   ·rw[h] at q;cases q
  ·have q:=E.new i (.inr ⟨b,p⟩) a z;rw[h] at q;cases q
 stb:=E.stb.trans c.stb
 zk:=λa z=>by
  obtain⟨o,e⟩:=Option.ne_none_iff_exists'.mp (E.zn a z);have h:=E.zk a z;rw[e] at h ⊢;exact c.frm a o h λi b q=>E.zo i b a q z
 zn:=E.zn
 zo:=λi b a g z=>by
  rcases c.new i b a g with q | q
  ·exact E.zo i b a q z
  ·have h:=E.zk a z;rw[q] at h;exact E.zn a z h.symm
 po:=E.po
end
structure PM(X:Cx)(cl:List Cl)(e:Expr)(u:TM):Prop where
 of ::
 run:∃t,PE X e t/\∀(G:Ent) (ρ:Ev) (σ:St) (H:Hp) (fa:WQ) (Q:D->Ev->Prop) (R:VK),G.cl=cl->E3 X.K G ρ σ H fa->u ρ Q ->
  (∀v H' d B ρ' fa',E3 X.K G ρ' σ H' fa'->O8 X.K G H fa H' fa'->Rep X.K H' v d B->B.Nodup->(∀a∈B,H a=none/\∀i,a∉fa' i)->Q d ρ'->R v H')->t σ H R
structure W0 where
 nx:Ev->Prop
 rt:D->Ev->Prop
 bk:Ev->Prop:=λ_=>False
 ct:Ev->Prop:=λ_=>False
abbrev g4:=W0->Ev->Prop
def EO(K:WR)(G:Ent)(N:Ev->Prop):St->Hp->Prop:=λb H=>∃a c,E3 K G a b H c/\N a
def RB(K:WR)(G:Ent)(N:D->Ev->Prop):VK:=λv H=>∃d b e c B,E3 K G b e H c/\Rep K H v d B/\B.Nodup/\(∀a∈B,G.H₀ a=none)/\(∀i,i<G.vs.length->G.own i->∀a∈B,a∉c i)/\N d b
def low(K:WR)(G:Ent)(T:W0):Ends:={ nx:=EO K G T.nx,rt:=RB K G T.rt,bk:=EO K G T.bk,ct:=EO K G T.ct }
structure Rc(A B:Ends):Prop where
 nx:∀σ H,A.nx σ H->B.nx σ H
 rt:∀v H,A.rt v H->B.rt v H
 bk:∀σ H,A.bk σ H->B.bk σ H
 ct:∀σ H,A.ct σ H->B.ct σ H
theorem Rc.refl(A:Ends):Rc A A:=⟨λ_ _ h=>h,λ_ _ h=>h,λ_ _ h=>h,λ_ _ h=>h⟩
structure P5(X:Cx)(cl:List Cl)(e:Expr)(u:Ev->(Bool->Prop)->Prop):Prop where
 of ::
 run:∃t,PT X e t/\∀(G:Ent) (ρ:Ev) (σ:St) (H:Hp) (fa:WQ) (Q:Bool->Prop) (R:Bool->Hp->Prop),G.cl=cl->E3 X.K G ρ σ H fa->u ρ Q ->
  (∀b H',c9 H H'->Q b->R b H')->t σ H R
structure J5(X:Cx)(cl:List Cl)(st:Stmt)(s:g4):Prop where
 of ::
 run:∃t,PS X st t/\∀(G:Ent) (T:W0) (ρ:Ev) (σ:St) (H:Hp) (fa:WQ) (R:Ends),G.cl=cl->E3 X.K G ρ σ H fa->s T ρ->Rc (low X.K G T) R->t R σ H
structure kJ(X:Cx)(cl:List Cl)(st:WN)(s:g4):Prop where
 of ::
 run:∃t,qE X st t/\∀(G:Ent) (T:W0) (ρ:Ev) (σ:St) (H:Hp) (fa:WQ) (R:Ends),G.cl=cl->E3 X.K G ρ σ H fa->s T ρ->Rc (low X.K G T) R->t R σ H
section
variable{X:Cx}{cl:List Cl}{e a b c:Expr}{f:Fl}{pos:Pos}
def uC(d:D):TU:=λ_ Q=>Q d
def a7(i:Nat):TU:=λg Q=>match g[i]? with
 | some (some d)=>Q d
 | _=>False
def KQ:Option Cl->Fl
 | some .bor=>.stab
 | some .loc=>.locl
 | _=>.any
theorem E3.wF(E:E3 K G l σ H d){i:Nat}(h:¬G.own i):∀j,G.own j->∀a∈d i,a∉d j:=λj g a o z=>
 E.dj j i (λe=>h (e▸g)) g a z o
theorem E3.var(E:E3 K G g σ H d)(i:Nat):y3 G H d (d i) (KQ G.cl[i]?):=by
 cases e:G.cl[i]? with
 | none=>trivial
 | some k=>
  cases k with
  | own=>trivial
  | mk _=>trivial
  | bor=>exact E.wF (λz=>by unfold Ent.own at z;rw[e] at z;cases z)
  | loc=>exact⟨E.wF (λz=>by unfold Ent.own at z;rw[e] at z;cases z),E.new i (.inl e),E.nd i (.inr e)⟩
theorem Mq(i:Nat)(h:PE X (.Name x pos) (bq i))(l:KQ cl[i]?=f):PU X cl (.Name x pos) f (a7 i):=.of<|by
 refine⟨_,h,λG j y H q Q R p E g k=>?_⟩;unfold a7 at g
 cases e:j[i]? with
 | none=>rw[e] at g;cases g
 | some o=>
  cases o with
  | none=>rw[e] at g;cases g
  | some d=>
   rw[e] at g;obtain⟨v,u,r⟩:=E.rep i d e;refine⟨v,u,k v H d (q i) (c9.refl H) r ?_ g⟩;rw[<-l,<-p];exact E.var i
theorem a6:PU X cl (.Constant (.int i) j pos) .fresh (uC (.int i)):=.of ⟨_,NC,λG h g H l Q R _ E d k=>k _ H _ _ (c9.refl H) .int (y3.nil _) d⟩
theorem xu:PU X cl (.Constant (.bool i) j pos) .fresh (uC (.bl i)):=.of ⟨_,OU,λG h g H l Q R _ E d k=>k _ H _ _ (c9.refl H) .bl (y3.nil _) d⟩
theorem x5:PU X cl (.Constant .none j pos) .fresh (uC .l3):=.of ⟨_,LR,λG h g H i Q R _ E d k=>k _ H _ _ (c9.refl H) .l3 (y3.nil _) d⟩
theorem J6:PU X cl (.Constant (.str x) j pos) .fresh (uC (.str x)):=.of ⟨_,MN,λG h g H i Q R _ E d k=>k _ H _ _ (c9.refl H) .str (y3.nil _) d⟩
theorem PU.weak(h:PU X cl e f u)(p:hZ f g=true):PU X cl e g u:=.of<|by
 obtain⟨t,o,h⟩:=h.run;exact⟨t,o,λG j i H z Q R x E l k=>h G j i H z Q R x E l λv C d B s r y q=>k v C d B s r (y.weak E p) q⟩
def w8(u:TU):TU:=λg Q=>u g λd=>u9 d=true/\Q d
theorem PU.u9(h:PU X cl e f u):PU X cl e .fresh (w8 u):=.of<|by
 obtain⟨t,l,h⟩:=h.run;refine⟨t,l,λG i g H p Q R o E j k=>h G i g H p _ R o E j λv x d B s r y q=>k v x d B s r ?_ q.2⟩;rw[r.C9 q.1];exact y3.nil _
section
variable{K:WR}{G:Ent}{H H':Hp}{fa:WQ}{B:WE}{f:Fl}
theorem y3.back(s:c9 H H')(h:y3 G H' fa B f):y3 G H fa B f:=by
 cases f with
 | any=>trivial
 | stab=>exact h
 | locl=>exact h
 | fresh=>exact⟨h.1,λa d=>s.free (h.2 a d)⟩
end
theorem u2(q:PU X cl a O C)(p:PU X cl b M z):∃j i,PE X a j/\PE X b i/\∀(G:Ent) (g:Ev) (σ:St) (H:Hp) (h:WQ) (Q:D->D->Prop) (R:V->V->Hp->Prop),G.cl=cl->E3 X.K G g σ H h->(C g λx=>z g λy=>Q x y) ->
  (∀v w l d e A B,c9 H l->Rep X.K l v d A->Rep X.K l w e B->y3 G H h A O->y3 G H h B M->Q d e->R v w l)->j σ H λx u=>i σ u λy r=>R x y r:=by
 obtain⟨j,pa,q⟩:=q.run;obtain⟨i,pb,p⟩:=p.run;refine⟨j,i,pa,pb,λG g σ H h Q R J E hu k=>?_⟩;refine q G g σ H h _ _ J E hu λv u d A o T f1 Y=>?_;refine p G g σ u h _ _ J (E.same o) Y λw r e B I S f2 U=>?_;exact k v w r d e A B (o.trans I) (T.same I) S f1 (f2.back o) U
def bu(X:Cx)(r:R2)(g:D->D->(D->Prop)->Prop):Prop:=∀(H:Hp) (v w:V) (d e:D) (A B:WE) (Q:D->Prop) (R:VK),Rep X.K H v d A->Rep X.K H w e B->g d e Q ->
 (∀x h y C,c9 H h->Rep X.K h x y C->C.Nodup->(∀a∈C,H a=none)->Q y->R x h)->r v w H R
def l7(g:D->D->(D->Prop)->Prop)(i h:TU):TU:=λd Q=>i d λx=>h d λy=>g x y Q
theorem Ow(o:bu X r g)(ht:t=Oe r)(l:PU X cl a fa u)(hb:PU X cl b fb p)(mk:∀{j i},PE X a j->PE X b i->PE X e (t j i)):PU X cl e .fresh (l7 g u p):=.of<|by
 obtain⟨j,i,Y,U,h⟩:=u2 l hb;subst ht;refine⟨_,mk Y U,λG I z H fo Q R hG E hu k=>?_⟩;refine h G I z H fo _ _ hG E hu λv w H' d e A B s S O _ _ q=>?_;exact o H' v w d e A B Q R S O q λx H2 y C J M n1 n2 T=>k x H2 y C (s.trans J) M ⟨n1,λa l=>s.free (n2 a l)⟩ T
theorem gR(p:N6 X (binaryOp i) r)(o:bu X r g)(u:PU X cl a x h)(q:PU X cl b v d):PU X cl (.BinOp a i b pos) .fresh (l7 g h d):=
 Ow o rfl u q λl j=>JN p l j
theorem iG(p:N6 X (compareOp d) r)(o:bu X r g)(v:PU X cl a y i)(u:PU X cl b x h)(q:behindInMarks d b=false):PU X cl (.Compare a [d] [b] pos) .fresh (l7 g i h):=
 Ow o rfl v u λl j=>wR p l j q
def gI(C:Int->Int->Prop)(g:Int->Int->D):D->D->(D->Prop)->Prop
 | .int i,.int j,Q=>C i j/\Q (g i j)
 | _,_,_=>False
def zj(g:Int->Int->D):D->D->(D->Prop)->Prop
 | .int i,.int j,Q=>Q (g i j)
 | _,_,_=>False
theorem r8(h:Rep K H v (.int i) A):v=.int i:=by cases h;rfl
theorem C4(h:Rep K H v (.str i) A):v=.str i:=by cases h;rfl
theorem Z1(h:Rep K H v (.bl i) A):v=.bl i:=by cases h;rfl
theorem cJ(h:Rep K H v .l3 A):v=.l3:=by cases h;rfl
theorem qa{g:Int->Int->Int}:bu X (rI C λi j=>.int (g i j)) (gI C λi j=>.int (g i j)):=by
 intro H v w d e A B Q R o l q k;cases d<;>cases e<;>first | exact q.elim | skip
 cases r8 o;cases r8 l;exact⟨_,_,rfl,rfl,q.1,k _ H _ _ (c9.refl H) .int sd (λ_ h=>(by cases h)) q.2⟩
theorem CC{g:Int->Int->Int}:bu X (Aj λi j=>.int (g i j)) (zj λi j=>.int (g i j)):=by
 intro H v w d e A B Q R o l q k;cases d<;>cases e<;>first | exact q.elim | skip
 cases r8 o;cases r8 l;exact⟨_,_,rfl,rfl,k _ H _ _ (c9.refl H) .int sd (λ_ h=>(by cases h)) q⟩
theorem gE{g:Int->Int->Bool}:bu X (Aj λi j=>.bl (g i j)) (zj λi j=>.bl (g i j)):=by
 intro H v w d e A B Q R o l q k;cases d<;>cases e<;>first | exact q.elim | skip
 cases r8 o;cases r8 l;exact⟨_,_,rfl,rfl,k _ H _ _ (c9.refl H) .bl sd (λ_ h=>(by cases h)) q⟩
section
variable{ua ub:TU}{fa fb:Fl}
theorem D8(g:PU X cl a fa ua)(d:PU X cl b fb ub):PU X cl (.BinOp a .Sub b pos) .fresh (l7 (zj λi j=>.int (i-j)) ua ub):=gR Nt CC g d
theorem fX(g:PU X cl a fa ua)(d:PU X cl b fb ub):PU X cl (.BinOp a .FloorDiv b pos) .fresh (l7 (gI R4 λi j=>.int (i/j)) ua ub):=gR Fd qa g d
theorem V1(g:PU X cl a fa ua)(d:PU X cl b fb ub):PU X cl (.BinOp a .Mod b pos) .fresh (l7 (gI (λ_ j=>0<j) λi j=>.int (i%j)) ua ub):=gR Ft qa g d
theorem mO(g:PU X cl a fa ua)(d:PU X cl b fb ub):PU X cl (.BinOp a .Pow b pos) .fresh (l7 (gI ae λi j=>.int (i^j.toNat)) ua ub):=gR Nd qa g d
theorem PX(h:PU X cl a fa ua)(g:PU X cl b fb ub)(d:behindInMarks .Lt b=false):PU X cl (.Compare a [.Lt] [b] pos) .fresh (l7 (zj λi j=>.bl (decide (i<j))) ua ub):=iG JV gE h g d
def Rm:D->D->(D->Prop)->Prop
 | .str i,.str j,Q=>i.length+j.length<=sizeLine/\Q (.str (i++j))
 | _,_,_=>False
theorem Oh:bu X (λx y H Q=>∃i j,x=.str i/\y=.str j/\i.length+j.length<=sizeLine/\Q (.str (i++j)) H) Rm:=by
 intro H v w d e A B Q R l g q k;cases d<;>cases e<;>first | exact q.elim | skip
 cases C4 l;cases C4 g;exact⟨_,_,rfl,rfl,q.1,k _ H _ _ (c9.refl H) .str sd (λ_ h=>(by cases h)) q.2⟩
def Z6:D->Bool
 | .l3=>true
 | .bl _=>true
 | .int _=>true
 | .str _=>true
 | _=>false
def toV:D->V
 | .l3=>.l3
 | .bl b=>.bl b
 | .int i=>.int i
 | .str x=>.str x
 | _=>.l3
theorem W5(h:Rep K H v d A)(f:Z6 d=true):v=toV d/\A=[]:=by
 cases h<;>first | exact⟨rfl,rfl⟩ | cases f
def ng(d b:Bool):Bool:=match d with
 | true=>!b
 | false=>b
def RZ:D->D->Option Bool
 | .int a,.int b=>some (decide (a=b))
 | .str a,.str b=>some (decide (a=b))
 | .bl a,.bl b=>some (decide (a=b))
 | .l3,.l3=>some true
 | .l3,.int _=>some false
 | .int _,.l3=>some false
 | .l3,.bl _=>some false
 | .bl _,.l3=>some false
 | .l3,.str _=>some false
 | .str _,.l3=>some false
 | .int _,.str _=>some false
 | .str _,.int _=>some false
 | .bl _,.str _=>some false
 | .str _,.bl _=>some false
 | _,_=>none
theorem Ee{d e:D}{b:Bool}(h:RZ d e=some b):Z6 d=true/\Z6 e=true/\Ln (toV d) (toV e)=true/\decide (toV d=toV e)=b:=by
 cases d<;>cases e
 all_goals cases h
 all_goals refine⟨rfl,rfl,rfl,?_⟩
 all_goals first | rfl | (simp[toV])
def Od(g:Bool):D->D->(D->Prop)->Prop:=λd e Q=>match RZ d e with
 | some b=>Q (.bl (ng g b))
 | none=>False
theorem AO{d e:D}(h:Od g d e Q):∃b,RZ d e=some b/\Q (.bl (ng g b)):=by
 unfold Od at h;split at h
 ·exact⟨_,by assumption,h⟩
 ·exact h.elim
theorem Mc:bu X SI (Od false):=by
 intro H v w d e A B Q R i g q k;obtain⟨b,r,q⟩:=AO q;obtain⟨p,o,l,j⟩:=Ee r;obtain⟨rfl,rfl⟩:=W5 i p;obtain⟨rfl,rfl⟩:=W5 g o;refine⟨l,?_⟩;rw[j];exact k _ H _ _ (c9.refl H) .bl sd (λ_ h=>(by cases h)) q
theorem Sh:bu X SY (Od true):=by
 intro H v w d e A B Q R i g q k;obtain⟨b,r,q⟩:=AO q;obtain⟨p,o,l,j⟩:=Ee r;obtain⟨rfl,rfl⟩:=W5 i p;obtain⟨rfl,rfl⟩:=W5 g o;refine⟨l,?_⟩;rw[j];exact k _ H _ _ (c9.refl H) .bl sd (λ_ h=>(by cases h)) q
def xO:D->Bool
 | .l3=>true
 | _=>false
def SV(g:Bool):D->D->(D->Prop)->Prop
 | d,.l3,Q=>Q (.bl (ng g (xO d)))
 | _,_,_=>False
theorem xY(h:Rep K H v d A):decide (v=.l3)=xO d:=by
 cases h<;>first | rfl | simp[]
theorem Sr:bu X (λx y H Q=>y=.l3/\Q (.bl (decide (x=.l3))) H) (SV false):=by
 intro H v w d e A B Q R i g q k;cases e<;>first | exact q.elim | skip
 cases cJ g;refine⟨rfl,?_⟩;rw[xY i];refine k _ H _ _ (c9.refl H) .bl sd (λ_ h=>(by cases h)) ?_;exact q
theorem La:bu X (λx y H Q=>y=.l3/\Q (.bl (!decide (x=.l3))) H) (SV true):=by
 intro H v w d e A B Q R i g q k;cases e<;>first | exact q.elim | skip
 cases cJ g;refine⟨rfl,?_⟩;rw[xY i];refine k _ H _ _ (c9.refl H) .bl sd (λ_ h=>(by cases h)) ?_;exact q
def pY:D->Option (List D)
 | .lst d=>some d
 | .tup d=>some d
 | .fz d=>some d
 | _=>none
theorem cD(h:Rep K H v d A)(e:pY d=some xs):∃p vs B,v=.ref p/\(G7 K H p vs\/P8 K H p vs)/\i5 K H vs xs B/\B.Sublist A:=by
 cases h with
 | tup h r=>cases e;exact⟨_,_,_,rfl,.inr (P8.of h),r,Us _⟩
 | lst h r=>cases e;exact⟨_,_,_,rfl,.inl (G7.of h),r,TJ _ _⟩
 | frz h r=>cases e;exact⟨_,_,_,rfl,.inl h.sq,r,Us _⟩
 | _=>cases e
theorem qg(h:Z6 d=true):ay (toV d)=true:=by cases d<;>first | rfl | cases h
theorem i5.flat(r:i5 K H vs ds A):ds.all Z6=true->vs=ds.map toV/\vs.all ay=true:=by
 refine r.ind (P:=λvs ds _=>ds.all Z6=true->vs=ds.map toV/\vs.all ay=true) (λ_=>⟨rfl,rfl⟩) λh _ i f=>?_;rw[TN,uk] at f;obtain⟨j,_⟩:=W5 h f.1;obtain⟨g,d⟩:=i f.2;subst j;refine⟨by rw[sw,<-g],?_⟩;rw[TN,d,Bool.and_true];exact qg f.1
def inD(x:D)(xs:List D):Bool:=xs.any λy=>Iy (toV y) (toV x)
def Sz(h:Bool):D->D->(D->Prop)->Prop:=λd e Q=>Z6 d=true/\∃g,pY e=some g/\g.all Z6=true/\Q (.bl (ng h (inD d g)))
theorem Sw:bu X (Pa X.K g) (Sz g):=by
 intro H v w d e A B Q R o l q k;obtain⟨j,i,E,y,q⟩:=q;obtain⟨rfl,rfl⟩:=W5 o j;obtain⟨p,vs,C,rfl,u,r,_⟩:=cD l E;obtain⟨rfl,x⟩:=r.flat y;refine⟨p,_,rfl,u,qg j,x,k _ H _ _ (c9.refl H) .bl sd (λ_ h=>(by cases h)) ?_⟩;have z:QQ (toV d) (i.map toV)=inD d i:=by unfold QQ inD;rw[List.any_map];rfl
 rw[z];cases g
 ·exact q
 ·exact q
theorem i5.N8(r:i5 K H vs ds A)(h:L2.N8 ds i=some d):∃v B,L2.N8 vs i=some v/\Rep K H v d B/\B.Sublist A:=by
 unfold L2.N8 at h ⊢;rw[r.length]
 cases e:kS ds.length i with
 | none=>rw[e] at h;cases h
 | some j=>
  rw[e] at h;exact r.get h
def SF:D->D->(D->Prop)->Prop
 | .str z,.int i,Q=>z.length<=sizeLine/\∃c,L2.N8 z.cps.toList i=some c/\Q (.str ⟨#[c]⟩)
 | .lst g,.int i,Q=>∃d,L2.N8 g i=some d/\Q d
 | .tup g,.int i,Q=>∃d,L2.N8 g i=some d/\Q d
 | .fz g,.int i,Q=>∃d,L2.N8 g i=some d/\Q d
 | _,_,_=>False
end
end
section
variable{X:Cx}{cl:List Cl}{e a b c:Expr}{es:WI}{f:Fl}{pos:Pos}{ua ub uc:TU}{fa fb fc:Fl}
abbrev cy:=Ev->(List D->Prop)->Prop
structure Qw(X:Cx)(cl:List Cl)(es:WI)(u:cy):Prop where
 of ::
 run:∃t,PA X es t/\∀(G:Ent) (ρ:Ev) (σ:St) (H:Hp) (fa:WQ) (Q:List D->Prop) (R:List V->Hp->Prop),G.cl=cl->E3 X.K G ρ σ H fa->u ρ Q ->
  (∀vs H' ds A,c9 H H'->i5 X.K H' vs ds A->A.Nodup->(∀a∈A,H a=none)->ds.length=es.length->Q ds->R vs H')->t σ H R
structure zN(X:Cx)(cl:List Cl)(es:WI)(u:cy):Prop where
 of ::
 run:∃t,PA X es t/\∀(G:Ent) (ρ:Ev) (σ:St) (H:Hp) (fa:WQ) (Q:List D->Prop) (R:List V->Hp->Prop),G.cl=cl->E3 X.K G ρ σ H fa->u ρ Q ->
  (∀vs H' ds A,c9 H H'->i5 X.K H' vs ds A->ds.length=es.length->Q ds->R vs H')->t σ H R
def i4:cy:=λ_ Q=>Q []
def a9(ua:TU)(h:cy):cy:=λd Q=>ua d λx=>h d λg=>Q (x::g)
theorem o7:Qw X cl [] i4:=.of ⟨_,M7,λG i g H fa Q R _ E d k=>k [] H [] [] (c9.refl H) .nil sd (λ_ h=>(by cases h)) rfl d⟩
theorem c8:zN X cl [] i4:=.of ⟨_,M7,λG h g H fa Q R _ E d k=>k [] H [] [] (c9.refl H) .nil rfl d⟩
theorem Rep.there(r:Rep K H v d A)(g:x∈A):H x≠none:=λz=>by
 have:=r.dD x g;rw[z] at this;exact this
theorem g6(ha:PU X cl e .fresh ua)(Y:Qw X cl es l)(U:isStar e=false):Qw X cl (e::es) (a9 ua l):=.of<|by
 obtain⟨t1,M,h1⟩:=ha.run;obtain⟨t2,J,h2⟩:=Y.run;refine⟨_,bp M J U,λG j i H fa Q R q E T k=>?_⟩;refine h1 G j i H fa _ _ q E T λv H1 d A g p r I=>?_;refine h2 G j i H1 fa _ _ q (E.same g) I λvs H2 ds B o u n1 n2 O C=>?_;refine k (v::vs) H2 (d::ds) (A++B) (g.trans o) (.cons (p.same o) u) ?_ (λx h=>?_) (by simp[O]) C
 ·refine List.nodup_append.mpr ⟨r.1,n1,λx h y S e=>?_⟩;subst e;exact p.there h (n2 x S)
 ·rcases List.mem_append.mp h with z | z
  ·exact r.2 x z
  ·exact g.free (n2 x z)
theorem a8(M:PU X cl e f ua)(J:zN X cl es i)(I:isStar e=false):zN X cl (e::es) (a9 ua i):=.of<|by
 obtain⟨t1,y,S⟩:=M.run;obtain⟨t2,x,O⟩:=J.run;refine⟨_,bp y x I,λG h g H fa Q R o E C k=>?_⟩;refine S G h g H fa _ _ o E C λv Y d A l q f1 u=>?_;refine O G h g Y fa _ _ o (E.same l) u λvs U T B j p z r=>?_;exact k (v::vs) U (d::T) (A++B) (l.trans j) (.cons (q.same j) p) (by simp[z]) r
def U4(h:cy):TU:=λd Q=>h d λg=>Q (.lst g)
def bo(h:cy):TU:=λd Q=>h d λg=>Q (.tup g)
theorem aI(h:n<=1000):n<=sizeLine:=IN (yG h)
theorem B3(h:Qw X cl es g)(v:Nat.ble es.length 1000=true):PU X cl (.List es pos) .fresh (U4 g):=.of<|by
 obtain⟨t,p,h⟩:=h.run;refine⟨_,Au p,λG j i H fa Q R B E u k=>?_⟩;refine h G j i H fa _ _ B E u λvs I C A s r n1 n2 l q=>⟨by rw[r.length,l];exact aI (vv v),λx d=>?_⟩
 refine k _ _ (.lst C) (x::A) (s.trans (c9.e7 d)) (.lst c7 (r.same (c9.e7 d))) ⟨List.nodup_cons.mpr ⟨λz=>?_,n1⟩,λy o=>?_⟩ q
 ·have:=r.dD x z;rw[d] at this;exact this
 ·rcases List.mem_cons.mp o with z | z
  ·rw[z];exact s.free d
  ·exact n2 y z
theorem M3(h:Qw X cl es d)(v:Nat.ble es.length 1000=true):PU X cl (.Tuple es l pos) .fresh (bo d):=.of<|by
 obtain⟨t,p,h⟩:=h.run;refine⟨_,nq p,λG j i H fa Q R y E u k=>?_⟩;refine h G j i H fa _ _ y E u λvs B z A s r n1 n2 o q=>⟨by rw[r.length,o];exact aI (vv v),λx g=>?_⟩
 exact k _ _ (.tup z) A (s.trans (c9.e7 g)) (.tup c7 (r.same (c9.e7 g))) ⟨n1,n2⟩ q
def Call3(X:Cx)(r:List V->Hp->VK->Prop)(g:List D->(D->Prop)->Prop):Prop:=∀(H:Hp) (vs:List V) (h:List D) (A:WE) (Q:D->Prop) (R:VK),i5 X.K H vs h A->g h Q ->
 (∀x d y C,c9 H d->Rep X.K d x y C->C.Nodup->(∀a∈C,H a=none)->Q y->R x d)->r vs H R
def Z4(g:List D->(D->Prop)->Prop)(h:cy):TU:=λd Q=>h d λi=>g i Q
theorem SM(o:Call3 X r g)(h:zN X cl es d)(mk:∀{t},PA X es t->PE X e (Rj r t)):PU X cl e .fresh (Z4 g d):=.of<|by
 obtain⟨t,p,h⟩:=h.run;refine⟨_,mk p,λG j i H fa Q R I E z k=>?_⟩;refine h G j i H fa _ _ I E z λvs O J A s r S q=>?_;exact o O vs J A Q R r q λx M y C l u n1 n2 v=>k x M y C (s.trans l) u ⟨n1,λa B=>s.free (n2 a B)⟩ v
section
variable{id T:String}{r:List V->Hp->VK->Prop}{g:List D->(D->Prop)->Prop}{x:Str}{p:Pos}{us:cy}
theorem p8 (v:D4 X (.builtin id) r) (o:Call3 X r g) (q:Gl X x) (l:X.mg x=none) (i:bootBuiltins x=some (.builtin id)) (y:zN X cl (e::es) us) (j:x ≠ "__name__":=by decide) (hd:(x == ("__debug__" : Str))=false:=by decide)
  (u:starEach (e::es) X.env=(false,eval e X.env)::starEach es X.env:=by rfl) (d:(backTo pos (starEach es X.env)).any (·.1)=false:=by rfl):PU X cl (.Call (.Name x p) (e::es) [] pos) .fresh (Z4 g us):=
 SM o y λh=>gB v q l i h j hd u d
theorem y7 (v:D4 X (.type T) r) (o:Call3 X r g) (q:Gl X x) (l:X.mg x=none) (i:bootBuiltins x=some (.type T)) (y:zN X cl (e::es) us) (j:x ≠ "__name__":=by decide) (hd:(x == ("__debug__" : Str))=false:=by decide)
  (u:starEach (e::es) X.env=(false,eval e X.env)::starEach es X.env:=by rfl) (d:(backTo pos (starEach es X.env)).any (·.1)=false:=by rfl):PU X cl (.Call (.Name x p) (e::es) [] pos) .fresh (Z4 g us):=
 SM o y λh=>dJ v q l i h j hd u d
end
theorem i5.one(r:i5 K H vs [d] A):∃v,vs=[v]/\Rep K H v d A:=by
 cases r with
 | cons h t=>cases t;exact⟨_,rfl,by rw[tz];exact h⟩
theorem i5.two{d e:D}(r:i5 K H vs [d,e] A):∃v w B C,vs=[v,w]/\Rep K H v d B/\Rep K H w e C/\A=B++C:=by
 cases r with
 | cons h t=>
  cases t with
  | cons i g=>cases g;exact⟨_,_,_,_,rfl,h,i,by rw[tz]⟩
theorem D5(h:Rep K H v (.lst xs) A):∃p vs B,v=.ref p/\H p=some (.lst vs)/\i5 K H vs xs B/\A=p::B:=by
 cases h with
 | lst h r=>exact⟨_,_,_,rfl,h,r,rfl⟩
theorem iK(h:Rep K H v (.fz xs) A):∃p vs,v=.ref p/\Kv K H p vs/\i5 K H vs xs A:=by
 cases h with
 | frz h r=>exact⟨_,_,rfl,h,r⟩
theorem K7(h:Rep K H v (.tup xs) A):∃p vs,v=.ref p/\H p=some (.tup vs)/\i5 K H vs xs A:=by
 cases h with
 | tup h r=>exact⟨_,_,rfl,h,r⟩
def cX:List D->(D->Prop)->Prop
 | [.lst d],Q=>Q (.int d.length)
 | [.tup d],Q=>Q (.int d.length)
 | [.fz d],Q=>Q (.int d.length)
 | [.str z],Q=>z.length<=sizeLine/\Q (.int z.length)
 | _,_=>False
theorem aa:Call3 X (λxs H Q=>∃x n,xs=[x]/\Lv X.K x H n/\Q (.int n) H) cX:=by
 intro H vs C A Q R r q k;have i:∀{n:Nat},Q (.int n)->R (.int n) H:=λq=>k _ H _ _ (c9.refl H) .int sd (λ_ h=>(by cases h)) q
 have sq:∀{d:D} {xs:List D},C=[d]->pY d=some xs->Q (.int xs.length)->∃x n,vs=[x]/\Lv X.K x H n/\R (.int n) H:=λ{d xs} z y u=>by
  subst z;obtain⟨v,rfl,j⟩:=r.one;obtain⟨p,l,B,rfl,g,o,_⟩:=cD j y;refine⟨_,l.length,rfl,?_,i (by rw[o.length];exact u)⟩;rcases g with g | g
  ·exact .inl ⟨_,g,rfl⟩
  ·exact .inr ⟨_,g,rfl⟩
 unfold cX at q;split at q
 ·exact sq rfl rfl q
 ·exact sq rfl rfl q
 ·exact sq rfl rfl q
 ·obtain⟨v,rfl,j⟩:=r.one;cases C4 j;exact⟨_,_,rfl,⟨q.1,rfl⟩,i q.2⟩
 ·exact q.elim
def JO:List D->(D->Prop)->Prop:=λh Q=>∃d g,h=[d]/\pY d=some g/\u6 g=true/\Q (.lst g)
theorem Nn:Call3 X (λxs H Q=>∃p ys,xs=[.ref p]/\(G7 X.K H p ys\/P8 X.K H p ys)/\∀l,H l=none->Q (.ref l) (upd H l (.lst ys))) JO:=by
 intro H vs z A Q R r q k;obtain⟨d,xs,rfl,e,o,q⟩:=q;obtain⟨v,rfl,j⟩:=r.one;obtain⟨p,i,B,rfl,u,h,_⟩:=cD j e;have y:=h.C9 o;subst y;refine⟨p,i,rfl,u,λl g=>k _ _ (.lst xs) [l] (c9.e7 g) (.lst c7 (h.same (c9.e7 g))) (by simp) (λa x=>?_) q⟩;have:=by simpa using x
 rw[this];exact g
def bQ:List D->(D->Prop)->Prop:=λh Q=>∃d g,h=[d]/\pY d=some g/\u6 g=true/\Q (.tup g)
theorem aT:Call3 X (λxs H Q=>∃p ys,xs=[.ref p]/\((G7 X.K H p ys/\∀l,H l=none->Q (.ref l) (upd H l (.tup ys)))\/(P8 X.K H p ys/\Q (.ref p) H))) bQ:=by
 intro H vs z A Q R r q k;obtain⟨d,xs,rfl,e,y,q⟩:=q;obtain⟨v,rfl,x⟩:=r.one
 cases d with
 | lst ys=>
  cases e;obtain⟨p,u,B,rfl,h,g,_⟩:=D5 x;have o:=g.C9 y;subst o;exact⟨p,u,rfl,.inl ⟨G7.of h,λl i=>k _ _ (.tup xs) [] (c9.e7 i) (.tup c7 (g.same (c9.e7 i))) sd (λa j=>(by cases j)) q⟩⟩
 | fz ys=>
  cases e;obtain⟨p,u,rfl,h,g⟩:=iK x;have o:=g.C9 y;subst o;exact⟨p,u,rfl,.inl ⟨h.sq,λl i=>k _ _ (.tup xs) [] (c9.e7 i) (.tup c7 (g.same (c9.e7 i))) sd (λa j=>(by cases j)) q⟩⟩
 | tup ys=>
  cases e;obtain⟨p,u,rfl,h,g⟩:=K7 x;have o:=g.C9 y;subst o;exact⟨_,_,rfl,.inr ⟨P8.of h,k _ H (.tup xs) [] (c9.refl H) x sd (λa j=>(by cases j)) q⟩⟩
 | _=>cases e
def QI:List D->(D->Prop)->Prop
 | [.int i],Q=>Q (.int i)
 | [.bl k],Q=>Q (.int (if k then 1 else 0))
 | _,_=>False
theorem JF:Call3 X (λxs H Q=>(∃i,xs=[.int i]/\Q (.int i) H)\/∃k,xs=[.bl k]/\Q (.int (if k then 1 else 0)) H) QI:=by
 intro H vs g A Q R r q k;unfold QI at q;split at q
 ·obtain⟨v,rfl,d⟩:=r.one;cases r8 d;exact .inl ⟨_,rfl,k _ H _ _ (c9.refl H) .int sd (λ_ h=>(by cases h)) q⟩
 ·obtain⟨v,rfl,d⟩:=r.one;cases Z1 d;exact .inr ⟨_,rfl,k _ H _ _ (c9.refl H) .int sd (λ_ h=>(by cases h)) q⟩
 ·exact q.elim
def OM(g:Int->Int->Int):List D->(D->Prop)->Prop
 | [.int i,.int j],Q=>Q (.int (g i j))
 | _,_=>False
theorem Lx:Call3 X (λxs H Q=>∃i j,xs=[.int i,.int j]/\Q (.int (g i j)) H) (OM g):=by
 intro H vs o A Q R r q k;unfold OM at q;split at q
 ·obtain⟨v,w,B,C,rfl,l,d,_⟩:=r.two;cases r8 l;cases r8 d;exact⟨_,_,rfl,k _ H _ _ (c9.refl H) .int sd (λ_ h=>(by cases h)) q⟩
 ·exact q.elim
end
structure Br(b:Bool)(P Q:Prop):Prop where
 t:b=true->P
 f:b=false->Q
theorem Br.yes(h:b=true)(p:P):Br b P Q:=⟨λ_=>p,λe=>by rw[h] at e;cases e⟩
theorem Br.no(h:b=false)(p:Q):Br b P Q:=⟨λe=>(by rw[h] at e;cases e),λ_=>p⟩
abbrev aj:=Ev->(Bool->Prop)->Prop
section
variable{X:Cx}{cl:List Cl}{e a b c:Expr}{es:WI}{f:Fl}{pos:Pos}{ua ub uc:TU}{fa fb fc:Fl}
def uT(u:TU):aj:=λg Q=>u g λd=>match d with
 | .bl k=>Q k
 | _=>False
theorem U2(T:N6 X (compareOp i) r)(o:bu X r g)(ha:PU X cl a fa ua)(Y:PU X cl b fb ub)(U:behindInMarks i b=false):P5 X cl (.Compare a [i] [b] pos) (uT (l7 g ua ub)):=.of<|by
 obtain⟨ta,tb,O,M,h⟩:=u2 ha Y;refine⟨_,xa T O M U,λG p l H fo Q R hG E S k=>?_⟩;refine h G p l H fo (λd e=>g d e λd=>match d with | .bl k=>Q k | _=>False) _ hG E S λv w H' d e A B s J I _ _ q=>?_;refine o H' v w d e A B _ _ J I q λx H2 y C u z n1 n2 j=>?_;cases y<;>first | exact(j).elim | skip
 cases Z1 z;exact⟨_,rfl,k _ H2 (s.trans u) j⟩
theorem Aq(h:PU X cl a fa ua)(g:PU X cl b fb ub)(d:behindInMarks .Lt b=false):P5 X cl (.Compare a [.Lt] [b] pos) (uT (l7 (zj λi j=>.bl (decide (i<j))) ua ub)):=U2 JV gE h g d
theorem AD(h:PU X cl a fa ua)(g:PU X cl b fb ub)(d:behindInMarks .Gt b=false):P5 X cl (.Compare a [.Gt] [b] pos) (uT (l7 (zj λi j=>.bl (decide (j<i))) ua ub)):=U2 CF gE h g d
theorem BO(h:PU X cl a fa ua)(g:PU X cl b fb ub)(d:behindInMarks .GtE b=false):P5 X cl (.Compare a [.GtE] [b] pos) (uT (l7 (zj λi j=>.bl (decide (j<=i))) ua ub)):=U2 QL gE h g d
def tU(u:TU):aj:=λj Q=>u j λd=>match d with
 | .l3=>Q false
 | .bl k=>Q k
 | .int i=>Q (i != 0)
 | .str y=>y.length<=sizeLine/\Q ((y.length:Int) != 0)
 | .lst g=>Q (!g.isEmpty)
 | .tup g=>Q (!g.isEmpty)
 | .fz g=>Q (!g.isEmpty)
 | .dic h=>Q (!h.isEmpty)
 | _=>False
theorem u7.empty(r:u7 K H kvs d A):kvs.isEmpty=d.isEmpty:=by cases r<;>rfl
theorem i5.empty(r:i5 K H kvs d A):kvs.isEmpty=d.isEmpty:=by cases r<;>rfl
theorem V3(h:PU X cl e f ua)(I:∀g,isTrue e X.env g=(do let v <-g;standAt e.pos;holding [v] (truthy v))):P5 X cl e (tU ua):=.of<|by
 obtain⟨t,p,h⟩:=h.run;refine⟨_,Dr p I,λG y x H M Q R J E C k=>h G y x H M _ _ J E C λv j d B s r _ q=>?_⟩
 cases d with
 | l3=>cases cJ r;exact⟨_,rfl,k _ j s q⟩
 | bl i=>cases Z1 r;exact⟨_,rfl,k _ j s q⟩
 | int i=>cases r8 r;exact⟨_,rfl,k _ j s q⟩
 | str i=>cases C4 r;exact⟨_,⟨q.1,rfl⟩,k _ j s q.2⟩
 | lst u=>
  obtain⟨p,vs,B,rfl,o,l,_⟩:=D5 r;exact⟨_,.inl ⟨vs,G7.of o,rfl⟩,by rw[l.empty];exact k _ j s q⟩
 | tup u=>
  obtain⟨p,vs,rfl,o,l⟩:=K7 r;exact⟨_,.inr (.inl ⟨vs,P8.of o,rfl⟩),by rw[l.empty];exact k _ j s q⟩
 | fz u=>
  obtain⟨p,vs,rfl,o,l⟩:=iK r;exact⟨_,.inl ⟨vs,o.sq,rfl⟩,by rw[l.empty];exact k _ j s q⟩
 | dic z=>
  cases r with
  | dic o l=>exact⟨_,.inr (.inr ⟨_,.inr ⟨_,o⟩,rfl⟩),by rw[l.empty];exact k _ j s q⟩
 | _=>exact(q).elim
structure oo(X:Cx)(cl:List Cl)(e:Expr)(u:aj):Prop where
 of ::
 run:∃t,PW X e t/\∀(G:Ent) (ρ:Ev) (σ:St) (H:Hp) (fa:WQ) (Q:Bool->Prop) (R:Bool->Hp->Prop),G.cl=cl->E3 X.K G ρ σ H fa->u ρ Q ->
  (∀b H',c9 H H'->Q b->R b H')->t σ H R
theorem oo.pt(h:oo X cl e u):P5 X cl e u:=.of<|let ⟨t,p,h⟩:=h.run;⟨t,PW.pt p,h⟩
def Ej(c:aj):aj:=λd Q=>c d λk=>Q (!k)
def oq(c d:aj):aj:=λg Q=>c g λk=>Br k (d g Q) (Q false)
def Qb(c d:aj):aj:=λg Q=>c g λk=>Br k (Q true) (d g Q)
variable{tc td:aj}{rest:WI}
theorem mQ(h:P5 X cl a tc):P5 X cl (.UnaryOp .Not a pos) (Ej tc):=.of<|by
 obtain⟨t,p,h⟩:=h.run;exact⟨_,Nk p,λG g d H l Q R j E i k=>h G g d H l _ _ j E i λb o s q=>k _ o s q⟩
theorem bc(h:P5 X cl a tc):oo X cl (.BoolOp .And [a] pos) tc:=.of<|let ⟨t,p,h⟩:=h.run;⟨t,GA p,h⟩
theorem mG(h:P5 X cl a tc):oo X cl (.BoolOp .Or [a] pos) tc:=.of<|let ⟨t,p,h⟩:=h.run;⟨t,Nv p,h⟩
theorem bO(h:P5 X cl a tc)(d:oo X cl (.BoolOp .And (b::rest) pos) td):oo X cl (.BoolOp .And (a::b::rest) pos) (oq tc td):=.of<|by
 obtain⟨t,p,h⟩:=h.run;obtain⟨z,v,d⟩:=d.run;refine⟨_,Mp p v,λG i g H l Q R j E x k=>h G i g H l _ _ j E x λb o s q=>?_⟩
 cases b with
 | true=>
  exact d G i g o l Q R j (E.same s) (q.t rfl) λb y r u=>k b y (s.trans r) u
 | false=>exact k _ o s (q.f rfl)
theorem wY(h:P5 X cl a tc)(d:oo X cl (.BoolOp .Or (b::rest) pos) td):oo X cl (.BoolOp .Or (a::b::rest) pos) (Qb tc td):=.of<|by
 obtain⟨t,p,h⟩:=h.run;obtain⟨z,v,d⟩:=d.run;refine⟨_,Qk p v,λG i g H l Q R j E x k=>h G i g H l _ _ j E x λb o s q=>?_⟩
 cases b with
 | true=>exact k _ o s (q.t rfl)
 | false=>
  exact d G i g o l Q R j (E.same s) (q.f rfl) λb y r u=>k b y (s.trans r) u
def HA(ua ub:TU):TU:=λd Q=>ua d λx=>match x with
 | .bl k=>Br k (ub d Q) (Q (.bl false))
 | _=>False
def RW(ua ub:TU):TU:=λd Q=>ua d λx=>match x with
 | .bl k=>Br k (Q (.bl true)) (ub d Q)
 | _=>False
theorem jo(h:PU X cl a f ua):PU X cl (.BoolOp d [a] pos) f ua:=.of<|let ⟨t,p,h⟩:=h.run;⟨t,Mh p,h⟩
theorem vT(h:PU X cl a fa ua)(i:PU X cl (.BoolOp .And (b::rest) pos) fb ub):PU X cl (.BoolOp .And (a::b::rest) pos) fb (HA ua ub):=.of<|by
 obtain⟨t,p,h⟩:=h.run;obtain⟨O,C,i⟩:=i.run;refine⟨_,ME p C,λG g j H o Q R l E I k=>h G g j H o _ _ l E I λv u d B s r _ q=>?_⟩;cases d<;>first | exact(q).elim | skip
 rename_i b
 cases Z1 r;refine⟨_,rfl,?_⟩;cases b with
 | true=>
  exact i G g j u o Q R l (E.same s) (q.t rfl) λv M d B x y J z=>k v M d B (s.trans x) y (J.back s) z
 | false=>exact k _ u _ [] s .bl (y3.nil _) (q.f rfl)
theorem JP(h:PU X cl a fa ua)(i:PU X cl (.BoolOp .Or (b::rest) pos) fb ub):PU X cl (.BoolOp .Or (a::b::rest) pos) fb (RW ua ub):=.of<|by
 obtain⟨t,p,h⟩:=h.run;obtain⟨O,C,i⟩:=i.run;refine⟨_,OW p C,λG g j H o Q R l E I k=>h G g j H o _ _ l E I λv u d B s r _ q=>?_⟩;cases d<;>first | exact(q).elim | skip
 rename_i b
 cases Z1 r;refine⟨_,rfl,?_⟩;cases b with
 | true=>exact k _ u _ [] s .bl (y3.nil _) (q.t rfl)
 | false=>
  exact i G g j u o Q R l (E.same s) (q.f rfl) λv M d B x y J z=>k v M d B (s.trans x) y (J.back s) z
def Ta(c:aj)(ua ub:TU):TU:=λd Q=>c d λk=>Br k (ua d Q) (ub d Q)
theorem Qv(o:P5 X cl c tc)(O:PU X cl a f ua)(M:PU X cl b f ub):PU X cl (.IfExp c a b pos) f (Ta tc ua ub):=.of<|by
 obtain⟨t,p,o⟩:=o.run;obtain⟨Y,I,T⟩:=O.run;obtain⟨U,C,S⟩:=M.run;refine⟨_,CN p I C,λG h g H u Q R r E J k=>o G h g H u _ _ r E J λb z s q=>?_⟩
 cases b with
 | true=>exact T G h g z u Q R r (E.same s) (q.t rfl) λv y d B i j x l=>k v y d B (s.trans i) j (x.back s) l
 | false=>exact S G h g z u Q R r (E.same s) (q.f rfl) λv y d B i j x l=>k v y d B (s.trans i) j (x.back s) l
end
structure PN(X:Cx)(cl:List Cl)(e:Expr)(u:TM):Prop where
 of ::
 run:∃t,PE X e t/\∀(G:Ent) (ρ:Ev) (σ:St) (H:Hp) (fa:WQ) (Q:D->Ev->Prop) (R:VK),G.cl=cl->E3 X.K G ρ σ H fa->u ρ Q ->
  (∀v H' d B ρ' fa',E3 X.K G ρ' σ H' fa'->O8 X.K G H fa H' fa'->Rep X.K H' v d B->(∀i,G.own i->∀a∈B,a∉fa' i)->Q d ρ'->R v H')->t σ H R
section
variable{X:Cx}{cl:List Cl}{e a b c:Expr}{es:WI}{f:Fl}{pos:Pos}{ua ub uc:TU}{fa fb fc:Fl}{ma mb:TM}
def mP(u:TU):TM:=λg Q=>u g λd=>Q d g
theorem PU.m(h:PU X cl e .fresh ua):PM X cl e (mP ua):=.of<|by
 obtain⟨t,p,h⟩:=h.run;exact⟨t,p,λG g o H l Q R y E u k=>h G g o H l _ _ y E u λv C d B s r f q=>k v C d B g l (E.same s) (O8.same s) r f.1 (λx j=>⟨f.2 x j,λi z=>E.there i z (f.2 x j)⟩) q⟩
theorem PU.n(h:PU X cl e f ua)(o:hZ f .stab=true):PN X cl e (mP ua):=.of<|by
 obtain⟨t,p,h⟩:=h.run;exact⟨t,p,λG g j H i Q R u E l k=>h G g j H i _ _ u E l λv x d B s r f q=>k v x d B g i (E.same s) (O8.same s) r (f.weak E o) q⟩
theorem PM.n(h:PM X cl e ma):PN X cl e ma:=.of<|by
 obtain⟨t,p,h⟩:=h.run;exact⟨t,p,λG o l H z Q R y E u k=>h G o l H z _ _ y E u λv C d B g j I c r n1 n2 q=>k v C d B g j I c r (λi _ a x=>(n2 a x).2 i) q⟩
def vR(u:TM):TM:=λh Q=>u h λd g=>u9 d=true/\Q d g
theorem PN.u9(h:PN X cl e ma):PM X cl e (vR ma):=.of<|by
 obtain⟨t,p,h⟩:=h.run;refine⟨t,p,λG l j H y Q R x E o k=>h G l j H y _ _ x E o λv z d B g i C c r n q=>?_⟩;have e:=r.C9 q.1;subst e;exact k v z d [] g i C c r sd (λa u=>(by cases u)) q.2
theorem m2(C:PN X cl a ma)(z:PN X cl b mb):∃r q,PE X a r/\PE X b q/\∀(G:Ent) (p:Ev) (σ:St) (H:Hp) (u:WQ) (Q:D->D->Ev->Prop) (R:V->V->Hp->Prop),G.cl=cl->E3 X.K G p σ H u->(ma p λx j=>mb j λy h=>Q x y h) ->
  (∀v w o d e A B l g,E3 X.K G l σ o g->O8 X.K G H u o g->Rep X.K o v d A->Rep X.K o w e B->(∀i,G.own i->∀a∈A,a∉g i)->(∀i,G.own i->∀a∈B,a∉g i)->Q d e l->R v w o)->r σ H λx O=>q σ O λy M=>R x y M:=by
 obtain⟨r,pa,C⟩:=C.run;obtain⟨q,pb,z⟩:=z.run;refine⟨r,q,pa,pb,λG p σ H u Q R T E hu k=>?_⟩;refine C G p σ H u _ _ T E hu λv O d A j J E1 c1 S n1 q1=>?_;refine z G j σ O J _ _ T E1 q1 λw M e B h I E2 c2 U n2 Y=>?_;exact k v w M d e A B h I E2 (c1.trans c2) (c2.keep S n1) U (c2.apart (λx hx=>S.there hx) n1) n2 Y
def aN(g:D->D->(D->Prop)->Prop)(ma mb:TM):TM:=λj Q=>ma j λx i=>mb i λy h=>g x y λd=>Q d h
theorem PC(o:bu X r g)(j:PN X cl a ma)(hb:PN X cl b mb)(mk:∀{u p},PE X a u->PE X b p->PE X e (Oe r u p)):PM X cl e (aN g ma mb):=.of<|by
 obtain⟨u,p,pa,pb,h⟩:=m2 j hb;refine⟨_,mk pa pb,λG S O H fo Q R hG E hu k=>?_⟩;refine h G S O H fo _ _ hG E hu λv w H' d e A B l I M c Y U _ _ q=>?_;exact o H' v w d e A B _ R Y U q λx H2 y C J T n1 n2 q2=>k x H2 y C l I (M.same J) (c.trans (O8.same J)) T n1 (λa j=>⟨c.stb.dom a (n2 a j),λi z=>M.there i z (n2 a j)⟩) q2
theorem EE(j:N6 X (binaryOp d) r)(o:bu X r g)(p:PN X cl a ma)(l:PN X cl b mb):PM X cl (.BinOp a d b pos) (aN g ma mb):=PC o p l λi h=>JN j i h
theorem NG(j:N6 X (compareOp d) r)(o:bu X r g)(q:PN X cl a ma)(p:PN X cl b mb)(l:behindInMarks d b=false):PM X cl (.Compare a [d] [b] pos) (aN g ma mb):=PC o q p λi h=>wR j i h l
theorem Nu(g:PN X cl a ma)(d:PN X cl b mb):PM X cl (.BinOp a .Mod b pos) (aN (gI (λ_ j=>0<j) λi j=>.int (i%j)) ma mb):=EE Ft qa g d
theorem JS(h:PN X cl a ma)(g:PN X cl b mb)(d:behindInMarks .Gt b=false):PM X cl (.Compare a [.Gt] [b] pos) (aN (zj λi j=>.bl (decide (j<i))) ma mb):=NG CF gE h g d
theorem Lm{d e:D}(y:Rep X.K H v d A)(u:Rep X.K H w e B)(q:SF d e Q)(k:∀x z C,Rep X.K H x z C->C.Sublist A->Q z->R x H):Ra X.K v w H R:=by
 have go:∀{l:List D} {i:Int} {z:D},pY d=some l->e=.int i->L2.N8 l i=some z->Q z->Ra X.K v w H R:=λ{l i z} U T S E=>by
  subst T;cases r8 u;obtain⟨p,vs,C,rfl,j,r,o⟩:=cD y U;obtain⟨x,M,J,I,G⟩:=r.N8 S;rcases j with j | j
  ·exact .inl ⟨p,vs,i,x,rfl,rfl,j,J,k x z M I (G.trans o) E⟩
  ·exact .inr (.inl ⟨p,vs,i,x,rfl,rfl,j,J,k x z M I (G.trans o) E⟩)
 cases d<;>cases e<;>first | exact(q).elim | skip
 ·obtain⟨O,c,h,g⟩:=q;cases C4 y;cases r8 u;exact .inr (.inr ⟨_,_,c,rfl,rfl,O,h,k _ _ [] .str (VF _) g⟩)
 ·obtain⟨z,h,g⟩:=q;exact go rfl rfl h g
 ·obtain⟨z,h,g⟩:=q;exact go rfl rfl h g
 ·obtain⟨z,h,g⟩:=q;exact go rfl rfl h g
theorem o4(h:a7 i g Q):∃d,g[i]?=some (some d)/\Q d:=by
 unfold a7 at h;split at h
 ·exact⟨_,by assumption,h⟩
 ·exact h.elim
abbrev sI:=Ev->(Bool->Ev->Prop)->Prop
structure NX(X:Cx)(cl:List Cl)(e:Expr)(u:sI):Prop where
 of ::
 run:∃t,PT X e t/\∀(G:Ent) (ρ:Ev) (σ:St) (H:Hp) (fa:WQ) (Q:Bool->Ev->Prop) (R:Bool->Hp->Prop),G.cl=cl->E3 X.K G ρ σ H fa->u ρ Q ->
  (∀b H' ρ' fa',E3 X.K G ρ' σ H' fa'->O8 X.K G H fa H' fa'->Q b ρ'->R b H')->t σ H R
def tP(u:aj):sI:=λd Q=>u d λb=>Q b d
variable{tc td:aj}{mc md:sI}{rest:WI}
theorem P5.m(h:P5 X cl e tc):NX X cl e (tP tc):=.of<|by
 obtain⟨t,p,h⟩:=h.run;exact⟨t,p,λG d i H g Q R l E j k=>h G d i H g _ _ l E j λb o s q=>k b o d g (E.same s) (O8.same s) q⟩
def mT(u:TM):sI:=λh Q=>u h λd g=>match d with
 | .bl k=>Q k g
 | _=>False
theorem Dm(Y:N6 X (compareOp j) r)(o:bu X r g)(ha:PN X cl a ma)(hb:PN X cl b mb)(hm:behindInMarks j b=false):NX X cl (.Compare a [j] [b] pos) (mT (aN g ma mb)):=.of<|by
 obtain⟨ta,tb,T,S,h⟩:=m2 ha hb;refine⟨_,xa Y T S hm,λG I z H fo Q R hG E U k=>?_⟩;refine h G I z H fo (λd e i=>g d e λd=>match d with | .bl k=>Q k i | _=>False) _ hG E U λv w H' d e A B i l E' c O M _ _ q=>?_;refine o H' v w d e A B _ _ O M q λx H2 y C p J n1 n2 u=>?_;cases y<;>first | exact(u).elim | skip
 cases Z1 J;exact⟨_,rfl,k _ H2 i l (E'.same p) (c.trans (O8.same p)) u⟩
theorem Ko(h:PN X cl a ma)(g:PN X cl b mb)(d:behindInMarks .Gt b=false):NX X cl (.Compare a [.Gt] [b] pos) (mT (aN (zj λi j=>.bl (decide (j<i))) ma mb)):=Dm CF gE h g d
inductive wU(K:WR)(H:Hp)(N:Addr->Prop):List V->List D->List (WE)->Prop
 | nil:wU K H N [] [] []
 | cons {v:V} {d:D} {B:WE} {vs:List V} {ds:List D} {Bs:List (WE)}:Rep K H v d B->(∀a∈B,¬N a)->wU K H N vs ds Bs->wU K H N (v::vs) (d::ds) (B::Bs)
def OH(G:Ent)(fa:WQ):Addr->Prop:=λa=>∃i,G.own i/\a∈fa i
abbrev mS:=Ev->(List D->Ev->Prop)->Prop
structure Gs(X:Cx)(cl:List Cl)(es:WI)(u:mS):Prop where
 of ::
 run:∃t,PA X es t/\∀(G:Ent) (ρ:Ev) (σ:St) (H:Hp) (fa:WQ) (Q:List D->Ev->Prop) (R:List V->Hp->Prop),G.cl=cl->E3 X.K G ρ σ H fa->u ρ Q ->
  (∀vs H' ds Bs ρ' fa',E3 X.K G ρ' σ H' fa'->O8 X.K G H fa H' fa'->wU X.K H' (OH G fa') vs ds Bs->ds.length=es.length->Q ds ρ'->R vs H')->t σ H R
def x6:mS:=λd Q=>Q [] d
def i8(ma:TM)(j:mS):mS:=λh Q=>ma h λx g=>j g λi d=>Q (x::i) d
theorem j8:Gs X cl [] x6:=.of ⟨_,M7,λG d h H fa Q R _ E g k=>k [] H [] [] d fa E O8.refl .nil rfl g⟩
theorem i6(j:PN X cl e ma)(Y:Gs X cl es r)(U:isStar e=false):Gs X cl (e::es) (i8 ma r):=.of<|by
 obtain⟨t1,M,h1⟩:=j.run;obtain⟨t2,J,h2⟩:=Y.run;refine⟨_,bp M J U,λG y p H fa Q R u E T k=>?_⟩;refine h1 G y p H fa _ _ u E T λv H1 d A h o E1 c1 q n1 I=>?_;refine h2 G h p H1 o _ _ u E1 I λvs H2 ds Bs g l E2 c2 B O C=>?_;exact k (v::vs) H2 (d::ds) (A::Bs) g l E2 (c1.trans c2) (.cons (c2.keep q n1) (λa j ⟨i,hi,z⟩=>c2.apart (λx S=>q.there S) n1 i hi a j z) B) (by simp[O]) C
structure Oa(X:Cx)(cl:List Cl)(es:WI)(u:mS):Prop where
 of ::
 run:∃t,PA X es t/\∀(G:Ent) (ρ:Ev) (σ:St) (H:Hp) (fa:WQ) (Q:List D->Ev->Prop) (R:List V->Hp->Prop),G.cl=cl->E3 X.K G ρ σ H fa->u ρ Q ->
  (∀vs H' ds B ρ' fa',E3 X.K G ρ' σ H' fa'->O8 X.K G H fa H' fa'->i5 X.K H' vs ds B->B.Nodup->(∀a∈B,H a=none/\∀i,a∉fa' i)->ds.length=es.length->Q ds ρ'->R vs H')->t σ H R
theorem cq:Oa X cl [] x6:=.of ⟨_,M7,λG d i H fa Q R _ E g k=>k [] H [] [] d fa E O8.refl .nil sd (λa h=>(by cases h)) rfl g⟩
theorem A6(o:PM X cl e ma)(hr:Oa X cl es u)(hs:isStar e=false):Oa X cl (e::es) (i8 ma u):=.of<|by
 obtain⟨t1,U,h1⟩:=o.run;obtain⟨t2,T,h2⟩:=hr.run;refine⟨_,bp U T hs,λG J r H fa Q R I E hu k=>?_⟩;refine h1 G J r H fa _ _ I E hu λv H1 d A h q E1 c1 j n1 n2 S=>?_;refine h2 G h r H1 q _ _ I E1 S λvs H2 ds B g p E2 c2 M m1 m2 Y O=>?_;refine k (v::vs) H2 (d::ds) (A++B) g p E2 (c1.trans c2) (.cons (c2.keep j λi _ a o=>(n2 a o).2 i) M) ?_ (λx l=>?_) (by simp[Y]) O
 ·refine List.nodup_append.mpr ⟨n1,m1,λx l y hy e=>?_⟩;subst e;exact j.there l (m2 x hy).1
 ·rcases List.mem_append.mp l with z | z
  ·refine⟨(n2 x z).1,λi y=>?_⟩
   by_cases C:G.own i
   ·rcases c2.new i C x y with w | w
    ·exact(n2 x z).2 i w
    ·exact j.there z w
   ·rw[c2.bor i C] at y;exact(n2 x z).2 i y
  ·exact⟨c1.stb.dom x (m2 x z).1,(m2 x z).2⟩
def Ig(i:mS):TM:=λg Q=>i g λh d=>Q (.lst h) d
def Hv(i:mS):TM:=λg Q=>i g λh d=>Q (.tup h) d
theorem vb(h:Oa X cl es l)(J:Nat.ble es.length 1000=true):PM X cl (.List es pos) (Ig l):=.of<|by
 obtain⟨t,p,h⟩:=h.run;refine⟨_,Au p,λG v u H fa Q R M E I k=>?_⟩;refine h G v u H fa _ _ M E I λvs S O A g j o c r n1 n2 B q=>⟨by rw[r.length,B];exact aI (vv J),λx d=>?_⟩
 refine k _ _ (.lst O) (x::A) g j (o.same (c9.e7 d)) (c.trans (O8.same (c9.e7 d))) (.lst c7 (r.same (c9.e7 d))) (List.nodup_cons.mpr ⟨λz=>?_,n1⟩) (λy C=>?_) q
 ·have:=r.dD x z;rw[d] at this;exact this
 ·rcases List.mem_cons.mp C with z | z
  ·rw[z];exact⟨c.stb.dom x d,λi z=>o.there i z d⟩
  ·exact n2 y z
theorem tD(h:Oa X cl es j)(z:Nat.ble es.length 1000=true):PM X cl (.Tuple es u pos) (Hv j):=.of<|by
 obtain⟨t,p,h⟩:=h.run;refine⟨_,nq p,λG o l H fa Q R B E y k=>?_⟩;refine h G o l H fa _ _ B E y λvs J C A d i I c r n1 n2 v q=>⟨by rw[r.length,v];exact aI (vv z),λx g=>?_⟩
 exact k _ _ (.tup C) A d i (I.same (c9.e7 g)) (c.trans (O8.same (c9.e7 g))) (.tup c7 (r.same (c9.e7 g))) n1 n2 q
def Qe(g:List D->(D->Prop)->Prop)(j:mS):TM:=λi Q=>j i λl h=>g l λd=>Q d h
theorem wU.MO:∀{vs:List V} {ds:List D} {d:List (WE)},wU K H N vs ds d->∃A,i5 K H vs ds A
 | _,_,_,.nil=>⟨_,.nil⟩
 | _,_,_,.cons h _ r=>let ⟨A,q⟩:=r.MO;⟨_,.cons h q⟩
theorem SN(o:Call3 X r g)(h:Gs X cl es u)(mk:∀{t},PA X es t->PE X e (Rj r t)):PM X cl e (Qe g u):=.of<|by
 obtain⟨t,p,h⟩:=h.run;refine⟨_,mk p,λG J I H fa Q R T E S k=>?_⟩;refine h G J I H fa _ _ T E S λvs H1 U Bs d j B c r n3 q=>?_;obtain⟨A,r⟩:=r.MO;exact o H1 vs U A _ R r q λx Y y C l M n1 n2 O=>k x Y y C d j (B.same l) (c.trans (O8.same l)) M n1 (λa v=>⟨c.stb.dom a (n2 a v),λi z=>B.there i z (n2 a v)⟩) O
section
variable{id T:String}{r:List V->Hp->VK->Prop}{g:List D->(D->Prop)->Prop}{x:Str}{p:Pos}{ms:mS}
theorem Df (v:D4 X (.builtin id) r) (o:Call3 X r g) (q:Gl X x) (l:X.mg x=none) (i:bootBuiltins x=some (.builtin id)) (y:Gs X cl (e::es) ms) (j:x ≠ "__name__":=by decide) (hd:(x == ("__debug__" : Str))=false:=by decide)
  (u:starEach (e::es) X.env=(false,eval e X.env)::starEach es X.env:=by rfl) (d:(backTo pos (starEach es X.env)).any (·.1)=false:=by rfl):PM X cl (.Call (.Name x p) (e::es) [] pos) (Qe g ms):=
 SN o y λh=>gB v q l i h j hd u d
theorem yR (v:D4 X (.type T) r) (o:Call3 X r g) (q:Gl X x) (l:X.mg x=none) (i:bootBuiltins x=some (.type T)) (y:Gs X cl (e::es) ms) (j:x ≠ "__name__":=by decide) (hd:(x == ("__debug__" : Str))=false:=by decide)
  (u:starEach (e::es) X.env=(false,eval e X.env)::starEach es X.env:=by rfl) (d:(backTo pos (starEach es X.env)).any (·.1)=false:=by rfl):PM X cl (.Call (.Name x p) (e::es) [] pos) (Qe g ms):=
 SN o y λh=>dJ v q l i h j hd u d
end
end
end L3
namespace L3
open PySem PySem.Spec L2 PyProof.Rows
abbrev Cp:=List D->(D->Prop)->Prop
abbrev Cm:=List D->(D->D->Prop)->Prop
def Q0(K:WR)(c:Cp):Sp:=λvs H Q _=>∃d A e,i5 K H vs d A/\c d e/\∀r v b B,e r->c9 H b->Rep K b v r B->B.Nodup->(∀a∈B,H a=none)->Q v b
def FP(K:WR)(c:Cm):Sp:=λvs H Q _=>∃w b d h A j i,vs=w::b/\Rep K H w d A/\A.Nodup/\wU K H (λa=>a∈A) b h j/\c (d::h) i/\∀r l v e g B,i r l->Rep K e w l g->g.Nodup->(∀a∈g,a∈A\/H a=none) ->
 (∀a o,H a=some o->a∉A->e a=some o)->V2 H e->Rep K e v r B->B.Nodup->(∀a∈B,H a=none/\a∉g)->Q v e
structure JI(P:Program)(w:World)(K:WR)(mg:WM)(base:Heap)(x:Str)(k:Nat)(ps:WG)(sp:Sp)(f:Addr)(fd:FuncData):Prop where
 ok:p3 P w K mg base M1 k f fd ps sp
 mgf:mg x=some (.ref f)
 kp:PySem.W.keepIn K (.ref f)=true
 bd:Binds K fd ps []
section
variable{X:Cx}{cl:List Cl}{e a b:Expr}{es:WI}{f:Fl}{pos:Pos}{ua:TU}{ma mb:TM}{us:cy}{ms:mS}{k:Nat}{fn:Addr}{fd:FuncData}{ps:WG}{x:Str}{p:Pos}
def j5(c:Cp)(us:cy):TU:=λd Q=>us d λg=>c g Q
theorem Gv  (C:JI X.prog X.w X.K X.mg X.base x k ps (Q0 X.K c) fn fd) (M:E7 k X.A) (O:Gl X x) (j:zN X cl (e::es) us) (d:isStar e=false) (i:(x == ("__debug__" : Str))=false:=by decide)
  (g:(backTo pos (starEach es X.env)).any (·.1)=false:=by rfl):PU X cl (.Call (.Name x p) (e::es) [] pos) .fresh (j5 c us):=.of<|by
 obtain⟨t,pt,h⟩:=j.run;refine⟨_,cZ C.ok M O C.mgf C.kp C.bd .nil xS pt i (M6 d) g,λG o l H T Q R S E J I=>?_⟩;refine h G o l H T _ _ S E J λvs H1 U A s r n3 q=>?_;rw[tz];exact⟨U,A,Q,r,q,λr v Y B z u y n1 n2=>I v Y r B (s.trans u) y ⟨n1,λa j=>s.free (n2 a j)⟩ z⟩
def JZ(c:Cp)(ms:mS):TM:=λh Q=>ms h λi g=>c i λd=>Q d g
theorem Fg  (C:JI X.prog X.w X.K X.mg X.base x k ps (Q0 X.K c) fn fd) (hr:E7 k X.A) (hg:Gl X x) (d:Gs X cl (e::es) ms) (j:isStar e=false) (o:(x == ("__debug__" : Str))=false:=by decide)
  (l:(backTo pos (starEach es X.env)).any (·.1)=false:=by rfl):PM X cl (.Call (.Name x p) (e::es) [] pos) (JZ c ms):=.of<|by
 obtain⟨t,pt,h⟩:=d.run;refine⟨_,cZ C.ok hr hg C.mgf C.kp C.bd .nil xS pt o (M6 j) l,λG O M H fa Q R hG E Y U=>?_⟩;refine h G O M H fa _ _ hG E Y λvs H1 ds Bs g u J I r n3 q=>?_;obtain⟨A,r⟩:=r.MO;rw[tz];exact⟨ds,A,_,r,q,λr v H2 B T y S n1 n2=>U v H2 r B g u (J.same y) (I.trans (O8.same y)) S n1 (λa d=>⟨I.stb.dom a (n2 a d),λi z=>J.there i z (n2 a d)⟩) T⟩
def t9(j:Nat)(c:Cm)(ms:mS):TM:=λh Q=>a7 j h λ_=>ms h λi g=>a7 j g λd=>c (d::i) λr l=>Q r (g.set j (some l))
theorem wU.imp{K:WR}(h:∀a,c a->N a):∀{vs:List V} {ds:List D} {d:List (WE)},wU K H N vs ds d->wU K H c vs ds d
 | _,_,_,.nil=>.nil
 | _,_,_,.cons r n t=>.cons r (λa g z=>n a g (h a z)) (t.imp h)
theorem Hm  (j:Nat)   (hv:PE X (.Name y vp) (bq j)) (hj:cl[j]?=some .own) (C:JI X.prog X.w X.K X.mg X.base x k ps (FP X.K c) fn fd) (hr:E7 k X.A) (hg:Gl X x) (g:Gs X cl es ms) (a1:(x == ("__debug__" : Str))=false:=by decide)
  (a0:(backTo pos (starEach es X.env)).any (·.1)=false:=by rfl):PM X cl (.Call (.Name x p) (.Name y vp::es) [] pos) (t9 j c ms):=.of<|by
 obtain⟨t,pt,h⟩:=g.run;refine⟨_,cZ C.ok hr hg C.mgf C.kp C.bd .nil xS (bp hv pt rfl) a1 (M6 rfl) a0,λG ρ σ H fa Q R hG E hu kk=>?_⟩;obtain⟨d0,e0,hu⟩:=o4 hu;obtain⟨v,Y,_⟩:=E.rep j d0 e0;refine⟨v,Y,h G ρ σ H fa _ _ hG E hu λvs H1 ds Bs J S u c' r n3 q=>?_⟩;obtain⟨d,e1,q⟩:=o4 q;obtain⟨v',O,rp⟩:=u.rep j d e1;have ev:v'=v:=by rw[Y] at O;cases O;rfl
 subst ev;have own:G.own j:=by unfold Ent.own;rw[hG];exact hj
 rw[tz];refine⟨v',vs,d,ds,S j,Bs,_,rfl,rp,u.nd j (.inl own),r.imp λa g=>⟨j,own,g⟩,q,λr l v H2 A' B qd r2 n1 n2 n3 n4 r3 n5 n6=>?_⟩
 have ch:O8 X.K G H1 S H2 (λi=>if i=j then A' else S i):=by
  refine⟨λa o h n=>n3 a o h (n j own),n4,λi I a g=>?_,λi I=>?_⟩
  ·by_cases e:i=j
   ·subst e;rw[ry rfl] at g;exact n2 a g
   ·rw[ro e] at g;exact .inl g
  ·exact ro λe=>I (by rw[e];exact own)
 have lj:=(List.getElem?_eq_some_iff.mp e1).1;have M:∀i,i≠j->(J.set j (some l))[i]?=J[i]?:=λi n=>v4 (Da n);refine kk v H2 r B (J.set j (some l)) _ (u.step ch (by simp) (λi I=>M i λe=>I (by rw[e];exact own)) (λi d' I e=>?_) (λi I e=>?_) (λi I=>?_) λi U n I a2 a g z=>?_) (c'.trans ch) r3 n5 (λa g=>⟨c'.stb.dom a (n6 a g).1,λi z=>?_⟩) qd
 ·by_cases q:i=j
  ·subst q;rw[v1 lj] at e;cases e;exact⟨v',O,by rw[ry rfl];exact r2⟩
  ·rw[M i q] at e;obtain⟨w,e2,r4⟩:=u.rep i d' e;refine⟨w,e2,?_⟩;rw[ro q];refine r4.mono n4 λa g=>?_;obtain⟨o,eo⟩:=dG.some (r4.dD a g);rw[eo];exact n3 a o eo λz=>u.dj i j q I a g z
 ·by_cases q:i=j
  ·subst q;exact absurd (v1 lj) (e l)
  ·rw[ro q];exact u.emp i λd z=>e d (by rw[M i q];exact z)
 ·by_cases q:i=j
  ·rw[ry q];exact n1
  ·rw[ro q];exact u.nd i (.inl I)
 ·by_cases q:i=j
  ·rw[ry q] at g;have T:U≠j:=λe=>n (q.trans e.symm);rw[ro T] at z;rcases n2 a g with y | y
   ·exact u.dj j U (Da T) own a y z
   ·exact u.there U z y
  ·rw[ro q] at g
   by_cases T:U=j
   ·rw[ry T] at z;rcases n2 a z with y | y
    ·exact u.dj i j q I a g y
    ·exact u.there i g y
   ·rw[ro T] at z;exact u.dj i U n I a g z
 ·by_cases q:i=j
  ·rw[ry q] at z;exact(n6 a g).2 z
  ·rw[ro q] at z;exact u.there i z (n6 a g).1
def Ed(c:Cm)(ma:TM)(ms:mS):TM:=λi Q=>ma i λd g=>ms g λj h=>c (d::j) λr _=>Q r h
theorem i5.Tj{K:WR}(r:i5 K H vs ds B):(∀a∈B,¬N a)->∃c,wU K H N vs ds c:=
 r.ind (P:=λvs ds B=>(∀a∈B,¬N a)->∃c,wU K H N vs ds c) (λ_=>⟨_,.nil⟩) λh _ i n=>let ⟨c,q⟩:=i λa d=>n a (rj _ d);⟨_,.cons h (λa d=>n a (t7 _ d)) q⟩
theorem E3.away{K:WR}{A:WE}(E:E3 K G j σ H c)(s:V2 H g)(k:∀a o,H a=some o->a∉A->g a=some o)(n:∀i,∀a∈A,a∉c i)(B:∀a∈A,G.H₀ a=none)(z:∀a∈A,¬G.Z a):E3 K G j σ g c where
 rep:=λi d e=>by
  obtain⟨v,C,r⟩:=E.rep i d e;refine⟨v,C,r.mono s λa l=>?_⟩;obtain⟨o,u⟩:=dG.some (r.dD a l);rw[u];exact k a o u λq=>n i a q l
 emp:=E.emp
 len:=E.len
 nd:=E.nd
 dj:=E.dj
 par:=E.par
 old:=E.old
 new:=E.new
 frm:=λa o h q=>k a o (E.frm a o h q) λy=>by rw[B a y] at h;cases h
 stb:=E.stb.trans s
 zk:=λa y=>by
  obtain⟨o,e⟩:=Option.ne_none_iff_exists'.mp (E.zn a y);have h:=E.zk a y;rw[e] at h ⊢;exact k a o h λq=>z a q y
 zn:=E.zn
 zo:=E.zo
 po:=E.po
theorem FH  (C:JI X.prog X.w X.K X.mg X.base x k ps (FP X.K c) fn fd) (hr:E7 k X.A) (hg:Gl X x) (h0:PM X cl e ma) (g:Oa X cl es ms) (I:isStar e=false) (a0:(x == ("__debug__" : Str))=false:=by decide)
  (Y:(backTo pos (starEach es X.env)).any (·.1)=false:=by rfl):PM X cl (.Call (.Name x p) (e::es) [] pos) (Ed c ma ms):=.of<|by
 obtain⟨t0,p0,h0⟩:=h0.run;obtain⟨t,pt,h⟩:=g.run;refine⟨_,cZ C.ok hr hg C.mgf C.kp C.bd .nil xS (bp p0 pt I) a0 (M6 I) Y,λG ρ σ H fa Q R hG E hu kk=>?_⟩;refine h0 G ρ σ H fa _ _ hG E hu λw H0 d A O a2 E0 c0 T m1 m2 q0=>?_;refine h G O σ H0 a2 _ _ hG E0 q0 λvs H1 ds B1 S u E' M r k1 k2 U q=>?_;show FP X.K c ((w::vs)++[]) H1 R L2.E0;rw[tz]
 have j:∀i,∀a∈A,a∉u i:=λi a g z=>by
  by_cases hi:G.own i
  ·rcases M.new i hi a z with y | y
   ·exact(m2 a g).2 i y
   ·exact T.there g y
  ·rw[M.bor i hi] at z;exact(m2 a g).2 i z
 obtain⟨Bs,a1⟩:=r.Tj  λa g z=>T.there z (k2 a g).1;refine⟨w,vs,d,ds,A,Bs,_,rfl,M.keep T λi _ a g=>(m2 a g).2 i,m1,a1,q,λr l v H2 A' B qd r2 n1 n2 U n4 r3 n5 n6=>?_⟩;have J:=c0.trans M;have ch:O8 X.K G H fa H2 u:=⟨λa o h n=>U a o (J.frm a o h n) λz=>(by rw[(m2 a z).1] at h;cases h),J.stb.trans n4,J.new,J.bor⟩
 refine kk v H2 r B S u (E'.away n4 U j (λa g=>E.stb.dom a (m2 a g).1) λa g z=>?_) ch r3 n5 (λa g=>⟨J.stb.dom a (n6 a g).1,λi z=>E'.there i z (n6 a g).1⟩) qd;have h:=E.zk a z;rw[(m2 a g).1] at h;exact E.zn a z h.symm
end
def g9(n:Nat)(ds:List D):Ev:=ds.map some++List.replicate (n-ds.length) none
theorem i5.each{K:WR}:∀{vs:List V} {ds:List D} {A:WE},i5 K H vs ds A->∃a:Nat->WE,(∀i d,ds[i]?=some d->∃v,vs[i]?=some v/\Rep K H v d (a i))/\∀i,ds.length<=i->a i=[]
 | _,_,_,.nil=>⟨λ_=>[],λi d e=>(by simp at e),λ_ _=>rfl⟩
 | _,_,_,.cons (A:=A) h r=>by
  obtain⟨a,g,c⟩:=r.each;refine⟨λi=>match i with | 0=>A | i+1=>a i,λi d e=>?_,λi b=>?_⟩
  ·cases i with
   | zero=>simp at e;subst e;exact⟨_,rfl,h⟩
   | succ i=>
    obtain⟨v,l,j⟩:=g i d (by simpa using e);exact⟨v,by simpa using l,j⟩
  ·cases i with
   | zero=>simp at b
   | succ i=>exact c i (by simpa using b)
theorem wU.each{K:WR}:∀{vs:List V} {ds:List D} {u:List (WE)},wU K H N vs ds u->∃b:Nat->WE,(∀i d,ds[i]?=some d->∃v,vs[i]?=some v/\Rep K H v d (b i))/\(∀i,ds.length<=i->b i=[])/\(∀i,∀a∈b i,¬N a)/\ds.length=vs.length
 | _,_,_,.nil=>⟨λ_=>[],λi d e=>(by simp at e),λ_ _=>rfl,λ_ _ h=>(by cases h),rfl⟩
 | _,_,_,.cons (B:=B) h n r=>by
  obtain⟨b,o,l,j,g⟩:=r.each;refine⟨λi=>match i with | 0=>B | i+1=>b i,λi d e=>?_,λi c=>?_,λi=>?_,by simp[g]⟩
  ·cases i with
   | zero=>simp at e;subst e;exact⟨_,rfl,h⟩
   | succ i=>
    obtain⟨v,q,p⟩:=o i d (by simpa using e);exact⟨v,by simpa using q,p⟩
  ·cases i with
   | zero=>simp at c
   | succ i=>exact l i (by simpa using c)
  ·cases i with
   | zero=>exact n
   | succ i=>exact j i
theorem bI{i:Nat}(h:(g9 n ds)[i]?=some (some d)):ds[i]?=some d:=by
 unfold g9 at h
 by_cases a:i<ds.length
 ·rw[ud (by simpa using a),rx] at h
  cases e:ds[i]? with
  | none=>rw[e] at h;cases h
  | some x=>rw[e] at h;cases h;rfl
 ·rw[wT (by simpa using a),List.getElem?_replicate] at h;split at h<;>cases h
theorem W2{i:Nat}(h:vs[i]?=some v):(L2.start N vs)[i]?=some (some v):=by
 unfold L2.start;have a:=(List.getElem?_eq_some_iff.mp h).1;rw[ud (by simpa using a),rx,h];rfl
theorem cg(h:ds.length=vs.length):(g9 N.length ds).length=(L2.start N vs).length:=by
 unfold g9 L2.start;simp[h]
theorem ba{i:Nat}(h:ds[i]?=some d):(g9 n ds)[i]?=some (some d):=by
 unfold g9;have a:=(List.getElem?_eq_some_iff.mp h).1;rw[ud (by simpa using a),rx,h];rfl
section
variable{P:Program}{w:World}{K:WR}{mg:WM}{base:Heap}
def Nf:List Cl->Bool
 | []=>true
 | .mk _::_=>false
 | _::r=>Nf r
theorem rh:∀{cl:List Cl} {j:Nat} {a:Hp},Nf cl=true->cl[j]?=some (.mk a)->False
 | [],j,_,_,e=>by cases j<;>cases e
 | c::r,0,a,h,e=>by
  cases e;cases h
 | c::r,j+1,a,h,e=>by
  cases c<;>first | cases h | exact rh (cl:=r) h e
def noOwn:List Cl->Nat->Bool
 | cl,0=>Nf cl
 | .bor::r,n+1=>noOwn r n
 | _,_=>false
theorem aU:∀{cl:List Cl} {n i:Nat},noOwn cl n=true->i<n->cl[i]?=some .bor
 | _,0,i,_,h=>by omega
 | .bor::r,n+1,0,h,_=>rfl
 | .bor::r,n+1,i+1,h,a=>by
  exact aU   (i:=i) h (by omega)
 | [],n+1,i,h,_=>by cases h
 | .own::r,n+1,i,h,_=>by cases h
 | .loc::r,n+1,i,h,_=>by cases h
 | .mk _::r,n+1,i,h,_=>by cases h
theorem cS:∀{cl:List Cl} {n j:Nat} {a:Hp},noOwn cl n=true->cl[j]?=some (.mk a)->False
 | cl,0,j,_,h,e=>by
  rw[noOwn] at h;exact rh h e
 | .bor::r,n+1,0,_,h,e=>by cases e
 | .bor::r,n+1,j+1,_,h,e=>cS   (show noOwn r n=true from h) (by exact e)
 | [],n+1,j,_,h,_=>by cases h
 | .own::r,n+1,j,_,h,_=>by cases h
 | .loc::r,n+1,j,_,h,_=>by cases h
 | .mk _::r,n+1,j,_,h,_=>by cases h
theorem W9{st:Stmt}(F:M0 K x l st f fd)(S:i3 N ps (c6 st))(Y:noOwn cl ps.length=true)
  (hl:∀ds Q,c ds Q->ds.length=ps.length)
  (hb:∀(y:Value) (A:Around) (outer:List Env) (s0:Shared) (H:Hp) (E:XK),E7 k (A.deeper (envOfC l (c6 st) s0.heap.objs.size f y))->kJ (eR M1 P w K mg base N l (c6 st) f y A outer s0 H E).Og cl (G9 st) s)
  (hc:∀ds Q,c ds Q->s { nx:=λ_=>Q .l3,rt:=λd _=>Q d } (g9 N.length ds)):p3 P w K mg base M1 (k+1) f fd ps (Q0 K c):=by
 refine F.ok S (λvs H Q E h=>?_) (λy A outer s0 H vs Q E hr h=>?_)
 ·obtain⟨ds,A,T,r,q,_⟩:=h;rw[r.length];exact hl ds T q
 ·obtain⟨ds,B,T,r,q,kk⟩:=h;have X:=hl ds T q;obtain⟨t,pt,h⟩:=(hb y A outer s0 H E hr).run;obtain⟨fa,h1,h2⟩:=r.each
  let G:Ent:=⟨H,λ_=>[],vs,cl,λ_=>False,H⟩
  have vl:=r.length.trans X;have bor:∀i,i<vs.length->cl[i]?=some .bor:=λi b=>aU Y (by omega)
  have g:∀i,i<vs.length->¬G.own i:=λi b z=>by
   have C:cl[i]?=some .own:=z;rw[bor i b] at C;cases C
  have a0:=λi b=>h2 i (by
   have q1:¬i<vs.length:=λq=>g i q b;omega)
  have E0:E3 K G (g9 N.length ds) (L2.start N vs) H fa:=by
   refine⟨λi d e=>?_,λi e=>h2 i ?_,cg r.length.symm,λi b=>?_,λi j _ b a u=>?_,λi b p=>absurd p (g i b),λi b p=>absurd p (g i b),λi b a u=>?_,λa o h _=>h,V2.refl H,λa z=>z.elim,λa z=>z.elim,λi _ a _ z=>z,⟨λi b p=>absurd p (g i b),λj U e=>(cS Y e).elim⟩⟩
   ·obtain⟨v,e1,r1⟩:=h1 i d (bI e);exact⟨v,W2 e1,r1⟩
   ·by_cases b:i<ds.length
    ·exact absurd (ba (nA b)) (e _)
    ·omega
   ·rw[h2 i (by
     by_cases q:i<ds.length
     ·have q2:=r.length;rcases b with b | b
      ·exact absurd b (g i (by omega))
      ·have C:cl[i]?=some .loc:=b;rw[bor i (by omega)] at C;cases C
     ·omega)];exact sd
   ·rw[a0 i b] at u;cases u
   ·rcases b with b | b
    ·have:¬i<vs.length:=λq=>by
      have C:cl[i]?=some .loc:=b;rw[bor i q] at C;cases C
     rw[h2 i (by have:=r.length;omega)] at u;cases u
    ·rw[a0 i b.1] at u;cases u
  refine⟨t,pt,h G { nx:=λ_=>T .l3,rt:=λd _=>T d } _ _ H fa _ rfl E0 (hc ds T q) ⟨λI U O=>?_,λv U O=>?_,λI U O=>?_,λI U O=>?_⟩⟩
  ·obtain⟨J,R,E',M⟩:=O;exact kk .l3 .l3 U [] M (λa o h=>E'.frm a o h λi b p=>absurd p (g i b)) .l3 sd λa u=>(by cases u)
  ·obtain⟨d,J,I,R,B',E',r',n1,n2,_,M⟩:=O;exact kk d v U B' M (λa o h=>E'.frm a o h λi b p=>absurd p (g i b)) r' n1 n2
  ·obtain⟨J,R,E',M⟩:=O;exact M
  ·obtain⟨J,R,E',M⟩:=O;exact M
theorem Rf{x U:Str}{st:Stmt}{f:Addr}{fd:FuncData}{N ps:WG}{k:Nat}{c:Cm}{s:g4}{cl:List Cl}(F:M0 K x U st f fd)(S:i3 N ps (c6 st))(a1:noOwn cl (ps.length-1)=true)
  (hl:∀ds Q,c ds Q->ds.length=ps.length)
  (hb:∀(X:Value) (A:Around) (outer:List Env) (s0:Shared) (H:Hp) (E:XK),E7 k (A.deeper (envOfC U (c6 st) s0.heap.objs.size f X))->kJ (eR M1 P w K mg base N U (c6 st) f X A outer s0 H E).Og (.own::cl) (G9 st) s)
  (hc:∀ds Q,c ds Q->s { nx:=λρ=>a7 0 ρ λl=>Q .l3 l,rt:=λd ρ=>a7 0 ρ λl=>Q d l } (g9 N.length ds)):p3 P w K mg base M1 (k+1) f fd ps (FP K c):=by
 refine F.ok S (λvs H Q E h=>?_) (λX A outer s0 H vs Q E hr h=>?_)
 ·obtain⟨w,p,d,ds,A,Bs,Qd,rfl,r,n,ap,q,_⟩:=h;obtain⟨fa,h1,h2,h3,h4⟩:=ap.each;have:=hl _ Qd q;simp at this ⊢;omega
 ·obtain⟨w,p,d,ds,A0,Bs,Qd,rfl,r,n,ap,q,kk⟩:=h;obtain⟨fa,h1,h2,h3,h4⟩:=ap.each;have a0:=hl _ Qd q;have a5:ds.length=ps.length-1:=by simp at a0;omega
  obtain⟨t,pt,h⟩:=(hb X A outer s0 H E hr).run
  let fb:Nat->WE:=λi=>match i with | 0=>A0 | i+1=>fa i
  let G:Ent:=⟨H,λi=>if i=0 then A0 else[],w::p,.own::cl,λ_=>False,H⟩
  have bor:∀i,i<p.length->cl[i]?=some .bor:=λi b=>aU a1 (by omega)
  have g:∀i,i<p.length->¬G.own (i+1):=λi b z=>by
   have Y:cl[i]?=some .own:=z;rw[bor i b] at Y;cases Y
  have J:G.own 0:=rfl
  have a3:∀i,G.own (i+1)->fa i=[]:=λi b=>h2 i (by
   have q1:¬i<p.length:=λq=>g i q b;omega)
  have E0:E3 K G (g9 N.length (d::ds)) (L2.start N (w::p)) H fb:=by
   refine⟨λi d' e=>?_,λi e=>?_,cg (by simp[h4]),λi b=>?_,λi j a4 b a I=>?_,λi b ho=>?_,λi b ho a I=>?_,λi b a I=>?_,λa o h _=>h,V2.refl H,λa z=>z.elim,λa z=>z.elim,λi _ a _ z=>z,⟨λi b ho=>?_,λj R e=>?_⟩⟩
   ·have e':=bI e
    cases i with
    | zero=>simp at e';subst e';exact⟨w,W2 (vs:=w::p) (i:=0) rfl,r⟩
    | succ i=>
     obtain⟨v,e1,r1⟩:=h1 i d' (by simpa using e');exact⟨v,W2 (by simpa using e1),r1⟩
   ·cases i with
    | zero=>exact absurd (ba (ds:=d::ds) (i:=0) rfl) (e _)
    | succ i=>
     refine h2 i ?_
     by_cases b:i<ds.length
     ·exact absurd (ba (ds:=d::ds) (i:=i+1) (by rw[wn];exact nA b)) (e _)
     ·omega
   ·cases i with
    | zero=>exact n
    | succ i=>
     show(fa i).Nodup
     rw[h2 i (by
      by_cases q:i<ds.length
      ·rcases b with b | b
       ·exact absurd b (g i (by omega))
       ·have Y:cl[i]?=some .loc:=b;rw[bor i (by omega)] at Y;cases Y
      ·omega)];exact sd
   ·cases i with
    | zero=>
     cases j with
     | zero=>exact absurd rfl a4
     | succ j=>exactλz=>h3 j a z I
    | succ i=>
     have C:a∈fa i:=I;rw[a3 i b] at C;cases C
   ·cases i with
    | zero=>exact W2 (vs:=w::p) (i:=0) rfl
    | succ i=>exact absurd ho (g i (by simpa[G] using b))
   ·cases i with
    | zero=>exact .inl I
    | succ i=>exact absurd ho (g i (by simpa[G] using b))
   ·cases i with
    | zero=>
     rcases b with b | b
     ·have z:some Cl.own=some .loc:=b;cases z
     ·exact absurd (UX _) b.2
    | succ i=>
     have C:a∈fa i:=I;rcases b with b | b
     ·have:¬i<p.length:=λq=>by
       have Y:cl[i]?=some .loc:=b;rw[bor i q] at Y;cases Y
      rw[h2 i (by omega)] at C;cases C
     ·rw[a3 i b.1] at C;cases C
   ·cases i with
    | zero=>rfl
    | succ i=>exact absurd ho (g i (by simpa[G] using b))
   ·cases j with
    | zero=>exact absurd (show some Cl.own=some (.mk R) from e) (by intro z;cases z)
    | succ j=>exact(cS a1 (show cl[j]?=some (.mk R) from e)).elim
  have a2:∀{y:Ev} {M:L2.St} {R:Hp} {u:WQ} {v:V} {r':D} {l:D} {B:WE},E3 K G y M R u->y[0]?=some (some l)->Qd r' l->Rep K R v r' B->B.Nodup->(∀a∈B,H a=none)->(∀a∈B,a∉u 0)->Q v R:=λ{y M R u v r' l B} T e O rr n1 n2 n3=>by
   obtain⟨v',e1,r1⟩:=T.rep 0 l e;have e2:=T.par 0 (UX _) J;rw[e1] at e2
   have e3:v'=w:=by
    have e4:some (some v')=some (some w):=e2;cases e4;rfl
   subst e3;refine kk r' l v R (u 0) B O r1 (T.nd 0 (.inl J)) (λa I=>?_) (λa o h hn=>T.frm a o h λi b ho z=>?_) T.stb rr n1 λa I=>⟨n2 a I,n3 a I⟩
   ·exact T.old 0 (UX _) J a I
   ·cases i with
    | zero=>exact hn z
    | succ i=>exact absurd ho (g i (by simpa[G] using b))
  refine⟨t,pt,h G { nx:=λρ=>a7 0 ρ λl=>Qd .l3 l,rt:=λd ρ=>a7 0 ρ λl=>Qd d l } _ _ H fb _ rfl E0 (hc _ Qd q) ⟨λM R hq=>?_,λv R hq=>?_,λM R hq=>?_,λM R hq=>?_⟩⟩
  ·obtain⟨y,u,T,O⟩:=hq;obtain⟨l,e,O⟩:=o4 O;exact a2 T e O .l3 sd (λa I=>(by cases I)) λa I=>(by cases I)
  ·obtain⟨d,y,M,u,B',T,r',n1,n2,n3,O⟩:=hq;obtain⟨l,e,O⟩:=o4 O;exact a2 T e O r' n1 n2 (n3 0 (UX _) J)
  ·obtain⟨y,u,T,O⟩:=hq;exact O
  ·obtain⟨y,u,T,O⟩:=hq;exact O
end
end L3
namespace L3
open PySem PySem.Spec L2
section
variable{K:WR}{G:Ent}{ρ:Ev}{σ:St}{H:Hp}{fa:WQ}
def fJ(G:Ent)(fa:WQ)(B:WE)(i:Nat):Prop:=
 (∀j,j≠i->G.own j->∀a∈B,a∉fa j) /\
 match G.cl[i]? with
 | some .own=>i≠0/\B.Nodup/\(∀a∈B,G.H₀ a=none/\¬G.Z a/\∀j,j≠i->a∉fa j)
 | some .loc=>B.Nodup/\∀a∈B,G.H₀ a=none
 | _=>True
theorem E3.set{v:V}{d:D}{B:WE}{i:Nat}(E:E3 K G ρ σ H fa)(x:i<ρ.length)(r:Rep K H v d B)(h:fJ G fa B i):E3 K G (ρ.set i (some d)) (σ.set i (some v)) H (λj=>if j=i then B else fa j):=by
 have I:i<σ.length:=by rw[<-E.len];exact x
 have c:G.own i->i≠0/\B.Nodup/\(∀a∈B,G.H₀ a=none/\¬G.Z a/\∀j,j≠i->a∉fa j):=λo=>by
  have q:=h.2;unfold Ent.own at o;rw[o] at q;exact q
 have p:G.cl[i]?=some .loc->B.Nodup/\∀a∈B,G.H₀ a=none:=λo=>by
  have q:=h.2;rw[o] at q;exact q
 refine⟨λj M e=>?_,λj e=>?_,by simp[E.len],λj b=>?_,λj l n b a g=>?_,λj b u=>?_,λj b u a g=>?_,λj b a g=>?_,E.frm,E.stb,E.zk,E.zn,λj b a g=>?_,E.po⟩
 ·by_cases q:j=i
  ·subst q;rw[v1 x] at e;cases e;exact⟨v,v1 I,by rw[ry rfl];exact r⟩
  ·rw[v4 (Da q)] at e;obtain⟨w,J,C⟩:=E.rep j M e;exact⟨w,by rw[v4 (Da q)];exact J,by rw[ro q];exact C⟩
 ·by_cases q:j=i
  ·subst q;exact absurd (v1 x) (e d)
  ·rw[ro q];exact E.emp j λd z=>e d (by rw[v4 (Da q)];exact z)
 ·by_cases q:j=i
  ·subst q;rw[ry rfl];rcases b with b | b
   ·exact(c b).2.1
   ·exact(p b).1
  ·rw[ro q];exact E.nd j b
 ·by_cases q:j=i
  ·subst q;rw[ry rfl] at g;rw[ro (Da n)];exact((c b).2.2 a g).2.2 l (Da n)
  ·rw[ro q] at g
   by_cases y:l=i
   ·subst y;rw[ry rfl];exactλz=>h.1 j q b a z g
   ·rw[ro y];exact E.dj j l n b a g
 ·have q:j≠i:=λe=>(c (e▸u)).1 (e▸E.po.one j b u);rw[v4 (Da q)];exact E.par j b u
 ·have q:j≠i:=λe=>(c (e▸u)).1 (e▸E.po.one j b u);rw[ro q] at g;exact E.old j b u a g
 ·by_cases q:j=i
  ·subst q;rw[ry rfl] at g;rcases b with b | b
   ·exact(p b).2 a g
   ·exact((c b.1).2.2 a g).1
  ·rw[ro q] at g;exact E.new j b a g
 ·by_cases q:j=i
  ·subst q;rw[ry rfl] at g;exact((c b).2.2 a g).2.1
  ·rw[ro q] at g;exact E.zo j b a g
def yw(c:Option Cl)(f:Fl)(i:Nat):Bool:=match c,f with
 | some .own,.fresh=>decide (i≠0)
 | some .own,_=>false
 | some .loc,.fresh=>true
 | some .loc,.locl=>true
 | some .loc,_=>false
 | _,.any=>false
 | _,_=>true
theorem E3.oZ(E:E3 K G ρ σ H fa){a:Addr}(h:H a=none):¬G.Z a:=λz=>by
 have q:=E.zk a z;rw[h] at q;exact E.zn a z q.symm
theorem fJ.of(E:E3 K G ρ σ H fa){B:WE}{f:Fl}{i:Nat}(h:y3 G H fa B f)(b:yw G.cl[i]? f i=true):fJ G fa B i:=by
 have st:f≠.any->y3 G H fa B .stab:=λn=>h.weak E (by cases f<;>first | rfl | exact absurd rfl n)
 have l:f≠.any:=λe=>by
  subst e;generalize G.cl[i]?=c at b
  cases c with
  | none=>cases b
  | some c=>cases c<;>cases b
 refine⟨λj _ o a d=>st l j o a d,?_⟩
 cases e:G.cl[i]? with
 | none=>trivial
 | some c=>
  rw[e] at b
  cases c with
  | own=>
   cases f with
   | fresh=>exact⟨wP b,h.1,λa d=>⟨E.stb.dom a (h.2 a d),E.oZ (h.2 a d),λj _ z=>E.there j z (h.2 a d)⟩⟩
   | _=>cases b
  | loc=>
   have q:=h.weak E (g:=.locl) (by cases f<;>first | rfl | cases b);exact⟨q.2.2,q.2.1⟩
  | bor=>trivial
  | mk _=>trivial
theorem fJ.new(E:E3 K G ρ σ H fa){l:Hp}{h:WQ}{g:Ev}{d:St}(E0:E3 K G g d l h){B:WE}{i:Nat}(n1:B.Nodup)(n2:∀a∈B,l a=none/\∀j,a∉fa j)(o:G.cl[i]?≠some .own\/i≠0):fJ G fa B i:=by
 refine⟨λj _ p a b=>(n2 a b).2 j,?_⟩
 cases e:G.cl[i]? with
 | none=>trivial
 | some c=>
  cases c with
  | own=>exact⟨o.resolve_left (λz=>z e),n1,λa b=>⟨E0.stb.dom a (n2 a b).1,E0.oZ (n2 a b).1,λj _=>(n2 a b).2 j⟩⟩
  | loc=>exact⟨n1,λa b=>E0.stb.dom a (n2 a b).1⟩
  | bor=>trivial
  | mk _=>trivial
end
section
variable{X:Cx}{cl:List Cl}{e a b:Expr}{es:WI}{f:Fl}{pos pos':Pos}{ua ub:TU}{ma mb:TM}{x:Str}{i:Nat}{st:Stmt}{sts:WN}{s s2:g4}
def B7:g4:=λT c=>T.nx c
def e5(s u:g4):g4:=λT c=>s { nx:=u T,rt:=T.rt,bk:=T.bk,ct:=T.ct } c
theorem C1:kJ X cl [] B7:=.of ⟨_,Jz,λG T d c H g R j E h le=>le.nx c H ⟨d,g,E,h⟩⟩
theorem w6(j:J5 X cl st s)(g:kJ X cl sts s2):kJ X cl (st::sts) (e5 s s2):=.of<|by
 obtain⟨I,v,j⟩:=j.run;obtain⟨C,u,g⟩:=g.run;refine⟨_,Am v u,λG T r p H y R o E h le=>?_⟩;refine j G _ r p H y _ o E h ⟨λc z q=>?_,le.rt,le.bk,le.ct⟩;obtain⟨d,l,B,q⟩:=q;exact g G T d c z l R o B q le
theorem eV(c:J5 X cl st s):kJ X cl [st] s:=.of<|let ⟨g,d,c⟩:=c.run;⟨_,Jn d,c⟩
def BY:g4:=λ_ _=>False
theorem GP:J5 X cl st BY:=.of ⟨_,AG,λG T d c H j R g E h le=>h.elim⟩
def o3(i:Nat)(u:TU):g4:=λT c=>u c λd=>Nat.blt i c.length=true/\T.nx (c.set i (some d))
theorem gU(J:X.N.Nodup)(y:X.N[i]?=some x)(l:Loc X.env.scope x)(C:PU X cl e f ua)(I:yw cl[i]? f i=true)(u:swapsWith e (some (.Name x pos')) pos.line X.env=pure false:=by rfl)(z:X.fn x=true\/X.env.scope.names.lookup x=some .local:=by first | exact .inl rfl | exact .inr rfl | assumption) :
  J5 X cl (.Assign [.Name x pos'] e pos) (o3 i ua):=.of<|by
 obtain⟨t,p,h⟩:=C.run;refine⟨_,DH J y l p u z,λG T j g H O R c E o le=>?_⟩;refine h G j g H O _ _ c E o λv Q d B s r M q=>?_;exact le.nx _ _ ⟨_,_,(E.same s).set (vv q.1) r (fJ.of E M (by rw[c];exact I)),q.2⟩
def G4(i:Nat)(u:TM):g4:=λT g=>u g λd c=>Nat.blt i c.length=true/\T.nx (c.set i (some d))
def fT(c:Option Cl)(i:Nat):Bool:=match c with
 | some .own=>decide (i≠0)
 | _=>true
theorem iX{c:Option Cl}{i:Nat}(h:fT c i=true):c≠some .own\/i≠0:=by
 unfold fT at h;split at h
 ·exact .inr (wP h)
 ·rename_i q
  exact .inl λe=>q e
theorem C3(Q:X.N.Nodup)(I:X.N[i]?=some x)(y:Loc X.env.scope x)(M:PM X cl e ma)(O:fT cl[i]? i=true)(C:swapsWith e (some (.Name x pos')) pos.line X.env=pure false:=by rfl)(J:X.fn x=true\/X.env.scope.names.lookup x=some .local:=by first | exact .inl rfl | exact .inr rfl | assumption) :
  J5 X cl (.Assign [.Name x pos'] e pos) (G4 i ma):=.of<|by
 obtain⟨t,p,h⟩:=M.run;refine⟨_,DH Q I y p C J,λG T u l H U R g E z le=>?_⟩;refine h G u l H U _ _ g E z λv Y d B o S j c r n1 n2 q=>?_;exact le.nx _ _ ⟨_,_,j.set (vv q.1) r (fJ.new j E n1 n2 (by rw[g];exact iX O)),q.2⟩
def dt(c:sI)(s u:g4):g4:=λT g=>c g λk d=>Br k (s T d) (u T d)
theorem L9{c:Expr}{A B:WN}{o:sI}(j:NX X cl c o)(J:kJ X cl A s)(I:kJ X cl B s2):J5 X cl (.If c A B pos) (dt o s s2):=.of<|by
 obtain⟨t,p,j⟩:=j.run;obtain⟨U,z,O⟩:=J.run;obtain⟨S,y,M⟩:=I.run;refine⟨_,Qg p z y,λG T v h H Q R l E C le=>j G v h H Q _ _ l E C λb r d g u c q=>?_⟩
 cases b with
 | true=>rw[ry rfl];exact O G T d h r g R l u (q.t rfl) le
 | false=>rw[ro rm];exact M G T d h r g R l u (q.f rfl) le
def w5(u:TU):g4:=λT c=>u c λd=>T.rt d c
theorem o8(z:PU X cl e f ua)(y:hZ f .locl=true):J5 X cl (.Return (some e) pos) (w5 ua):=.of<|by
 obtain⟨t,p,h⟩:=z.run;refine⟨_,nF p,λG T j g H l R I E o le=>h G j g H l _ _ I E o λv M d B s r J q=>?_⟩;have c:=J.weak E y;exact le.rt v M ⟨d,j,g,l,B,E.same s,r,c.2.2,c.2.1,λi _ u a C=>c.1 i u a C,q⟩
def Ay(u:TM):g4:=λT g=>u g λd c=>T.rt d c
theorem Fw(z:PM X cl e ma):J5 X cl (.Return (some e) pos) (Ay ma):=.of<|by
 obtain⟨t,p,h⟩:=z.run;refine⟨_,nF p,λG T u o H I R C E y le=>h G u o H I _ _ C E y λv J d B g l M c r n1 n2 q=>?_⟩;exact le.rt v J ⟨d,g,o,l,B,M,r,n1,λa j=>E.stb.dom a (n2 a j).1,λi _ O a j=>(n2 a j).2 i,q⟩
theorem R3(i:Nat){c:Pos}(h:PE X (.Name x c) (bq i))(g:i≠0)(I:cl[i]?=some .own):J5 X cl (.Return (some (.Name x c)) pos) (w5 (a7 i)):=.of<|by
 refine⟨_,nF h,λG T u p H l R M E y le=>?_⟩;obtain⟨d,e,q⟩:=o4 y;obtain⟨v,O,r⟩:=E.rep i d e;have o:G.own i:=by unfold Ent.own;rw[M];exact I
 refine⟨v,O,le.rt v H ⟨d,u,p,l,l i,E,r,E.nd i (.inl o),E.new i (.inr ⟨o,λz=>g (E.po.one i z o)⟩),λj C B a J z=>?_,q⟩⟩;exact E.dj i j (λe=>g (e▸E.po.one j C B)) o a J z
def W7(u:TM):g4:=λT d=>u d λ_ c=>T.nx c
theorem O7(z:PN X cl e ma)(y:swapsWith e none pos.line X.env=pure false:=by rfl):J5 X cl (.Expr e pos) (W7 ma):=.of<|by
 obtain⟨t,p,h⟩:=z.run;refine⟨_,Ji p y,λG T o l H I R C E u le=>h G o l H I _ _ C E u λv M d B g j J c r n q=>?_⟩;exact le.nx _ _ ⟨g,j,J,q⟩
end
section
variable{K:WR}{G:Ent}{ρ:Ev}{σ:St}{H H1 H2:Hp}{fa fa1:WQ}
theorem E3.put{i:Nat}{v:V}{d:D}{p:Addr}{A:WE}(E:E3 K G ρ σ H1 fa1)(o:G.own i)(M:i<ρ.length)(T:σ[i]?=some (some v))(x:p∈fa1 i)(k:∀a,a≠p->H2 a=H1 a)(I:H2 p≠none)
  (r:Rep K H2 v d A) (n1:A.Nodup) (n2:∀a∈A,a∈fa1 i\/(G.H₀ a=none/\¬G.Z a/\∀j,a∉fa1 j)):E3 K G (ρ.set i (some d)) σ H2 (λj=>if j=i then A else fa1 j):=by
 have B:=E.dD i p x
 have stb:V2 H1 H2:=⟨λb Y h=>by
   by_cases e:b=p
   ·subst e;rw[h] at B;exact B.elim
   ·rw[k b e];exact h,λb u w h=>by
   by_cases e:b=p
   ·subst e;rw[h] at B;exact B.elim
   ·rw[k b e];exact h,λb h=>by
   by_cases e:b=p
   ·subst e;exact absurd h I
   ·rw[k b e] at h;exact h⟩
 have S:∀j,j≠i->p∉fa1 j:=λj n z=>E.dj i j (Da n) o p x z;have hs:i<σ.length:=by rw[<-E.len];exact M
 refine⟨λj X e=>?_,λj e=>?_,by simp[E.len],λj g=>?_,λj l n g a c=>?_,E.par,λj g Q a c=>?_,λj g a c=>?_,λa u h n=>?_,E.stb.trans stb,λa z=>?_,E.zn,λj g a c=>?_,E.po⟩
 ·by_cases q:j=i
  ·subst q;rw[v1 M] at e;cases e;exact⟨v,T,by rw[ry rfl];exact r⟩
  ·rw[v4 (Da q)] at e;obtain⟨w,U,R⟩:=E.rep j X e;refine⟨w,U,?_⟩;rw[ro q];exact R.mono stb λa c=>k a λe=>S j q (e▸c)
 ·by_cases q:j=i
  ·subst q;exact absurd (v1 M) (e d)
  ·rw[ro q];exact E.emp j λd z=>e d (by rw[v4 (Da q)];exact z)
 ·by_cases q:j=i
  ·rw[ry q];exact n1
  ·rw[ro q];exact E.nd j g
 ·by_cases q:j=i
  ·subst q;rw[ry rfl] at c;rw[ro (Da n)];rcases n2 a c with y | y
   ·exact E.dj j l n o a y
   ·exact y.2.2 l
  ·rw[ro q] at c
   by_cases O:l=i
   ·subst O;rw[ry rfl];intro z;rcases n2 a z with y | y
    ·exact E.dj j l q g a c y
    ·exact y.2.2 j c
   ·rw[ro O];exact E.dj j l n g a c
 ·by_cases q:j=i
  ·subst q;rw[ry rfl] at c;rcases n2 a c with y | y
   ·exact E.old j g Q a y
   ·exact .inr y.1
  ·rw[ro q] at c;exact E.old j g Q a c
 ·by_cases q:j=i
  ·subst q;rw[ry rfl] at c;rcases n2 a c with y | y
   ·exact E.new j g a y
   ·exact y.1
  ·rw[ro q] at c;exact E.new j g a c
 ·have J:a≠p:=λe=>by
   subst e
   by_cases C:i<G.vs.length
   ·rcases E.old i C o a x with y | y
    ·exact n i C o y
    ·rw[h] at y;cases y
   ·have y:=E.new i (.inr ⟨o,C⟩) a x;rw[h] at y;cases y
  rw[k a J];exact E.frm a u h n
 ·rw[k a (λe=>E.zo i o p x (e▸z))];exact E.zk a z
 ·by_cases q:j=i
  ·subst q;rw[ry rfl] at c;rcases n2 a c with y | y
   ·exact E.zo j g a y
   ·exact y.2.1
  ·rw[ro q] at c;exact E.zo j g a c
theorem O8.put{i:Nat}{p:Addr}{A:WE}(c:O8 K G H fa H1 fa1)(E:E3 K G ρ σ H1 fa1)(o:G.own i)(x:p∈fa1 i)(k:∀a,a≠p->H2 a=H1 a)(r:H2 p≠none)(n2:∀a∈A,a∈fa1 i\/H a=none):O8 K G H fa H2 (λj=>if j=i then A else fa1 j):=by
 have g:=E.dD i p x;refine⟨λa u h n=>?_,c.stb.trans ⟨λb z h=>?_,λb u w h=>?_,λb h=>?_⟩,λj d a l=>?_,λj d=>?_⟩
 ·have v:a≠p:=λe=>by
   subst e;rcases c.new i o a x with y | y
   ·exact n i o y
   ·rw[h] at y;cases y
  rw[k a v];exact c.frm a u h n
 ·by_cases e:b=p
  ·subst e;rw[h] at g;exact g.elim
  ·rw[k b e];exact h
 ·by_cases e:b=p
  ·subst e;rw[h] at g;exact g.elim
  ·rw[k b e];exact h
 ·by_cases e:b=p
  ·subst e;exact absurd h r
  ·rw[k b e] at h;exact h
 ·by_cases q:j=i
  ·subst q;rw[ry rfl] at l;rcases n2 a l with y | y
   ·exact c.new j d a y
   ·exact .inr y
  ·rw[ro q] at l;exact c.new j d a l
 ·exact(ro λe:j=i=>d (by rw[e];exact o)).trans (c.bor j d)
theorem T7{H:Hp}{p:Addr}{o:HO}:∀a,a≠p->upd H p o a=H a:=λa n=>e9 n
end
section
variable{X:Cx}{cl:List Cl}{e a b:Expr}{es:WI}{f:Fl}{pos pos':Pos}{ua ub:TU}{ma mb:TM}{x:Str}{i:Nat}{st:Stmt}{sts:WN}{s s2:g4}
def OY:D->Bool
 | .lst _=>true
 | _=>false
def LK(i:Nat)(d:D)(g:Ev)(Q:Ev->Prop):D->Prop
 | .lst c=>c.length<sizeLine/\Q (g.set i (some (.lst (c++[d]))))
 | _=>False
def fM(i:Nat)(ma:TM):TM:=λg Q=>a7 i g λl=>OY l=true/\ma g λd c=>a7 i c (LK i d c (Q .l3))
theorem B4{r:V->List V->Hp->VK->Prop}{j Y:Pos}(i:Nat)(hv:PE X (.Name x Y) (bq i))(hi:cl[i]?=some .own)(he:PM X cl e ma)(a2:isStar e=false)
  (mk:∀{t},PA X [e] t->PE X (.Call (.Attribute (.Name x Y) "append" j) [e] [] pos) (Sb X.K "list" E8 (bq i) t)):PM X cl (.Call (.Attribute (.Name x Y) "append" j) [e] [] pos) (fM i ma):=.of<|by
 obtain⟨t,p,h⟩:=he.run;refine⟨_,mk (bp p M7 a2),λG ρ σ H fa Q R hG E hu k=>?_⟩;obtain⟨l0,e0,il,hu⟩:=o4 hu;have own:G.own i:=by unfold Ent.own;rw[hG];exact hi
 obtain⟨v,J,r0⟩:=E.rep i l0 e0;cases l0<;>first | cases il | skip
 obtain⟨p,vs,B,rfl,hp,_,_⟩:=D5 r0;refine⟨_,J,.inl ⟨rfl,vs,G7.of hp⟩,h G ρ σ H fa _ _ hG E hu λw H1 d O I M T c1 r1 n1 n2 q=>?_⟩;obtain⟨l1,e1,q⟩:=o4 q;obtain⟨v',o,r2⟩:=T.rep i l1 e1;have ev:v'=.ref p:=by rw[J] at o;cases o;rfl
 subst ev;cases l1<;>first | exact(show False from q).elim | skip
 rename_i U
 obtain⟨p',l,B',ep,C,rs,S⟩:=D5 r2;cases ep;have q:U.length<sizeLine/\Q .l3 (I.set i (some (.lst (U++[d])))):=q;have nd:=T.nd i (.inl own);have pin:p∈M i:=by rw[S];exact re
 rw[S] at nd;obtain⟨np,a1⟩:=List.nodup_cons.mp nd;have g:p∉O:=λz=>(n2 p z).2 i pin
 have st:V2 H1 (upd H1 p (.lst (l++[w]))):=⟨λb ys h=>by
   by_cases e:b=p
   ·subst e;rw[C] at h;cases h
   ·rw[e9 e];exact h,λb u w' h=>by
   by_cases e:b=p
   ·subst e;rw[C] at h;cases h
   ·rw[e9 e];exact h,λb h=>by
   by_cases e:b=p
   ·subst e;rw[c7] at h;cases h
   ·rw[e9 e] at h;exact h⟩
 have rn:Rep X.K (upd H1 p (.lst (l++[w]))) (.ref p) (.lst (U++[d])) (p::(B'++(O++[]))):=
  .lst c7 ((rs.mono st λa c=>e9 λe=>np (e▸c)).append (.cons (r1.mono st λa c=>e9 λe=>g (e▸c)) .nil))
 rw[tz] at rn
 have n3:∀a∈p::(B'++O),a∈M i\/a∈O:=λa c=>by
  rcases List.mem_cons.mp c with z | z
  ·exact .inl (z▸pin)
  ·rcases List.mem_append.mp z with y | y
   ·exact .inl (by rw[S];exact hQ _ y)
   ·exact .inr y
 have a0:(p::(B'++O)).Nodup:=List.nodup_cons.mpr ⟨λz=>(List.mem_append.mp z).elim np g,List.nodup_append.mpr ⟨a1,n1,λa c b hb e=>(n2 b hb).2 i (by rw[S,<-e];exact hQ _ c)⟩⟩;have li:i<I.length:=(List.getElem?_eq_some_iff.mp e1).1;refine⟨p,l,w,rfl,rfl,C,by rw[rs.length];exact q.1,?_⟩;refine k .l3 _ .l3 [] _ _ (T.put own li o pin T7 (by rw[c7];exactλz=>nomatch z) rn a0 λa c=>(n3 a c).imp id λy=>⟨E.stb.dom a (n2 a y).1,E.oZ (n2 a y).1,(n2 a y).2⟩) (c1.put T own pin T7 (by rw[c7];exactλz=>nomatch z) λa c=>(n3 a c).imp id λy=>(n2 a y).1) .l3 sd (λa c=>(by cases c)) q.2
def Qa(i:Nat)(k:Int)(d:D)(g:Ev)(Q:Ev->Prop):D->Prop
 | .lst c=>∃j,kS c.length k=some j/\Q (g.set i (some (.lst (c.set j d))))
 | _=>False
def yF(i:Nat)(j mk:TM):g4:=λT h=>j h λd g=>a7 i g λ_=>mk g λk c=>match k with
 | .int k=>a7 i c (Qa i k d c T.nx)
 | _=>False
theorem oD{vp tp:Pos}{Q:Expr}{mk:TM}(i:Nat)(hv:PE X (.Name x vp) (bq i))(hi:cl[i]?=some .own)(he:PM X cl e ma)(hk:PN X cl Q mk)
  (a3:∀{te ti},PE X e te->PE X Q ti->PS X (.Assign [.Subscript (.Name x vp) Q tp] e pos) (qp te (T1 (bq i) ti Kl))):J5 X cl (.Assign [.Subscript (.Name x vp) Q tp] e pos) (yF i ma mk):=.of<|by
 obtain⟨t,p,h⟩:=he.run;obtain⟨t2,p2,h2⟩:=hk.run;refine⟨_,a3 p p2,λG T ρ σ H fa R hG E hu le=>?_⟩;have own:G.own i:=by unfold Ent.own;rw[hG];exact hi
 refine h G ρ σ H fa _ _ hG E hu λw H1 d B1 U a4 E1 c1 r1 n1 n2 q=>?_;obtain⟨l0,e0,q⟩:=o4 q;obtain⟨v,J,r0⟩:=E1.rep i l0 e0;refine⟨_,J,h2 G U σ H1 a4 _ _ hG E1 q λwk H2 dk Bk I o E2 c2 rk nk q=>?_⟩;cases dk<;>first | exact(show False from q).elim | skip
 rename_i kk
 cases r8 rk;obtain⟨l1,e1,q⟩:=o4 q;obtain⟨v',g,r2⟩:=E2.rep i l1 e1;have ev:v'=v:=by rw[J] at g;cases g;rfl
 subst ev;cases l1<;>first | exact(show False from q).elim | skip
 rename_i Y
 obtain⟨p,vs,B,rfl,hp,rs,S⟩:=D5 r2;obtain⟨j,hj,q⟩:∃j,kS Y.length kk=some j/\T.nx (I.set i (some (.lst (Y.set j d)))):=q;have a0:=c2.keep r1 λi _ a c=>(n2 a c).2 i
 have r:∀a∈B1,∀l,a∉o l:=λa c l z=>by
  by_cases ho:G.own l
  ·rcases c2.new l ho a z with y | y
   ·exact(n2 a c).2 l y
   ·exact r1.there c y
  ·rw[c2.bor l ho] at z;exact(n2 a c).2 l z
 have nd:=E2.nd i (.inl own);have pin:p∈o i:=by rw[S];exact re
 rw[S] at nd;obtain⟨np,a2⟩:=List.nodup_cons.mp nd;have O:p∉B1:=λz=>r p z i pin
 have st:∀ws,V2 H2 (upd H2 p (.lst ws)):=λws=>⟨λb ys h=>by
   by_cases e:b=p
   ·subst e;rw[hp] at h;cases h
   ·rw[e9 e];exact h,λb u w' h=>by
   by_cases e:b=p
   ·subst e;rw[hp] at h;cases h
   ·rw[e9 e];exact h,λb h=>by
   by_cases e:b=p
   ·subst e;rw[c7] at h;cases h
   ·rw[e9 e] at h;exact h⟩
 obtain⟨C,rC,mC,nC⟩:=i5.set j rs a0;have M:p∉C:=λz=>(mC p z).elim np O;have rn:Rep X.K (upd H2 p (.lst (vs.set j w))) (.ref p) (.lst (Y.set j d)) (p::C):=.lst c7 (rC.mono (st _) λa c=>e9 λe=>M (e▸c))
 have n3:∀a∈p::C,a∈o i\/a∈B1:=λa c=>by
  rcases List.mem_cons.mp c with z | z
  ·exact .inl (z▸pin)
  ·exact(mC a z).imp (λy=>by rw[S];exact hQ _ y) id
 have a1:(p::C).Nodup:=List.nodup_cons.mpr ⟨M,nC a2 n1 λa c z=>r a c i (by rw[S];exact hQ _ z)⟩;have li:i<I.length:=(List.getElem?_eq_some_iff.mp e1).1;refine⟨p,vs,kk,j,rfl,rfl,hp,by rw[rs.length];exact hj,?_⟩;exact le.nx _ _ ⟨_,_,E2.put own li g pin T7 (by rw[c7];exactλz=>nomatch z) rn a1 λa c=>(n3 a c).imp id λy=>⟨E.stb.dom a (n2 a y).1,E.oZ (n2 a y).1,r a y⟩,q⟩
end
def bj(K:WR)(J:It)(xs:List D)(C:WE)(H:Hp):Prop:=∀b,Tf H b->(∀a∈C,b a=H a)->∀i,(xs.length=i->J.stop i b) /\
 ∀d,xs[i]?=some d->J.go i b/\∀x c,J.yld i b x c->c9 b c/\∃B,Rep K c x d B/\B.Sublist C
abbrev mj:=Ev->(List D->Prop)->Prop
abbrev Md:=Ev->(List D->Ev->Prop)->Prop
structure ak(X:Cx)(cl:List Cl)(tg iter:Expr)(f:Fl)(u:mj):Prop where
 of ::
 run:∃wi,PI X tg iter wi/\∀(G:Ent) (ρ:Ev) (σ:St) (H:Hp) (fa:WQ) (Q:List D->Prop) (R:It->Hp->Prop),G.cl=cl->E3 X.K G ρ σ H fa->u ρ Q ->
  (∀J H1 xs C,c9 H H1->bj X.K J xs C H1->(∀a∈C,H1 a≠none)->y3 G H fa C f->Q xs->R J H1)->wi σ H R
structure Rk(X:Cx)(cl:List Cl)(tg iter:Expr)(u:Md):Prop where
 of ::
 run:∃wi,PI X tg iter wi/\∀(G:Ent) (ρ:Ev) (σ:St) (H:Hp) (fa:WQ) (Q:List D->Ev->Prop) (R:It->Hp->Prop),G.cl=cl->E3 X.K G ρ σ H fa->u ρ Q ->
  (∀J H1 xs C ρ1 fa1,E3 X.K G ρ1 σ H1 fa1->O8 X.K G H fa H1 fa1->bj X.K J xs C H1->(∀a∈C,H1 a≠none)->(∀i,G.own i->∀a∈C,a∉fa1 i)->Q xs ρ1->R J H1)->wi σ H R
section
variable{X:Cx}{cl:List Cl}{tg e a b:Expr}{es:WI}{f:Fl}{pos pos':Pos}{ua ub:TU}{ma mb:TM}{x:Str}{i:Nat}
def iP(u:mj):Md:=λc Q=>u c λd=>Q d c
theorem ak.m{u:mj}(h:ak X cl tg e f u)(r:hZ f .stab=true):Rk X cl tg e (iP u):=.of<|by
 obtain⟨t,p,h⟩:=h.run;exact⟨t,p,λG c g H d Q R v E o k=>h G c g H d _ _ v E o λJ z j C s l tr y q=>k J z j C c d (E.same s) (O8.same s) l tr (y.weak E r) q⟩
theorem aQ{K:WR}{H c:Hp}{vs:List V}{xs:List D}{C:WE}(r:i5 K H vs xs C)(tf:Tf H c)(k:∀a∈C,c a=H a){i:Nat}{d:D}(e:xs[i]?=some d):∃v B,vs[i]?=some v/\Rep K c v d B/\B.Sublist C:=(r.W3 tf k).get e
theorem Tt{K:WR}{H:Hp}{p:Addr}{vs:List V}{xs:List D}{C:WE}(h:H p=some (.lst vs))(r:i5 K H vs xs C):bj K (Rg K p) xs (p::C) H:=λo tf k i=>by
 have g:o p=some (.lst vs):=(k p re).trans h;have z:∀a∈C,o a=H a:=λa G=>k a (hQ _ G);refine⟨λE=>⟨vs,G7.of g,by rw[r.length];exact Uc E⟩,λd e=>?_⟩;obtain⟨v,B,l,u,q⟩:=aQ r tf z e;refine⟨⟨vs,v,G7.of g,l⟩,λy J c=>?_⟩;obtain⟨I,c⟩:=c;subst I;have j:=c vs (G7.of g);rw[l] at j;cases j;exact⟨c9.refl _,B,u,q.trans (TJ _ _)⟩
theorem Tv{K:WR}{H:Hp}{p:Addr}{vs:List V}{xs:List D}{C:WE}(h:Kv K H p vs)(r:i5 K H vs xs C):bj K (Rg K p) xs C H:=λE tf k i=>by
 have g:G7 K E p vs:=(tf.RV h).sq;refine⟨λu=>⟨vs,g,by rw[r.length];exact Uc u⟩,λd e=>?_⟩;obtain⟨v,B,l,q,o⟩:=aQ r tf k e;refine⟨⟨vs,v,g,l⟩,λy G c=>?_⟩;obtain⟨z,c⟩:=c;subst z;have j:=c vs g;rw[l] at j;cases j;exact⟨c9.refl _,B,q,o⟩
theorem Ro{K:WR}{H:Hp}{p:Addr}{vs:List V}{xs:List D}{C:WE}(h:H p=some (.tup vs))(r:i5 K H vs xs C):bj K (QS K p) xs C H:=λE tf k i=>by
 have g:P8 K E p vs:=P8.of (tf.P4 _ _ h);refine⟨λu=>⟨vs,g,by rw[r.length];exact Uc u⟩,λd e=>?_⟩;obtain⟨v,B,l,q,o⟩:=aQ r tf k e;refine⟨⟨vs,v,g,l⟩,λy G c=>?_⟩;obtain⟨z,c⟩:=c;subst z;have j:=c vs g;rw[l] at j;cases j;exact⟨c9.refl _,B,q,o⟩
theorem i5.there{K:WR}{H:Hp}{v:List V}{d:List D}{A:WE}(r:i5 K H v d A):∀x∈A,H x≠none:=λx c z=>by
 have:=r.dD x c;rw[z] at this;exact this
def jd(lo:Int)(n:Nat):List D:=(List.range n).map λ(k:Nat)=>D.int (lo+(k:Int))
theorem itR{K:WR}{H:Hp}(lo:Int)(n:Nat):bj K (QN lo n) (jd lo n) [] H:=λo tf k i=>by
 refine⟨λc=>by unfold jd at c;rw[dL,tL] at c;exact Uc c,λd e=>?_⟩;unfold jd at e;rw[rx] at e
 by_cases g:i<n
 ·rw[Vs g] at e;cases e;refine⟨g,λy l h=>?_⟩;obtain⟨j,rfl⟩:=h;subst j;exact⟨c9.refl _,[],.int,VF _⟩
 ·rw[TR (by rw[tL];omega)] at e;cases e
def Pg(u:TM):Md:=λg Q=>u g λd c=>match d with
 | .int j=>(-(2^62)<=j/\j<2^62)/\Q (jd 0 j.toNat) c
 | _=>False
theorem yS {p:Pos} (T:Gl X "range") (S:X.mg "range"=none) (h:PN X cl e ma) (l:isStar e=false)
  (mk:∀{t},PA X [e] t->PI X tg (.Call (.Name "range" p) [e] [] pos) (CL t)):Rk X cl tg (.Call (.Name "range" p) [e] [] pos) (Pg ma):=.of<|by
 obtain⟨t,pt,h⟩:=h.run;refine⟨_,mk (bp pt M7 l),λG z y H J Q R I E C k=>h G z y H J _ _ I E C λv M d B g u O c r n q=>?_⟩;cases d<;>first | exact(show False from q).elim | skip
 rename_i j
 cases r8 r;have q:(-(2^62)<=j/\j<2^62)/\Q (jd 0 j.toNat) g:=q;exact⟨j,rfl,q.1.1,q.1.2,k _ M _ [] g u O c (itR 0 _) (λa o=>(by cases o)) (λ_ _ a o=>(by cases o)) q.2⟩
def fh(u:TU):mj:=λc Q=>u c λd=>match d with
 | .int j=>(-(2^62)<=j/\j<2^62)/\Q (jd 0 j.toNat)
 | _=>False
theorem Q8 {p:Pos} (J:Gl X "range") (I:X.mg "range"=none) (h:PU X cl e f ua) (c:isStar e=false)
  (mk:∀{t},PA X [e] t->PI X tg (.Call (.Name "range" p) [e] [] pos) (CL t)):ak X cl tg (.Call (.Name "range" p) [e] [] pos) .fresh (fh ua):=.of<|by
 obtain⟨t,pt,h⟩:=h.run;refine⟨_,mk (bp pt M7 c),λG l g H z Q R y E o k=>h G l g H z _ _ y E o λv C d B s r M q=>?_⟩;cases d<;>first | exact(show False from q).elim | skip
 rename_i j
 cases r8 r;have q:(-(2^62)<=j/\j<2^62)/\Q (jd 0 j.toNat):=q;exact⟨j,rfl,q.1.1,q.1.2,k _ C _ [] s (itR 0 _) (λa u=>(by cases u)) (y3.nil _) q.2⟩
def ij:Nat->List D->List D
 | _,[]=>[]
 | k,x::c=>.tup [.int k,x]::ij (k+1) c
theorem cY:∀{xs:List D} {k i:Nat} {d:D},(ij k xs)[i]?=some d->∃x,xs[i]?=some x/\d=.tup [.int ((k+i:Nat):Int),x]
 | [],_,_,_,e=>by simp[ij] at e
 | x::xs,k,0,d,e=>by simp[ij] at e;exact⟨x,rfl,e.symm⟩
 | x::xs,k,i+1,d,e=>by
  rw[ij,wn] at e;obtain⟨y,g,c⟩:=cY e;exact⟨y,by simpa using g,by rw[c];congr 3;omega⟩
theorem cN:∀{xs:List D} {k:Nat},(ij k xs).length=xs.length
 | [],_=>rfl
 | x::xs,k=>by simp[ij,cN]
theorem Td{K:WR}{H:Hp}{p:Addr}{vs:List V}{xs:List D}{C:WE}(h:H p=some (.lst vs))(r:i5 K H vs xs C):bj K (GS K p) (ij 0 xs) (p::C) H:=λg tf k i=>by
 have c:g p=some (.lst vs):=(k p re).trans h;have I:∀a∈C,g a=H a:=λa Q=>k a (hQ _ Q);refine⟨λO=>⟨vs,G7.of c,by rw[r.length,<-cN (xs:=xs) (k:=0)];exact Uc O⟩,λd e=>?_⟩;obtain⟨x,S,R⟩:=cY e;obtain⟨v,B,q,E,u⟩:=aQ r tf I S;refine⟨⟨vs,v,G7.of c,q⟩,λy T M=>?_⟩;obtain⟨G,z,rfl,l,rfl,J⟩:=M;have o:=J vs (G7.of c);rw[q] at o;cases o;refine⟨c9.e7 l,B,?_,u.trans (TJ _ _)⟩;rw[R];have j:i5 K (upd g G (.tup [.int i,v])) [.int i,v] [.int ((0+i:Nat):Int),x] ([]++(B++[])):=.cons (by rw[Nat.zero_add];exact .int) (.cons (E.same (c9.e7 l)) .nil);rw[tz,u0] at j;exact .tup c7 j
theorem Sd{K:WR}{H:Hp}{p:Addr}{vs:List V}{xs:List D}{C:WE}(h:Kv K H p vs)(r:i5 K H vs xs C):bj K (GS K p) (ij 0 xs) C H:=λq tf k i=>by
 have c:G7 K q p vs:=(tf.RV h).sq;refine⟨λM=>⟨vs,c,by rw[r.length,<-cN (xs:=xs) (k:=0)];exact Uc M⟩,λd e=>?_⟩;obtain⟨x,Q,O⟩:=cY e;obtain⟨v,B,o,E,u⟩:=aQ r tf k Q;refine⟨⟨vs,v,c,o⟩,λy R J=>?_⟩;obtain⟨G,z,rfl,j,rfl,I⟩:=J;have l:=I vs c;rw[o] at l;cases l;refine⟨c9.e7 j,B,?_,u⟩;rw[O];have g:i5 K (upd q G (.tup [.int i,v])) [.int i,v] [.int ((0+i:Nat):Int),x] ([]++(B++[])):=.cons (by rw[Nat.zero_add];exact .int) (.cons (E.same (c9.e7 j)) .nil);rw[tz,u0] at g;exact .tup c7 g
def Pb(u:TU):mj:=λg Q=>u g λd=>match d with
 | .lst c=>Q (ij 0 c)
 | .fz c=>Q (ij 0 c)
 | _=>False
theorem Lj{p:Pos}(h:PU X cl e f ua)(j:isStar e=false)
  (mk:∀{t},PA X [e] t->PI X tg (.Call (.Name "enumerate" p) [e] [] pos) (JX X.K t)):ak X cl tg (.Call (.Name "enumerate" p) [e] [] pos) f (Pb ua):=.of<|by
 obtain⟨t,pt,h⟩:=h.run;refine⟨_,mk (bp pt M7 j),λG y u H O Q R M E I k=>h G y u H O _ _ M E I λv o d B s r l q=>?_⟩;cases d<;>first | exact(show False from q).elim | skip
 ·have z:=r;obtain⟨p,vs,C,rfl,c,g,rfl⟩:=D5 r;exact⟨p,rfl,⟨vs,G7.of c⟩,k _ o _ _ s (Td c g) (λa J=>z.there J) l q⟩
 ·obtain⟨p,vs,rfl,c,g⟩:=iK r;exact⟨p,rfl,⟨vs,c.sq⟩,k _ o _ _ s (Sd c g) g.there l q⟩
def kindB(b:Bool)(d:D):Option (List D):=match b,d with
 | false,.lst c=>some c
 | false,.fz c=>some c
 | true,.tup c=>some c
 | _,_=>none
end
end L3
namespace L2
open PySem PySem.Spec PyProof.Rows
theorem kH{X:Cx}{N:WG}{scope:Scope}{cap:WB}{a:WE}{pins:WA}{σ:St}{H:Hp}{s:Shared}{Y l a2:Expr}{ab:WI}{ap:Pos}{g:WC->WE->Shared->Hp->TG}{tc:WC->WE->Shared->Hp->TT}{te:WC->WE->Shared->Hp->TE}{J:It}{it:Addr}{tn:Nat->Heap->Prop}
  {E:WO} {RR:Value->Addr->Result->Shared->Prop} {Q:VK} (S:X.calm=true) (cf:L0 X N scope cap) (hk:scope.kind=.function)
  (hg:∀cl a s H,PG (y8 X N scope cl a s H) l (g cl a s H)) (hc:∀cl a s H,uY (y8 X N scope cl a s H) ab (tc cl a s H)) (he:∀cl a s H,PE (y8 X N scope cl a s H) Y (te cl a s H))
  (I:Inv X pins σ H s) (T:Turn X.prog X.w X.K l J a it tn) (st:tn 0 s.heap) (hf:∀b∈a,L8 X pins H b) (q:∀cl a s z,QY J (g cl a s z) (tc cl a s z) (te cl a s z) (K5 cap σ) Q H)
  (b6:∀d C z s' m,Inv X pins σ z s'->s'.heap.Ns C m->L8 X pins z C->Q (.ref d) z->RR (.ref d) C (.ok .next) s') :
  wpAny (model X.prog X.w) X.A (newList []) (λacc B=>wpAny (model X.prog X.w) X.A (newFunctionEnv scope X.env.globals (A2 X.env scope.names []) [] X.env.qual none .none (some X.env)) (λa3 s4=>
   codeAny (model X.prog X.w) X.A (.compStart (.ListComp Y [⟨l,a2,ab,0⟩] scope ap) 0 (.ref it) acc { a3 with scope:=relabel scope X.env }) (RR acc a3.locals) s4) E B) E s:=by
 refine ux (Vx cf.nocell (by intro y hy;simp at hy) (λh1 ad ac=>?_) hk);have I3:Inv X pins σ (upd H s.heap.objs.size (.lst [])) { s with heap:=s.heap.push { cls:=.type "list",data:=.seq ([]:WH).toArray } }:=I.BW (its:=[]) (t':=s.toks) .nil (v5 _);have b5:H s.heap.objs.size=none:=I.fresh;obtain⟨W,⟨m0,w0⟩,a0⟩:=q (A2 X.env scope.names []) a { s with heap:=s.heap.push { cls:=.type "list",data:=.seq ([]:WH).toArray } } (upd H s.heap.objs.size (.lst [])) s.heap.objs.size b5
 have b0:∀b∈a,b<s.heap.objs.size:=λb j=>by
  obtain⟨o,e,_⟩:=T.obj 0 _ st b j;exact sK e
 have al:∀b∈a,L8 X pins (upd H s.heap.objs.size (.lst [])) b:=λb j=>⟨by rw[e9 (t8 (b0 b j))];exact(hf b j).1,(hf b j).2⟩
 have R:∀b∈a,b<(s.heap.push { cls:=.type "list",data:=.seq ([]:WH).toArray }).objs.size:=λb j=>by
  rw[Do];exact Ix (b0 b j)
 dsimp only at ad ac ⊢;generalize U:({ s with heap:=s.heap.push { cls:=.type "list",data:=.seq ([]:WH).toArray } }:Shared)=B at I3 a0;have G:B.heap=s.heap.push { cls:=.type "list",data:=.seq ([]:WH).toArray }:=by rw[<-U]
 have bi:B.toks=s.toks:=by rw[<-U]
 rw[<-G] at ad ac R;have O:∀b o,B.heap.get? b=some o->h1.get? b=some o:=λb o e=>ac.extBut b o (t8 (sK e)) (hD _ e);have keep:∀b o,s.heap.get? b=some o->h1.get? b=some o:=λb o e=>O b o (by rw[G];exact hD _ e);have Ic:=gC (tk:=s.toks) I3 cf hk al R ad O;have ao:tn 0 h1:=T.keep 0 _ _ st λb _ o e=>keep b o e;have b8:∀b∈a,(upd H s.heap.objs.size (.lst [])) b=none:=λb j=>(al b j).1
 have M:∀{z:Hp},(∀b∈a,z b=none)->∀b∈a,L8 (y8 X N scope (A2 X.env scope.names []) a B (upd H s.heap.objs.size (.lst []))) [] z b:=λhn b j=>
  ⟨hn b j,t8 (R b j),Ic.ok.exfs b j,.inl j,λx c h=>(hf b j).2.2.2.2.1 x c (X2 h),λp hp=>absurd (show p∈([]:WA) from hp) (by simp)⟩
 have bn:B.os=s.os:=by rw[<-U]
 have bv:B.gens=s.gens:=by rw[<-U]
 have a1:codeAny (model X.prog X.w) X.A (.compLoop (.ListComp Y [⟨l,a2,ab,0⟩] scope ap) 0 (.ref it) (.ref s.heap.objs.size) (compEnvC scope (A2 X.env scope.names []) B.heap.objs.size X.env))
   (RR (.ref s.heap.objs.size) B.heap.objs.size) { B with heap:=h1,toks:=s.toks }:=by
  refine mI (λn s'=>∃i z,Inv (y8 X N scope (A2 X.env scope.names []) a B (upd H s.heap.objs.size (.lst []))) [] (K5 cap σ) z s'/\tn i s'.heap/\(∀b∈a,z b=none)/\W i n z) ?_ m0 ⟨0,_,Ic,ao,b8,w0⟩;rintro n s4 ⟨i,H4,I4,an,b3,w4⟩;rcases a0 i n H4 w4 with⟨stop,qn⟩ | ⟨go,step⟩
  ·refine p9 (T.done (y8 X N scope (A2 X.env scope.names []) a B (upd H s.heap.objs.size (.lst []))) rfl rfl rfl S i [] s4 _ H4 (λ_ _=>False) I4 (M b3) an stop) λr s5 ⟨hr,I5⟩=>?_;subst hr;obtain⟨m,b4,_⟩:=I5.loc;refine b6 _ _ H4 s5 m ?_ b4 (I3.fP (oT _) I5.free) qn;exact I3.CM I5.os I5.base I5.hok I5.bare λb j=>⟨(hf b j).2.2.2.1,(hf b j).2.1,(hf b j).2.2.2.2.1,(hf b j).2.2.2.2.2⟩
  ·refine p9 (T.item (y8 X N scope (A2 X.env scope.names []) a B (upd H s.heap.objs.size (.lst []))) rfl rfl rfl S i [] s4 _ H4 (λ_ _=>False) I4 (M b3) an go) λr s5 ⟨u,hr,h5⟩=>?_;subst hr;refine p9 h5 λ_ s6 ⟨x,H6,I6,r6,y6,a5,b7⟩=>?_;have bb:=I6.pinned (M b7) (T.obj _ _ a5);refine p9 (hg _ _ _ _ _ s6 _ H6 x u _ bb r6 (step x H6 y6)) λ_ s7 ⟨a4,H7,I7,q7⟩=>?_;refine p9 (hc _ _ _ _ _ s7 a4 H7 _ I7 q7) λok s8 ⟨H8,I8,q8⟩=>?_
   have again:∀{am:St} {H9:Hp} {s9:Shared},Inv (y8 X N scope (A2 X.env scope.names []) a B (upd H s.heap.objs.size (.lst []))) ([]++aA a s6.heap) am H9 s9->(∃m',m'<n/\W (i+1) m' H9) ->
     ∃m,m<n/\∃i z,Inv (y8 X N scope (A2 X.env scope.names []) a B (upd H s.heap.objs.size (.lst []))) [] (K5 cap σ) z s9/\tn i s9.heap/\(∀b∈a,z b=none)/\W i m z:=λ{am H9 s9} I9 ⟨m',hm,w9⟩=>by
    refine⟨m',hm,i+1,H9,eu I3 cf al I9.R1,T.keep _ _ _ a5 λb j o e=>(I9.pin (b,o) (rj _ (rj _ (A9 j e)))).1,λb j=>?_,w9⟩;obtain⟨o,e,d⟩:=T.obj _ _ a5 b j;exact(I9.pin (b,o) (rj _ (rj _ (A9 j e)))).2.1
   cases ok with
   | false=>exact again I8 q8
   | true=>
    show wpAny _ _ (eval Y _) _ _ s8;refine p9 (he _ _ _ _ _ s8 a4 H8 _ I8 q8) λy s9 ⟨v,H9,I9,r9,acc,b2,b1,m',hm,w9⟩=>?_;refine p9 (y4 _ s9 a4 H9 (.ref s.heap.objs.size) [v] (.ref s.heap.objs.size) [y] (λ_ z=>z=upd H9 s.heap.objs.size (.lst (acc++[v]))) I9 rfl (.cons r9 .nil) ⟨_,acc,v,rfl,rfl,b2,b1,rfl⟩) λ_ bm ⟨_,c0,bg,_,b9⟩=>?_;subst b9;exact again bg ⟨m',hm,w9⟩
 have e4:({ s with heap:=h1,toks:=s.toks+([]:WD).length }:Shared)={ B with heap:=h1,toks:=s.toks }:=by rw[<-U];rfl
 rw[<-G,e4];exact codeAny_compStart_list a1 (T.self _ 0 _ _ _ ao a1)
def OR(cap:WB)(d:TI)(g:WC->WE->Shared->Hp->TG)(tc:WC->WE->Shared->Hp->TT)(te:WC->WE->Shared->Hp->TE):TE:=λc H Q=>d c H λJ e=>∀cl a s b,QY J (g cl a s b) (tc cl a s b) (te cl a s b) (K5 cap c) Q e
theorem Mi{X:Cx}{XN N:WG}{XS scope:Scope}{cap:WB}{o a b:Expr}{j:WI}{r:Pos}{B:TI}{g:WC->WE->Shared->Hp->TG}{tc:WC->WE->Shared->Hp->TT}{te:WC->WE->Shared->Hp->TE}
  (l:V4 XN N XS scope cap=true) (hN:X.N=XN) (hS:X.env.scope=XS) (E:scope.kind=.function) (i:X.calm=true) (U:PI X a b B)
  (Y:∀cl c s H,PG (y8 X N scope cl c s H) a (g cl c s H)) (hc:∀cl c s H,uY (y8 X N scope cl c s H) j (tc cl c s H)) (he:∀cl c s H,PE (y8 X N scope cl c s H) o (te cl c s H))
  (R:∀x,foldedSetIterable b X.env x=pure x:=by intro _;rfl):PE X (.ListComp o [⟨a,b,j,0⟩] scope r) (OR cap B g tc te):=by
 refine .of ?_;intro e s z H Q I h;have u:=O0 hN hS l;rw[eval_ListComp];refine TF (use:=none) rfl R (R0 (I.S3 u)) E u.loc (p9 (U e s z H _ I h) λv s1 h1=>p9 h1 λO s2 h2=>?_);obtain⟨it,c,tn,J,H2,rfl,I2,T,p,f2,q⟩:=h2;exact kH (RR:=λy C=>compPost (model X.prog X.w) X.A X.xe none (EP X e z Q) y C) i u E Y hc he I2 T p f2 q λd C H' s' m I' S hC M=>⟨m,S,λh' G=>⟨.ref d,H',I'.rD hC G,rfl,M⟩⟩
theorem kj{X:Cx}{i:Nat}{y:Str}{XN N:WG}{XS scope:Scope}{cap:WB}{p b c:Expr}{l:WI}{u r G:Pos}{wi:TI}{g:WC->WE->Shared->Hp->TG}{tc:WC->WE->Shared->Hp->TT}{te:WC->WE->Shared->Hp->TE}
  (Y:X.N.Nodup) (U:X.N[i]?=some y) (hy:X.env.scope.names.lookup y=some .local)
  (M:V4 XN N XS scope cap=true) (hN:X.N=XN) (hS:X.env.scope=XS) (hk:scope.kind=.function) (B:X.calm=true) (hi:PI X b c wi)
  (hg:∀cl o s H,PG (y8 X N scope cl o s H) b (g cl o s H)) (hc:∀cl o s H,uY (y8 X N scope cl o s H) l (tc cl o s H)) (he:∀cl o s H,PE (y8 X N scope cl o s H) p (te cl o s H))
  (S:swapsWith (.ListComp p [⟨b,c,l,0⟩] scope u) (some (.Name y G)) r.line X.env=pure true:=by rfl)
  (hs:∀x,foldedSetIterable c X.env x=pure x:=by intro _;rfl):PS X (.Assign [.Name y G] (.ListComp p [⟨b,c,l,0⟩] scope u) r) (qp (OR cap wi g tc te) (kh i)):=by
 refine .of ?_;intro j s σ H D I h;have cf:=O0 hN hS M;rw[Vv _ _ _ _ S];refine eH (KM (eH ?_));show wpAny _ X.A (do let _ <-comprehension (.ListComp p [⟨b,c,l,0⟩] scope u) scope X.env _ (newList []) false (eval c X.env) (some (assign (.Name y G) X.env))) _ _ s
 refine eH (v6 (TF (use:=some (assign (.Name y G) X.env)) (Q:=λ_ E=>SP X j D .next E) rfl hs (R0 (I.S3 cf)) hk cf.loc (p9 (hi j s σ H _ I h) λv s1 h1=>p9 h1 λa1 s2 h2=>?_))
  (λ_ E hq=>hH (hH hq)) λ_ _ e=>e)
 obtain⟨it,o,tn,J,H2,rfl,I2,T,O,f2,q⟩:=h2;refine kH (RR:=λa0 C=>compPost (model X.prog X.w) X.A X.xe (some (assign (.Name y G) X.env)) (λ_ E=>SP X j D .next E) a0 C) B cf hk hg hc he I2 T O f2 q λd C H' E m I' hn hC q'=>?_;show wpAny _ _ (assign (.Name y G) X.env (.ref d)) _ _ E;refine Ve (aX (v:=.ref d) I' Y U (.inl hy) rfl (λs2 I2 ⟨a,sb,ha⟩=>⟨m,hn.sameBut sb ?_,λh' R=>⟨_,H',I2.rD hC R,q'⟩⟩) (.inr hy));rcases ha with z | z
 ·rw[z];exact hC.2.1
 ·exactλe=>hC.2.2.2.2.1 y a z e.symm
end L2
namespace L3
open PySem PySem.Spec L2
abbrev af:=D->Ev->(Ev->Prop)->Prop
abbrev wo:=List D->Ev->(Ev->Prop)->Prop
structure xV(X:Cx)(cl:List Cl)(tg:Expr)(g:af):Prop where
 of ::
 run:∃t,PG X tg t/\∀(G:Ent) (ρ:Ev) (σ:St) (H:Hp) (fa:WQ) (v:V) (d:D) (B:WE) (Q:Ev->Prop) (R:St->Hp->Prop),G.cl=cl->E3 X.K G ρ σ H fa->Rep X.K H v d B->(∀i,G.own i->∀a∈B,a∉fa i)->g d ρ Q ->
  (∀σ' ρ' fa',E3 X.K G ρ' σ' H fa'->(∀i,G.own i->fa' i=fa i/\σ'[i]?=σ[i]?)->(∀i,G.own i->ρ'[i]?=ρ[i]?)->Q ρ'->R σ' H)->t v σ H R
structure GZ(X:Cx)(cl:List Cl)(tgs:WI)(g:wo):Prop where
 of ::
 run:∃t,FO X tgs t/\∀(G:Ent) (ρ:Ev) (σ:St) (H:Hp) (fa:WQ) (vs:List V) (ds:List D) (B:WE) (Q:Ev->Prop) (R:St->Hp->Prop),G.cl=cl->E3 X.K G ρ σ H fa->i5 X.K H vs ds B->(∀i,G.own i->∀a∈B,a∉fa i)->g ds ρ Q ->
  (∀σ' ρ' fa',E3 X.K G ρ' σ' H fa'->(∀i,G.own i->fa' i=fa i/\σ'[i]?=σ[i]?)->(∀i,G.own i->ρ'[i]?=ρ[i]?)->Q ρ'->R σ' H)->t vs σ H R
section
variable{X:Cx}{cl:List Cl}{tg e a b:Expr}{es:WI}{f:Fl}{pos pos':Pos}{ua ub:TU}{ma mb:TM}{x:Str}{i:Nat}
def g1(i:Nat):af:=λd c Q=>Nat.blt i c.length=true/\Q (c.set i (some d))
theorem CP(h:PG X (.Name x pos) (kh i))(l:cl[i]?=some .bor):xV X cl (.Name x pos) (g1 i):=.of<|by
 refine⟨_,h,λG y u H C v d B Q R p E r n q k=>?_⟩;have g:G.cl[i]?=some .bor:=by rw[p];exact l
 have no:¬G.own i:=λz=>by unfold Ent.own at z;rw[g] at z;cases z
 refine k _ _ _ (E.set (vv q.1) r ⟨λj _ c a o=>n j c a o,by rw[g];trivial⟩) (λj c=>?_) (λj c=>?_) q.2
 ·exact⟨ro λe:j=i=>no (by rw[<-e];exact c),v4 λe=>no (by rw[e];exact c)⟩
 ·exact v4 λe=>no (by rw[e];exact c)
def T8:wo:=λd c Q=>match d with
 | []=>Q c
 | _=>False
def u4(g:af)(gs:wo):wo:=λh j Q=>match h with
 | d::h=>g d j λc=>gs h c Q
 | _=>False
theorem av:GZ X cl [] T8:=.of<|by
 refine⟨_,Gq,λG d c H g vs h B Q R j E r n q k=>?_⟩
 cases h with
 | cons _ _=>exact(show False from q).elim
 | nil=>
  cases r;exact⟨rfl,k c d g E (λ_ _=>⟨rfl,rfl⟩) (λ_ _=>rfl) q⟩
theorem A7{g:af}{gs:wo}(C:xV X cl e g)(z:GZ X cl es gs)(hs:(assignEach (e::es) X.env).map (·.2)=assign e X.env::(assignEach es X.env).map (·.2):=by rfl):GZ X cl (e::es) (u4 g gs):=.of<|by
 obtain⟨t1,p1,C⟩:=C.run;obtain⟨t2,p2,z⟩:=z.run;refine⟨_,DT p1 p2 hs,λG U T H fa vs M B Q R S E r n q k=>?_⟩
 cases M with
 | nil=>exact(show False from q).elim
 | cons d M=>
  cases r with
  | cons r1 Y=>
   refine⟨_,_,rfl,C G U T H fa _ d _ _ _ S E r1 (λi c a y=>n i c a (t7 _ y)) q λj o J E' v u q'=>?_⟩;exact z G o j H J _ M _ Q R S E' Y (λi c a y=>by rw[(v i c).1];exact n i c a (rj _ y)) q' λh l I E2 O p q2=>k h l I E2 (λi c=>⟨(O i c).1.trans (v i c).1,(O i c).2.trans (v i c).2⟩) (λi c=>(p i c).trans (u i c)) q2
def gT(gs:wo):af:=λd c Q=>match d with
 | .tup g=>gs g c Q
 | _=>False
theorem FO.len{X:Cx}{c:WI}{t:HR}(h:FO X c t):True:=trivial
theorem fB{gs:wo}{k n:Nat}(h:GZ X cl es gs)(u:∀ds c Q,gs ds c Q->ds.length=n)(mk:∀{t},FO X es t->PG X (.Tuple es k pos) (OZ X.K n t)):xV X cl (.Tuple es k pos) (gT gs):=.of<|by
 obtain⟨t,p,h⟩:=h.run;refine⟨_,mk p,λG c j H C v d B Q R z E r l q o=>?_⟩;cases d<;>first | exact(show False from q).elim | skip
 rename_i ds
 have q:gs ds c Q:=q;obtain⟨a,vs,rfl,y,g⟩:=K7 r;exact⟨a,vs,rfl,P8.of y,by rw[g.length];exact u ds c Q q,h G c j H C vs ds B Q R z E g l q o⟩
structure PD(g:af)(body:g4)(xs:List D)(T:W0)(ρ:Ev):Prop where
 of ::
 ex:∃W:Nat->Ev->Prop,W 0 ρ/\(∀i d ρ,xs[i]?=some d->W i ρ->g d ρ λρ1=>body { nx:=W (i+1),rt:=T.rt,bk:=T.nx,ct:=W (i+1) } ρ1)/\∀ρ,W xs.length ρ->T.nx ρ
def P0(j:Md)(g:af)(body:g4):g4:=λT d=>j d λh c=>PD g body h T c
def frozen(G:Ent)(H:Hp)(C:WE):Ent:={ G with Z:=λa=>G.Z a\/a∈C\/(H a≠none/\¬dG (H a)),Hz:=H }
theorem E3.freeze{K:WR}{G:Ent}{g:Ev}{σ:St}{H:Hp}{d:WQ}{C:WE}(E:E3 K G g σ H d)(l:∀a∈C,H a≠none)(j:∀i,G.own i->∀a∈C,a∉d i):E3 K (frozen G H C) g σ H d:=
 ⟨E.rep,E.emp,E.len,E.nd,E.dj,E.par,E.old,E.new,E.frm,E.stb,λa _=>rfl,λa z=>by
  rcases z with z | z | z
  ·show H a≠none;rw[E.zk a z];exact E.zn a z
  ·exact l a z
  ·exact z.1,λi h a c z=>by
  rcases z with z | z | z
  ·exact E.zo i h a c z
  ·exact j i h a z c
  ·exact z.2 (E.dD i a c),⟨E.po.one,E.po.lk⟩⟩
theorem E3.KZ{K:WR}{G:Ent}{d h:Ev}{c σ:St}{l H:Hp}{g j:WQ}{C:WE}(E0:E3 K G d c l g)(E:E3 K (frozen G l C) h σ H j):E3 K G h σ H j:=
 ⟨E.rep,E.emp,E.len,E.nd,E.dj,E.par,E.old,E.new,E.frm,E.stb,λa z=>(E.zk a (.inl z)).trans (E0.zk a z),E0.zn,λi o a p z=>E.zo i o a p (.inl z),⟨E.po.one,E.po.lk⟩⟩
theorem D2{l:Expr}{body:WN}{ui:Md}{g:af}{sb:g4}(hi:Rk X cl tg l ui)(hg:xV X cl tg g)(hb:kJ X cl body sb)
  (mk:∀{wi g tb},PI X tg l wi->PG X tg g->qE X body tb->PS X (.For tg l body [] pos) (Py wi g tb)):J5 X cl (.For tg l body [] pos) (P0 ui g sb):=.of<|by
 obtain⟨wi,pi,hi⟩:=hi.run;obtain⟨an,pg,hg⟩:=hg.run;obtain⟨tb,pb,hb⟩:=hb.run;refine⟨_,mk pi pg pb,λG T ρ σ H fa R hG E hu le=>hi G ρ σ H fa _ _ hG E hu λJ Q r C a5 ad E1 c1 it tr ap q=>?_⟩;have F1:=E1.freeze tr ap;obtain⟨W,w0,step,done⟩:=q.ex;refine⟨λi m I S=>m=r.length-i/\i<=r.length/\∃c p,E3 X.K (frozen G Q C) c I S p/\W i c,⟨r.length,by simp,v5 _,a5,ad,F1,w0⟩,?_⟩;rintro i m I S ⟨rfl,ao,c,p,U,q'⟩
 have tf:Tf Q S:=⟨λb ys h=>by
   rw[U.zk b (.inr (.inr ⟨(by rw[h];intro z;cases z),(by rw[h];exactλz=>z)⟩))];exact h,λb o u h=>by
   rw[U.zk b (.inr (.inr ⟨(by rw[h];intro z;cases z),(by rw[h];exactλz=>z)⟩))];exact h⟩
 have kC:∀a∈C,S a=Q a:=λa ha=>U.zk a (.inr (.inl ha))
 by_cases Y:i<r.length
 ·right
  have ex:r[i]?=some r[i]:=nA Y;obtain⟨go,yl⟩:=(it S tf kC i).2 _ ex;refine⟨go,EO X.K (frozen G Q C) (W (i+1)),λam H2 hn=>?_,λy H2 hy=>?_⟩
  ·obtain⟨a4,ac,E2,q2⟩:=hn;exact⟨r.length-(i+1),by omega,rfl,Y,a4,ac,E2,q2⟩
  ·obtain⟨s2,B,rB,sB⟩:=yl y H2 hy;refine hg (frozen G Q C) c I H2 p y _ B _ _ hG (U.same s2) rB (λj hj a ha z=>U.zo j hj a z (.inr (.inl (sB.mem ha)))) (step i _ c ex q') λa2 a3 ab al _ _ q3=>?_;refine hb (frozen G Q C) _ a3 a2 H2 ab _ hG al q3 ⟨λ_ _ h=>h,λv H3 h=>?_,λa1 H4 h=>?_,λ_ _ h=>h⟩
   ·obtain⟨d,M,a0,O,B5,E5,r5,n5,m5,l5,q5⟩:=h;exact le.rt v H3 ⟨d,M,a0,O,B5,E1.KZ E5,r5,n5,m5,l5,q5⟩
   ·obtain⟨M,O,E5,q5⟩:=h;exact le.nx a1 H4 ⟨M,O,E1.KZ E5,q5⟩
 ·have ei:i=r.length:=by omega
  subst ei
  left
  exact⟨(it S tf kC _).1 rfl,le.nx _ _ ⟨c,p,E1.KZ U,done c q'⟩⟩
def Ca(j:sI)(body:g4):g4:=λT h=>∃W:Nat->Ev->Prop,(∃m,W m h)/\∀m h,W m h->j h λb d=>Br b (body { nx:=λc=>∃g,g<m/\W g c,rt:=T.rt,bk:=T.nx,ct:=λc=>∃g,g<m/\W g c } d) (T.nx d)
theorem Hs{c:Expr}{body:WN}{M:sI}{J:g4}(hp:PassesOwn (model X.prog X.w) X.A X.env X.xe)(v:NX X cl c M)(y:kJ X cl body J):J5 X cl (.While c body [] pos) (Ca M J):=.of<|by
 obtain⟨tc,pc,v⟩:=v.run;obtain⟨tb,pb,y⟩:=y.run;refine⟨_,AL hp pc pb,λG T U σ H fa R O E hu le=>?_⟩;obtain⟨W,⟨m0,w0⟩,step⟩:=hu;refine⟨λm r H'=>∃l C,E3 X.K G l r H' C/\W m l,⟨m0,U,fa,E,w0⟩,?_⟩;rintro m g H1 ⟨j,B,E1,w1⟩;refine v G j g H1 B _ _ O E1 (step m j w1) λb H2 d o Q c2 q=>?_
 cases b with
 | true=>
  rw[ry rfl];refine⟨EO X.K G (λd=>∃p,p<m/\W p d),λS H3 h=>?_,y G _ d g H2 o _ O Q (q.t rfl) ⟨λ_ _ h=>h,le.rt,le.nx,λ_ _ h=>h⟩⟩;obtain⟨u,z,I,p,hm,Y⟩:=h;exact⟨p,hm,u,z,I,Y⟩
 | false=>rw[ro rm];exact le.nx _ _ ⟨d,o,Q,q.f rfl⟩
def T3(cap:WB)(c:Ev):Ev:=cap.map λo=>match o with
 | some j=>(c[j]?).join
 | none=>none
def B0(cap:WB):List Cl:=cap.map λ_=>.bor
theorem jn{cap:WB}{σ:St}{p j:Nat}{v:V}(h:cap[p]?=some (some j))(e:σ[j]?=some (some v)):(K5 cap σ)[p]?=some (some v):=by
 unfold K5;rw[rx,h];show some ((σ[j]?).join)=_;rw[e];rfl
theorem rF{cap:WB}{c:Ev}{p:Nat}{d:D}(h:(T3 cap c)[p]?=some (some d)):∃j,cap[p]?=some (some j)/\c[j]?=some (some d):=by
 unfold T3 at h;rw[rx] at h
 cases e:cap[p]? with
 | none=>rw[e] at h;cases h
 | some o=>
  rw[e] at h
  cases o with
  | none=>cases h
  | some j=>
   have h:some ((c[j]?).join)=some (some d):=h
   cases g:c[j]? with
   | none=>rw[g] at h;cases h
   | some o=>rw[g] at h;cases h;exact⟨j,rfl,g⟩
def du(cap:WB)(c:Ev)(d:WQ)(p:Nat):WE:=match (T3 cap c)[p]? with
 | some (some _)=>match cap[p]? with
  | some (some j)=>d j
  | _=>[]
 | _=>[]
def X1(cap:WB):Ent:=⟨λ_=>none,λ_=>[],[],B0 cap,λ_=>False,λ_=>none⟩
theorem D7{cap:WB}{i:Nat}(h:(X1 cap).own i):False:=by
 have h:(B0 cap)[i]?=some .own:=h;unfold B0 at h;rw[rx] at h
 cases e:cap[i]? with
 | none=>rw[e] at h;cases h
 | some o=>rw[e] at h;cases h
theorem rf{cap:WB}{i:Nat}(h:(X1 cap).cl[i]?=some .loc):False:=by
 have h:(B0 cap)[i]?=some .loc:=h;unfold B0 at h;rw[rx] at h
 cases e:cap[i]? with
 | none=>rw[e] at h;cases h
 | some o=>rw[e] at h;cases h
theorem GN{cap:WB}{i:Nat}{c:Hp}(h:(X1 cap).cl[i]?=some (.mk c)):False:=by
 have h:(B0 cap)[i]?=some (.mk c):=h;unfold B0 at h;rw[rx] at h
 cases e:cap[i]? with
 | none=>rw[e] at h;cases h
 | some o=>rw[e] at h;cases h
theorem E3.comp{K:WR}{G:Ent}{c:Ev}{σ:St}{H:Hp}{g:WQ}(cap:WB)(E:E3 K G c σ H g):E3 K (X1 cap) (T3 cap c) (K5 cap σ) H (du cap c g):=by
 refine⟨λi d e=>?_,λi e=>?_,by unfold T3 K5;simp,λi h=>h.elim (λz=>(D7 z).elim) λz=>(rf z).elim,λi j _ h=>(D7 h).elim,λi _ h=>(D7 h).elim,λi _ h=>(D7 h).elim,λi h=>h.elim (λz=>(rf z).elim) λz=>(D7 z.1).elim,
  λa o h=>(nomatch h),⟨λb y h=>(nomatch h),λb o u h=>(nomatch h),λ_ _=>rfl⟩,λa z=>z.elim,λa z=>z.elim,λi h=>(D7 h).elim,⟨λi _ h=>(D7 h).elim,λj B h=>(GN h).elim⟩⟩
 ·obtain⟨j,l,q⟩:=rF e;obtain⟨v,p,r⟩:=E.rep j d q;refine⟨v,jn l p,?_⟩;unfold du;rw[e,l];exact r
 ·unfold du;split
  ·rename_i d h
   exact absurd h (e d)
  ·rfl
def qt(g:af)(tc:aj)(te:TU)(h:Ev):List D->List D->(List D->Prop)->Prop
 | [],c,Q=>Q c
 | x::l,c,Q=>g x h λj=>tc j λb=>Br b (te j λd=>qt g tc te h l (c++[d]) Q) (qt g tc te h l c Q)
def nY(cap:WB)(h:mj)(g:af)(tc:aj)(te:TU):TU:=λc Q=>h c λd=>d.length<sizeLine/\qt g tc te (T3 cap c) d [] λj=>Q (.lst j)
structure rX(X:Cx)(cl:List Cl)(es:WI)(u:aj):Prop where
 of ::
 run:∃t,uY X es t/\∀(G:Ent) (ρ:Ev) (σ:St) (H:Hp) (fa:WQ) (Q:Bool->Prop) (R:Bool->Hp->Prop),G.cl=cl->E3 X.K G ρ σ H fa->u ρ Q ->
  (∀b H',c9 H H'->Q b->R b H')->t σ H R
def R6:aj:=λ_ Q=>Q true
theorem D0:rX X cl [] R6:=.of ⟨_,wz,λG g d H h Q R _ E c k=>k true H (c9.refl H) c⟩
theorem dW{tc:aj}(h:P5 X cl e tc):rX X cl [e] tc:=.of<|let ⟨t,p,h⟩:=h.run;⟨t,Hh p,h⟩
theorem Sy{K:WR}{cap:WB}{g3:af}{a5:aj}{a4:TU}{J:It}{g:TG}{tc:TT}{te:TE}{xs:List D}{C:WE}{I:Ev}{σ:St}{G:Ent}{M:Hp}{O:WQ}{Q:List D->Prop}{R:VK}
  (hg:∀(G:Ent) (I:Ev) (σ:St) (H:Hp) (O:WQ) (v:V) (d:D) (B:WE) (Q:Ev->Prop) (R:St->Hp->Prop),G.cl=B0 cap->E3 K G I σ H O->Rep K H v d B->(∀i,G.own i->∀a∈B,a∉O i)->g3 d I Q ->
   (∀a2 a3 al,E3 K G a3 a2 H al->(∀i,G.own i->al i=O i/\a2[i]?=σ[i]?)->(∀i,G.own i->a3[i]?=I[i]?)->Q a3->R a2 H)->g v σ H R)
  (hc:∀(G:Ent) (I:Ev) (σ:St) (H:Hp) (O:WQ) (Q:Bool->Prop) (R:Bool->Hp->Prop),G.cl=B0 cap->E3 K G I σ H O->a5 I Q->(∀b S,c9 H S->Q b->R b S)->tc σ H R)
  (he:∀(G:Ent) (I:Ev) (σ:St) (H:Hp) (O:WQ) (Q:D->Prop) (R:VK),G.cl=B0 cap->E3 K G I σ H O->a4 I Q->(∀v S d B,c9 H S->Rep K S v d B->y3 G H O B .fresh->Q d->R v S)->te σ H R)
  (E:E3 K G I σ M O) (it:bj K J xs C M) (tr:∀a∈C,M a≠none) (hn:xs.length<sizeLine) (q:qt g3 a5 a4 (T3 cap I) xs [] Q)
  (k:∀d S ds B,c9 M S->Rep K S (.ref d) (.lst ds) B->B.Nodup->(∀a∈B,M a=none)->Q ds->R (.ref d) S):QY J g tc te (K5 cap σ) R M:=by
 intro d hd
 refine⟨λi m H=>m=xs.length-i/\i<=xs.length/\c9 M H/\∃c ds B,H d=some (.lst c)/\c.length<=i/\i5 K H c ds B/\B.Nodup/\d∉B/\(∀a∈B,M a=none)/\qt g3 a5 a4 (T3 cap I) (xs.drop i) ds Q,
  ⟨xs.length,by simp,v5 _,c9.e7 hd,[],[],[],c7,oT _,.nil,sd,(by simp),(λa r=>by cases r),q⟩,?_⟩
 rintro i m H ⟨rfl,ap,s1,c,ds,B,a1,b0,rs,nB,dB,hB,q⟩;have tf:Tf M H:=⟨λb ys h=>s1 _ _ h,λb o u h=>s1 _ _ h⟩
 have kC:∀a∈C,H a=M a:=λa r=>by
  obtain⟨o,eo⟩:=Option.ne_none_iff_exists'.mp (tr a r);rw[eo];exact s1 a o eo
 by_cases T:i<xs.length
 ·right
  obtain⟨go,yl⟩:=(it H tf kC i).2 _ (nA T);rw[Db T] at q;refine⟨go,λy H2 hy=>?_⟩;obtain⟨Y,By,rB,sB⟩:=yl y H2 hy;have E2:=(E.same (s1.trans Y)).comp cap;refine hg (X1 cap) _ _ H2 _ y _ By _ _ rfl E2 rB (λj hj=>(D7 hj).elim) q λab ac ad am _ _ q3=>?_;refine hc (X1 cap) ac ab H2 ad _ _ rfl am q3 λb H3 U q4=>?_;have l:H3 d=some (.lst c):=U _ _ (Y _ _ a1)
  cases b with
  | false=>
   rw[ro rm];exact⟨xs.length-(i+1),by omega,rfl,T,(s1.trans Y).trans U,c,ds,B,l,by omega,(rs.same Y).same U,nB,dB,hB,q4.f rfl⟩
  | true=>
   rw[ry rfl];refine he (X1 cap) ac ab H3 ad _ _ rfl (am.same U) (q4.t rfl) λv H4 dv Bv s4 rv fo q5=>?_;have p:H4 d=some (.lst c):=s4 _ _ l;have an:c9 M H4:=((s1.trans Y).trans U).trans s4;have a0:d∉Bv:=λz=>by rw[fo.2 d z] at l;cases l
   have st:V2 H4 (upd H4 d (.lst (c++[v]))):=⟨λb ys h=>by
     by_cases e:b=d
     ·subst e;rw[p] at h;cases h
     ·rw[e9 e];exact h,λb u w' h=>by
     by_cases e:b=d
     ·subst e;rw[p] at h;cases h
     ·rw[e9 e];exact h,λb h=>by
     by_cases e:b=d
     ·subst e;rw[c7] at h;cases h
     ·rw[e9 e] at h;exact h⟩
   have ao:=((rs.same Y).same U).same s4;refine⟨c,p,by omega,xs.length-(i+1),by omega,rfl,T,λb o e=>?_,c++[v],ds++[dv],B++(Bv++[]),c7,by rw[tt,wf];omega,?_,?_,?_,λa r=>?_,q5⟩
   ·rw[e9 (o6 e hd)];exact an _ _ e
   ·exact(ao.mono st λa r=>e9 λe=>dB (e▸r)).append (.cons (rv.mono st λa r=>e9 λe=>a0 (e▸r)) .nil)
   ·rw[tz];refine List.nodup_append.mpr ⟨nB,fo.1,λa r b hb e=>?_⟩;subst e;exact((rs.same Y).same U).there a r (fo.2 a hb)
   ·rw[tz];exactλz=>(List.mem_append.mp z).elim dB a0
   ·rw[tz] at r;rcases List.mem_append.mp r with z | z
    ·exact hB a z
    ·exact((s1.trans Y).trans U).free (fo.2 a z)
 ·have ei:i=xs.length:=by omega
  subst ei
  left
  rw[Ud] at q;refine⟨(it H tf kC _).1 rfl,k d H ds (d::B) s1 (.lst a1 rs) (List.nodup_cons.mpr ⟨dB,nB⟩) (λa r=>?_) q⟩;rcases List.mem_cons.mp r with z | z
  ·rw[z];exact hd
  ·exact hB a z
section
variable{XN N:WG}{XS scope:Scope}{cap:WB}{elt target iter:Expr}{ifs:WI}{ui:mj}{g3:af}{tc3:aj}{te3:TU}
theorem T9(l:V4 XN N XS scope cap=true)(hN:X.N=XN)(hS:X.env.scope=XS)(hk:scope.kind=.function)(j:X.calm=true)(p:ak X cl target iter f ui)
  (u:∀c h s H,xV (y8 X N scope c h s H) (B0 cap) target g3) (y:∀c h s H,rX (y8 X N scope c h s H) (B0 cap) ifs tc3) (v:∀c h s H,PU (y8 X N scope c h s H) (B0 cap) elt .fresh te3)
  (hs:∀x,foldedSetIterable iter X.env x=pure x:=by intro _;rfl):PU X cl (.ListComp elt [⟨target,iter,ifs,0⟩] scope pos) .fresh (nY cap ui g3 tc3 te3):=.of<|by
 obtain⟨wi,T,p⟩:=p.run
 refine⟨_,Mi (g:=λc h s H=>Classical.choose (u c h s H).run) (tc:=λc h s H=>Classical.choose (y c h s H).run) (te:=λc h s H=>Classical.choose (v c h s H).run) l hN hS hk j T
  (λc h s H=>(ri (u c h s H).run).1) (λc h s H=>(ri (y c h s H).run).1) (λc h s H=>(ri (v c h s H).run).1) hs,λG M I H fa Q R hG E Y k=>?_⟩
 refine p G M I H fa _ _ hG E Y λJ H1 xs C s U tr fo q=>λc h o z=>?_;refine Sy (K:=X.K) (ri (u c h o z).run).2 (ri (y c h o z).run).2 (ri (v c h o z).run).2 (E.same s) U tr q.1 q.2 λd H2 ds B O r n1 n2 S=>?_;exact k _ H2 _ B (s.trans O) r ⟨n1,λa ha=>s.free (n2 a ha)⟩ S
theorem nV{i:Nat}{y:Str}{j py:Pos}(S:X.N.Nodup)(v:X.N[i]?=some y)(hy:X.env.scope.names.lookup y=some .local)(O:yw cl[i]? .fresh i=true)
  (o:V4 XN N XS scope cap=true) (hN:X.N=XN) (hS:X.env.scope=XS) (hk:scope.kind=.function) (l:X.calm=true) (z:ak X cl target iter f ui)
  (I:∀c h s H,xV (y8 X N scope c h s H) (B0 cap) target g3) (Q:∀c h s H,rX (y8 X N scope c h s H) (B0 cap) ifs tc3) (M:∀c h s H,PU (y8 X N scope c h s H) (B0 cap) elt .fresh te3)
  (u:swapsWith (.ListComp elt [⟨target,iter,ifs,0⟩] scope pos) (some (.Name y py)) j.line X.env=pure true:=by rfl)
  (hs:∀x,foldedSetIterable iter X.env x=pure x:=by intro _;rfl):J5 X cl (.Assign [.Name y py] (.ListComp elt [⟨target,iter,ifs,0⟩] scope pos) j) (o3 i (nY cap ui g3 tc3 te3)):=.of<|by
 obtain⟨wi,pi,z⟩:=z.run
 refine⟨_,kj (g:=λc h s H=>Classical.choose (I c h s H).run) (tc:=λc h s H=>Classical.choose (Q c h s H).run) (te:=λc h s H=>Classical.choose (M c h s H).run) S v hy o hN hS hk l pi
  (λc h s H=>(ri (I c h s H).run).1) (λc h s H=>(ri (Q c h s H).run).1) (λc h s H=>(ri (M c h s H).run).1) u hs,λG T ρ σ H fa R hG E hu le=>?_⟩
 refine z G ρ σ H fa _ _ hG E hu λJ H1 xs C s it tr fo q=>λc h p U=>?_;refine Sy (K:=X.K) (ri (I c h p U).run).2 (ri (Q c h p U).run).2 (ri (M c h p U).run).2 (E.same s) it tr q.1 q.2 λd H2 ds B s2 r n1 n2 Y=>?_;exact le.nx _ _ ⟨_,_,(E.same (s.trans s2)).set (vv Y.1) r (fJ.of (f:=.fresh) E ⟨n1,λa ha=>s.free (n2 a ha)⟩ (by rw[hG];exact O)),Y.2⟩
end
end
end L3
namespace L2
open PySem PySem.Spec PyProof.Rows
section
variable{X:Cx}
theorem gZ:∀{bs:WG} {a:WH},Vals (bs.map V.str) a->StrsAre a bs
 | [],_,r=>by cases r;exact .nil
 | b::bs,_,r=>by
  cases r with
  | cons h t=>obtain⟨u,rfl⟩:=h;exact .cons b u (gZ t)
def rJoin(K:WR):V->List V->Hp->VK->Prop:=λx vs H Q=>∃z p a,x=.str z/\vs=[.ref p]/\G7 K H p (a.map V.str)/\(a.map (·.length)).sum+a.length*z.length<=16777216/\Q (.str (Txt.join z a)) H
theorem Gf:Sg X "str.join" (rJoin X.K):=by
 intro a s j H x o v r Q I b c h;obtain⟨z,p,l,rfl,rfl,g,i,q⟩:=h;obtain⟨t,rfl⟩:=b;obtain⟨u,rfl,d⟩:=vals1 c;cases d;obtain⟨e,rv,pl,B⟩:=I.list g;exact join_list pl.isList (by simpa using gZ rv) i λy k=>⟨.str _,H,I.tok _,⟨_,rfl⟩,q⟩
theorem IU:N6 X (binaryOp .Mult) (λx y H Q=>∃z n,x=.str z/\y=.int n/\MulOk z n/\Q (.str (Txt.mul z n)) H):=by
 intro a s g H x y v u Q I d c h;obtain⟨z,n,rfl,rfl,e,q⟩:=h;obtain⟨t,rfl⟩:=d;obtain⟨b,rfl⟩:=c;exact SB.mul e λb k=>⟨.str _,H,I.tok _,⟨_,rfl⟩,q⟩
end
end L2
namespace L3
open PySem PySem.Spec L2
section
variable{X:Cx}{cl:List Cl}{e a b:Expr}{es:WI}{f:Fl}{pos:Pos}{ua ub:TU}{ma mb:TM}{fa fb:Fl}
theorem i5.strs{K:WR}{H:Hp}:∀{bs:WG} {vs:List V} {A:WE},i5 K H vs (bs.map D.str) A->vs=bs.map V.str
 | [],_,_,r=>by cases r;rfl
 | b::bs,_,_,r=>by
  cases r with
  | cons h t=>rw[C4 h,t.strs];rfl
theorem Y3{K:WR}{H:Hp}{v:V}{d:D}{A:WE}{xs:List D}(r:Rep K H v d A)(e:kindB false d=some xs):∃p vs B,v=.ref p/\G7 K H p vs/\i5 K H vs xs B/\B.Sublist A:=by
 cases d<;>first | cases e | skip
 ·obtain⟨p,vs,C,rfl,g,c,rfl⟩:=D5 r;exact⟨p,vs,C,rfl,G7.of g,c,TJ _ _⟩
 ·obtain⟨p,vs,rfl,g,c⟩:=iK r;exact⟨p,vs,A,rfl,g.sq,c,Us _⟩
def tyName:D->Option String
 | .l3=>some "NoneType"
 | .bl _=>some "bool"
 | .int _=>some "int"
 | .str _=>some "str"
 | .lst _=>some "list"
 | .tup _=>some "tuple"
 | .dic _=>some "dict"
 | _=>none
def HI(a T:String):Bool:=a == T||(a =="bool" && T =="int")
def sX:List String:=["int","bool","str","list","tuple","dict"]
def Ms:List D->(D->Prop)->Prop:=λc Q=>∃d a T,c=[d,.ty T]/\tyName d=some a/\sX.contains T=true/\Q (.bl (HI a T))
theorem FZ (K:WR) {a T:String} (c:["NoneType","bool","int","str","list","tuple","dict"].contains a=true) (d:sX.contains T=true):PySem.W.kitOne K (.type a) (.type T)=some (HI a T):=by
 have h:a="NoneType" \/ a="bool" \/ a="int" \/ a="str" \/ a="list" \/ a="tuple" \/ a="dict":=by simpa using c
 have g:T="int" \/ T="bool" \/ T="str" \/ T="list" \/ T="tuple" \/ T="dict":=by simpa[sX] using d
 rcases h with rfl | rfl | rfl | rfl | rfl | rfl | rfl<;>rcases g with rfl | rfl | rfl | rfl | rfl | rfl<;>first | rfl | decide +kernel
theorem ON{K:WR}{H:Hp}{v:V}{d:D}{A:WE}{n:String}(r:Rep K H v d A)(e:tyName d=some n):cw K H v (.type n)/\["NoneType","bool","int","str","list","tuple","dict"].contains n=true:=by
 cases r<;>first | (cases e;done) | skip
 ·cases e;exact⟨.l3,rfl⟩
 ·cases e;exact⟨.bl _,rfl⟩
 ·cases e;exact⟨.int _,rfl⟩
 ·cases e;exact⟨.str _,rfl⟩
 ·cases e;rename_i h _;exact⟨.tup h,rfl⟩
 ·cases e;rename_i h _;exact⟨.lst h,rfl⟩
 ·cases e;rename_i h _;exact⟨.dK (.inr ⟨_,h⟩),rfl⟩
theorem JT:Call3 X (λxs H Q=>∃x c t cv b,xs=[x,c]/\Qq c=some cv/\cw X.K H x t/\PySem.W.kitOne X.K t cv=some b/\Q (.bl b) H) Ms:=by
 intro H vs p A Q R r q k;obtain⟨d,n,T,rfl,e,o,q⟩:=q;obtain⟨v,w,B,C,rfl,l,j,_⟩:=r.two;cases j;obtain⟨i,g⟩:=ON l e;exact⟨_,_,_,_,_,rfl,rfl,i,FZ X.K g o,k _ H _ _ (c9.refl H) .bl sd (λ_ h=>(by cases h)) q⟩
theorem JH{x:Str}{T:String}(h:PE X (.Name x pos) (tC (.ty T))):PU X cl (.Name x pos) .fresh (uC (.ty T)):=.of ⟨_,h,λG g d H fa Q R _ E c k=>k _ H _ _ (c9.refl H) .ty (y3.nil _) c⟩
def Ka:D->D->(D->Prop)->Prop:=λd e Q=>∃(z:Str) (g:List D) (c:WG),d=.str z/\kindB false e=some g/\g=c.map D.str/\(c.map (·.length)).sum+c.length*z.length<=16777216/\Q (.str (Txt.join z c))
theorem Gi{H:Hp}{v w:V}{d e:D}{A B:WE}{Q:D->Prop}{R:VK}(i:Rep X.K H v d A)(h:Rep X.K H w e B)(q:Ka d e Q)(k:∀y,Q (.str y)->R (.str y) H):rJoin X.K v [w] H R:=by
 obtain⟨z,r,c,rfl,o,rfl,l,q⟩:=q;cases C4 i;obtain⟨p,u,B,rfl,j,g,_⟩:=Y3 h o;cases g.strs;exact⟨z,p,c,rfl,rfl,j,l,k _ q⟩
def Er(ua ub:TU):TU:=λc Q=>ua c λx=>isStrD x=true/\ub c λy=>Ka x y Q
where isStrD:D->Bool
 | .str _=>true
 | _=>false
theorem zu{d:D}(h:Er.isStrD d=true):∃z,d=.str z:=by
 cases d<;>first | exact⟨_,rfl⟩ | cases h
theorem Iq {c:Pos} (j:PU X cl a fa ua) (i:PU X cl b fb ub) (h:isStar b=false) (mk:∀{p t},PE X a p->PA X [b] t->PE X (.Call (.Attribute a "join" c) [b] [] pos) (Sb X.K "str" (rJoin X.K) p t)):PU X cl (.Call (.Attribute a "join" c) [b] [] pos) .fresh (Er ua ub):=.of<|by
 obtain⟨ta,S,j⟩:=j.run;obtain⟨tb,O,i⟩:=i.run;refine⟨_,mk S (bp O M7 h),λG o l H C Q R x E U k=>j G o l H C _ _ x E U λv H1 d A r u f1 g=>?_⟩;obtain⟨T,g⟩:=g;obtain⟨z,rfl⟩:=zu T;cases C4 u;refine⟨rfl,i G o l H1 C _ _ x (E.same r) g λw Y e B q I f2 M=>?_⟩;exact Gi (u.same q) I M λy J=>k _ Y _ _ (r.trans q) .str (y3.nil _) J
def PL:D->D->(D->Prop)->Prop
 | .str z,.int n,Q=>MulOk z n/\Q (.str (Txt.mul z n))
 | _,_,_=>False
theorem MY:bu X (λx y H Q=>∃z n,x=.str z/\y=.int n/\MulOk z n/\Q (.str (Txt.mul z n)) H) PL:=by
 intro H v w d e A B Q R g c q k;cases d<;>cases e<;>first | exact q.elim | skip
 cases C4 g;cases r8 c;exact⟨_,_,rfl,rfl,q.1,k _ H _ _ (c9.refl H) .str sd (λ_ h=>(by cases h)) q.2⟩
def Sm:D->D->(D->Prop)->Prop
 | .lst d,.lst c,Q=>u6 d=true/\u6 c=true/\d.length+c.length<=sizeLine/\Q (.lst (d++c))
 | _,_,_=>False
theorem Ox:bu X Mb Sm:=by
 intro H v w d e A B Q R o j q k;cases d<;>cases e<;>first | exact q.elim | skip
 obtain⟨r,vs,M,rfl,E,g,_⟩:=D5 o;obtain⟨p,i,J,rfl,C,c,_⟩:=D5 j;obtain⟨x,u,y,q⟩:=q;have I:=g.C9 x;have G:=c.C9 u;subst I;subst G;refine⟨r,p,vs,i,rfl,rfl,E,C,by rw[g.length,c.length];exact y,λl h=>k _ _ _ [l] (c9.e7 h) (.lst c7 ((g.same (c9.e7 h)).append (c.same (c9.e7 h)))) (by simp) (λa z=>?_) q⟩;have:a=l:=by simpa using z
 rw[this];exact h
def cutD(xs:List D)(lo c:Option Int):List D:=(xs.drop (HT.D3 xs.length 0 lo)).take (HT.D3 xs.length xs.length c-HT.D3 xs.length 0 lo)
abbrev LH:=Ev->(Option Int->Prop)->Prop
structure QZ(X:Cx)(cl:List Cl)(e:Option Expr)(u:LH):Prop where
 of ::
 run:∃t,PO X e t/\∀(G:Ent) (ρ:Ev) (σ:St) (H:Hp) (fa:WQ) (Q:Option Int->Prop) (R:Option Int->Hp->Prop),G.cl=cl->E3 X.K G ρ σ H fa->u ρ Q->(∀o H',c9 H H'->Q o->R o H')->t σ H R
def rl:LH:=λ_ Q=>Q none
def cO(u:TU):LH:=λc Q=>u c λd=>match d with
 | .int i=>Q (some i)
 | _=>False
theorem gz:QZ X cl none rl:=.of ⟨_,HK,λG g d H fa Q R _ E c k=>k none H (c9.refl H) c⟩
theorem aS(h:PU X cl e f ua):QZ X cl (some e) (cO ua):=.of<|by
 obtain⟨t,p,h⟩:=h.run;refine⟨_,FU p,λG g c H fa Q R j E i k=>h G g c H fa _ _ j E i λv l d B s r _ q=>?_⟩;cases d<;>first | exact(show False from q).elim | skip
 cases r8 r;exact⟨_,rfl,k _ l s q⟩
end
def N9:WB->Nat->List Cl
 | [],_=>[]
 | _::r,0=>.own::B0 r
 | _::r,p+1=>.bor::N9 r p
theorem nL{r:WB}{q:Nat}{c:Cl}(h:(B0 r)[q]?=some c):c=.bor:=by
 unfold B0 at h;rw[rx] at h
 cases e:r[q]? with
 | none=>rw[e] at h;cases h
 | some o=>rw[e] at h;cases h;rfl
theorem aD:∀{cap:WB} {p q:Nat},(N9 cap p)[q]?=some .own->q=p
 | [],_,_,h=>by simp[N9] at h
 | _::r,0,0,_=>rfl
 | _::r,0,q+1,h=>by
  rw[N9,wn] at h;exact nomatch nL h
 | _::r,p+1,0,h=>by rw[N9] at h;cases h
 | _::r,p+1,q+1,h=>by
  rw[N9,wn] at h;rw[aD h]
theorem qZ:∀{cap:WB} {p q:Nat},(N9 cap p)[q]?=some .loc->False
 | [],_,_,h=>by simp[N9] at h
 | _::r,0,0,h=>by rw[N9] at h;cases h
 | _::r,0,q+1,h=>by
  rw[N9,wn] at h;exact nomatch nL h
 | _::r,p+1,0,h=>by rw[N9] at h;cases h
 | _::r,p+1,q+1,h=>by
  rw[N9,wn] at h;exact qZ h
theorem wH:∀{cap:WB} {p q:Nat} {a:Hp},(N9 cap p)[q]?=some (.mk a)->False
 | [],_,_,_,h=>by simp[N9] at h
 | _::r,0,0,_,h=>by rw[N9] at h;cases h
 | _::r,0,q+1,_,h=>by
  rw[N9,wn] at h;exact nomatch nL h
 | _::r,p+1,0,_,h=>by rw[N9] at h;cases h
 | _::r,p+1,q+1,_,h=>by
  rw[N9,wn] at h;exact wH h
def kg(cap:WB)(p:Nat):Ent:=⟨λ_=>none,λ_=>[],[],N9 cap p,λ_=>False,λ_=>none⟩
theorem E3.Qy{K:WR}{G:Ent}{g:Ev}{σ:St}{H:Hp}{y:WQ}{cap:WB}{p j:Nat}(E:E3 K G g σ H y)(own:G.own j)(I:cap[p]?=some (some j))(O:∀q,cap[q]?=some (some j)->q=p):E3 K (kg cap p) (T3 cap g) (K5 cap σ) H (du cap g y):=by
 have Q:∀a∈du cap g y p,a∈y j:=λa c=>by
  unfold du at c;split at c
  ·rw[I] at c;exact c
  ·cases c
 refine⟨λi d e=>?_,λi e=>?_,by unfold T3 K5;simp,λi h=>?_,λi l n h a c=>?_,λi h=>absurd h (Uf _),λi h=>absurd h (Uf _),λi h a _=>rfl,
  λa o h=>(nomatch h),⟨λb T h=>(nomatch h),λb o u h=>(nomatch h),λ_ _=>rfl⟩,λa z=>z.elim,λa z=>z.elim,λi h a _ z=>z,⟨λi h=>absurd h (Uf _),λj U h=>(wH h).elim⟩⟩
 ·obtain⟨x,M,S⟩:=rF e;obtain⟨v,R,r⟩:=E.rep x d S;refine⟨v,jn M R,?_⟩;unfold du;rw[e,M];exact r
 ·unfold du;split
  ·rename_i d h
   exact absurd h (e d)
  ·rfl
 ·rcases h with h | h
  ·have e:=aD h;subst e;unfold du;split
   ·rw[I];exact E.nd j (.inl own)
   ·exact sd
  ·exact(qZ h).elim
 ·have e:=aD h;subst e;have C:=Q a c;intro z;unfold du at z;split at z
  ·split at z
   ·rename_i x B
    by_cases J:x=j
    ·subst J;exact n (O l B).symm
    ·exact E.dj j x (Da J) own a C z
   ·cases z
  ·cases z
def kA(p j:Nat)(cap:WB)(g:af)(tc:sI)(te:TM):List D->List D->Ev->(List D->Ev->Prop)->Prop
 | [],a,e,Q=>Q a e
 | x::o,a,e,Q=>g x (T3 cap e) λi=>tc i λb c=>Br b (te c λd h=>a7 p h λl=>kA p j cap g tc te o (a++[d]) (e.set j (some l)) Q) (a7 p c λl=>kA p j cap g tc te o a (e.set j (some l)) Q)
structure Jg(p j:Nat)(cap:WB)(g:af)(tc:sI)(te:TM)(xs:List D)(ρ:Ev)(Q:List D->Ev->Prop):Prop where
 of ::
 ex:∃W:Nat->List D->Ev->Prop,W 0 [] ρ/\(∀i x acc ρ,xs[i]?=some x->W i acc ρ->g x (T3 cap ρ) λρ1=>tc ρ1 λb ρ2=>Br b (te ρ2 λd ρ3=>a7 p ρ3 λl=>W (i+1) (acc++[d]) (ρ.set j (some l))) (a7 p ρ2 λl=>W (i+1) acc (ρ.set j (some l))))/\∀acc ρ,W xs.length acc ρ->Q acc ρ
theorem Jg.go{p j:Nat}{cap:WB}{g:af}{tc:sI}{te:TM}{xs:List D}{b:Ev}{Q:List D->Ev->Prop}(h:kA p j cap g tc te xs [] b Q):Jg p j cap g tc te xs b Q:=.of ⟨λi a b=>kA p j cap g tc te (xs.drop i) a b Q,h,λi x a b e w=>by
  obtain⟨c,rfl⟩:=List.getElem?_eq_some_iff.mp e;have w:kA p j cap g tc te (xs.drop i) a b Q:=w;rw[Db c] at w;exact w,λa b w=>by
  have w:kA p j cap g tc te (xs.drop xs.length) a b Q:=w;rw[Ud] at w;exact w⟩
def SR(p j:Nat)(cap:WB)(e:Md)(g:af)(tc:sI)(te:TM):TM:=λd Q=>e d λc a=>c.length<sizeLine/\a7 j a λ_=>Jg p j cap g tc te c a λh b=>Q (.lst h) b
theorem Cw{K:WR}{G:Ent}{J B:Ev}{σ x:St}{H M r:Hp}{g u:WQ}{cap:WB}{p j:Nat}{l:D}(E:E3 K G J σ H g)(own:G.own j)(hp:cap[p]?=some (some j))(hj:∃d,J[j]?=some (some d))(s:c9 H M)
  (Ei:E3 K (kg cap p) B x r u) (cf:∀a o,M a=some o->a∉g j->r a=some o) (cs:V2 M r) (cn:∀a∈u p,a∈g j\/M a=none) (Q:(kg cap p).own p) (O:x[p]?=(K5 cap σ)[p]?) (el:B[p]?=some (some l)) :
  E3 K G (J.set j (some l)) σ r (λq=>if q=j then u p else g q)/\O8 K G H g r (λq=>if q=j then u p else g q):=by
 obtain⟨d0,Y⟩:=hj;obtain⟨v,T,_⟩:=E.rep j d0 Y;have S:j<J.length:=(List.getElem?_eq_some_iff.mp Y).1;have new:∀a∈u p,a∈g j\/H a=none:=λa b=>(cn a b).imp id λy=>s.free y;have keep:∀a o,H a=some o->a∉g j->r a=some o:=λa o h n=>cf a o (s a o h) n;have stb:V2 H r:=(V2.of s).trans cs
 have ch:O8 K G H g r (λq=>if q=j then u p else g q):=by
  refine⟨λa o h n=>keep a o h (n j own),stb,λi c a b=>?_,λi c=>ro λe:i=j=>c (by rw[e];exact own)⟩
  by_cases q:i=j
  ·subst q;rw[ry rfl] at b;exact new a b
  ·rw[ro q] at b;exact .inl b
 refine⟨E.step ch (by simp) (λi c=>v4 λe=>c (by rw[<-e];exact own)) (λi d' c e=>?_) (λi c e=>?_) (λi c=>?_) λi I n c a0 a b z=>?_,ch⟩
 ·by_cases q:i=j
  ·subst q;rw[v1 S] at e;cases e;obtain⟨v',X,r1⟩:=Ei.rep p l el;rw[O,jn hp T] at X;cases X;exact⟨v,T,by rw[ry rfl];exact r1⟩
  ·rw[v4 (Da q)] at e;obtain⟨w,e2,R⟩:=E.rep i d' e;refine⟨w,e2,?_⟩;rw[ro q];refine R.mono stb λa b=>?_;obtain⟨o,U⟩:=dG.some (R.dD a b);rw[U];exact keep a o U λz=>E.dj i j q c a b z
 ·by_cases q:i=j
  ·subst q;exact absurd (v1 S) (e l)
  ·rw[ro q];exact E.emp i λd z=>e d (by rw[v4 (Da q)];exact z)
 ·by_cases q:i=j
  ·rw[ry q];exact Ei.nd p (.inl Q)
  ·rw[ro q];exact E.nd i (.inl c)
 ·by_cases q:i=j
  ·rw[ry q] at b;have C:I≠j:=λe=>n (q.trans e.symm);rw[ro C] at z;rcases new a b with y | y
   ·exact E.dj j I (Da C) own a y z
   ·exact E.there I z y
  ·rw[ro q] at b
   by_cases C:I=j
   ·rw[ry C] at z;rcases new a z with y | y
    ·exact E.dj i j q c a b y
    ·exact E.there i b y
   ·rw[ro C] at z;exact E.dj i I n c a b z
theorem Tq{K:WR}{cap:WB}{p j:Nat}{g3:af}{b3:sI}{b2:TM}{J:It}{g:TG}{tc:TT}{te:TE}{xs:List D}{C:WE}{T:Ev}{σ:St}{G:Ent}{X:Hp}{S:WQ}{Q:List D->Ev->Prop}{R:VK}
  (own:G.own j) (hp:cap[p]?=some (some j)) (hq:∀q,cap[q]?=some (some j)->q=p) (a3:(kg cap p).own p) (bi:∃d,T[j]?=some (some d))
  (hg:∀(G:Ent) (T:Ev) (σ:St) (H:Hp) (S:WQ) (v:V) (d:D) (B:WE) (Q:Ev->Prop) (R:St->Hp->Prop),G.cl=N9 cap p->E3 K G T σ H S->Rep K H v d B->(∀i,G.own i->∀a∈B,a∉S i)->g3 d T Q ->
   (∀an r c,E3 K G r an H c->(∀i,G.own i->c i=S i/\an[i]?=σ[i]?)->(∀i,G.own i->r[i]?=T[i]?)->Q r->R an H)->g v σ H R)
  (hc:∀(G:Ent) (T:Ev) (σ:St) (H:Hp) (S:WQ) (Q:Bool->Ev->Prop) (R:Bool->Hp->Prop),G.cl=N9 cap p->E3 K G T σ H S->b3 T Q->(∀b Y r c,E3 K G r σ Y c->O8 K G H S Y c->Q b r->R b Y)->tc σ H R)
  (he:∀(G:Ent) (T:Ev) (σ:St) (H:Hp) (S:WQ) (Q:D->Ev->Prop) (R:VK),G.cl=N9 cap p->E3 K G T σ H S->b2 T Q->(∀v Y d B r c,E3 K G r σ Y c->O8 K G H S Y c->Rep K Y v d B->B.Nodup->(∀a∈B,H a=none/\∀i,a∉c i)->Q d r->R v Y)->te σ H R)
  (E:E3 K G T σ X S) (it:bj K J xs C X) (tr:∀a∈C,X a≠none) (ap:∀i,G.own i->∀a∈C,a∉S i) (hn:xs.length<sizeLine) (q:Jg p j cap g3 b3 b2 xs T Q)
  (k:∀d Y ds B r c,E3 K G r σ Y c->O8 K G X S Y c->Rep K Y (.ref d) (.lst ds) B->B.Nodup->(∀a∈B,X a=none/\∀i,a∉c i)->Q ds r->R (.ref d) Y):QY J g tc te (K5 cap σ) R X:=by
 intro d hd;obtain⟨W,w0,step,done⟩:=q.ex;have E1:E3 K G T σ (upd X d (.lst [])) S:=E.same (c9.e7 hd)
 refine⟨λi m H=>m=xs.length-i/\i<=xs.length/\∃r c I ds B,E3 K G r σ H c/\O8 K G X S H c/\(∃d,r[j]?=some (some d))/\H d=some (.lst I)/\(∀q,d∉c q)/\I.length<=i/\i5 K H I ds B/\B.Nodup/\d∉B/\(∀a∈B,X a=none/\∀q,a∉c q)/\W i ds r,
  ⟨xs.length,by simp,v5 _,T,S,[],[],[],E1,O8.same (c9.e7 hd),bi,c7,λq z=>E.there q z hd,oT _,.nil,sd,(by simp),(λa x=>by cases x),w0⟩,?_⟩
 rintro i m H ⟨rfl,ch,r,c,I,ds,B,E',c',bm,O,a1,cj,rs,nB,dB,hB,q⟩;have tf:Tf X H:=c'.stb.tf
 have kC:∀a∈C,H a=X a:=λa x=>by
  obtain⟨o,eo⟩:=Option.ne_none_iff_exists'.mp (tr a x);rw[eo];exact c'.frm a o eo λi hi=>ap i hi a x
 by_cases a4:i<xs.length
 ·right
  obtain⟨go,yl⟩:=(it H tf kC i).2 _ (nA a4);refine⟨go,λy H2 hy=>?_⟩;obtain⟨s2,By,rB,sB⟩:=yl y H2 hy;have E2:=(E'.same s2).Qy (cap:=cap) (p:=p) own hp hq
  have ad:∀a∈du cap r c p,a∈c j:=λa x=>by
   unfold du at x;split at x
   ·rw[hp] at x;exact x
   ·cases x
  refine hg (kg cap p) _ _ H2 _ y _ By _ _ rfl E2 rB (λl hl a x z=>?_) (step i _ ds r (nA a4) q) λa2 b9 b0 cd k3 cf q3=>?_
  ·have e:=aD hl;subst e;exact c'.apart tr ap j own a (sB.mem x) (ad a z)
  refine hc (kg cap p) b9 a2 H2 b0 _ _ rfl cd q3 λb H3 b8 bv E4 c4 q4=>?_;have bg:∀i,(kg cap p).own i->i=p:=λi h=>aD h;obtain⟨d0,e0⟩:=bm
  have b7:du cap r c p=c j:=by
   have:(T3 cap r)[p]?=some (some d0):=by
    unfold T3;rw[rx,hp];show some ((r[j]?).join)=_;rw[e0];rfl
   unfold du;rw[this,hp]
  have f3:b0 p=c j:=(k3 p a3).1.trans b7;have b1:a2[p]?=(K5 cap σ)[p]?:=(k3 p a3).2
  have al:∀{U:Hp} {fi:WQ} {ao:Ev} {l:D},E3 K (kg cap p) ao a2 U fi->O8 K (kg cap p) H2 b0 U fi->ao[p]?=some (some l) ->
    E3 K G (r.set j (some l)) σ U (λq=>if q=j then fi p else c q)/\O8 K G H c U (λq=>if q=j then fi p else c q):=λ{U fi ao l} Ei ci el=>
   Cw E' own hp ⟨d0,e0⟩ s2 Ei (λa o h n=>ci.frm a o h λi hi=>by rw[bg i hi,f3];exact n) ci.stb (λa x=>by rw[<-f3];exact ci.new p a3 a x) a3 b1 el
  have lj:j<r.length:=(List.getElem?_eq_some_iff.mp e0).1
  have ac:∀{fi:WQ} {U:Hp} {X':Addr},O8 K G H c U (λq=>if q=j then fi p else c q)->H X'≠none->(∀q,X'∉c q)->∀q,X'∉(if q=j then fi p else c q):=λ{fi U X'} cc ht b4 q z=>by
   by_cases a0:q=j
   ·rcases cc.new j own X' (by rw[ry rfl];rw[ry a0] at z;exact z) with y | y
    ·exact b4 j y
    ·exact ht y
   ·rw[ro a0] at z;exact b4 q z
  cases b with
  | false=>
   rw[ro rm];obtain⟨l,el,q5⟩:=o4 (q4.f rfl);obtain⟨Eo,co⟩:=al E4 c4 el;have M:H3 d=some (.lst I):=co.frm d _ O λi _=>a1 i;refine⟨xs.length-(i+1),by omega,rfl,a4,_,_,I,ds,B,Eo,c'.trans co,⟨l,v1 lj⟩,M,ac co (by rw[O];intro z;cases z) a1,by omega,?_,nB,dB,λa x=>⟨(hB a x).1,ac co (rs.there a x) (hB a x).2⟩,q5⟩
   exact rs.mono co.stb λa x=>by
    obtain⟨o,eo⟩:=dG.some (rs.dD a x);rw[eo];exact co.frm a o eo λi _=>(hB a x).2 i
  | true=>
   rw[ry rfl];refine he (kg cap p) b8 a2 H3 bv _ _ rfl E4 (q4.t rfl) λv U dv Bv ce ab E5 c5 rv nv mv q5=>?_;obtain⟨l,el,q5⟩:=o4 q5;have c3:=c4.trans c5;obtain⟨Eo,co⟩:=al E5 c3 el;have M:U d=some (.lst I):=co.frm d _ O λi _=>a1 i;have b5:=ac co (by rw[O];intro z;cases z) a1
   have bb:i5 K U I ds B:=rs.mono co.stb λa x=>by
    obtain⟨o,eo⟩:=dG.some (rs.dD a x);rw[eo];exact co.frm a o eo λi _=>(hB a x).2 i
   have bn:∀a∈B,X a=none/\∀q,a∉(if q=j then ab p else c q):=λa x=>⟨(hB a x).1,ac co (rs.there a x) (hB a x).2⟩
   have ca:∀a,H3 a=none->H a=none:=λa h=>s2.free (c4.stb.dom a h);have a5:∀a∈Bv,H a=none:=λa x=>ca a (mv a x).1
   have c0:∀a∈Bv,∀q,a∉(if q=j then ab p else c q):=λa x q z=>by
    by_cases a0:q=j
    ·rw[ry a0] at z;exact(mv a x).2 p z
    ·rw[ro a0] at z;exact E'.there q z (a5 a x)
   have am:d∉Bv:=λz=>by rw[a5 d z] at O;cases O
   have st:V2 U (upd U d (.lst (I++[v]))):=⟨λb ys h=>by
     by_cases e:b=d
     ·subst e;rw[M] at h;cases h
     ·rw[e9 e];exact h,λb u w' h=>by
     by_cases e:b=d
     ·subst e;rw[M] at h;cases h
     ·rw[e9 e];exact h,λb h=>by
     by_cases e:b=d
     ·subst e;rw[c7] at h;cases h
     ·rw[e9 e] at h;exact h⟩
   have Ef:E3 K G (r.set j (some l)) σ (upd U d (.lst (I++[v]))) (λq=>if q=j then ab p else c q):=Eo.away (A:=[d]) st (λa o h n=>by rw[e9 (by simpa using n)];exact h)
    (λq a x=>by
     have:a=d:=by simpa using x
     rw[this];exact b5 q)
    (λa x=>by
     have:a=d:=by simpa using x
     rw[this];exact E.stb.dom d hd)
    λa x=>by
     have:a=d:=by simpa using x
     rw[this];exact E.oZ hd
   have b6:O8 K G X S (upd U d (.lst (I++[v]))) (λq=>if q=j then ab p else c q):=by
    have ct:=c'.trans co;exact⟨λa o h n=>by rw[e9 (o6 h hd)];exact ct.frm a o h n,ct.stb.trans st,ct.new,ct.bor⟩
   refine⟨I,M,by omega,xs.length-(i+1),by omega,rfl,a4,_,_,I++[v],ds++[dv],B++(Bv++[]),Ef,b6,⟨l,v1 lj⟩,c7,b5,by rw[tt,wf];omega,?_,?_,?_,λa x=>?_,q5⟩
   ·exact(bb.mono st λa x=>e9 λe=>dB (e▸x)).append (.cons (rv.mono st λa x=>e9 λe=>am (e▸x)) .nil)
   ·rw[tz];refine List.nodup_append.mpr ⟨nB,nv,λa x b hb e=>?_⟩;subst e;exact rs.there a x (a5 a hb)
   ·rw[tz];exactλz=>(List.mem_append.mp z).elim dB am
   ·rw[tz] at x;rcases List.mem_append.mp x with z | z
    ·exact bn a z
    ·exact⟨c'.stb.dom a (a5 a z),c0 a z⟩
 ·have ei:i=xs.length:=by omega
  subst ei
  left
  refine⟨(it H tf kC _).1 rfl,k d H ds (d::B) r c E' c' (.lst O rs) (List.nodup_cons.mpr ⟨dB,nB⟩) (λa x=>?_) (done ds r q)⟩;rcases List.mem_cons.mp x with z | z
  ·rw[z];exact⟨hd,a1⟩
  ·exact hB a z
structure QM(X:Cx)(cl:List Cl)(es:WI)(u:sI):Prop where
 of ::
 run:∃t,uY X es t/\∀(G:Ent) (ρ:Ev) (σ:St) (H:Hp) (fa:WQ) (Q:Bool->Ev->Prop) (R:Bool->Hp->Prop),G.cl=cl->E3 X.K G ρ σ H fa->u ρ Q ->
  (∀b H' ρ' fa',E3 X.K G ρ' σ H' fa'->O8 X.K G H fa H' fa'->Q b ρ'->R b H')->t σ H R
section
variable{X:Cx}{cl:List Cl}{e:Expr}{pos:Pos}{XN N:WG}{XS scope:Scope}{cap:WB}{elt target iter:Expr}{ifs:WI}{ui:Md}{g3:af}{tc3:sI}{te3:TM}
def OJ:sI:=λa Q=>Q true a
theorem IA:QM X cl [] OJ:=.of ⟨_,wz,λG a d H c Q R _ E b k=>k true H a c E O8.refl b⟩
def uf(cap:WB)(p j:Nat):Bool:=(cap[p]? == some (some j))&&(List.range cap.length).all λq=>cap[q]? != some (some j)||q == p
theorem ze{cap:WB}{p j:Nat}(h:uf cap p j=true):cap[p]?=some (some j)/\∀q,cap[q]?=some (some j)->q=p:=by
 unfold uf at h;rw[uk] at h;refine⟨by simpa using h.1,λq e=>?_⟩;have a:q<cap.length:=(List.getElem?_eq_some_iff.mp e).1;have:=(List.all_eq_true.mp h.2) q (List.mem_range.mpr a);rw[e] at this;simpa using this
theorem Et{i:Nat}{y:Str}{h py:Pos}(p j:Nat)(U:X.N.Nodup)(z:X.N[i]?=some y)(hy:X.env.scope.names.lookup y=some .local)(Q:fT cl[i]? i=true)(hj:cl[j]?=some .own)(h1:uf cap p j=true)(h2:(N9 cap p)[p]?=some .own)
  (o:V4 XN N XS scope cap=true) (hN:X.N=XN) (hS:X.env.scope=XS) (hk:scope.kind=.function) (l:X.calm=true) (I:Rk X cl target iter ui)
  (M:∀c b s H,xV (y8 X N scope c b s H) (N9 cap p) target g3) (S:∀c b s H,QM (y8 X N scope c b s H) (N9 cap p) ifs tc3) (O:∀c b s H,PM (y8 X N scope c b s H) (N9 cap p) elt te3)
  (v:swapsWith (.ListComp elt [⟨target,iter,ifs,0⟩] scope pos) (some (.Name y py)) h.line X.env=pure true:=by rfl)
  (hs:∀x,foldedSetIterable iter X.env x=pure x:=by intro _;rfl):J5 X cl (.Assign [.Name y py] (.ListComp elt [⟨target,iter,ifs,0⟩] scope pos) h) (G4 i (SR p j cap ui g3 tc3 te3)):=.of<|by
 obtain⟨wi,pi,I⟩:=I.run;obtain⟨hp,hq⟩:=ze h1
 refine⟨_,kj (g:=λc b s H=>Classical.choose (M c b s H).run) (tc:=λc b s H=>Classical.choose (S c b s H).run) (te:=λc b s H=>Classical.choose (O c b s H).run) U z hy o hN hS hk l pi
  (λc b s H=>(ri (M c b s H).run).1) (λc b s H=>(ri (S c b s H).run).1) (λc b s H=>(ri (O c b s H).run).1) v hs,λG T ρ σ H fa R Y E hu le=>?_⟩
 have own:G.own j:=by unfold Ent.own;rw[Y];exact hj
 refine I G ρ σ H fa _ _ Y E hu λJ H1 xs C a1 a3 E1 c1 it tr ap q=>λc b u H'=>?_;obtain⟨d0,e0,q2⟩:=o4 q.2
 refine Tq (K:=X.K) own hp hq h2 ⟨d0,e0⟩ (ri (M c b u H').run).2 (ri (S c b u H').run).2 (ri (O c b u H').run).2 E1 it tr ap q.1 q2
  λd H2 ds B a0 a2 E2 c2 r n1 n2 q3=>?_
 exact le.nx _ _ ⟨_,_,E2.set (vv q3.1) r (fJ.new E2 E n1 (λa ha=>⟨c1.stb.dom a (n2 a ha).1,(n2 a ha).2⟩) (by rw[Y];exact iX Q)),q3.2⟩
end
end L3
namespace L2
open PySem PySem.Spec PyProof.Rows
section
variable{κ:Type}[DecidableEq κ]
def ah(kvs:List (κ×V))(k:κ):Option V:=(kvs.find? λa=>decide (a.1=k)).map (·.2)
def putK(kvs:List (κ×V))(k:κ)(v:V):List (κ×V):=
 if (kvs.any λa=>decide (a.1=k))=true then kvs.map (λa=>if a.1=k then(a.1,v) else a) else kvs++[(k,v)]
def Ke(kvs:List (κ×V))(k:κ):List (κ×V):=kvs.filter λa=>decide (a.1≠k)
theorem dm{p:κ×V}{r:List (κ×V)}{k:κ}(e:p.1=k):ah (p::r) k=some p.2:=by simp[ah,x0,e]
theorem aO{p:κ×V}{r:List (κ×V)}{k:κ}(e:¬p.1=k):ah (p::r) k=ah r k:=by simp[ah,x0,e]
theorem pK(k:κ):∀kvs:List (κ×V),(kvs.any λa=>decide (a.1=k))=(ah kvs k).isSome
 | []=>rfl
 | p::r=>by
  rw[Tk]
  by_cases e:p.1=k
  ·simp only[dm e,t6 e,Bool.true_or,Option.isSome_some]
  ·rw[aO e,vr e,Bool.false_or];exact pK k r
theorem D9(kvs:List (κ×V))(k:κ)(v:V):(putK kvs k v).length<=kvs.length+1:=by
 unfold putK;split
 ·rw[dL];omega
 ·rw[tt,vu,Ug];omega
theorem dC.V9{o:Option V}{u:WS}(r:dC o u):o.isSome=u.isSome:=by
 cases o with
 | none=>cases u with
  | none=>rfl
  | some _=>exact(show False from r).elim
 | some _=>cases u with
  | none=>exact(show False from r).elim
  | some _=>rfl
theorem dC.getD{o:Option V}{u:WS}{d:V}{d':Value}(r:dC o u)(a:RelV d d'):RelV (o.getD d) (u.getD d'):=by
 cases o with
 | none=>cases u with
  | none=>exact a
  | some _=>exact(show False from r).elim
 | some _=>cases u with
  | none=>exact(show False from r).elim
  | some _=>exact r
theorem KV.val{kvs:List (κ×V)}{vs:List (κ×Value)}(r:KV kvs vs)(k:κ):dC (ah kvs k) (valueAt vs k):=by
 unfold KV at r
 induction r with
 | nil=>exact True.intro
 | @cons p q j a h t g=>
  obtain⟨d,i⟩:=h
  by_cases e:p.1=k
  ·have c:q.1=k:=d.symm.trans e;have b:valueAt (q::a) k=some q.2:=by simp[valueAt,x0,c]
   rw[dm e,b];exact i
  ·have c:¬q.1=k:=λz=>e (d.trans z);have b:valueAt (q::a) k=valueAt a k:=by simp[valueAt,x0,c]
   rw[aO e,b];exact g
theorem KV.any{kvs:List (κ×V)}{vs:List (κ×Value)}(r:KV kvs vs)(k:κ):(kvs.any λa=>decide (a.1=k))=vs.any λa=>decide (a.1=k):=by
 unfold KV at r
 induction r with
 | nil=>rfl
 | cons h t b=>rw[Tk,Tk,b,h.1]
theorem KV.yY{kvs:List (κ×V)}{vs:List (κ×Value)}(r:KV kvs vs)(k:κ){y:V}{u:Value}(c:RelV y u) :
  KV (kvs.map λa=>if a.1=k then(a.1,y) else a) (vs.map λa=>if a.1=k then(a.1,u) else a):=by
 unfold KV at r ⊢
 induction r with
 | nil=>exact .nil
 | @cons p q j i h t d=>
  rw[sw,sw];refine .cons ?_ d;obtain⟨b,g⟩:=h
  by_cases e:p.1=k
  ·rw[ry e,ry (b.symm.trans e)];exact⟨b,c⟩
  ·rw[ro e,ro (λz=>e (b.trans z))];exact⟨b,g⟩
theorem KV.put{kvs:List (κ×V)}{vs:List (κ×Value)}(r:KV kvs vs)(k:κ){y:V}{u:Value}(a:RelV y u):KV (putK kvs k y) (stored vs k u):=by
 unfold putK stored;rw[r.any k]
 by_cases e:(vs.any λb=>decide (b.1=k))=true
 ·rw[ry e,ry e];exact r.yY k a
 ·rw[ro e,ro e];exact Paired.snoc r ⟨rfl,a⟩
theorem KV.drop{kvs:List (κ×V)}{vs:List (κ×Value)}(r:KV kvs vs)(k:κ):KV (Ke kvs k) (without vs k):=by
 unfold KV at r ⊢;unfold Ke without
 induction r with
 | nil=>exact .nil
 | @cons p q l j h t d=>
  obtain⟨c,g⟩:=h;rw[Rl,Rl]
  by_cases e:p.1=k
  ·have a:¬decide (p.1≠k)=true:=by simp[e]
   have b:¬decide (q.1≠k)=true:=by simp[c.symm.trans e]
   rw[ro a,ro b];exact d
  ·have i:¬q.1=k:=λz=>e (c.trans z);have a:decide (p.1≠k)=true:=by simp[e]
   have b:decide (q.1≠k)=true:=by simp[i]
   rw[ry a,ry b];exact .cons ⟨c,g⟩ d
theorem KV.keys{kvs:List (κ×V)}{vs:List (κ×Value)}(r:KV kvs vs):kvs.map (·.1)=vs.map (·.1):=by
 unfold KV at r
 induction r with
 | nil=>rfl
 | cons h t a=>rw[sw,sw,a,h.1]
theorem KV.length{kvs:List (κ×V)}{vs:List (κ×Value)}(r:KV kvs vs):kvs.length=vs.length:=VJ r
end
theorem Z8{P:Program}{w:World}{k:Key}{u:Value}(r:RelV (kV k) u):(i7 P w).is k u=true:=by
 cases k with
 | inl i=>obtain⟨t,e⟩:=(show ∃t,u=Value.int i t from r);subst e;exact qU P w i t
 | inr x=>obtain⟨t,e⟩:=(show ∃t,u=Value.str x t from r);subst e;exact oR P w x t
theorem kL{P:Program}{w:World}:∀{a:List Key} {b:WH},Vals (a.map kV) b->ItemsAre (i7 P w) a b
 | [],_,r=>by rw[UG] at r;cases r;exact .nil
 | k::a,_,r=>by
  rw[sw] at r
  cases r with
  | cons h t=>exact .cons (Z8 h) (kL t)
abbrev KT(H:Hp):List (List Key×V)->List (List Key×Addr×Value)->Prop:=Paired λp q=>p.1=q.1/\H q.2.1=some (.tup (p.1.map kV))/\RelV p.2 q.2.2
theorem KT.val{H:Hp}{kvs:List (List Key×V)}{xs:List (List Key×Addr×Value)}(r:KT H kvs xs)(k:List Key):dC (ah kvs k) ((atKey xs k).map (·.2)):=by
 induction r with
 | nil=>exact True.intro
 | @cons p q j a h t g=>
  obtain⟨d,_,i⟩:=h
  by_cases e:p.1=k
  ·have c:q.1=k:=d.symm.trans e;have b:atKey (q::a) k=some q.2:=by simp[atKey,x0,c]
   rw[dm e,b];exact i
  ·have c:¬q.1=k:=λz=>e (d.trans z);have b:atKey (q::a) k=atKey a k:=by simp[atKey,x0,c]
   rw[aO e,b];exact g
theorem KT.yY{H:Hp}{kvs:List (List Key×V)}{xs:List (List Key×Addr×Value)}(r:KT H kvs xs)(k:List Key){y:V}{u:Value}(d:RelV y u) :
  KT H (kvs.map λb=>if b.1=k then(b.1,y) else b) (xs.map (putAt k u)):=by
 induction r with
 | nil=>exact .nil
 | @cons p q l j h t g=>
  rw[sw,sw];refine .cons ?_ g;obtain⟨a,c,i⟩:=h;unfold putAt
  by_cases e:p.1=k
  ·rw[ry e,ry (a.symm.trans e)];exact⟨a,c,d⟩
  ·rw[ro e,ro (λz=>e (a.trans z))];exact⟨a,c,i⟩
theorem KT.put{H:Hp}{kvs:List (List Key×V)}{xs:List (List Key×Addr×Value)}(r:KT H kvs xs)(k:List Key){b:Addr}{y:V}{u:Value}(d:H b=some (.tup (k.map kV)))(a:RelV y u) :
  KT H (putK kvs k y) (storedH xs k b u):=by
 have e:(kvs.any λc=>decide (c.1=k))=(atKey xs k).isSome:=by
  rw[pK,(r.val k).V9,UN]
 unfold putK storedH;rw[e]
 by_cases q:(atKey xs k).isSome=true
 ·rw[ry q,ry q];exact r.yY k a
 ·rw[ro q,ro q];exact Paired.snoc r ⟨rfl,d,a⟩
theorem KT.keeps{H a:Hp}{kvs:List (List Key×V)}{xs:List (List Key×Addr×Value)}(r:KT H kvs xs)(c:∀b ys,H b=some (.tup ys)->a b=some (.tup ys)):KT a kvs xs:=
 Paired.LM r λ_ _ z=>⟨z.1,c _ _ z.2.1,z.2.2⟩
section
variable{P:Program}{w:World}{H:Hp}{h:Heap}{a:Addr}
theorem Qo{u:HO}(ok:U8 P w H h)(e:Rd H a u):p4 P w H h a u:=e.ok ok
def Nw(H:Hp)(a:Addr)(kvs:List (Key×V)):Prop:=Rd H a (.dK kvs)\/∃b,H a=some (.dE kvs b)
theorem Nw.of{H:Hp}{a:Addr}{kvs:List (Key×V)}(r:Dd H a kvs):Nw H a kvs:=r.elim (λh=>.inl (.inl h)) .inr
theorem Nw.ok{P:Program}{w:World}{H:Hp}{h:Heap}{a:Addr}{kvs:List (Key×V)}(r:Nw H a kvs)(x:U8 P w H h):p4 P w H h a (.dK kvs):=r.elim (λh=>h.ok x) λh=>(show Dd H a kvs from .inr h).ok x
theorem bx{kvs:List (Key×V)}(ok:U8 P w H h)(e:Nw H a kvs):kvs.length<=sizeLine/\(a == sysModules)=false/\∃vs,KV kvs vs/\h.DictOf (i7 P w) a vs:=
 show p4 P w H h a (.dK kvs) from e.ok ok
theorem yh{kvs:List (Key×V)}(ok:U8 P w H h)(e:H a=some (.dK kvs)):kvs.length<=sizeLine/\(a == sysModules)=false/\∃vs,KV kvs vs/\h.DictOf (i7 P w) a vs:=bx ok (.inl (.inl e))
theorem dQ{b:List Key}(ok:U8 P w H h)(e:H a=some (.tup (b.map kV))):(tupleKind (i7 P w)).is h b a:=by
 obtain⟨_,c,r,o,i,g,n,d⟩:=(show p4 P w H h a (.tup (b.map kV)) from ok a _ e)
 exact⟨o,c.toArray,n,i,g,d,by simpa using kL r⟩
theorem jm{kvs:List (List Key×V)}(ok:U8 P w H h)(e:Rd H a (.dT kvs)):kvs.length<=sizeLine/\(a == sysModules)=false /\
  ∃xs,KT H kvs xs/\h.DictOfH (tupleKind (i7 P w)) a xs:=by
 obtain⟨z,y,xs,r,o,B,C,v,u,j,i,g⟩:=(show p4 P w H h a (.dT kvs) from Qo ok e)
 refine⟨z,y,xs,r,o,B,C,v,u,j,i,λx b=>?_,g⟩
 have all:∀{l:List (List Key×V)} {m:List (List Key×Addr×Value)},KT H l m->∀x∈m,(tupleKind (i7 P w)).is h x.1 x.2.1:=by
  intro l m q
  induction q with
  | nil=>intro x b;exact nomatch b
  | @cons p q G E c t d=>
   intro x b;rcases List.mem_cons.mp b with e | b
   ·subst e;exact dQ ok (by rw[<-c.1];exact c.2.1)
   ·exact d x b
 exact all r x b
theorem QD{kvs:List (List Key×V)}(ok:U8 P w H h)(e:H a=some (.dT kvs)):kvs.length<=sizeLine/\(a == sysModules)=false /\
  ∃xs,KT H kvs xs/\h.DictOfH (tupleKind (i7 P w)) a xs:=jm ok (.inl e)
end
def Y4(H:Hp)(a:Addr)(y:V)(r:Option V):Prop:=
 (∃c k,Nw H a c/\y=kV k/\r=ah c k)\/∃c k b,Rd H a (.dT c)/\y=.ref b/\H b=some (.tup (k.map kV))/\r=ah c k
def nR(H:Hp)(a:Addr)(y v:V)(d:Hp):Prop:=
 (∃c k,Dd H a c/\y=kV k/\c.length<sizeLine/\d=upd H a (.dK (putK c k v))) \/
 ∃c k b,H a=some (.dT c)/\y=.ref b/\H b=some (.tup (k.map kV))/\c.length<sizeLine/\d=upd H a (.dT (putK c k v))
theorem Y4.k{H:Hp}{a:Addr}{kvs:List (Key×V)}{k:Key}(e:Dd H a kvs):Y4 H a (kV k) (ah kvs k):=.inl ⟨kvs,k,.of e,rfl,rfl⟩
theorem Y4.t{H:Hp}{a b:Addr}{kvs:List (List Key×V)}{k:List Key}(e:H a=some (.dT kvs))(c:H b=some (.tup (k.map kV))):Y4 H a (.ref b) (ah kvs k):=.inr ⟨kvs,k,b,.inl e,rfl,c,rfl⟩
theorem nR.k{H:Hp}{a:Addr}{kvs:List (Key×V)}{k:Key}{v:V}(e:Dd H a kvs)(b:kvs.length<sizeLine):nR H a (kV k) v (upd H a (.dK (putK kvs k v))):=.inl ⟨kvs,k,e,rfl,b,rfl⟩
theorem nR.t{H:Hp}{a b:Addr}{kvs:List (List Key×V)}{k:List Key}{v:V}(e:H a=some (.dT kvs))(d:H b=some (.tup (k.map kV)))(c:kvs.length<sizeLine) :
  nR H a (.ref b) v (upd H a (.dT (putK kvs k v))):=.inr ⟨kvs,k,b,e,rfl,d,c,rfl⟩
section
variable{X:Cx}{pins:WA}{σ:St}{H:Hp}{s:Shared}{a:Addr}{y v:V}{u r:Value}{o:Option V}{A:Around}{E:WO}
theorem Inv.big(I:Inv X pins σ H s):sysModules<s.heap.objs.size:=by
 have h:mainGlobals<s.heap.objs.size:=(I.mod.glob.keeps I.bk).lt;exact Nat.lt_trans (by decide) h
theorem lI{Q:WO}(M:A.units+1<cLine)(I:Inv X pins σ H s)(g:Y4 H a y (some v))(G:RelV y u)(h:∀i C,Inv X pins σ H C->RelV v i->Q i C) :
  wpAny (model X.prog X.w) A (getItem (.ref a) u) Q E s:=by
 rcases g with⟨j,k,e,x,l⟩ | ⟨j,k,b,e,x,R,l⟩
 ·subst x;obtain⟨z,hd,vs,d,B⟩:=bx I.hok e;obtain⟨i,hw,c⟩:=dC.some_of (v:=v) (o:=valueAt vs k) (by rw[l];exact d.val k);exact wpAny_getItem_of (Z8 G) B.mapOf hw (h i _ (I.tok _) c)
 ·subst x;cases(show u=Value.ref b from G);obtain⟨z,hd,J,d,B⟩:=jm I.hok e;obtain⟨i,hw,c⟩:=dC.some_of (v:=v) (o:=(atKey J k).map (·.2)) (by rw[l];exact d.val k);obtain⟨p,O,q⟩:=Option.map_eq_some_iff.mp hw;refine wpAny_getItem_heap (Uw M) (dQ I.hok R) B O ?_;rw[q];exact h i _ (I.tok _) c
theorem Ru{Q:WO}(B:A.units+1<cLine)(I:Inv X pins σ H s)(g:Y4 H a y o)(x:RelV y u)(h:∀p,Inv X pins σ H p->Q (.bool o.isSome) p) :
  wpAny (model X.prog X.w) A (compareOp .In u (.ref a)) Q E s:=by
 rcases g with⟨d,k,e,i,l⟩ | ⟨d,k,b,e,i,C,l⟩
 ·subst i;obtain⟨z,hd,vs,c,j⟩:=bx I.hok e;refine wpAny_in_of (Z8 x) hd j.mapOf ?_;rw[<-(c.val k).V9,<-l];exact h _ (I.tok _)
 ·subst i;cases(show u=Value.ref b from x);obtain⟨z,hd,G,c,j⟩:=jm I.hok e;refine wpAny_in_heap (Uw B) (dQ I.hok C) hd j ?_;have q:=(c.val k).V9;rw[UN] at q;rw[<-q,<-l];exact h _ (I.tok _)
theorem Gg{Q:WO}(B:A.units+1<cLine)(I:Inv X pins σ H s)(g:Y4 H a y o)(x:RelV y u)(h:∀p,Inv X pins σ H p->Q (.bool (!o.isSome)) p) :
  wpAny (model X.prog X.w) A (compareOp .NotIn u (.ref a)) Q E s:=by
 rcases g with⟨d,k,e,i,l⟩ | ⟨d,k,b,e,i,C,l⟩
 ·subst i;obtain⟨z,hd,vs,c,j⟩:=bx I.hok e;refine wpAny_notIn_of (Z8 x) hd j.mapOf ?_;rw[<-(c.val k).V9,<-l];exact h _ (I.tok _)
 ·subst i;cases(show u=Value.ref b from x);obtain⟨z,hd,G,c,j⟩:=jm I.hok e;refine wpAny_notIn_heap (Uw B) (dQ I.hok C) hd j ?_;have q:=(c.val k).V9;rw[UN] at q;rw[<-q,<-l];exact h _ (I.tok _)
theorem bh{h':Heap}{t':Nat}{ob:HO}(I:Inv X pins σ H s)(c:dG (H a))(d:Heap.SameBut a s.heap h')(g:∃q,h'.get? a=some q)(new:p4 X.prog X.w (upd H a ob) h' a ob) :
  Inv X pins σ (upd H a ob) { s with heap:=h',toks:=t' }:=
 I.write (x:=a) (e:=a) c (.inl rfl) (λb q h z=>(d.2 b h).trans z) g new
theorem gL{P:Program}{w:World}{c:Hp}{h':Heap}{kvs:List (Key×V)}{vs:List (Key×Value)}(z:kvs.length<=sizeLine)(hd:(a == sysModules)=false)(b:KV kvs vs)(dd:h'.DictOf (i7 P w) a vs) :
  p4 P w c h' a (.dK kvs):=⟨z,hd,vs,b,dd⟩
theorem Inv.En{kvs:List (Key×V)}(I:Inv X pins σ H s)(e:H a=some (.dK kvs)):∃ep,Inv X pins σ (upd H a (.dE kvs ep)) s:=by
 obtain⟨z,hd,vs,c,d⟩:=yh I.hok e;obtain⟨ep,h⟩:=d.dictAt;exact⟨ep,I.write (x:=a) (e:=a) (h':=s.heap) (t':=s.toks) (o:=.dE kvs ep) (by rw[e];exact True.intro) (.inl rfl) (λb q i z=>z) (let ⟨q,_,_,g,_⟩:=d;⟨q,g⟩) ⟨z,hd,vs,c,h⟩⟩
theorem lC{Y:Hp}{Q:Unit->Shared->Prop}(hu:A.units+1<cLine)(I:Inv X pins σ H s)(g:nR H a y v Y)(R:RelV y u)(rv:RelV v r)(h:∀O,Inv X pins σ Y O->Q () O) :
  wpAny (model X.prog X.w) A (setItem (.ref a) u r) Q E s:=by
 rcases g with⟨i,k,e,G,l,J⟩ | ⟨i,k,b,e,G,U,l,J⟩
 ·subst G J;obtain⟨z,hd,vs,d,M⟩:=bx I.hok (.of e);have x:vs.length<=sizeLine:=by rw[<-d.length];exact z
  have C:(putK i k v).length<=sizeLine:=by have:=D9 i k v;omega
  refine wpAny_setItem_pairs (hsz:=x) (Z8 R) M λS j B=>h _ ?_;have he:∃q,S.get? a=some q:=let ⟨q,_,_,p,_⟩:=j;⟨q,p⟩;exact bh I e.mut B he (gL C hd (d.put k rv) j)
 ·subst G J;cases(show u=Value.ref b from R);obtain⟨z,hd,xs,d,M⟩:=QD I.hok e;have x:xs.length<=sizeLine:=by rw[<-VJ d];exact z
  have C:(putK i k v).length<=sizeLine:=by have:=D9 i k v;omega
  refine wpAny_setItem_heap (hsz:=x) (Uw hu) (dQ I.hok U) M λS j B=>h _ ?_;obtain⟨q,es,ep,p,h2,h3,h4,_,h5⟩:=j;refine bh I (by rw[e];exact True.intro) B ⟨q,p⟩ ⟨C,hd,_,(d.put k U rv).keeps λc ys T=>?_,q,es,ep,p,h2,h3,h4,h5⟩;rw[e9 (oA T e (λz=>nomatch z))];exact T
end
section
variable{X:Cx}{pins:WA}{σ:St}{H:Hp}{s:Shared}{a:Addr}{kvs:List (Key×V)}{k:Key}{u:Value}{A:Around}{E:WO}
end
theorem qw{X:Cx}{pins:WA}{σ:St}{H:Hp}{s:Shared}{a:Addr}{y:V}{o:Option V}(I:Inv X pins σ H s)(g:Y4 H a y o):s.TypeIs (.ref a) "dict":=by
 rcases g with⟨c,k,e,_,_⟩ | ⟨c,k,b,e,_,_,_⟩
 ·obtain⟨_,_,vs,_,d⟩:=bx I.hok e;exact d.typeIs
 ·obtain⟨_,_,h,_,d⟩:=jm I.hok e;exact d.typeIs
def QB(e ty d:TE):TS:=λD b H=>d b H λv i=>e b i λx h=>ty b h λy g=>∃a c,x=.ref a/\nR g a y v c/\D.nx b c
def Pu(h ty g:TE)(i:V->V->Hp->VK->Prop):TS:=λD b H=>h b H λx o=>ty b o λy d=>∃a v,x=.ref a/\Y4 d a y (some v) /\
 g b d λe l=>i v e l λz j=>∃c,nR j a y z c/\D.nx b c
section
variable{X:Cx}{o i e value:Expr}{pos pos' tpos:Pos}{td ty tv:TE}
theorem GI(E:X.A.units+1<cLine)(J:PE X o td)(M:PE X i ty)(C:PE X value tv)(G:swapsWith value (some (.Subscript o i pos')) pos.line X.env=pure false) :
  PS X (.Assign [.Subscript o i pos'] value pos) (QB td ty tv):=by
 refine .of ?_;intro b s c H D I h;refine wpAny_Assign_Subscript (p9 (C b s c H _ I h) λr j ⟨v,Y,S,rv,B⟩=>p9 (J b j c Y _ S B) λu d ⟨x,U,R,p,z⟩=>p9 (M b d c U _ R z) λiv s3 ⟨y,H3,Q,l,a,T,ex,g,q⟩=>?_) G;subst ex;obtain rfl:u=Value.ref a:=p;exact lC E Q g l rv λs4 O=>⟨c,T,O,q⟩
theorem Gx{C:Operator}{B:V->V->Hp->VK->Prop}(E:X.A.units+1<cLine)(ho:PE X o td)(hi:PE X i ty)(hv:PE X value tv)(q:Ry X C B)
  (ha:∀j d new,augStore i j d new=(do holding [new,j,d] (setItem j d new);release [new,j,d] [];pure .next)):PS X (.AugAssign (.Subscript o i tpos) C value pos) (Pu td ty tv B):=by
 refine .of ?_;intro b s c H D I h;refine wpAny_AugAssign_SubscriptAny (p9 (ho b s c H _ I h) λu R ⟨x,H1,I1,T,q1⟩=>p9 (hi b R c H1 _ I1 q1) λd s2 ⟨y,H2,I2,r,a,v,ex,g,q2⟩=>?_) ha;subst ex;obtain rfl:u=Value.ref a:=T;refine lI E I2 g r λM Q I3 p=>p9 (hv b Q c H2 _ I3 q2) λJ O ⟨G,H3,I4,l,Y⟩=>p9 (q b O c H3 v G M J _ I4 p l Y) λw3 s5 ⟨z,H4,I5,S,H5,g5,U⟩=>?_;exact lC E I5 g5 r S λs6 I6=>⟨c,H5,I6,U⟩
end
theorem aG{P:Program}{w:World}{H:Hp}(h:Heap)(a:sysModules<h.objs.size):p4 P w H (h.push { cls:=.type "dict",data:=.dict #[] }) h.objs.size (.dK []):=
 ⟨v5 _,beq_eq_false_iff_ne.mpr (Da (t8 a)),[],.nil,Heap.DictOf.new h⟩
def Mo:TE:=λ_ H Q=>∀p,H p=none->Q (.ref p) (upd H p (.dK []))
section
variable{X:Cx}{pos:Pos}
theorem Cc:PE X (.Dict [] [] pos) Mo:=.of <| λb s c H Q I h=>
 wpAny_Dict_empty ⟨.ref s.heap.objs.size,_,I.laid (a:=s.heap.objs.size) (o:=.dK []) (t':=s.toks) (λ_ _ q=>hD _ q) (oT _) (aG s.heap I.big),rfl,h _ (I.hok.fresh (oT _))⟩
end
def tW:List (TE×TE)->St->Hp->(List (V×V)->Hp->Prop)->Prop
 | [],_,H,Q=>Q [] H
 | (tk,b)::r,a,H,Q=>tk a H λx g=>b a g λy e=>tW r a e λc d=>Q ((x,y)::c) d
abbrev VV:List (V×V)->List (Value×Value)->Prop:=Paired λp q=>RelV p.1 q.1/\RelV p.2 q.2
def Rb(X:Cx)(e:Pos)(keys:List (Option Expr))(a:WI)(d:List (TE×TE)):Prop:=
 ∀(b:WA) (s:Shared) (c:St) (H:Hp) (Q:List (V×V)->Hp->Prop),Inv X b c H s->tW d c H Q ->
  wpAny (model X.prog X.w) X.A (evalPairs (pairTrees keys a X.env e)) (λvs i=>∃g h,Inv X b c h i/\VV g vs/\Q g h) X.xe s
theorem Hr{X:Cx}{a:Pos}:Rb X a [] [] []:=λb s c H Q I h=>pairTrees_nil_walk ⟨[],H,I,.nil,h⟩
theorem CZ{X:Cx}{c:Pos}{k v:Expr}{i:List (Option Expr)}{vs:WI}{tk g:TE}{b:List (TE×TE)}(G:PE X k tk)(C:PE X v g)(E:Rb X c i vs b) :
  Rb X c (some k::i) (v::vs) ((tk,g)::b):=λa s d H Q I h=>
 pairTrees_cons_walk (p9 (G a s d H _ I h) λu l ⟨x,T,O,p,z⟩=>p9 (C a l d T _ O z) λY j ⟨y,S,M,o,r⟩=>
  p9 (E a j d S _ M r) λU s3 ⟨B,R,J,e,q⟩=>⟨(x,y)::B,R,J,.cons ⟨p,o⟩ e,q⟩)
def A3(kvs more:List (Key×V)):List (Key×V):=more.foldl (λa b=>putK a b.1 b.2) kvs
theorem KV.merge:∀{more:List (Key×V)} {a:List (Key×Value)} {kvs:List (Key×V)} {vs:List (Key×Value)},KV more a->KV kvs vs->KV (A3 kvs more) (merged vs a):=by
 intro more a kvs vs r;unfold KV at r
 induction r generalizing kvs vs with
 | nil=>intro q;exact q
 | @cons p q g d h t c=>
  intro b
  have e:KV (putK kvs p.1 p.2) (stored vs q.1 q.2):=by
   have:=b.put p.1 h.2;rw[<-h.1];exact this
  exact c e
theorem U6:∀(more kvs:List (Key×V)),(A3 kvs more).length<=kvs.length+more.length
 | [],kvs=>by show kvs.length<=kvs.length+0;omega
 | p::r,kvs=>by
  have b:=U6 r (putK kvs p.1 p.2);have a:=D9 kvs p.1 p.2;show(A3 (putK kvs p.1 p.2) r).length<=_;rw[vu];omega
theorem hX{P:Program}{w:World}:∀{kvs:List (Key×V)} {e:List (Value×Value)},VV (kvs.map λg=>(kV g.1,g.2)) e->∃d,Carries (i7 P w) e d/\KV kvs d
 | [],_,r=>by rw[UG] at r;cases r;exact⟨[],True.intro,.nil⟩
 | p::kvs,_,r=>by
  rw[sw] at r
  cases r with
  | @cons a b l bs h t=>
   obtain⟨d,c,q⟩:=hX (P:=P) (w:=w) t;obtain⟨j,i⟩:=b;exact⟨(p.1,i)::d,⟨Z8 h.1,rfl,c⟩,.cons ⟨rfl,h.2⟩ q⟩
def QA(b:List (TE×TE)):TE:=λe H Q=>∀p,H p=none->tW b e (upd H p (.dK [])) λg d=>d p=some (.dK [])/\∃a:List (Key×V),g=a.map (λc=>(kV c.1,c.2))/\a.length<=15/\Q (.ref p) (upd d p (.dK (A3 [] a)))
theorem HD{X:Cx}{g:Pos}{keys:List (Option Expr)}{b:WI}{d:List (TE×TE)}(h:Rb X g keys b d)(l:keys.all (·.isSome)=true)(S:keys.length=b.length)(Y:keys≠[])
  (u:keys.length<=15):PE X (.Dict keys b g) (QA d):=by
 refine .of ?_;intro i s x H Q I q;have R:=I.hok.fresh (oT s.heap.objs.size);have I1:=I.laid (a:=s.heap.objs.size) (o:=.dK []) (h':=s.heap.push { cls:=.type "dict",data:=.dict #[] }) (t':=s.toks) (λ_ _ q=>hD _ q) (oT _) (aG s.heap I.big);refine wpAny_Dict_walk (knd:=i7 X.prog X.w) l S Y u (p9 (h i _ x _ _ I1 (q _ R)) λws s2 ⟨ps,H2,v,r,e,j,ep,lk,G⟩=>?_);subst ep;obtain⟨B,c,C⟩:=hX (P:=X.prog) (w:=X.w) r;obtain⟨z,hd,y,E,dd⟩:=yh v.hok e;cases E;refine⟨B,c,dd,λh' p M=>⟨.ref s.heap.objs.size,_,?_,rfl,G⟩⟩
 have J:(A3 [] j).length<=sizeLine:=by
  have U:=U6 j [];rw[Ug] at U;rw[GM];omega
 have T:∃q,h'.get? s.heap.objs.size=some q:=let ⟨q,_,_,O,_⟩:=p;⟨q,O⟩;exact bh v (by rw[e];exact True.intro) M T (gL J hd (C.merge .nil) p)
structure M2(X:Cx)(o:Expr)(m:Str)(apos:Pos)(e f:Expr)(cpos:Pos):Prop where
 base:attributeBase o m X.env (eval o X.env)=eval o X.env
 few:((backTo cpos (starEach [e,f] X.env)).all (λx=>!x.1)&&(backToKw cpos (keywordEach [] X.env)).all (λx=>x.1.isSome)
  && decide (([e,f]:WI).length+([]:List Keyword).length+(if ([]:List Keyword).isEmpty then 0 else 1)<30))=true
 line:(apos.endLine == cpos.line)=true
 trees:backTo cpos (starEach [e,f] X.env)=[(false,eval e X.env),(false,eval f X.env)]
def SG(H:Hp)(a:Addr):Prop:=(∃b,Nw H a b)\/∃b,Rd H a (.dT b)
theorem MJ{X:Cx}{pins:WA}{σ:St}{H:Hp}{s:Shared}{a:Addr}(I:Inv X pins σ H s)(d:SG H a) :
  s.TypeIs (.ref a) "dict" /\ (∀b,Value.ref a=.ref b->∃ob,s.heap.get? b=some ob/\ob.dict=none)/\(a == sysModules)=false:=by
 rcases d with⟨g,e⟩ | ⟨g,e⟩
 ·obtain⟨_,hd,vs,_,c⟩:=bx I.hok e;refine⟨c.typeIs,λb q=>?_,hd⟩;cases q;obtain⟨ob,_,_,i,h,_⟩:=c;exact⟨ob,i,h.2.1⟩
 ·obtain⟨_,hd,j,_,c⟩:=jm I.hok e;refine⟨c.typeIs,λb q=>?_,hd⟩;cases q;obtain⟨ob,_,_,i,h,_⟩:=c;exact⟨ob,i,h.2.1⟩
section
variable{X:Cx}{pins:WA}{σ:St}{H:Hp}{s:Shared}{a:Addr}{y d:V}{u r:Value}{o:Option V}{A:Around}{E:WO}
theorem NF{Q:WO}(G:A.units+1<cLine)(I:Inv X pins σ H s)(g:Y4 H a y o)(x:RelV y u)(B:RelV d r)(h:∀q v,Inv X pins σ H v->RelV (o.getD d) q->Q q v) :
  wpAny (model X.prog X.w) A (call (.builtin "dict.get") [.ref a,u,r]) Q E s:=by
 rcases g with⟨j,k,e,p,l⟩ | ⟨j,k,b,e,p,J,l⟩
 ·subst p;obtain⟨z,hd,vs,c,i⟩:=bx I.hok e;refine VY Sc i.typeIs Um (Uj _ _ _) (Vr (i7 X.prog X.w) a (Z8 x) hd r) ⟨_,i.mapOf,h _ _ (I.tok _) ?_⟩;rw[l];exact(c.val k).getD B
 ·subst p;cases(show u=Value.ref b from x);obtain⟨z,hd,C,c,i⟩:=jm I.hok e;refine VY Sc i.typeIs Um (Uj _ _ _) (meetsH_dict_get_default (tupleKind (i7 X.prog X.w)) a b hd r) ⟨Uw G,k,C,dQ I.hok J,i,h _ _ (I.tok _) ?_⟩;rw[l];exact(c.val k).getD B
end
section
variable{X:Cx}{o e f:Expr}{apos cpos:Pos}{td ty tx:TE}
end
section
variable{X:Cx}{pins:WA}{σ:St}{H:Hp}{s:Shared}{a:Addr}{kvs:List (Key×V)}{A:Around}{E:WO}
end
section
variable{X:Cx}{pins:WA}{σ:St}{H:Hp}{s:Shared}{a:Addr}{y:V}{u:Value}{A:Around}{E:WO}
end
section
variable{X:Cx}
end
section
variable{κ:Type}[DecidableEq κ]
end
theorem Ny{P:Program}{w:World}{h:Heap}{a:Addr}{f:Key->WS}(m:h.MapOf (i7 P w) a f):h.MapOf (aB P w) a (λk=>k.bind f):=by
 obtain⟨o,d,u,r,p,l,g,j⟩:=m;refine⟨o,d,u,r,p,l,λe c=>?_,λk=>?_⟩
 ·obtain⟨k,b,v⟩:=g e c;exact⟨some k,b,v⟩
 ·cases k with
  | some k=>exact j k
  | none=>
   show findBy iL d none=none
   have no:∀e∈d,iL none e.key=false:=λe c=>by
    cases q:iL none e.key with
    | false=>rfl
    | true=>
     obtain⟨k,b,_⟩:=g e c;rw[A4 q] at b;rcases l6 (show aM k Value.none=true from b) with⟨i,t,_,e⟩ | ⟨x,t,_,e⟩<;>cases e
   unfold findBy;simp;exact no
def Fm(H:Hp)(a:Addr)(y:V)(r:Option V):Prop:=Y4 H a y r\/(y=.l3/\(∃b,Dd H a b)/\r=none)
def FV(g ty e:TE):TE:=λb H Q=>g b H λx d=>∃a,x=.ref a/\SG d a/\ty b d λy h=>e b h λz c=>∃o,Fm c a y o/\Q (o.getD z) c
theorem zJ {X:Cx} {o e f:Expr} {i c:Pos} {r ty q:TE} (hu:X.A.units+1<cLine) (ho:PE X o r) (he:PE X e ty) (hf:PE X f q) (m:M2 X o "get" i e f c):PE X (.Call (.Attribute o "get" i) [e,f] [] c) (FV r ty q):=by
 refine .of ?_;intro b s j H Q I h;refine wpAny_Call_method m.base m.few m.line PySem.F.plainAttrs_dict Sc PySem.F.type_dict_get (p9 (ho b s j H _ I h) λu S ⟨x,H1,G,T,a,ex,d,q1⟩=>?_);subst ex;obtain rfl:u=Value.ref a:=T;obtain⟨O,M,_⟩:=MJ G d;refine⟨O,M,?_⟩;rw[m.trees]
 refine UB rfl (UL (Ux (p9 (he b S j H1 _ G q1) λiv R ⟨y,H2,I2,B,Y⟩=>
  Ux (p9 (hf b R j H2 _ I2 Y) λfv s3 ⟨z,J,p,v,ov,g,C⟩=>Wb ?_))))
 rcases g with g | ⟨rfl,⟨a0,hk⟩,rfl⟩
 ·exact NF hu p g B v λw' s4 I4 l=>⟨_,J,I4,l,C⟩
 ·cases B;obtain⟨zz,hd,vs,U,E⟩:=bx p.hok (.of hk);refine VY Sc E.typeIs Um (Uj _ _ _) (Vr (aB X.prog X.w) (k:=none) a (by rfl) hd fv) ⟨_,Ny E.mapOf,⟨_,J,p.tok _,v,C⟩⟩
def Oc(Q:VK):VK:=λv b=>∃p a,v=.ref p/\b p=some (.dK a)/\∀c,Q v (upd b p (.dE a c))
def Ends.Oc(D:Ends):Ends:={ D with nx:=λb c=>∃p a,c p=some (.dK a)/\∀d,D.nx b (upd c p (.dE a d)) }
section
variable{X:Cx}
theorem sR{e:Expr}{t:TE}(h:PE X e t):PE X e (λσ H Q=>t σ H (Oc Q)):=by
 refine .of ?_;intro a s σ H Q I q;exact p9 (h a s σ H _ I q) λv o ⟨x,u,l,b,p,d,r,i,c⟩=>let ⟨g,j⟩:=l.En i;⟨x,_,j,b,c g⟩
theorem CY{f:Value}{r:List V->Hp->VK->Prop}(h:D4 X f r):D4 X f (λxs H Q=>r xs H (Oc Q)):=by
 intro a s b H xs c Q I rv q;exact p9 (h a s b H xs c _ I rv q) λv u ⟨x,z,o,d,p,g,y,j,e⟩=>let ⟨i,l⟩:=o.En j;⟨x,_,l,d,e i⟩
theorem uR{st:Stmt}{t:TS}(h:PS X st t):PS X st (λD σ H=>t D.Oc σ H):=by
 refine .of ?_;intro a s σ H D I q;refine p9 (h a s σ H _ I q) λf o b=>?_
 cases f with
 | next=>
  obtain⟨c,r,l,p,g,e,d⟩:=b;obtain⟨i,j⟩:=l.En e;exact⟨_,_,j,d i⟩
 | brk=>exact b
 | cont=>exact b
 | ret v=>exact b
end
theorem Qx{P:Program}{w:World}{k:Key}{u:Value}(h:(i7 P w).is k u=true):RelV (kV k) u:=by
 rcases l6 (show aM k u=true from h) with⟨i,t,rfl,rfl⟩ | ⟨x,t,rfl,rfl⟩
 ·exact⟨t,rfl⟩
 ·exact⟨t,rfl⟩
end L2
namespace L3
open PySem PySem.Spec L2
def V0:D->Option Key
 | .int i=>some (.inl i)
 | .str x=>some (.inr x)
 | _=>none
def x3(kvs:List (Key×D))(k:Key):Option D:=(kvs.find? λa=>decide (a.1=k)).map (·.2)
def putD(kvs:List (Key×D))(k:Key)(v:D):List (Key×D):=
 if (kvs.any λa=>decide (a.1=k))=true then kvs.map (λa=>if a.1=k then(a.1,v) else a) else kvs++[(k,v)]
section
variable{K:WR}{H:Hp}
theorem u7.val:∀{kvs:List (Key×V)} {a:List (Key×D)} {A:WE} (k:Key),u7 K H kvs a A->(∀d,x3 a k=some d->∃v B,ah kvs k=some v/\Rep K H v d B/\B.Sublist A)/\(x3 a k=none->ah kvs k=none)
 | _,_,_,k,.nil=>⟨λd e=>by simp[x3] at e,λ_=>rfl⟩
 | _,_,_,k,.cons (k:=c) (A:=A) (B:=B) h r=>by
  obtain⟨i,g⟩:=r.val k
  by_cases e:c=k
  ·subst e;refine⟨λd e=>?_,λe=>?_⟩
   ·simp[x3,x0] at e;subst e;exact⟨_,_,dm rfl,h,UU _ _⟩
   ·simp[x3,x0] at e
  ·have l:∀(x:D) (j:List (Key×D)),x3 ((c,x)::j) k=x3 j k:=λx j=>by simp[x3,x0,e]
   refine⟨λd b=>?_,λb=>?_⟩
   ·rw[l] at b;obtain⟨v,B,u,q,o⟩:=i d b;exact⟨v,B,by rw[aO (p:=(c,_)) e];exact u,q,o.trans (UM _ _)⟩
   ·rw[l] at b;rw[aO (p:=(c,_)) e];exact g b
theorem u7.any{kvs:List (Key×V)}{a:List (Key×D)}{A:WE}(k:Key)(r:u7 K H kvs a A):(kvs.any λb=>decide (b.1=k))=a.any λb=>decide (b.1=k):=
 r.ind (P:=λkvs a _=>(kvs.any λb=>decide (b.1=k))=a.any λb=>decide (b.1=k)) rfl λ_ _ e=>by rw[Tk,Tk,e]
theorem u7.length{kvs:List (Key×V)}{c:List (Key×D)}{A:WE}(r:u7 K H kvs c A):kvs.length=c.length:=r.ind (P:=λa b _=>a.length=b.length) rfl λ_ _ e=>Fa (·+1) e
theorem u7.C9{kvs:List (Key×V)}{a:List (Key×D)}{A:WE}(r:u7 K H kvs a A):(a.all λb=>u9 b.2)=true->A=[]:=
 r.ind (P:=λ_ a A=>(a.all λb=>u9 b.2)=true->A=[]) (λ_=>rfl) λh _ j e=>by
  rw[TN,uk] at e;rw[h.C9 e.1,j e.2];rfl
theorem u7.yY{v:V}{d:D}(k:Key)(rv:Rep K H v d []):∀{kvs:List (Key×V)} {b:List (Key×D)} {A:WE},u7 K H kvs b A->∃C,u7 K H (kvs.map λa=>if a.1=k then(a.1,v) else a) (b.map λa=>if a.1=k then(a.1,d) else a) C/\C.Sublist A
 | _,_,_,.nil=>⟨[],.nil,Us _⟩
 | _,_,_,.cons (k:=i) (A:=A) (B:=B) h r=>by
  obtain⟨C,g,c⟩:=u7.yY k rv r;rw[sw,sw]
  by_cases e:i=k
  ·rw[ry e,ry e];exact⟨[]++C,.cons rv g,c.trans (UM _ _)⟩
  ·rw[ro e,ro e];exact⟨A++C,.cons h g,c.append_left A⟩
theorem u7.snoc{kvs:List (Key×V)}{c:List (Key×D)}{A B:WE}{k:Key}{v:V}{d:D}(r:u7 K H kvs c A)(rv:Rep K H v d B):u7 K H (kvs++[(k,v)]) (c++[(k,d)]) (A++B):=by
 refine r.ind (P:=λa b A=>u7 K H (a++[(k,v)]) (b++[(k,d)]) (A++B)) ?_ λh _ i=>by rw[wh];exact .cons h i
 have q:=u7.cons (k:=k) rv u7.nil;rw[tz] at q;exact q
theorem u7.put{kvs:List (Key×V)}{a:List (Key×D)}{A:WE}{v:V}{d:D}(k:Key)(r:u7 K H kvs a A)(rv:Rep K H v d []):∃C,u7 K H (putK kvs k v) (putD a k d) C/\C.Sublist A:=by
 unfold putK putD;rw[r.any k]
 by_cases e:(a.any λb=>decide (b.1=k))=true
 ·rw[ry e,ry e];exact r.yY k rv
 ·rw[ro e,ro e];have q:=r.snoc (k:=k) rv;rw[tz] at q;exact⟨A,q,Us _⟩
theorem aR{v:V}{a:List (Key×D)}{A:WE}(h:Rep K H v (.dic a) A):∃p kvs B,v=.ref p/\Dd H p kvs/\u7 K H kvs a B/\A=p::B:=by
 cases h with
 | dic h r=>exact⟨_,_,_,rfl,.inr ⟨_,h⟩,r,rfl⟩
theorem pV{v:V}{a:List (Key×D)}{A:WE}(h:Rep K H v (.dic a) A):∃p kvs ep B,v=.ref p/\H p=some (.dE kvs ep)/\u7 K H kvs a B/\A=p::B:=by
 cases h with
 | dic h r=>exact⟨_,_,_,_,rfl,h,r,rfl⟩
theorem V2.NV{p:Addr}{o:HO}(m:dG (H p)):V2 H (upd H p o):=⟨λb a h=>by
  by_cases e:b=p
  ·subst e;rw[h] at m;exact m.elim
  ·rw[e9 e];exact h,λb u c h=>by
  by_cases e:b=p
  ·subst e;rw[h] at m;exact m.elim
  ·rw[e9 e];exact h,λb h=>by
  by_cases e:b=p
  ·subst e;rw[c7] at h;cases h
  ·rw[e9 e] at h;exact h⟩
theorem xJ{c:Hp}{d ep:Nat}{acc:List (Key×V)}{ds:List (Key×D)}(g:c9 c H)(hd:c d=none)(i:H d=some (.dK acc))(r:u7 K H acc ds []):c9 c (upd H d (.dE acc ep))/\Rep K (upd H d (.dE acc ep)) (.ref d) (.dic ds) [d]:=by
 refine⟨λb o e=>?_,.dic c7 (r.mono (V2.NV (by rw[i];exact True.intro)) λa h=>by cases h)⟩;rw[e9 (o6 e hd)];exact g _ _ e
theorem N7{v:V}{d:D}{A:WE}{k:Key}(h:Rep K H v d A)(e:V0 d=some k):v=kV k:=by
 cases h<;>first | cases e | skip
 ·rfl
 ·rfl
end
section
variable{X:Cx}{cl:List Cl}{e a b c:Expr}{f:Fl}{pos:Pos}{ua ub uc:TU}{ma mb mc:TM}{fa fb fc:Fl}{x:Str}{i:Nat}
theorem xP:PU X cl (.Dict [] [] pos) .fresh (uC (.dic [])):=.of<|by
 refine⟨_,sR Cc,λG l j H o Q R _ E g k=>λp d=>⟨p,[],rfl,c7,λq=>?_⟩⟩;rw[Y7];refine k _ _ _ [p] (c9.e7 d) (.dic c7 .nil) ⟨by simp,λa h=>?_⟩ g;have:a=p:=by simpa using h
 rw[this];exact d
def Kw:D->D->(D->Prop)->Prop:=λd y Q=>match d with
 | .dic g=>∃k v,V0 y=some k/\x3 g k=some v/\Q v
 | _=>False
theorem FX{H:Hp}{v w:V}{d e:D}{A B:WE}{Q:D->Prop}(r:Rep X.K H v d A)(o:Rep X.K H w e B)(q:Kw d e Q):∃a u z C,v=.ref a/\Y4 H a w (some u)/\Rep X.K H u z C/\C.Sublist A/\Q z:=by
 cases d<;>first | exact(show False from q).elim | skip
 rename_i g
 obtain⟨k,z,I,E,q⟩:∃k v,V0 e=some k/\x3 g k=some v/\Q v:=q;obtain⟨p,y,M,rfl,G,j,rfl⟩:=aR r;cases N7 o I;obtain⟨u,C,J,l,h⟩:=(j.val k).1 z E;refine⟨p,u,z,C,rfl,?_,l,h.trans (TJ _ _),q⟩;rw[<-J];exact Y4.k G
def AS:D->D->D->(D->Prop)->Prop:=λd y z Q=>match d with
 | .dic g=>match y with
  | .l3=>u9 z=true/\Q z
  | y=>∃k,V0 y=some k/\u9 ((x3 g k).getD z)=true/\Q ((x3 g k).getD z)
 | _=>False
def Qt:D->Bool
 | .dic _=>true
 | _=>false
def ju(ua ub uc:TU):TU:=λd Q=>ua d λx=>Qt x=true/\ub d λy=>uc d λz=>AS x y z Q
theorem Bt{H:Hp}{v w u:V}{d e z:D}{A B C:WE}{Q:D->Prop}(R:Rep X.K H v d A)(M:Rep X.K H w e B)(E:Rep X.K H u z C)(q:AS d e z Q):∃a o y,v=.ref a/\Fm H a w o/\Rep X.K H (o.getD u) y []/\Q y:=by
 cases d<;>first | exact(show False from q).elim | skip
 rename_i h
 obtain⟨p,l,Y,rfl,O,I,rfl⟩:=aR R
 have go:∀k,V0 e=some k->u9 ((x3 h k).getD z)=true->Q ((x3 h k).getD z)->∃a o y,V.ref p=.ref a/\Fm H a w o/\Rep X.K H (o.getD u) y []/\Q y:=λk j g q=>by
  cases N7 M j;refine⟨p,ah l k,_,rfl,.inl (Y4.k O),?_,q⟩
  cases G:x3 h k with
  | none=>
   rw[(I.val k).2 G];rw[G] at g;have r:=E.C9 g;subst r;exact E
  | some y=>
   obtain⟨T,U,S,J,_⟩:=(I.val k).1 y G;rw[S];rw[G] at g;have r:=J.C9 g;subst r;exact J
 cases e with
 | l3=>
  have q:u9 z=true/\Q z:=q;cases cJ M;have r:=E.C9 q.1;subst r;exact⟨p,none,z,rfl,.inr ⟨rfl,⟨l,O⟩,rfl⟩,E,q.2⟩
 | int i=>obtain⟨k,j,g,q⟩:=q;exact go k j g q
 | str i=>obtain⟨k,j,g,q⟩:=q;exact go k j g q
 | _=>obtain⟨k,j,g,q⟩:=q;cases j
theorem cB {h:Pos} (hu:X.A.units+1<cLine) (Y:PU X cl a fa ua) (U:PU X cl b fb ub) (T:PU X cl c fc uc) (m:M2 X a "get" h b c pos):PU X cl (.Call (.Attribute a "get" h) [b,c] [] pos) .fresh (ju ua ub uc):=.of<|by
 obtain⟨ta,pa,Y⟩:=Y.run;obtain⟨tb,pb,U⟩:=U.run;obtain⟨tc,pc,T⟩:=T.run;refine⟨_,zJ hu pa pb pc m,λG l j H fo Q R hG E S k=>Y G l j H fo _ _ hG E S λv H1 d A I r1 f1 M=>?_⟩;obtain⟨hd,M⟩:=M;cases d<;>first | cases hd | skip
 have J:=r1;obtain⟨p,O,B',rfl,hp,rs,rfl⟩:=aR r1;refine⟨p,rfl,.inl ⟨O,.of hp⟩,U G l j H1 fo _ _ hG (E.same I) M λw H2 e B r r2 f2 q2=>T G l j H2 fo _ _ hG (E.same (I.trans r)) q2 λu H3 z C q r3 f3 q3=>?_⟩;obtain⟨p',o,y,ep,g,r4,q4⟩:=Bt ((J.same r).same q) (r2.same q) r3 q3;cases ep;exact⟨o,g,k _ H3 y [] ((I.trans r).trans q) r4 (y3.nil _) q4⟩
def LU(i:Nat)(y d:D)(h:Ev)(Q:Ev->Prop):D->Prop
 | .dic g=>∃k,V0 y=some k/\g.length<sizeLine/\Q (h.set i (some (.dic (putD g k d))))
 | _=>False
def bN(i:Nat)(l mk:TM):g4:=λT j=>l j λd h=>u9 d=true/\a7 i h λ_=>mk h λy g=>a7 i g (LU i y d g T.nx)
theorem eJ{M tp:Pos}{Y:Expr}{mk:TM}(hu:X.A.units+1<cLine)(i:Nat)(hv:PE X (.Name x M) (bq i))(hi:cl[i]?=some .own)(he:PN X cl e ma)(hk:PN X cl Y mk)(hs:swapsWith e (some (.Subscript (.Name x M) Y tp)) pos.line X.env=pure false:=by rfl) :
  J5 X cl (.Assign [.Subscript (.Name x M) Y tp] e pos) (bN i ma mk):=.of<|by
 obtain⟨t,p,h⟩:=he.run;obtain⟨t2,p2,h2⟩:=hk.run;refine⟨_,uR (GI hu hv p2 p hs),λG T ρ σ H fa R hG E a0 le=>?_⟩;have own:G.own i:=by unfold Ent.own;rw[hG];exact hi
 refine h G ρ σ H fa _ _ hG E a0 λw H1 d B1 J a1 E1 c1 r1 n1 q=>?_;obtain⟨im,q⟩:=q;have eB:=r1.C9 im;subst eB;obtain⟨l0,e0,q⟩:=o4 q;obtain⟨v,r,r0⟩:=E1.rep i l0 e0;refine⟨_,r,h2 G J σ H1 a1 _ _ hG E1 q λwk H2 dk Bk o y E2 c2 rk nk q=>?_⟩;obtain⟨l1,e1,q⟩:=o4 q;obtain⟨v',j,r2⟩:=E2.rep i l1 e1;have ev:v'=v:=by rw[r] at j;cases j;rfl
 subst ev;cases l1<;>first | exact(show False from q).elim | skip
 rename_i g
 obtain⟨k,hk,hn,q⟩:∃k,V0 dk=some k/\g.length<sizeLine/\T.nx (o.set i (some (.dic (putD g k d)))):=q;obtain⟨p,U,B,rfl,hp,rs,eA⟩:=aR r2;cases N7 rk hk;have Q:Rep X.K H2 w d []:=c2.keep r1 λi _ a l=>(by cases l)
 have nd:=E2.nd i (.inl own);have pin:p∈y i:=by rw[eA];exact re
 rw[eA] at nd;obtain⟨np,S⟩:=List.nodup_cons.mp nd;obtain⟨C,rC,O⟩:=rs.put k Q;have u:p∉C:=λz=>np (O.mem z);have rn:∀I,Rep X.K (upd H2 p (.dE (putK U k w) I)) (.ref p) (.dic (putD g k d)) (p::C):=λI=>.dic c7 (rC.mono (V2.NV hp.mut) λa l=>e9 λe=>u (e▸l))
 have n3:∀a∈p::C,a∈y i:=λa l=>by
  rcases List.mem_cons.mp l with z | z
  ·exact z▸pin
  ·rw[eA];exact hQ _ (O.mem z)
 have li:i<o.length:=(List.getElem?_eq_some_iff.mp e1).1;refine⟨p,_,rfl,nR.k hp (by rw[rs.length];exact hn),p,_,c7,λI=>?_⟩;rw[Y7];exact le.nx _ _ ⟨_,_,E2.put own li j pin T7 (by rw[c7];exactλz=>nomatch z) (rn I) (List.nodup_cons.mpr ⟨u,S.sublist O⟩) λa l=>.inl (n3 a l),q⟩
theorem i5.rev{K:WR}{H:Hp}:∀{vs:List V} {ds:List D} {A:WE},i5 K H vs ds A->∃B,i5 K H vs.reverse ds.reverse B/\(∀a,a∈B ↔ a∈A)/\(A.Nodup->B.Nodup)
 | _,_,_,.nil=>⟨[],.nil,λ_=>Vq,λh=>h⟩
 | _,_,_,.cons (A:=A) (B:=B) h r=>by
  obtain⟨C,g,d,n1⟩:=r.rev;refine⟨C++(A++[]),by rw[UP,UP];exact g.append (.cons h .nil),λa=>?_,λn=>?_⟩
  ·rw[tz,Vh,Vh,d a];exact Or.comm
  ·rw[tz];obtain⟨l,j,dj⟩:=List.nodup_append.mp n;exact List.nodup_append.mpr ⟨n1 j,l,λa p b o e=>dj b o a ((d a).mp p) e.symm⟩
end
section
variable{X:Cx}{cl:List Cl}
theorem P1{b:WN}{c:Stmt}{a:g4}(e:b=[c])(d:J5 X cl c a):kJ X cl b a:=by
 rw[e];exact(eV d)
theorem wM{b:WN}{g d:Stmt}{c a:g4}(e:b=[g,d])(i:J5 X cl g c)(h:J5 X cl d a):kJ X cl b (e5 c a):=by
 rw[e];exact(w6 i (eV h))
theorem yd{b:WN}{i h g:Stmt}{d c a:g4}(e:b=[i,h,g])(o:J5 X cl i d)(l:J5 X cl h c)(j:J5 X cl g a):kJ X cl b (e5 d (e5 c a)):=by
 rw[e];exact(w6 o (w6 l (eV j)))
theorem FQ{b:WN}{l j i h:Stmt}{g d c a:g4}(e:b=[l,j,i,h])(r:J5 X cl l g)(q:J5 X cl j d)(p:J5 X cl i c)(o:J5 X cl h a):kJ X cl b (e5 g (e5 d (e5 c a))):=by
 rw[e];exact(w6 r (w6 q (w6 p (eV o))))
theorem JL{b:WN}{p o l j i:Stmt}{h g d c a:g4}(e:b=[p,o,l,j,i])(x:J5 X cl p h)(v:J5 X cl o g)(u:J5 X cl l d)(r:J5 X cl j c)(q:J5 X cl i a):kJ X cl b (e5 h (e5 g (e5 d (e5 c a)))):=by
 rw[e];exact(w6 x (w6 v (w6 u (w6 r (eV q)))))
theorem SS{b:WN}{r q p o l j:Stmt}{i h g d c a:g4}(e:b=[r,q,p,o,l,j])(B:J5 X cl r i)(z:J5 X cl q h)(y:J5 X cl p g)(x:J5 X cl o d)(v:J5 X cl l c)(u:J5 X cl j a):kJ X cl b (e5 i (e5 h (e5 g (e5 d (e5 c a))))):=by
 rw[e];exact(w6 B (w6 z (w6 y (w6 x (w6 v (eV u))))))
theorem Tb{b:WN}{v u r q p o l:Stmt}{j i h g d c a:g4}(e:b=[v,u,r,q,p,o,l])(G:J5 X cl v j)(E:J5 X cl u i)(C:J5 X cl r h)(B:J5 X cl q g)(z:J5 X cl p d)(y:J5 X cl o c)(x:J5 X cl l a):kJ X cl b (e5 j (e5 i (e5 h (e5 g (e5 d (e5 c a)))))):=by
 rw[e];exact(w6 G (w6 E (w6 C (w6 B (w6 z (w6 y (eV x)))))))
theorem Tc{b:WN}{y x v u r q p o:Stmt}{l j i h g d c a:g4}(e:b=[y,x,v,u,r,q,p,o])(J:J5 X cl y l)(I:J5 X cl x j)(H:J5 X cl v i)(G:J5 X cl u h)(E:J5 X cl r g)(C:J5 X cl q d)(B:J5 X cl p c)(z:J5 X cl o a):kJ X cl b (e5 l (e5 j (e5 i (e5 h (e5 g (e5 d (e5 c a))))))):=by
 rw[e];exact(w6 J (w6 I (w6 H (w6 G (w6 E (w6 C (w6 B (eV z))))))))
end
section
variable{X:Cx}{cl:List Cl}{a:Expr}{f:Fl}{pos:Pos}{ua:TU}
def yk:D->(D->Prop)->Prop
 | .int i,Q=>Q (.int (-i))
 | _,_=>False
def Ob(g:D->(D->Prop)->Prop)(ua:TU):TU:=λb Q=>ua b λd=>g d Q
theorem gJ(g:PU X cl a f ua):PU X cl (.UnaryOp .USub a pos) .fresh (Ob yk ua):=.of<|by
 obtain⟨t,p,h⟩:=g.run;refine⟨_,QK KN p,λG c b H j Q R i E e k=>h G c b H j _ _ i E e λv l d B s r _ q=>?_⟩;cases d<;>first | exact(show False from q).elim | skip
 cases r8 r;exact⟨_,rfl,k _ l _ [] s .int (y3.nil _) q⟩
end
abbrev T1:=zj λi j=>D.int (i-j)
abbrev Jh:=gI R4 λi j=>D.int (i/j)
abbrev iA:=gI (λ_ j=>0<j) λi j=>D.int (i%j)
abbrev Iv:=gI ae λi j=>D.int (i^j.toNat)
abbrev QP:=zj λi j=>D.bl (decide (i<j))
abbrev MW:=zj λi j=>D.bl (decide (j<i))
abbrev RU:=zj λi j=>D.bl (decide (j<=i))
theorem lK{i j:Nat}{ds:List D}{a:Ev}{Q:Ev->Prop}(h:u4 (g1 i) (u4 (g1 j) T8) ds a Q):ds.length=2:=by
 match ds,h with
 | [_,_],_=>rfl
 | [_],h=>exact h.2.elim
 | _::_::_::_,h=>exact h.2.2.elim
theorem OG{i j k:Nat}{ds:List D}{a:Ev}{Q:Ev->Prop}(h:u4 (g1 i) (u4 (g1 j) (u4 (g1 k) T8)) ds a Q):ds.length=3:=by
 match ds,h with
 | [_,_,_],_=>rfl
 | [_],h=>exact h.2.elim
 | [_,_],h=>exact h.2.2.elim
 | _::_::_::_::_,h=>exact h.2.2.2.elim
section
variable{X:Cx}{cl:List Cl}{e a b tg:Expr}{es:WI}{f:Fl}{pos pos':Pos}{ua ub:TU}{ma mb:TM}{fa fb:Fl}{x:Str}{i:Nat}
def Il(g:af)(u:TU):g4:=λT c=>u c λd=>g d c T.nx
theorem Cy{g:af}(O:PU X cl e f ua)(M:hZ f .stab=true)(J:xV X cl tg g)(mk:∀{te g},PE X e te->PG X tg g->PS X (.Assign [tg] e pos) (qp te g)):J5 X cl (.Assign [tg] e pos) (Il g ua):=.of<|by
 obtain⟨t,p,h⟩:=O.run;obtain⟨t2,C,Q⟩:=J.run;refine⟨_,mk p C,λG T o l H fa R u E I le=>h G o l H fa _ _ u E I λv U d B s r S q=>?_⟩;exact Q G o l U fa v d B _ _ u (E.same s) r (S.weak E M) q λy c j Y _ _ z=>le.nx _ _ ⟨c,j,Y,z⟩
def KJ(g:af)(u:TM):g4:=λT h=>u h λd c=>g d c T.nx
theorem Lc{g:af}(S:PN X cl e ma)(Q:xV X cl tg g)(mk:∀{te g},PE X e te->PG X tg g->PS X (.Assign [tg] e pos) (qp te g)):J5 X cl (.Assign [tg] e pos) (KJ g ma):=.of<|by
 obtain⟨t,p,h⟩:=S.run;obtain⟨t2,M,U⟩:=Q.run;refine⟨_,mk p M,λG T I y H fa R z E O le=>h G I y H fa _ _ z E O λv Y d B l u E' c r n q=>?_⟩;exact U G l y Y u v d B _ _ z E' r n q λC j o E2 _ _ J=>le.nx _ _ ⟨j,o,E2,J⟩
def JW(i:Nat)(g:Int->Int->Int)(u:TU):g4:=λT c=>a7 i c λx=>u c λy=>match x,y with
 | .int a,.int b=>Nat.blt i c.length=true/\T.nx (c.set i (some (.int (g a b))))
 | _,_=>False
theorem LB{g:Int->Int->Int}{o:Operator}(I:PU X cl e f ua)(J:cl[i]?=some .bor)(mk:∀{te},PE X e te->PS X (.AugAssign (.Name x pos') o e pos) (Qh i te (SQ g))):J5 X cl (.AugAssign (.Name x pos') o e pos) (JW i g ua):=.of<|by
 obtain⟨t,p,h⟩:=I.run;refine⟨_,mk p,λG T c z H fa R u E l le=>?_⟩;obtain⟨d,Q,l⟩:=o4 l;obtain⟨v,C,rv⟩:=E.rep i d Q;refine⟨v,C,h G c z H fa _ _ u E l λw Y y B s r U q=>?_⟩;cases d<;>cases y<;>first | exact(show False from q).elim | skip
 cases r8 rv;cases r8 r
 rename_i m n
 have q:Nat.blt i c.length=true/\T.nx (c.set i (some (.int (g m n)))):=q;have M:G.cl[i]?=some .bor:=by rw[u];exact J
 refine⟨m,n,rfl,rfl,le.nx _ _ ⟨_,_,(E.same s).set (B:=[]) (vv q.1) .int ⟨λj _ S a O=>(by cases O),by rw[M];trivial⟩,q.2⟩⟩
def Qu:D->D->(D->Prop)->Prop
 | .tup d,.tup c,Q=>u6 d=true/\u6 c=true/\d.length+c.length<=sizeLine/\Q (.tup (d++c))
 | _,_,_=>False
theorem KR:bu X Fh Qu:=by
 intro H v w d e A B Q R l j q k;cases d<;>cases e<;>first | exact q.elim | skip
 obtain⟨p,vs,rfl,I,g⟩:=K7 l;obtain⟨o,h,rfl,G,c⟩:=K7 j;obtain⟨y,u,C,q⟩:=q;have M:=g.C9 y;have J:=c.C9 u;subst M;subst J;exact⟨p,o,vs,h,rfl,rfl,I,G,by rw[g.length,c.length];exact C,λr O s z=>k _ _ _ [] s (.tup z ((g.same s).append (c.same s))) sd (λa E=>(by cases E)) q⟩
theorem i5.nums{K:WR}{H:Hp}:∀{bs:WJ} {vs:List V} {A:WE},i5 K H vs (bs.map D.int) A->vs=bs.map V.int
 | [],_,_,r=>by cases r;rfl
 | b::bs,_,_,r=>by
  cases r with
  | cons h t=>rw[r8 h,t.nums];rfl
end
end L3
namespace L2
open PySem PySem.Spec PyProof.Rows
theorem jW{prog:Program}{w:World}{A:Around}{R:Result->Shared->Prop}{s:Shared}{q j a d:Expr}{e:WI}{scope:Scope}{i:Pos}{it:Value}{D:Addr}{env:Env}(I:Nat->Shared->Prop)
  (g:∀n s,I n s->wpAny (model prog w) A (pyNext it) (λr p=>match r with
   | none=>R (.ok .next) p
   | some v=>wpAny (model prog w) A (letOwnedTupleGo a it v) (λ_ C=>wpAny (model prog w) A (assign a env v) (λ_ B=>
     wpAny (model prog w) A (forIn e true λc r=>if r=true then do let ok <-isTrue c env (eval c env);pure (ForInStep.yield ok) else pure (ForInStep.yield r)) (λok o=>
      if ok=true then wpAny (model prog w) A (eval q env) (λE z=>wpAny (model prog w) A (eval j env) (λu l=>
       wpAny (model prog w) A (dictSet D E u) (λ_ y=>∃m,m<n/\I m y) (λ_ _=>False) l) (λ_ _=>False) z) (λ_ _=>False) o
      else ∃m,m<n/\I m o) (λ_ _=>False) B) (λ_ _=>False) C) (λ_ _=>False) p) (λ_ _=>False) s)
  (n:Nat) (h:I n s) :
  codeAny (model prog w) A (.compLoop (.DictComp q j [⟨a,d,e,0⟩] scope i) 0 it (.ref D) env) R s:=by
 refine VX rfl I (λn s J=>?_) n h;show wpAny _ A ((compTurn (.DictComp q j [⟨a,d,e,0⟩] scope i) 0 it (.ref D) env).onRaise (λx=>do noteFrame x env;theTreesLotGoes x)) _ _ s;refine wpAny_noted ?_;rw[compTurn_dict];refine eH (KM (eH (v6 (g n s J) (λr p H=>?_) λ_ _ b=>b.elim)))
 cases r with
 | none=>exact hH H
 | some v=>
  refine eH (v6 H (λ_ C T=>?_) λ_ _ b=>b.elim);refine eH (v6 T (λ_ B S=>eH (v6 S (λok o G=>?_) λ_ _ b=>b.elim)) λ_ _ b=>b.elim)
  cases ok with
  | false=>exact hH ⟨rfl,G⟩
  | true=>
   exact eH (eH (v6 G (λE z Q=>eH (x2 (v6 Q (λu y O=>eH (KM (x2 (v6 O (λ_ U M=>hH ⟨rfl,M⟩) λ_ _ b=>b.elim)))) λ_ _ b=>b.elim))) λ_ _ b=>b.elim))
theorem yV{X:Cx}{pins:WA}{σ:St}{H:Hp}{s:Shared}{a:Addr}{v:V}{u r:Value}{A:Around}{E:WO}{kvs:List (Key×V)}{k:Key}{Q:Unit->Shared->Prop}(I:Inv X pins σ H s)(e:H a=some (.dK kvs))(l:kvs.length<sizeLine)(g:RelV (kV k) u)(rv:RelV v r)
  (h:∀d,Inv X pins σ (upd H a (.dK (putK kvs k v))) d->Q () d):wpAny (model X.prog X.w) A (dictSet a u r) Q E s:=by
 obtain⟨z,hd,vs,b,B⟩:=yh I.hok e;have i:vs.length<=sizeLine:=by rw[<-b.length];exact z
 have p:(putK kvs k v).length<=sizeLine:=by have:=D9 kvs k v;omega
 refine wpAny_dictSet_pairs (hsz:=i) (Z8 g) B λy c j=>h _ ?_;have x:∃q,y.get? a=some q:=let ⟨q,_,_,o,_⟩:=c;⟨q,o⟩;exact bh I (by rw[e];exact True.intro) j x (gL p hd (b.put k rv) c)
def RN(J:It)(g:TG)(tc:TT)(tk te:TE)(h:St)(Q:VK)(o:Hp):Prop:=∀d,o d=none ->
 ∃W:Nat->Nat->Hp->Prop,(∃m,W 0 m (upd o d (.dK [])))/\∀i m H,W i m H ->
  (J.stop i H/\Q (.ref d) H) \/
  (J.go i H/\∀x p,J.yld i H x p->g x h p λa u=>tc a u λb l=>
   if b=true then tk a l λq r=>te a r λv j=>∃c k,q=kV k/\j d=some (.dK c)/\c.length<sizeLine/\∃e,e<m/\W (i+1) e (upd j d (.dK (putK c k v)))
   else ∃e,e<m/\W (i+1) e l)
theorem lG{X:Cx}{N:WG}{scope:Scope}{cap:WB}{j:WE}{pins:WA}{σ:St}{H:Hp}{s:Shared}{kx vx z a2:Expr}{ab:WI}{ap:Pos}{g:WC->WE->Shared->Hp->TG}{tc:WC->WE->Shared->Hp->TT}{tk te:WC->WE->Shared->Hp->TE}{J:It}{it:Addr}{tn:Nat->Heap->Prop}
  {E:WO} {RR:Value->Addr->Result->Shared->Prop} {Q:VK} (U:X.calm=true) (cf:L0 X N scope cap) (hk:scope.kind=.function)
  (hg:∀cl j s H,PG (y8 X N scope cl j s H) z (g cl j s H)) (hc:∀cl j s H,uY (y8 X N scope cl j s H) ab (tc cl j s H)) (hx:∀cl j s H,PE (y8 X N scope cl j s H) kx (tk cl j s H)) (he:∀cl j s H,PE (y8 X N scope cl j s H) vx (te cl j s H))
  (I:Inv X pins σ H s) (T:Turn X.prog X.w X.K z J j it tn) (st:tn 0 s.heap) (hf:∀b∈j,L8 X pins H b) (q:∀cl j s B,RN J (g cl j s B) (tc cl j s B) (tk cl j s B) (te cl j s B) (K5 cap σ) Q H)
  (b9:∀d C B s' m,Inv X pins σ B s'->s'.heap.Ns C m->L8 X pins B C->Q (.ref d) B->RR (.ref d) C (.ok .next) s') :
  wpAny (model X.prog X.w) X.A newDict (λacc G=>wpAny (model X.prog X.w) X.A (newFunctionEnv scope X.env.globals (A2 X.env scope.names []) [] X.env.qual none .none (some X.env)) (λa3 s4=>
   codeAny (model X.prog X.w) X.A (.compStart (.DictComp kx vx [⟨z,a2,ab,0⟩] scope ap) 0 (.ref it) acc { a3 with scope:=relabel scope X.env }) (RR acc a3.locals) s4) E G) E s:=by
 refine ux (Vx cf.nocell (by intro y hy;simp at hy) (λh1 ad ac=>?_) hk);have I3:Inv X pins σ (upd H s.heap.objs.size (.dK [])) { s with heap:=s.heap.push { cls:=.type "dict",data:=.dict #[] } }:=I.laid (a:=s.heap.objs.size) (o:=.dK []) (t':=s.toks) (λ_ _ q=>hD _ q) (oT _) (aG s.heap I.big);have b8:H s.heap.objs.size=none:=I.fresh;obtain⟨W,⟨m0,w0⟩,a0⟩:=q (A2 X.env scope.names []) j { s with heap:=s.heap.push { cls:=.type "dict",data:=.dict #[] } } (upd H s.heap.objs.size (.dK [])) s.heap.objs.size b8
 have b0:∀b∈j,b<s.heap.objs.size:=λb l=>by
  obtain⟨o,e,_⟩:=T.obj 0 _ st b l;exact sK e
 have al:∀b∈j,L8 X pins (upd H s.heap.objs.size (.dK [])) b:=λb l=>⟨by rw[e9 (t8 (b0 b l))];exact(hf b l).1,(hf b l).2⟩
 have S:∀b∈j,b<(s.heap.push { cls:=.type "dict",data:=.dict #[] }).objs.size:=λb l=>by
  rw[Do];exact Ix (b0 b l)
 dsimp only at ad ac ⊢;generalize Y:({ s with heap:=s.heap.push { cls:=.type "dict",data:=.dict #[] } }:Shared)=G at I3 a0;have M:G.heap=s.heap.push { cls:=.type "dict",data:=.dict #[] }:=by rw[<-Y]
 have c0:G.toks=s.toks:=by rw[<-Y]
 rw[<-M] at ad ac S;have R:∀b o,G.heap.get? b=some o->h1.get? b=some o:=λb o e=>ac.extBut b o (t8 (sK e)) (hD _ e);have keep:∀b o,s.heap.get? b=some o->h1.get? b=some o:=λb o e=>R b o (by rw[M];exact hD _ e);have Ic:=gC (tk:=s.toks) I3 cf hk al S ad R;have ao:tn 0 h1:=T.keep 0 _ _ st λb _ o e=>keep b o e;have bg:∀b∈j,(upd H s.heap.objs.size (.dK [])) b=none:=λb l=>(al b l).1
 have O:∀{B:Hp},(∀b∈j,B b=none)->∀b∈j,L8 (y8 X N scope (A2 X.env scope.names []) j G (upd H s.heap.objs.size (.dK []))) [] B b:=λhn b l=>
  ⟨hn b l,t8 (S b l),Ic.ok.exfs b l,.inl l,λx c h=>(hf b l).2.2.2.2.1 x c (X2 h),λp hp=>absurd (show p∈([]:WA) from hp) (by simp)⟩
 have c5:G.os=s.os:=by rw[<-Y]
 have ca:G.gens=s.gens:=by rw[<-Y]
 have a1:codeAny (model X.prog X.w) X.A (.compLoop (.DictComp kx vx [⟨z,a2,ab,0⟩] scope ap) 0 (.ref it) (.ref s.heap.objs.size) (compEnvC scope (A2 X.env scope.names []) G.heap.objs.size X.env))
   (RR (.ref s.heap.objs.size) G.heap.objs.size) { G with heap:=h1,toks:=s.toks }:=by
  refine jW (λn s'=>∃i B,Inv (y8 X N scope (A2 X.env scope.names []) j G (upd H s.heap.objs.size (.dK []))) [] (K5 cap σ) B s'/\tn i s'.heap/\(∀b∈j,B b=none)/\W i n B) ?_ m0 ⟨0,_,Ic,ao,bg,w0⟩;rintro n s4 ⟨i,H4,I4,an,b3,w4⟩;rcases a0 i n H4 w4 with⟨stop,qn⟩ | ⟨go,step⟩
  ·refine p9 (T.done (y8 X N scope (A2 X.env scope.names []) j G (upd H s.heap.objs.size (.dK []))) rfl rfl rfl U i [] s4 _ H4 (λ_ _=>False) I4 (O b3) an stop) λr s5 ⟨hr,I5⟩=>?_;subst hr;obtain⟨m,b7,_⟩:=I5.loc;refine b9 _ _ H4 s5 m ?_ b7 (I3.fP (oT _) I5.free) qn;exact I3.CM I5.os I5.base I5.hok I5.bare λb l=>⟨(hf b l).2.2.2.1,(hf b l).2.1,(hf b l).2.2.2.2.1,(hf b l).2.2.2.2.2⟩
  ·refine p9 (T.item (y8 X N scope (A2 X.env scope.names []) j G (upd H s.heap.objs.size (.dK []))) rfl rfl rfl U i [] s4 _ H4 (λ_ _=>False) I4 (O b3) an go) λr s5 ⟨u,hr,h5⟩=>?_;subst hr;refine p9 h5 λ_ s6 ⟨x,H6,I6,r6,y6,a5,bb⟩=>?_;have bm:=I6.pinned (O bb) (T.obj _ _ a5);refine p9 (hg _ _ _ _ _ s6 _ H6 x u _ bm r6 (step x H6 y6)) λ_ s7 ⟨a4,H7,I7,q7⟩=>?_;refine p9 (hc _ _ _ _ _ s7 a4 H7 _ I7 q7) λok s8 ⟨H8,I8,q8⟩=>?_
   have again:∀{am:St} {H9:Hp} {s9:Shared},Inv (y8 X N scope (A2 X.env scope.names []) j G (upd H s.heap.objs.size (.dK []))) ([]++aA j s6.heap) am H9 s9->(∃m',m'<n/\W (i+1) m' H9) ->
     ∃m,m<n/\∃i B,Inv (y8 X N scope (A2 X.env scope.names []) j G (upd H s.heap.objs.size (.dK []))) [] (K5 cap σ) B s9/\tn i s9.heap/\(∀b∈j,B b=none)/\W i m B:=λ{am H9 s9} I9 ⟨m',hm,w9⟩=>by
    refine⟨m',hm,i+1,H9,eu I3 cf al I9.R1,T.keep _ _ _ a5 λb l o e=>(I9.pin (b,o) (rj _ (rj _ (A9 l e)))).1,λb l=>?_,w9⟩;obtain⟨o,e,d⟩:=T.obj _ _ a5 b l;exact(I9.pin (b,o) (rj _ (rj _ (A9 l e)))).2.1
   cases ok with
   | false=>exact again I8 q8
   | true=>
    show wpAny _ _ (eval kx _) _ _ s8;refine p9 (hx _ _ _ _ _ s8 a4 H8 _ I8 q8) λy0 b4 ⟨v0,bv,bi,b5,b6⟩=>?_;refine p9 (he _ _ _ _ _ b4 a4 bv _ bi b6) λy s9 ⟨v,H9,I9,r9,acc,k,ek,b2,b1,m',hm,w9⟩=>?_;subst ek;exact yV (X:=y8 X N scope (A2 X.env scope.names []) j G (upd H s.heap.objs.size (.dK []))) I9 b2 b1 b5 r9 λc3 bn=>again bn ⟨m',hm,w9⟩
 have e4:({ s with heap:=h1,toks:=s.toks+([]:WD).length }:Shared)={ G with heap:=h1,toks:=s.toks }:=by rw[<-Y];rfl
 rw[<-M,e4];exact codeAny_compStart_dict a1 (T.self _ 0 _ _ _ ao a1)
def QJ(cap:WB)(d:TI)(g:WC->WE->Shared->Hp->TG)(tc:WC->WE->Shared->Hp->TT)(tk te:WC->WE->Shared->Hp->TE):TE:=λc H Q=>d c H λJ e=>∀cl a s b,RN J (g cl a s b) (tc cl a s b) (tk cl a s b) (te cl a s b) (K5 cap c) Q e
theorem Ma{X:Cx}{XN N:WG}{XS scope:Scope}{cap:WB}{E B a c:Expr}{j:WI}{p:Pos}{z:TI}{g:WC->WE->Shared->Hp->TG}{tc:WC->WE->Shared->Hp->TT}{tk te:WC->WE->Shared->Hp->TE}
  (l:V4 XN N XS scope cap=true) (hN:X.N=XN) (hS:X.env.scope=XS) (G:scope.kind=.function) (i:X.calm=true) (hi:PI X a c z)
  (hg:∀cl b s H,PG (y8 X N scope cl b s H) a (g cl b s H)) (hc:∀cl b s H,uY (y8 X N scope cl b s H) j (tc cl b s H)) (S:∀cl b s H,PE (y8 X N scope cl b s H) E (tk cl b s H)) (he:∀cl b s H,PE (y8 X N scope cl b s H) B (te cl b s H))
  (U:∀x,foldedSetIterable c X.env x=pure x:=by intro _;rfl):PE X (.DictComp E B [⟨a,c,j,0⟩] scope p) (QJ cap z g tc tk te):=by
 refine .of ?_;intro e s y H Q I h;have r:=O0 hN hS l;rw[arm_eval_DictComp];refine TF (use:=none) rfl U (R0 (I.S3 r)) G r.loc (p9 (hi e s y H _ I h) λv s1 h1=>p9 h1 λR s2 h2=>?_);obtain⟨it,b,tn,J,H2,rfl,I2,T,o,f2,q⟩:=h2;exact lG (RR:=λu C=>compPost (model X.prog X.w) X.A X.xe none (EP X e y Q) u C) i r G hg hc S he I2 T o f2 q λd C H' s' m I' Y hC O=>⟨m,Y,λh' M=>⟨.ref d,H',I'.rD hC M,rfl,O⟩⟩
theorem yo{X:Cx}{i:Nat}{y:Str}{XN N:WG}{XS scope:Scope}{cap:WB}{O M b c:Expr}{o:WI}{r p E:Pos}{wi:TI}{g:WC->WE->Shared->Hp->TG}{tc:WC->WE->Shared->Hp->TT}{tk te:WC->WE->Shared->Hp->TE}
  (a0:X.N.Nodup) (Y:X.N[i]?=some y) (hy:X.env.scope.names.lookup y=some .local)
  (G:V4 XN N XS scope cap=true) (hN:X.N=XN) (hS:X.env.scope=XS) (hk:scope.kind=.function) (u:X.calm=true) (hi:PI X b c wi)
  (hg:∀cl j s H,PG (y8 X N scope cl j s H) b (g cl j s H)) (hc:∀cl j s H,uY (y8 X N scope cl j s H) o (tc cl j s H)) (hx:∀cl j s H,PE (y8 X N scope cl j s H) O (tk cl j s H)) (he:∀cl j s H,PE (y8 X N scope cl j s H) M (te cl j s H))
  (U:swapsWith (.DictComp O M [⟨b,c,o,0⟩] scope r) (some (.Name y E)) p.line X.env=pure true:=by rfl)
  (hs:∀x,foldedSetIterable c X.env x=pure x:=by intro _;rfl):PS X (.Assign [.Name y E] (.DictComp O M [⟨b,c,o,0⟩] scope r) p) (qp (QJ cap wi g tc tk te) (kh i)):=by
 refine .of ?_;intro l s σ H D I h;have cf:=O0 hN hS G;rw[Vv _ _ _ _ U];refine eH (KM (eH ?_));show wpAny _ X.A (do let _ <-comprehension (.DictComp O M [⟨b,c,o,0⟩] scope r) scope X.env _ newDict false (eval c X.env) (some (assign (.Name y E) X.env))) _ _ s
 refine eH (v6 (TF (use:=some (assign (.Name y E) X.env)) (Q:=λ_ B=>SP X l D .next B) rfl hs (R0 (I.S3 cf)) hk cf.loc (p9 (hi l s σ H _ I h) λv s1 h1=>p9 h1 λa2 s2 h2=>?_))
  (λ_ B hq=>hH (hH hq)) λ_ _ e=>e)
 obtain⟨it,j,tn,J,H2,rfl,I2,T,R,f2,q⟩:=h2;refine lG (RR:=λa1 C=>compPost (model X.prog X.w) X.A X.xe (some (assign (.Name y E) X.env)) (λ_ B=>SP X l D .next B) a1 C) u cf hk hg hc hx he I2 T R f2 q λd C H' B m I' hn hC q'=>?_;show wpAny _ _ (assign (.Name y E) X.env (.ref d)) _ _ B;refine Ve (aX (v:=.ref d) I' a0 Y (.inl hy) rfl (λs2 I2 ⟨a,sb,ha⟩=>⟨m,hn.sameBut sb ?_,λh' S=>⟨_,H',I2.rD hC S,q'⟩⟩) (.inr hy));rcases ha with z | z
 ·rw[z];exact hC.2.1
 ·exactλe=>hC.2.2.2.2.1 y a z e.symm
end L2
namespace L3
open PySem PySem.Spec L2
theorem u7.same{K:WR}{H b:Hp}(s:c9 H b){v:List (Key×V)}{d:List (Key×D)}{A:WE}(r:u7 K H v d A):u7 K b v d A:=
 r.mono (V2.of s) λa c=>by
  obtain⟨o,e⟩:=dG.some (r.dD a c);rw[e];exact s a o e
def nX(g:af)(tc:aj)(tk te:TU)(e:Ev):List D->List (Key×D)->(List (Key×D)->Prop)->Prop
 | [],a,Q=>Q a
 | x::h,a,Q=>g x e λc=>tc c λb=>Br b (tk c λy=>te c λd=>∃k,V0 y=some k/\u9 d=true/\nX g tc tk te e h (putD a k d) Q) (nX g tc tk te e h a Q)
def MV(cap:WB)(c:mj)(g:af)(tc:aj)(tk te:TU):TU:=λa Q=>c a λb=>b.length<sizeLine/\nX g tc tk te (T3 cap a) b [] λd=>Q (.dic d)
theorem SE{K:WR}{cap:WB}{g3:af}{a0:aj}{X Y:TU}{fk fv:Fl}{J:It}{g:TG}{tc:TT}{tk te:TE}{xs:List D}{C:WE}{c:Ev}{σ:St}{G:Ent}{z:Hp}{r:WQ}{Q:List (Key×D)->Prop}{R:VK}
  (hg:∀(G:Ent) (c:Ev) (σ:St) (H:Hp) (r:WQ) (v:V) (d:D) (B:WE) (Q:Ev->Prop) (R:St->Hp->Prop),G.cl=B0 cap->E3 K G c σ H r->Rep K H v d B->(∀i,G.own i->∀a∈B,a∉r i)->g3 d c Q ->
   (∀S U a3,E3 K G U S H a3->(∀i,G.own i->a3 i=r i/\S[i]?=σ[i]?)->(∀i,G.own i->U[i]?=c[i]?)->Q U->R S H)->g v σ H R)
  (hc:∀(G:Ent) (c:Ev) (σ:St) (H:Hp) (r:WQ) (Q:Bool->Prop) (R:Bool->Hp->Prop),G.cl=B0 cap->E3 K G c σ H r->a0 c Q->(∀b p,c9 H p->Q b->R b p)->tc σ H R)
  (hk:∀(G:Ent) (c:Ev) (σ:St) (H:Hp) (r:WQ) (Q:D->Prop) (R:VK),G.cl=B0 cap->E3 K G c σ H r->X c Q->(∀v p d B,c9 H p->Rep K p v d B->y3 G H r B fk->Q d->R v p)->tk σ H R)
  (he:∀(G:Ent) (c:Ev) (σ:St) (H:Hp) (r:WQ) (Q:D->Prop) (R:VK),G.cl=B0 cap->E3 K G c σ H r->Y c Q->(∀v p d B,c9 H p->Rep K p v d B->y3 G H r B fv->Q d->R v p)->te σ H R)
  (E:E3 K G c σ z r) (it:bj K J xs C z) (tr:∀a∈C,z a≠none) (hn:xs.length<sizeLine) (q:nX g3 a0 X Y (T3 cap c) xs [] Q)
  (k:∀d p acc ds,c9 z p->z d=none->p d=some (.dK acc)->u7 K p acc ds []->Q ds->R (.ref d) p):RN J g tc tk te (K5 cap σ) R z:=by
 intro d hd
 refine⟨λi m H=>m=xs.length-i/\i<=xs.length/\c9 z H/\∃acc ds,H d=some (.dK acc)/\acc.length<=i/\u7 K H acc ds []/\nX g3 a0 X Y (T3 cap c) (xs.drop i) ds Q,
  ⟨xs.length,by simp,v5 _,c9.e7 hd,[],[],c7,oT _,.nil,q⟩,?_⟩
 rintro i m H ⟨rfl,ab,s1,acc,ds,M,ac,rs,q⟩;have tf:Tf z H:=⟨λb ys h=>s1 _ _ h,λb o u h=>s1 _ _ h⟩
 have kC:∀a∈C,H a=z a:=λa ha=>by
  obtain⟨o,eo⟩:=Option.ne_none_iff_exists'.mp (tr a ha);rw[eo];exact s1 a o eo
 by_cases I:i<xs.length
 ·right
  obtain⟨go,yl⟩:=(it H tf kC i).2 _ (nA I);rw[Db I] at q;refine⟨go,λy H2 hy=>?_⟩;obtain⟨s2,By,rB,sB⟩:=yl y H2 hy;have E2:=(E.same (s1.trans s2)).comp cap;refine hg (X1 cap) _ _ H2 _ y _ By _ _ rfl E2 rB (λj hj=>(D7 hj).elim) q λO T a1 a2 _ _ q3=>?_;refine hc (X1 cap) T O H2 a1 _ _ rfl a2 q3 λb H3 s3 q4=>?_;have x:H3 d=some (.dK acc):=s3 _ _ (s2 _ _ M)
  cases b with
  | false=>
   rw[ro rm];exact⟨xs.length-(i+1),by omega,rfl,I,(s1.trans s2).trans s3,acc,ds,x,by omega,(rs.same s2).same s3,q4.f rfl⟩
  | true=>
   rw[ry rfl];refine hk (X1 cap) T O H3 a1 _ _ rfl (a2.same s3) (q4.t rfl) λvk H4 dk Bk s4 rk ad q5=>?_;refine he (X1 cap) T O H4 a1 _ _ rfl ((a2.same s3).same s4) q5 λv H5 dv Bv s5 rv fo q6=>?_;obtain⟨kk,ek,im,q6⟩:=q6;have l:H5 d=some (.dK acc):=s5 _ _ (s4 _ _ x);have a4:c9 z H5:=(((s1.trans s2).trans s3).trans s4).trans s5
   have st:V2 H5 (upd H5 d (.dK (putK acc kk v))):=⟨λb ys h=>by
     by_cases e:b=d
     ·subst e;rw[l] at h;cases h
     ·rw[e9 e];exact h,λb u w' h=>by
     by_cases e:b=d
     ·subst e;rw[l] at h;cases h
     ·rw[e9 e];exact h,λb h=>by
     by_cases e:b=d
     ·subst e;rw[c7] at h;cases h
     ·rw[e9 e] at h;exact h⟩
   have a5:=(((rs.same s2).same s3).same s4).same s5;have eB:=rv.C9 im;subst eB;obtain⟨C',rp,sC⟩:=a5.put kk rv;have eC:C'=[]:=List.sublist_nil.mp sC;subst eC;refine⟨acc,kk,N7 rk ek,l,by omega,xs.length-(i+1),by omega,rfl,I,λb o e=>?_,putK acc kk v,putD ds kk dv,c7,by have:=D9 acc kk v;omega,?_,q6⟩
   ·rw[e9 (o6 e hd)];exact a4 _ _ e
   ·exact rp.mono st λa ha=>by cases ha
 ·have ei:i=xs.length:=by omega
  subst ei
  left
  rw[Ud] at q;refine⟨(it H tf kC _).1 rfl,k d H acc ds s1 hd M rs q⟩
section
variable{X:Cx}{cl:List Cl}{pos:Pos}{f fk fv:Fl}{XN N:WG}{XS scope:Scope}{cap:WB}{kx vx target iter:Expr}{ifs:WI}{ui:mj}{g3:af}{tc3:aj}{tk3 te3:TU}
theorem KG(i:V4 XN N XS scope cap=true)(hN:X.N=XN)(hS:X.env.scope=XS)(hk:scope.kind=.function)(h:X.calm=true)(p:ak X cl target iter f ui)
  (u:∀c b s H,xV (y8 X N scope c b s H) (B0 cap) target g3) (y:∀c b s H,rX (y8 X N scope c b s H) (B0 cap) ifs tc3) (o:∀c b s H,PU (y8 X N scope c b s H) (B0 cap) kx fk tk3) (v:∀c b s H,PU (y8 X N scope c b s H) (B0 cap) vx fv te3)
  (hs:∀x,foldedSetIterable iter X.env x=pure x:=by intro _;rfl):PU X cl (.DictComp kx vx [⟨target,iter,ifs,0⟩] scope pos) .fresh (MV cap ui g3 tc3 tk3 te3):=.of<|by
 obtain⟨wi,U,p⟩:=p.run
 refine⟨_,sR<|Ma (g:=λc b s H=>Classical.choose (u c b s H).run) (tc:=λc b s H=>Classical.choose (y c b s H).run) (tk:=λc b s H=>Classical.choose (o c b s H).run) (te:=λc b s H=>Classical.choose (v c b s H).run) i hN hS hk h U
  (λc b s H=>(ri (u c b s H).run).1) (λc b s H=>(ri (y c b s H).run).1) (λc b s H=>(ri (o c b s H).run).1) (λc b s H=>(ri (v c b s H).run).1) hs,λG I B H fa Q R hG E hu k=>?_⟩
 refine p G I B H fa _ _ hG E hu λJ H1 xs C s Y tr fo q=>λc b j l=>?_;refine SE (K:=X.K) (ri (u c b j l).run).2 (ri (y c b j l).run).2 (ri (o c b j l).run).2 (ri (v c b j l).run).2 (E.same s) Y tr q.1 q.2 λd H2 z ds O hd e S T=>⟨d,z,rfl,e,λep=>?_⟩
 obtain⟨M,r⟩:=xJ (ep:=ep) O hd e S;exact k _ _ _ [d] (s.trans M) r ⟨by simp,λa ha=>by cases List.mem_singleton.mp ha;exact s.free hd⟩ T
theorem lY{i:Nat}{y:Str}{e py:Pos}(S:X.N.Nodup)(z:X.N[i]?=some y)(hy:X.env.scope.names.lookup y=some .local)(O:yw cl[i]? .fresh i=true)
  (l:V4 XN N XS scope cap=true) (hN:X.N=XN) (hS:X.env.scope=XS) (hk:scope.kind=.function) (j:X.calm=true) (B:ak X cl target iter f ui)
  (I:∀c b s H,xV (y8 X N scope c b s H) (B0 cap) target g3) (Q:∀c b s H,rX (y8 X N scope c b s H) (B0 cap) ifs tc3) (u:∀c b s H,PU (y8 X N scope c b s H) (B0 cap) kx fk tk3) (M:∀c b s H,PU (y8 X N scope c b s H) (B0 cap) vx fv te3)
  (v:swapsWith (.DictComp kx vx [⟨target,iter,ifs,0⟩] scope pos) (some (.Name y py)) e.line X.env=pure true:=by rfl)
  (hs:∀x,foldedSetIterable iter X.env x=pure x:=by intro _;rfl):J5 X cl (.Assign [.Name y py] (.DictComp kx vx [⟨target,iter,ifs,0⟩] scope pos) e) (o3 i (MV cap ui g3 tc3 tk3 te3)):=.of<|by
 obtain⟨wi,pi,B⟩:=B.run
 refine⟨_,uR<|yo (g:=λc b s H=>Classical.choose (I c b s H).run) (tc:=λc b s H=>Classical.choose (Q c b s H).run) (tk:=λc b s H=>Classical.choose (u c b s H).run) (te:=λc b s H=>Classical.choose (M c b s H).run) S z hy l hN hS hk j pi
  (λc b s H=>(ri (I c b s H).run).1) (λc b s H=>(ri (Q c b s H).run).1) (λc b s H=>(ri (u c b s H).run).1) (λc b s H=>(ri (M c b s H).run).1) v hs,λG T ρ σ H fa R hG E hu le=>?_⟩
 refine B G ρ σ H fa _ _ hG E hu λJ H1 xs C s it tr fo q=>λc b o p=>?_;refine SE (K:=X.K) (ri (I c b o p).run).2 (ri (Q c b o p).run).2 (ri (u c b o p).run).2 (ri (M c b o p).run).2 (E.same s) it tr q.1 q.2 λd H2 U ds s2 hd h rs Y=>⟨d,U,h,λep=>?_⟩
 obtain⟨s3,r⟩:=xJ (ep:=ep) s2 hd h rs;exact le.nx _ _ ⟨_,_,(E.same (s.trans s3)).set (vv Y.1) r (fJ.of (f:=.fresh) E ⟨by simp,λa ha=>by cases List.mem_singleton.mp ha;exact s.free hd⟩ (by rw[hG];exact O)),Y.2⟩
end
mutual
def pyd:D->PyData
 | .bl b=>.bool b
 | .int i=>.int i
 | .str x=>.str x
 | .tup xs=>.tuple (L7 xs)
 | .lst xs=>.list (L7 xs)
 | .fz xs=>.list (L7 xs)
 | _=>.none
def L7:List D->List PyData
 | []=>[]
 | x::xs=>pyd x::L7 xs
end
mutual
def FK:D->Bool
 | .l3=>true
 | .bl _=>true
 | .int _=>true
 | .str _=>true
 | .tup xs=>jJ xs
 | .lst xs=>jJ xs
 | .fz xs=>jJ xs
 | _=>false
def jJ:List D->Bool
 | []=>true
 | x::xs=>FK x&&jJ xs
end
section
variable{X:Cx}{pins:WA}{σ:St}{H:Hp}{s:Shared}
theorem aK(I:Inv X pins σ H s){v:V}{d:D}{A:WE}{u:Value}(h:Rep X.K H v d A):FK d=true->RelV v u->∃as,Reads s.heap u (pyd d) as:=by
 revert u
 have sq:∀{p:Addr} {vs:List V} {c:List D},G7 X.K H p vs->(∀u:WH,jJ c=true->Vals vs u->∃as,ReadsAll s.heap u (L7 c) as)->∀u:Value,jJ c=true->RelV (.ref p) u->∃as,Reads s.heap u (.list (L7 c)) as:=λ{p vs c} h i u q r=>by
  cases r;obtain⟨e,rv,pl,_⟩:=I.list h;obtain⟨o,g,l,n,hd⟩:=pl.isList;obtain⟨as,q⟩:=i _ q rv;exact⟨_,.list g l hd (by simpa using q)⟩
 intro u
 refine Rep.rec (motive_1:=λv d _ _=>∀u:Value,FK d=true->RelV v u->∃as,Reads s.heap u (pyd d) as) (motive_2:=λv d _ _=>∀u:WH,jJ d=true->Vals v u->∃as,ReadsAll s.heap u (L7 d) as) (motive_3:=λ_ _ _ _=>True)
  (λ_ _ r=>by cases r;exact⟨_,.none⟩) (λ_ _ r=>by cases r;exact⟨_,.bool _⟩) (λ_ _ r=>by obtain⟨t,rfl⟩:=r;exact⟨_,.int _ t⟩) (λ_ _ r=>by obtain⟨t,rfl⟩:=r;exact⟨_,.str _ t⟩) (λh _ i u q r=>?_)
  (λh _ i=>sq (G7.of h) i) (λh _ i=>sq h.sq i) ?_ ?_ ?_ ?_ ?_ ?_ (λ_ _ r=>by cases r;exact⟨_,.nil⟩) (λ_ _ i j u q r=>?_) trivial (λ_ _ _ _=>trivial) h u
 case refine_1=>
  cases r;obtain⟨e,rv,⟨o,g,l,n,hd⟩,_⟩:=I.tuple (P8.of h);obtain⟨as,q⟩:=i _ (by simpa[FK] using q) rv;exact⟨_,.tuple g l hd (by simpa using q)⟩
 case refine_8=>
  cases r with
  | cons a b=>
   simp only[jJ,uk] at q;obtain⟨as,y⟩:=i _ q.1 a;obtain⟨bs,x⟩:=j _ q.2 b;exact⟨_,.cons y x⟩
 all_goals intros;rename_i q _;simp[FK] at q
end
mutual
def O9:D->Bool
 | .l3=>true
 | .bl _=>true
 | .int i=>decide (i.natAbs<10^150)
 | .str x=>x.cps.toList.all λc=>decide (c<16^8)
 | .tup xs=>fE xs
 | .lst xs=>fE xs
 | .fz xs=>fE xs
 | _=>false
def fE:List D->Bool
 | []=>true
 | x::xs=>O9 x&&fE xs
end
mutual
theorem wK:∀d:D,O9 d=true->FK d=true
 | .l3,_=>rfl
 | .bl _,_=>rfl
 | .int _,_=>rfl
 | .str _,_=>rfl
 | .tup xs,h=>by rw[FK];exact cC xs (by simpa[O9] using h)
 | .lst xs,h=>by rw[FK];exact cC xs (by simpa[O9] using h)
 | .fz xs,h=>by rw[FK];exact cC xs (by simpa[O9] using h)
 | .dic _,h=>by simp[O9] at h
 | .st _,h=>by simp[O9] at h
 | .dn _,h=>by simp[O9] at h
 | .xc _ _ _,h=>by simp[O9] at h
 | .ty _,h=>by simp[O9] at h
 | .adr _,h=>by simp[O9] at h
theorem cC:∀d:List D,fE d=true->jJ d=true
 | [],_=>rfl
 | x::xs,h=>by
  simp only[fE,uk] at h;simp only[jJ,uk];exact⟨wK x h.1,cC xs h.2⟩
end
theorem DO{i:Int}(h:i.natAbs<10^150):i.natAbs.log2<1920:=by
 by_cases e:i.natAbs=0
 ·rw[e];decide
 ·exact(VL e).mpr (uy h (by decide +kernel))
mutual
theorem iC:∀d:D,O9 d=true->(pyd d).showable=true/\(pyd d).leavesShort 151=true/\(pyd d).hasDict=false
 | .l3,_=>⟨by simp[pyd,PyData.showable],by simp[pyd,PyData.leavesShort],by simp[pyd,PyData.hasDict]⟩
 | .bl _,_=>⟨by simp[pyd,PyData.showable],by simp[pyd,PyData.leavesShort],by simp[pyd,PyData.hasDict]⟩
 | .int i,h=>by
  have h:i.natAbs<10^150:=by simpa[O9] using h
  refine⟨?_,?_,by simp[pyd,PyData.hasDict]⟩
  ·simp only[pyd,PyData.showable];exact t6 (DO h)
  ·simp only[pyd,PyData.leavesShort,PyData.shown];refine t6 ?_;rw[ofString_length];exact int_text_length_le10 (by decide) h
 | .str x,h=>⟨by simp[pyd,PyData.showable],by simpa[pyd,PyData.leavesShort,O9] using h,by simp[pyd,PyData.hasDict]⟩
 | .tup xs,h=>by
  have:=aZ xs (by simpa[O9] using h);exact⟨by simpa[pyd,PyData.showable] using this.1,by simpa[pyd,PyData.leavesShort] using this.2.1,by simpa[pyd,PyData.hasDict] using this.2.2⟩
 | .lst xs,h=>by
  have:=aZ xs (by simpa[O9] using h);exact⟨by simpa[pyd,PyData.showable] using this.1,by simpa[pyd,PyData.leavesShort] using this.2.1,by simpa[pyd,PyData.hasDict] using this.2.2⟩
 | .fz xs,h=>by
  have:=aZ xs (by simpa[O9] using h);exact⟨by simpa[pyd,PyData.showable] using this.1,by simpa[pyd,PyData.leavesShort] using this.2.1,by simpa[pyd,PyData.hasDict] using this.2.2⟩
 | .dic _,h=>by simp[O9] at h
 | .st _,h=>by simp[O9] at h
 | .dn _,h=>by simp[O9] at h
 | .xc _ _ _,h=>by simp[O9] at h
 | .ty _,h=>by simp[O9] at h
 | .adr _,h=>by simp[O9] at h
theorem aZ:∀d:List D,fE d=true->PyData.showableAll (L7 d)=true/\PyData.leavesShortAll 151 (L7 d)=true/\PyData.hasDictAll (L7 d)=false
 | [],_=>⟨by simp[L7,PyData.showableAll],by simp[L7,PyData.leavesShortAll],by simp[L7,PyData.hasDictAll]⟩
 | x::xs,h=>by
  simp only[fE,uk] at h;have a:=iC x h.1;have b:=aZ xs h.2;exact⟨by simp[L7,PyData.showableAll,a.1,b.1],by simp[L7,PyData.leavesShortAll,a.2.1,b.2.1],by simp[L7,PyData.hasDictAll,a.2.2,b.2.2]⟩
end
def rY(d:D):Prop:=O9 d=true/\(pyd d).weight<=100000/\(pyd d).depth<=50
theorem rY.fits{d:D}(h:rY d):(pyd d).shown.length<=sizeLine:=by
 have:=PyData.shown_le 151 (by decide) (pyd d) (iC d h.1).2.1;rw[GM];have:=h.2.1;omega
section
variable{X:Cx}{cl:List Cl}{e a b:Expr}{es:WI}{f:Fl}{pos:Pos}{ua ub:TU}{ma mb:TM}{fa fb:Fl}
def JD(X:Cx):List V->Hp->VK->Prop:=λc H Q=>∃v d A,c=[v]/\Rep X.K H v d A/\rY d/\Q (.str (pyd d).shown) H
theorem eG{k:Nat}(z:E7 k X.A):D4 X (.builtin "repr") (JD X):=by
 intro j s p H E G Q I r h;obtain⟨v,d,A,rfl,y,c,q⟩:=h;obtain⟨u,rfl,i⟩:=vals1 r
 have g:∀(l:Heap) (u:Tok) (tk:Nat),(∀b o,s.heap.get? b=some o->l.get? b=some o)->EP X j p Q (.str (pyd d).shown u) { s with heap:=l,toks:=tk }:=λl u tk C=>
  ⟨.str _,H,I.kept (t':=tk) C,⟨_,rfl⟩,q⟩
 obtain⟨M,B⟩:=aK I y (wK d c.1) i;have x:=iC d c.1;have J:=z.units;have hd:=c.2.2
 have big:∀{a:Addr},u=.ref a->wpAny (model X.prog X.w) X.A (call (.builtin "repr") [u]) (EP X j p Q) X.xe s:=λ{a} e=>by
  subst e;exact repr_of_reads' B x.1 (PyData.noDict_hsm x.2.2) z.gd (by omega) (λ_ _ e=>e) g c.fits
 cases y with
 | l3=>cases i;exact PySem.P.repr_of_none (g _ _ _ λ_ _ e=>e)
 | bl=>cases i;exact PySem.P.repr_of_bool (g _ _ _ λ_ _ e=>e)
 | int=>obtain⟨t,rfl⟩:=i;exact PySem.P.repr_of_int (DO (by simpa[O9] using c.1)) (g _ _ _ λ_ _ e=>e)
 | str=>obtain⟨t,rfl⟩:=i;exact PySem.P.repr_of_str (g _ _ _ λ_ _ e=>e) c.fits
 | tup _ _=>cases i;exact big rfl
 | lst _ _=>cases i;exact big rfl
 | frz _ _=>cases i;exact big rfl
 | dic _ _=>have:=c.1;simp[O9] at this
 | st _ _=>have:=c.1;simp[O9] at this
 | dn _=>have:=c.1;simp[O9] at this
 | xc _=>have:=c.1;simp[O9] at this
 | ty=>have:=c.1;simp[O9] at this
 | adr=>have:=c.1;simp[O9] at this
def qo:List D->(D->Prop)->Prop
 | [d],Q=>rY d/\Q (.str (pyd d).shown)
 | _,_=>False
theorem sT:Call3 X (JD X) qo:=by
 intro H vs d A Q R r q k;unfold qo at q;split at q
 ·obtain⟨v,rfl,c⟩:=r.one;exact⟨v,_,_,rfl,c,q.1,k _ H _ _ (c9.refl H) .str sd (λ_ h=>(by cases h)) q.2⟩
 ·exact q.elim
def GH(d:D):Prop:=FK d=true/\(pyd d).canLay0=true/\(pyd d).depth<=64
def IW(X:Cx)(c:Bool):R2:=λx y H Q=>∃d e A B,Rep X.K H x d A/\Rep X.K H y e B/\GH d/\GH e/\Q (.bl (ng c (PyData.eqv (pyd d) (pyd e)))) H
theorem uO{k:Nat}(E:E7 k X.A):N6 X (compareOp .Eq) (IW X false):=by
 intro i s G H x y v u Q I l j h;obtain⟨d,e,A,B,z,r,g,c,q⟩:=h;obtain⟨J,p⟩:=aK I z g.1 l;obtain⟨bs,o⟩:=aK I r c.1 j;have C:=E.units;exact PySem.SeqAt.compareEq_shaped p o (by unfold PySem.SeqAt.shaped;rw[g.2.1,t6 g.2.2];rfl) (by unfold PySem.SeqAt.shaped;rw[c.2.1,t6 c.2.2];rfl) C ⟨.bl _,H,I,rfl,q⟩
theorem Lz{k:Nat}(E:E7 k X.A):N6 X (compareOp .NotEq) (IW X true):=by
 intro i s G H x y v u Q I l j h;obtain⟨d,e,A,B,z,r,g,c,q⟩:=h;obtain⟨J,p⟩:=aK I z g.1 l;obtain⟨bs,o⟩:=aK I r c.1 j;have C:=E.units;exact PySem.SeqAt.compareNe_shaped p o (by unfold PySem.SeqAt.shaped;rw[g.2.1,t6 g.2.2];rfl) (by unfold PySem.SeqAt.shaped;rw[c.2.1,t6 c.2.2];rfl) C ⟨.bl _,H,I,rfl,q⟩
def Pk(c:Bool):D->D->(D->Prop)->Prop:=λd e Q=>GH d/\GH e/\Q (.bl (ng c (PyData.eqv (pyd d) (pyd e))))
theorem OF{c:Bool}:bu X (IW X c) (Pk c):=by
 intro H v w d e A B Q R i g q k;exact⟨d,e,A,B,i,g,q.1,q.2.1,k _ H _ _ (c9.refl H) .bl sd (λ_ h=>(by cases h)) q.2.2⟩
end
end L3
namespace L2
open PySem PySem.Spec PySem.Builtin PySem.Builtin.Str PyProof.Rows
section
variable{X:Cx}
variable{e:Expr}{es:WI}{te:TE}{pos:Pos}
end
end L2
namespace L3
open PySem PySem.Spec L2
section
variable{X:Cx}{cl:List Cl}{e a b:Expr}{es:WI}{f:Fl}{pos:Pos}{ua ub:TU}{ma mb:TM}{fa fb:Fl}
end
end L3
namespace L2
open PySem PySem.Spec PyProof.Rows
section
variable{X:Cx}
def Pw:R2:=λx y H Q=>∃a v,x=.ref a/\Y4 H a y (some v)/\Q v H
theorem yg(l:X.A.units+1<cLine):FN X Pw:=by
 intro b c e s r H x y v u Q I j i h o;obtain⟨a,z,rfl,g,q⟩:=h;cases j;exact tail_any (qw I g) PySem.F.slot_dict_getitem.lookup (lI l I g i λB C p d=>⟨z,H,p,d,q⟩) o
def HS(b:Bool):R2:=λy x H Q=>∃a o,x=.ref a/\Y4 H a y o/\Q (.bl (match b with | true=>!o.isSome | false=>o.isSome)) H
theorem Eu(e:X.A.units+1<cLine):N6 X (compareOp .In) (HS false):=by
 intro b s j H x y v u Q I d c h;obtain⟨a,o,rfl,g,q⟩:=h;cases c;exact Ru e I g d λl i=>⟨.bl o.isSome,H,i,rfl,q⟩
theorem zw(e:X.A.units+1<cLine):N6 X (compareOp .NotIn) (HS true):=by
 intro b s j H x y v u Q I d c h;obtain⟨a,o,rfl,g,q⟩:=h;cases c;exact Gg e I g d λl i=>⟨.bl (!o.isSome),H,i,rfl,q⟩
end
end L2
namespace L3
open PySem PySem.Spec L2
section
variable{X:Cx}{cl:List Cl}{e a b tg:Expr}{es:WI}{f:Fl}{pos:Pos}{ua ub:TU}{ma mb:TM}{fa fb:Fl}
def o9:D->D->(D->Prop)->Prop:=λd e Q=>match d,e with
 | .int i,.int j=>Q (.int (i+j))
 | .str i,.str j=>i.length+j.length<=sizeLine/\Q (.str (i++j))
 | .lst g,.lst c=>u6 g=true/\u6 c=true/\g.length+c.length<=sizeLine/\Q (.lst (g++c))
 | .tup g,.tup c=>u6 g=true/\u6 c=true/\g.length+c.length<=sizeLine/\Q (.tup (g++c))
 | _,_=>False
abbrev QG:R2:=λx y H Q=>∃i j,x=.str i/\y=.str j/\i.length+j.length<=sizeLine/\Q (.str (i++j)) H
def Kf:R2:=λx y H Q=>(Aj λi j=>.int (i+j)) x y H Q\/QG x y H Q\/Mb x y H Q\/Fh x y H Q
theorem xI:N6 X (binaryOp .Add) Kf:=MF.or (uq.or (MP.or IG))
theorem Es:bu X Kf o9:=by
 intro H v w d e A B Q R g c q k;cases d<;>cases e<;>first | exact(show False from q).elim | skip
 ·exact .inl (CC H v w _ _ A B Q R g c q k)
 ·exact .inr (.inl (Oh H v w _ _ A B Q R g c q k))
 ·exact .inr (.inr (.inr (KR H v w _ _ A B Q R g c q k)))
 ·exact .inr (.inr (.inl (Ox H v w _ _ A B Q R g c q k)))
theorem l9(d:PU X cl a fa ua)(c:PU X cl b fb ub):PU X cl (.BinOp a .Add b pos) .fresh (l7 o9 ua ub):=gR xI Es d c
theorem J0(d:PN X cl a ma)(c:PN X cl b mb):PM X cl (.BinOp a .Add b pos) (aN o9 ma mb):=EE xI Es d c
def G2:D->D->(D->Prop)->Prop:=λd e Q=>match d,e with
 | .int i,.int j=>K8 i j/\Q (.int (i*j))
 | .str z,.int n=>MulOk z n/\Q (.str (Txt.mul z n))
 | .lst c,.int n=>u6 c=true/\-(2^63)<=n/\n<2^63/\c.length*n.toNat<=sizeLine/\Q (.lst (List.replicate n.toNat c).flatten)
 | _,_=>False
abbrev Px:R2:=λx y H Q=>∃z n,x=.str z/\y=.int n/\MulOk z n/\Q (.str (Txt.mul z n)) H
def Kc:R2:=λx y H Q=>(rI K8 λi j=>.int (i*j)) x y H Q\/Px x y H Q\/Om x y H Q
theorem xw:N6 X (binaryOp .Mult) Kc:=Nm.or (IU.or NO)
theorem lS{K:WR}{H:Hp}{vs:List V}{xs:List D}(r:i5 K H vs xs []):∀n:Nat,i5 K H (List.replicate n vs).flatten (List.replicate n xs).flatten []
 | 0=>.nil
 | n+1=>by
  rw[IR,IR,TY,TY];exact r.append (lS r n)
theorem Em:bu X Kc G2:=by
 intro H v w d e A B Q R h g q k;cases d<;>cases e<;>first | exact(show False from q).elim | skip
 ·exact .inl (qa H v w _ _ A B Q R h g q k)
 ·exact .inr (.inl (MY H v w _ _ A B Q R h g q k))
 ·obtain⟨j,y,x,u,q⟩:=q;obtain⟨p,vs,C,rfl,o,c,_⟩:=D5 h;cases r8 g;have z:=c.C9 j;subst z;refine .inr (.inr ⟨p,_,vs,rfl,rfl,o,y,x,by rw[c.length];exact u,λl i=>k _ _ (.lst _) [l] (c9.e7 i) (.lst c7 ((lS c _).same (c9.e7 i))) (by simp) (λa r=>?_) q⟩);have:a=l:=by simpa using r
  rw[this];exact i
theorem I0(d:PU X cl a fa ua)(c:PU X cl b fb ub):PU X cl (.BinOp a .Mult b pos) .fresh (l7 G2 ua ub):=gR xw Em d c
theorem X7(d:PN X cl a ma)(c:PN X cl b mb):PM X cl (.BinOp a .Mult b pos) (aN G2 ma mb):=EE xw Em d c
def bR(c:Bool):D->D->(D->Prop)->Prop:=λd e Q=>match Z6 d&&Z6 e with
 | true=>Od c d e Q
 | false=>Pk c d e Q
theorem xt{c:Bool}{r:R2}(o:bu X r (Od c)):bu X (λx y H Q=>r x y H Q\/IW X c x y H Q) (bR c):=by
 intro H v w d e A B Q R h g q k;unfold bR at q;split at q
 ·exact .inl (o H v w d e A B Q R h g q k)
 ·exact .inr (OF H v w d e A B Q R h g q k)
section
variable{kr:Nat}(hr:E7 kr X.A)
include hr
theorem LA(g:PU X cl a fa ua)(d:PU X cl b fb ub)(c:behindInMarks .Eq b=false):PU X cl (.Compare a [.Eq] [b] pos) .fresh (l7 (bR false) ua ub):=iG (Dp.or (uO hr)) (xt Mc) g d c
theorem gQ(g:PU X cl a fa ua)(d:PU X cl b fb ub)(c:behindInMarks .Eq b=false):P5 X cl (.Compare a [.Eq] [b] pos) (uT (l7 (bR false) ua ub)):=U2 (Dp.or (uO hr)) (xt Mc) g d c
theorem BF(g:PU X cl a fa ua)(d:PU X cl b fb ub)(c:behindInMarks .NotEq b=false):P5 X cl (.Compare a [.NotEq] [b] pos) (uT (l7 (bR true) ua ub)):=U2 (PQ.or (Lz hr)) (xt Sh) g d c
theorem Ni(g:PN X cl a ma)(d:PN X cl b mb)(c:behindInMarks .Eq b=false):NX X cl (.Compare a [.Eq] [b] pos) (mT (aN (bR false) ma mb)):=Dm (Dp.or (uO hr)) (xt Mc) g d c
def Pf(c:Bool):D->D->(D->Prop)->Prop:=λd e Q=>match e with
 | .dic g=>∃k,V0 d=some k/\Q (.bl (ng c (x3 g k).isSome))
 | _=>Sz c d e Q
end
theorem OE{c:Bool}:bu X (λx y H Q=>Pa X.K c x y H Q\/HS c x y H Q) (Pf c):=by
 intro H v w d e A B Q R o l q k
 cases e with
 | dic g=>
  obtain⟨j,I,q⟩:∃k,V0 d=some k/\Q (.bl (ng c (x3 g k).isSome)):=q;obtain⟨p,vs,S,rfl,E,G,rfl⟩:=aR l;cases N7 o I;have r:=G.val j;refine .inr ?_
  cases i:x3 g j with
  | none=>
   rw[i] at q;exact⟨p,none,rfl,(by have:=Y4.k (k:=j) E;rwa [r.2 i] at this),k _ H _ _ (c9.refl H) .bl sd (λ_ h=>(by cases h)) (by cases c<;>exact q)⟩
  | some z=>
   rw[i] at q;obtain⟨u,C,J,O,M⟩:=r.1 z i;exact⟨p,some u,rfl,(by have:=Y4.k (k:=j) E;rwa [J] at this),k _ H _ _ (c9.refl H) .bl sd (λ_ h=>(by cases h)) (by cases c<;>exact q)⟩
 | _=>exact .inl (Sw H v w _ _ A B Q R o l q k)
def MB:D->D->(D->Prop)->Prop:=λd y Q=>match d with
 | .dic c=>∃k v,V0 y=some k/\x3 c k=some v/\Q v
 | _=>SF d y Q
theorem xW{v w:V}{H:Hp}{d e:D}{A B:WE}{Q:D->Prop}{R:VK}(i:Rep X.K H v d A)(h:Rep X.K H w e B)(q:MB d e Q)(k:∀x z C,Rep X.K H x z C->C.Sublist A->Q z->R x H):Ra X.K v w H R\/Pw v w H R:=by
 cases d with
 | dic c=>
  obtain⟨a,u,z,C,p,g,l,j,o⟩:=FX i h (show Kw (.dic c) e Q from q);exact .inr ⟨a,u,p,g,k u z C l j o⟩
 | _=>exact .inl (Lm i h q k)
def e6(ua ub:TU):TU:=λc Q=>ua c λx=>ub c λy=>MB x y Q
theorem NH(y:X.A.units+1<cLine)(O:PU X cl a fa ua)(M:PU X cl b fb ub)(I:fU b):PU X cl (.Subscript a b pos) fa (e6 ua ub):=.of<|by
 obtain⟨ta,tb,u,p,h⟩:=u2 O M;refine⟨_,Kh (CU.or (yg y)) u p I,λG g c H T Q R S E J k=>?_⟩;refine h G g c H T _ _ S E J λv w Y d e A B s l j U f2 q=>?_;exact xW l j q λx z C r i o=>k x Y z C s r (U.sub i) o
def jQ(ma mb:TM):TM:=λh Q=>ma h λx g=>mb g λy c=>MB x y λd=>Q d c
theorem X3(O:X.A.units+1<cLine)(j:PN X cl a ma)(Y:PN X cl b mb)(S:fU b):PN X cl (.Subscript a b pos) (jQ ma mb):=.of<|by
 obtain⟨ta,tb,M,J,h⟩:=m2 j Y;refine⟨_,Kh (CU.or (yg O)) M J S,λG p o H fo Q R hG E T k=>?_⟩;refine h G p o H fo _ _ hG E T λv w H' d e A B g l E' c y u n1 _ q=>?_;exact xW y u q λx z C r s I=>k x H' z C g l E' c r (λi U a j=>n1 i U a (s.mem j)) I
def ER(ua:TU)(lo i:LH):TU:=λg Q=>ua g λd=>lo g λl=>i g λh=>match d with
 | .tup c=>u6 c=true/\Q (.tup (cutD c l h))
 | .lst c=>u6 c=true/\Q (.lst (cutD c l h))
 | .fz c=>u6 c=true/\Q (.lst (cutD c l h))
 | _=>False
theorem nz{lo hi:Option Expr}{ul uh:LH}{p2:Pos}(z:PU X cl a fa ua)(x:QZ X cl lo ul)(hh:QZ X cl hi uh):PU X cl (.Subscript a (.Slice lo hi none p2) pos) .fresh (ER ua ul uh):=.of<|by
 obtain⟨ta,pa,z⟩:=z.run;obtain⟨tl,pl,x⟩:=x.run;obtain⟨th,ph,hh⟩:=hh.run;refine⟨_,Bm (Jl.or Me) pa pl ph,λG J I H fo Q R hG E hu k=>z G J I H fo _ _ hG E hu λv H1 d A S r1 f1 q1=>x G J I H1 fo _ _ hG (E.same S) q1 λh H2 C q2=>hh G J I H2 fo _ _ hG (E.same (S.trans C)) q2 λu H3 O i=>?_⟩;have j:=(S.trans C).trans O
 have g:∀{c:List D},kindB false d=some c->u6 c=true->Q (.lst (cutD c h u))->Qn X.K v h u H3 R:=λ{c} e1 im q=>by
  obtain⟨p,vs,B,rfl,hq,o,_⟩:=Y3 ((r1.same C).same O) e1;have y:=o.C9 im;subst y;refine⟨p,vs,rfl,hq,λl x=>?_⟩;obtain⟨B,M,Y⟩:=o.cut (HT.D3 c.length 0 h) (HT.D3 c.length c.length u-HT.D3 c.length 0 h);have y:B=[]:=List.sublist_nil.mp M;subst y;refine k _ _ _ [l] (j.trans (c9.e7 x)) (.lst c7 ?_) ⟨by simp,λa z=>?_⟩ q
  ·have T:i5 X.K H3 (iQ vs h u) (cutD c h u) []:=by
    unfold iQ cutD;rw[o.length];exact Y
   exact T.same (c9.e7 x)
  ·have:a=l:=by simpa using z
   rw[this];exact j.free x
 cases d<;>first | exact(show False from i).elim | skip
 ·rename_i c
  obtain⟨im,i⟩:=i;obtain⟨p,vs,rfl,hq,o⟩:=K7 ((r1.same C).same O);have y:=o.C9 im;subst y;refine .inr ⟨p,vs,rfl,hq,λr H4 s4 hr=>?_⟩;obtain⟨B,M,Y⟩:=o.cut (HT.D3 c.length 0 h) (HT.D3 c.length c.length u-HT.D3 c.length 0 h);have y:B=[]:=List.sublist_nil.mp M;subst y;refine k _ _ (.tup (cutD c h u)) [] (j.trans s4) (.tup hr ?_) (y3.nil _) i;have U:=Y.same s4;unfold iQ cutD;rw[o.length];exact U
 ·exact .inl (g rfl i.1 i.2)
 ·exact .inl (g rfl i.1 i.2)
end
end L3
namespace L2
open PySem PySem.Spec PySem.Builtin PySem.Builtin.Str PyProof.Rows
section
variable{X:Cx}
def Oo:R2:=λx y H Q=>∃i j,x=.str i/\y=.str j/\Q (.bl (!decide (j.cps.toList<i.cps.toList))) H
theorem za:N6 X (compareOp .LtE) Oo:=by
 intro a s d H x y v u Q I c b h;obtain⟨i,j,rfl,rfl,q⟩:=h;obtain⟨t,rfl⟩:=c;obtain⟨e,rfl⟩:=b;exact PySem.P.le_str ⟨.bl _,H,I,rfl,q⟩
def Hw(a:Bool):R2:=λx y H Q=>∃b,y=.bl b/\Q (.bl (match a with | true=>!decide (x=.bl b) | false=>decide (x=.bl b))) H
def Sj(x:Str):It:=⟨λi _=>i<x.cps.size,λi H v a=>a=H/\∃c,x.cps[i]?=some c/\v=.str ⟨#[c]⟩,λi _=>i=x.cps.size⟩
theorem oM{P:Program}{w:World}{K:WR}{Y:Expr}{x:Str}{ty:String}{t:Tok}(it:Addr)
  (W:∀A:Around,A.handled=none->Walks P w A it [it] [it] x.cps.size (SignAt x) (λi h=>h.IsStrIter it ty x t i)) (B:["enumerate","zip","dict_itemiterator","dict_reverseitemiterator","odict_iterator","itertools.zip_longest","itertools.pairwise"].contains ty=false)
  (hs:∀(A:Around) (i:Nat) (s:Shared) (Q:WO) (E:WO),s.heap.IsStrIter it ty x t i->Q (.ref it) s->wpAny (model P w) A (pyIter (.ref it)) Q E s):Turn P w K Y (Sj x) [it] it (λi h=>h.IsStrIter it ty x t i) where
 mem:=by simp
 obj:=λi h st b g=>by
  have e:b=it:=by simpa using g
  subst e;obtain⟨o,e,c,d⟩:=st;exact⟨o,e,λv z=>by rw[d] at z;cases z⟩
 keep:=λi h q st k=>let ⟨o,ho,r⟩:=st;⟨o,k it (by simp) o ho,r⟩
 item:=by
  intro X G hw J C i a s U H E I p st l;subst G hw J;obtain⟨T,S,f2,R,O,M⟩:=p it (by simp);refine(W X.A (I.ok.hd C)).item i s _ _ l st λv q tk hv j y=>?_;obtain⟨c,u,hx,rfl⟩:=hv;have I1:Inv X a U H { s with heap:=q,toks:=tk }:=I.turned (λb o g e=>y b o (by simpa using g) e) T S R O M;obtain⟨o,e,cc,d⟩:=id j;exact⟨_,rfl,qJ (s:={ s with heap:=q,toks:=tk }) e cc d B ⟨.str ⟨#[c]⟩,H,I1,⟨u,rfl⟩,⟨rfl,c,hx,rfl⟩,j,λb g=>(p b g).1⟩⟩
 done:=by
  intro X G hw J C i a s U H E I p st l;subst G hw J;obtain⟨T,S,f2,R,O,M⟩:=p it (by simp);have l:i=x.cps.size:=l;subst l;exact(W X.A (I.ok.hd C)).done s _ _ st λq tk y=>⟨rfl,I.turned (λb o g e=>y b o (by simpa using g) e) T S R O M⟩
 self:=hs
def RO(K:WR)(e:TE):TI:=λd H R=>e d H λx b=>(∃z,x=.str z/\R (Sj z) b)\/∃a,x=.ref a/\((∃c,G7 K b a c/\R (Rg K a) b)\/∃c,P8 K b a c/\R (QS K a) b)
theorem LQ{U l:Expr}{G:TE}(hl:PE X l G):PI X U l (RO X.K G):=.of λg s S H R I q=>by
 refine p9 (hl g s S H _ I q) λv c ⟨x,u,d,J,y⟩=>?_;rcases y with⟨z,rfl,q⟩ | ⟨a,rfl,y⟩
 ·obtain⟨t,rfl⟩:=J
  have O:∀b∈[c.heap.objs.size],L8 X g u b:=λb r=>by
   have e:b=c.heap.objs.size:=by simpa using r
   subst e;exact d.fP (oT _) (d.hok.fresh (oT _))
  cases M:z.cps.all (·<128)
  ·exact wpAny_pyIter_wide M ⟨c.heap.objs.size,[c.heap.objs.size],_,_,u,rfl,d.kept (t':=c.toks) λb o e=>hD _ e,oM (t:=t) _ (λA C=>Walks.strWide C _ z t) (by decide) (λA i s Q E st h=>wpAny_pyIter_striter_wide st h),⟨_,sj _ rfl,rfl,rfl⟩,O,q⟩
  ·exact wpAny_pyIter_ascii M ⟨c.heap.objs.size,[c.heap.objs.size],_,_,u,rfl,d.kept (t':=c.toks) λb o e=>hD _ e,oM (t:=t) _ (λA C=>Walks.strAscii C _ z t) (by decide) (λA i s Q E st h=>wpAny_pyIter_striter_ascii st h),⟨_,sj _ rfl,rfl,rfl⟩,O,q⟩
 ·cases J;rcases y with⟨T,B,q⟩ | ⟨T,B,q⟩
  ·obtain⟨j,rv,p,Y⟩:=d.list B;refine Vd p.isList ?_;refine⟨c.heap.objs.size,[c.heap.objs.size],_,_,u,rfl,d.kept (t':=c.toks) λb o e=>hD _ e,yz a _,⟨_,sj _ rfl,rfl,rfl⟩,λb r=>?_,q⟩;have e:b=c.heap.objs.size:=by simpa using r
   subst e;exact d.fP (oT _) (d.hok.fresh (oT _))
  ·obtain⟨j,rv,p,Y⟩:=d.tuple B;refine VN (show c.heap.IsTuple a j.toArray from p) ?_;refine⟨c.heap.objs.size,[c.heap.objs.size],_,_,u,rfl,d.kept (t':=c.toks) λb o e=>hD _ e,jg a _,⟨_,sj _ rfl,rfl,rfl⟩,λb r=>?_,q⟩;have e:b=c.heap.objs.size:=by simpa using r
   subst e;exact d.fP (oT _) (d.hok.fresh (oT _))
def Ks:List V->Hp->VK->Prop:=λa H Q=>((∃i,a=[.int i]/\Q (.int i) H)\/∃k,a=[.bl k]/\Q (.int (if k then 1 else 0)) H)\/∃x n,a=[.str x]/\PySem.intText? x=some n/\x.length<=640/\Q (.int n) H
theorem dP:D4 X (.type "int") Ks:=by
 intro a s b H c d Q I r h;rcases h with h | ⟨x,n,rfl,e,g,q⟩
 ·exact yO a s b H c d Q I r h
 ·obtain⟨u,rfl,t,rfl⟩:=vals1 r;exact PySem.W.KIN.call_text e g ⟨.int n,H,I.tok _,⟨_,rfl⟩,q⟩
end
end L2
namespace L2
open PySem PySem.Spec PyProof.Rows
section
variable{X:Cx}
theorem qF{x:V}{v:Value}(r:RelV x v)(b:Bool):(v == .bool b)=decide (x=.bl b):=by
 cases x<;>first
  | (cases r;first | rfl | (rename_i c;cases b<;>cases c<;>rfl))
  | (obtain⟨t,rfl⟩:=r;rfl)
theorem Fq:N6 X (compareOp .Is) (Hw false):=by
 intro a s d H x y v u Q I c e h;obtain⟨b,rfl,q⟩:=h;cases e;have f:EP X a d Q (.bool (v == .bool b)) s:=⟨.bl _,H,I,by rw[qF c];rfl,q⟩
 cases x<;>first
  | (cases c;exact hH f)
  | (obtain⟨t,rfl⟩:=c;exact hH f)
theorem Cd:N6 X (compareOp .IsNot) (Hw true):=by
 intro a s d H x y v u Q I c e h;obtain⟨b,rfl,q⟩:=h;cases e;have f:EP X a d Q (.bool (!(v == .bool b))) s:=⟨.bl _,H,I,by rw[qF c];rfl,q⟩
 cases x<;>first
  | (cases c;exact hH f)
  | (obtain⟨t,rfl⟩:=c;exact hH f)
end
end L2
namespace L3
open PySem PySem.Spec L2
section
variable{X:Cx}{cl:List Cl}{e a b tg:Expr}{es:WI}{f:Fl}{pos:Pos}{ua ub uc:TU}{ma mb:TM}{fa fb fc:Fl}
def Af:D->D->(D->Prop)->Prop:=λd e Q=>match d,e with
 | .int i,.int j=>Q (.bl (decide (i<=j)))
 | .str x,.str y=>Q (.bl (!decide (y.cps.toList<x.cps.toList)))
 | _,_=>False
abbrev Ou:R2:=λx y H Q=>(Aj λi j=>.bl (decide (i<=j))) x y H Q\/Oo x y H Q
theorem LD:N6 X (compareOp .LtE) Ou:=OP.or za
theorem QF:bu X Ou Af:=by
 intro H v w d e A B Q R g c q k;cases d<;>cases e<;>first | exact(show False from q).elim | skip
 ·exact .inl (gE H v w _ _ A B Q R g c q k)
 ·cases C4 g;cases C4 c;exact .inr ⟨_,_,rfl,rfl,k _ H _ _ (c9.refl H) .bl sd (λ_ h=>(by cases h)) q⟩
theorem mD(g:PU X cl a fa ua)(d:PU X cl b fb ub)(c:behindInMarks .LtE b=false):P5 X cl (.Compare a [.LtE] [b] pos) (uT (l7 Af ua ub)):=U2 LD QF g d c
def Lr(d:D)(b:Bool):Bool:=match d with
 | .bl c=>c == b
 | _=>false
def S6(c:Bool):D->D->(D->Prop)->Prop:=λd e Q=>match e with
 | .l3=>Q (.bl (ng c (xO d)))
 | .bl b=>Q (.bl (ng c (Lr d b)))
 | _=>False
theorem xD{K:WR}{H:Hp}{v:V}{d:D}{A:WE}(h:Rep K H v d A)(b:Bool):decide (v=.bl b)=Lr d b:=by
 cases h<;>first | (simp[Lr];done) | skip
 rename_i c
 cases b<;>cases c<;>rfl
abbrev RI:R2:=λx y H Q=>y=.l3/\Q (.bl (decide (x=.l3))) H
abbrev Nq:R2:=λx y H Q=>y=.l3/\Q (.bl (!decide (x=.l3))) H
theorem Ki:bu X (λx y H Q=>RI x y H Q\/Hw false x y H Q) (S6 false):=by
 intro H v w d e A B Q R g c q k;cases e<;>first | exact(show False from q).elim | skip
 ·exact .inl (Sr H v w d .l3 A B Q R g c q k)
 ·cases Z1 c;refine .inr ⟨_,rfl,?_⟩;show R (.bl (decide (v=.bl _))) H;rw[xD g];exact k _ H _ _ (c9.refl H) .bl sd (λ_ h=>(by cases h)) q
theorem IH:bu X (λx y H Q=>Nq x y H Q\/Hw true x y H Q) (S6 true):=by
 intro H v w d e A B Q R g c q k;cases e<;>first | exact(show False from q).elim | skip
 ·exact .inl (La H v w d .l3 A B Q R g c q k)
 ·cases Z1 c;refine .inr ⟨_,rfl,?_⟩;show R (.bl (!decide (v=.bl _))) H;rw[xD g];exact k _ H _ _ (c9.refl H) .bl sd (λ_ h=>(by cases h)) q
theorem NK(g:PU X cl a fa ua)(d:PU X cl b fb ub)(c:behindInMarks .Is b=false):PU X cl (.Compare a [.Is] [b] pos) .fresh (l7 (S6 false) ua ub):=iG (EJ.or Fq) Ki g d c
theorem nG(g:PU X cl a fa ua)(d:PU X cl b fb ub)(c:behindInMarks .Is b=false):P5 X cl (.Compare a [.Is] [b] pos) (uT (l7 (S6 false) ua ub)):=U2 (EJ.or Fq) Ki g d c
theorem C5(g:PU X cl a fa ua)(d:PU X cl b fb ub)(c:behindInMarks .IsNot b=false):P5 X cl (.Compare a [.IsNot] [b] pos) (uT (l7 (S6 true) ua ub)):=U2 (Hd.or Cd) IH g d c
def SA(x y:Str):Bool:=!(Builtin.Str.occurrences x y 0 x.length 1).isEmpty
def oE(c:Bool):D->D->(D->Prop)->Prop:=λd e Q=>match e with
 | .str z=>(match d with | .str y=>Q (.bl (ng c (SA z y))) | _=>False)
 | _=>Pf c d e Q
abbrev LV(c:Bool):R2:=λx y H Q=>∃i j,x=.str i/\y=.str j/\Q (.bl (ng c (SA j i))) H
theorem AH:N6 X (compareOp .In) (LV false):=yW
theorem yB:N6 X (compareOp .NotIn) (LV true):=nN
theorem DA{c:Bool}:bu X (λx y H Q=>(Pa X.K c x y H Q\/HS c x y H Q)\/LV c x y H Q) (oE c):=by
 intro H v w d e A B Q R i g q k
 cases e with
 | str z=>
  cases d<;>first | exact(show False from q).elim | skip
  cases C4 i;cases C4 g;exact .inr ⟨_,_,rfl,rfl,k _ H _ _ (c9.refl H) .bl sd (λ_ h=>(by cases h)) q⟩
 | _=>exact .inl (OE H v w _ _ A B Q R i g q k)
theorem Dn(c:X.A.units+1<cLine)(h:PU X cl a fa ua)(g:PU X cl b fb ub)(d:behindInMarks .In b=false):PU X cl (.Compare a [.In] [b] pos) .fresh (l7 (oE false) ua ub):=iG ((lH.or (Eu c)).or AH) DA h g d
theorem NL(c:X.A.units+1<cLine)(h:PU X cl a fa ua)(g:PU X cl b fb ub)(d:behindInMarks .In b=false):P5 X cl (.Compare a [.In] [b] pos) (uT (l7 (oE false) ua ub)):=U2 ((lH.or (Eu c)).or AH) DA h g d
theorem zF(c:X.A.units+1<cLine)(h:PU X cl a fa ua)(g:PU X cl b fb ub)(d:behindInMarks .NotIn b=false):P5 X cl (.Compare a [.NotIn] [b] pos) (uT (l7 (oE true) ua ub)):=U2 ((nS.or (zw c)).or yB) DA h g d
def IL(z:Str):List D:=z.cps.toList.map λc=>.str ⟨#[c]⟩
def C8(u:TU):mj:=λg Q=>u g λd=>match d with
 | .lst c=>Q c
 | .fz c=>Q c
 | .tup c=>Q c
 | .str z=>Q (IL z)
 | _=>False
theorem Ti{K:WR}{H:Hp}(z:Str):bj K (Sj z) (IL z) [] H:=λu tf k i=>by
 refine⟨λo=>?_,λd e=>?_⟩
 ·show i=z.cps.size;rw[<-o];simp[IL]
 ·unfold IL at e;rw[rx] at e
  cases g:z.cps.toList[i]? with
  | none=>rw[g] at e;cases e
  | some c=>
   rw[g] at e;cases e
   have p:i<z.cps.size:=by
    have:=(List.getElem?_eq_some_iff.mp g).1;simpa using this
   have h:z.cps[i]?=some c:=by simpa using g
   refine⟨p,λx r l=>?_⟩;obtain⟨rfl,q,j,rfl⟩:=l;rw[h] at j;cases j;exact⟨c9.refl _,[],.str,VF _⟩
theorem n9(h:PU X cl e f ua):ak X cl tg e f (C8 ua):=.of<|by
 obtain⟨t,p,h⟩:=h.run;refine⟨_,LQ p,λG u o H fa Q R z E y k=>h G u o H fa _ _ z E y λv i d B s r l q=>?_⟩;cases d<;>first | exact(show False from q).elim | skip
 ·cases C4 r;exact .inl ⟨_,rfl,k _ i _ [] s (Ti _) (λa j=>by cases j) (y3.nil _) q⟩
 ·obtain⟨p,vs,rfl,c,g⟩:=K7 r;exact .inr ⟨p,rfl,.inr ⟨vs,P8.of c,k _ i _ _ s (Ro c g) g.there l q⟩⟩
 ·have x:=r;obtain⟨p,vs,C,rfl,c,g,rfl⟩:=D5 r;exact .inr ⟨p,rfl,.inl ⟨vs,G7.of c,k _ i _ _ s (Tt c g) (λa j=>x.there j) l q⟩⟩
 ·obtain⟨p,vs,rfl,c,g⟩:=iK r;exact .inr ⟨p,rfl,.inl ⟨vs,c.sq,k _ i _ _ s (Tv c g) g.there l q⟩⟩
def rM:List D->(D->Prop)->Prop
 | [.int i],Q=>Q (.int i)
 | [.bl k],Q=>Q (.int (if k then 1 else 0))
 | [.str x],Q=>x.length<=640/\∃n,PySem.intText? x=some n/\Q (.int n)
 | _,_=>False
theorem uP:Call3 X Ks rM:=by
 intro H vs i A Q R r q k;unfold rM at q;split at q
 ·exact .inl (JF H vs _ A Q R r q k)
 ·exact .inl (JF H vs _ A Q R r q k)
 ·obtain⟨g,n,d,q⟩:=q;obtain⟨v,rfl,c⟩:=r.one;cases C4 c;exact .inr ⟨_,n,rfl,d,g,k _ H _ _ (c9.refl H) .int sd (λ_ h=>(by cases h)) q⟩
 ·exact q.elim
end
end L3
namespace L2
open PySem PySem.Spec PyProof.Rows
end L2
namespace L3
open PySem PySem.Spec L2
section
variable{X:Cx}{cl:List Cl}{e a b tg:Expr}{es:WI}{f:Fl}{pos:Pos}{ua ub uc:TU}{ma mb:TM}{fa fb fc:Fl}
end
end L3
namespace L2
open PySem PySem.Spec PyProof.Rows
theorem LZ(h:Heap)(a:Addr):∃c:Heap,c.get? a=none/\∀b,b≠a->c.get? b=h.get? b:=by
 refine⟨h.update a λo=>⟨o.cls,o.dict,.freed,o.slots⟩,?_,λb d=>Heap.get?_update_ne h b a _ d⟩;obtain⟨objs,l⟩:=h;unfold Heap.update Heap.get?
 dsimp only;rw[Array.getElem?_modify,ry rfl];cases objs[a]?<;>rfl
theorem Kg(h:Heap):∀l:WE,∃d:Heap,(∀b∈l,d.get? b=none)/\∀b,b∉l->d.get? b=h.get? b
 | []=>⟨h,λb c=>(by cases c),λb _=>rfl⟩
 | a::l=>by
  obtain⟨p,o,j⟩:=Kg h l;obtain⟨d,i,g⟩:=LZ p a;refine⟨d,λb c=>?_,λb c=>?_⟩
  ·by_cases e:b=a
   ·rw[e];exact i
   ·rw[g b e];exact o b ((List.mem_cons.mp c).resolve_left e)
  ·rw[g b λz=>c (z▸re)];exact j b λz=>c (hQ _ z)
theorem rebase{h base a:Heap}:∀{l:List Env},(∀b∈Z5 l,a.get? b=none)->h.FunFrames base l->h.FunFrames a l
 | [],_,_=>trivial
 | env::l,e,⟨p,⟨L,o,d,q,j,i⟩,g⟩=>by
  refine⟨p,⟨L,o,d,e L ?_,j,i⟩,rebase (λb c=>e b ?_) g⟩
  ·unfold Z5;rw[Ew,d];exact re
  ·unfold Z5 at c ⊢;rw[Ew,d];exact hQ _ c
def NZ(h:Heap)(e:Addr)(b a0:Value)(T:Addr):Prop:=
 ∃a vs d c,h.get? e=some a/\a.cls=b/\vs[0]?=some a0/\a.data=.fields vs/\vs[1]?=some (.ref T)/\T≠e/\h.get? T=some d/\d.data=.fields c/\c[3]?=some .none
structure KO(l:List Env)(old:WE)(h h':Heap)(e:Addr)(cls a0:Value)(T:Addr):Prop where
 keep:∀b o,h.get? b=some o->b≠e->b∉old->b∉Z5 l->h'.get? b=some o
 slot:∀b o,h.get? b=some o->b∈Z5 l->∃sl,h'.get? b=some { o with slots:=sl }
 FJ:NZ h' e cls a0 T
 new:T∈old\/h.get? T=none
section
variable{M:Model}{A:Around}{E:WO}{s:Shared}{base:Heap}{env:Env}{outer:List Env}{L e:Addr}{Q:Unit->Shared->Prop}
theorem IQ{a:Heap}{l:List Env}{old:WE}{h h':Heap}{p a0:Value}(U:h.FunFrames a l)(B:∀b,b∉e::(Z5 l++old)->a.get? b=h.get? b)(x:Heap.LeftW a l e p a0 h h'):∃T,KO l old h h' e p a0 T:=by
 obtain⟨I,H,⟨J,vs,T,O,y,X,⟨Y,h0⟩,hd,v,q,j,C,g,u⟩,G⟩:=x;refine⟨T,λb o d v h2 u=>I b o ?_,λb o d S=>?_,⟨J,vs,O,y,X,Y,h0,hd,v,j,C,g,u⟩,?_⟩
 ·rw[B b λz=>?_]
  ·exact d
  ·rcases List.mem_cons.mp z with z | z
   ·exact v z
   ·exact(List.mem_append.mp z).elim u h2
 ·obtain⟨_,R,c,r⟩:=U.mem S;rw[d] at c;cases c;exact G b o d r
 ·by_cases i:T∈old
  ·exact .inl i
  ·right
   rw[<-B T λz=>?_]
   ·exact q
   ·rcases List.mem_cons.mp z with z | z
    ·exact j z
    ·rcases List.mem_append.mp z with z | z
     ·obtain⟨_,R,c,r⟩:=H.mem z;rw[C] at c;cases c;exact r y g
     ·exact i z
theorem pG{i:Obj}{vs:WL}{a0:Value}(j:A.frames=some (env::outer))(q:s.heap.FunFrames base (env::outer))(r:env.frame=some L)(u:s.heap.get? e=some i)(hd:i.data=.fields vs)(x:vs[1]?=some .none)(y:vs[0]?=some a0)
  (h:∀h' T,KO (env::outer) [] s.heap h' e i.cls a0 T->Q () { s with heap:=h' }):wpAny M A (leaving env (.ref e)) Q E s:=by
 obtain⟨z,d,l⟩:=Kg s.heap (e::(Z5 (env::outer)++[]));have a:s.heap.FunFrames z (env::outer):=rebase (λb c=>d b (hQ _ (t7 _ c))) q;refine wpAny_leaving_firstW j a r u (λb o c=>?_) (d e re) hd x y λh' v=>?_
 ·by_cases p:b∈e::(Z5 (env::outer)++[])
  ·rw[d b p] at c;cases c
  ·rw[<-l b p];exact c
 ·obtain⟨T,g⟩:=IQ a l v;exact h h' T g
end
theorem p4.is{P:Program}{w:World}{H:Hp}{h:Heap}{a:Addr}{o:HO}(x:p4 P w H h a o):∃u,h.get? a=some u:=by
 cases o with
 | lst c=>obtain⟨_,_,_,_,e⟩:=x;exact⟨_,e⟩
 | tup c=>obtain⟨_,_,_,⟨o,e,_⟩⟩:=x;exact⟨_,e⟩
 | dK b=>obtain⟨_,_,_,_,o,_,_,e,_⟩:=x;exact⟨_,e⟩
 | dE b j=>obtain⟨_,_,_,_,o,_,e,_⟩:=x;exact⟨_,e⟩
 | dN b=>obtain⟨_,_,_,_,o,_,_,e,_⟩:=x;exact⟨_,e⟩
 | dT b=>obtain⟨_,_,_,_,o,_,_,e,_⟩:=x;exact⟨_,e⟩
 | set S n=>obtain⟨o,_,_,_,e,_⟩:=x;exact⟨_,e⟩
 | ins C l fs=>obtain⟨_,_,_,e,_⟩:=x;exact⟨_,e⟩
 | own y=>exact x
 | xd fs=>obtain⟨_,⟨_,_,_,e,_⟩,_⟩:=x;exact⟨_,e⟩
 | rng lo i=>obtain⟨_,_,_,e⟩:=x;exact⟨_,e⟩
 | frz ob u=>obtain⟨e,_⟩:=x;exact⟨_,e⟩
 | tbl g=>exact⟨_,(show h.get? a=some _ from x)⟩
 | met f y=>exact⟨_,(show h.get? a=some _ from x)⟩
 | ext d=>exact x.2.1
theorem U8.none_of{P:Program}{w:World}{H:Hp}{h:Heap}{a:Addr}(x:U8 P w H h)(e:h.get? a=none):H a=none:=by
 cases q:H a with
 | none=>rfl
 | some o=>
  obtain⟨u,b⟩:=(x a o q).is;rw[e] at b;cases b
theorem U8.Pt{P:Program}{w:World}{H:Hp}{h h':Heap}(x:U8 P w H h)(k:∀b u,H b≠none->h.get? b=some u->h'.get? b=some u):U8 P w H h':=λa o e=>
 (x a o e).cQ (λb u c q=>k b u (c.elim (λc=>by rw[c,e];intro z;cases z) λc=>by rw[c];intro z;cases z) q) (λ_ q=>q) λ_ _ q=>q
def KL(P:Program)(w:World):we:=λouter H s E x a=>∃(e:Addr) (b d:Value) (T:Addr) (c:Hp),x=.ref e/\NZ a.heap e b d T/\s.heap.get? e=none/\s.heap.get? T=none/\c e=none/\c T=none /\
 a.os=s.os/\AllBare a.gens/\Un (Z5 outer) [] H c s.heap a.heap/\U8 P w c a.heap/\E b none c
theorem Gb{P:Program}{w:World}{env:Env}{outer:List Env}{L e T:Addr}{old:WE}{H c:Hp}{h v r:Heap}{I a0:Value}(O:env.frame=some L)(U:Un (Z5 outer) [] H c h v)(ok:U8 P w c v)
  (Y:h.get? L=none) (X:h.get? e=none) (M:∀b∈old,h.get? b=none) (Q:c L=none) (te:c e=none) (J:∀b∈old,c b=none) (tf:∀b∈Z5 outer,c b=none)
  (g:KO (env::outer) old v r e I a0 T):Un (Z5 outer) [] H c h r/\U8 P w c r/\c T=none/\h.get? T=none:=by
 have y:∀b,b∈Z5 (env::outer)->b=L\/b∈Z5 outer:=λb a=>by
  unfold Z5 at a;rw[Ew,O] at a;exact List.mem_cons.mp a
 have l:∀b,b∈Z5 outer->b∈Z5 (env::outer):=λb a=>by
  unfold Z5 at a ⊢;rw[Ew,O];exact hQ _ a
 have G:∀b o,v.get? b=some o->b≠L->b≠e->b∉old->b∉Z5 outer->r.get? b=some o:=λb o a n1 n2 p R=>g.keep b o a n2 p λz=>(y b z).elim n1 R;have st:∀b o,h.get? b=some o->b≠L/\b≠e/\b∉old:=λb o a=>⟨λz=>(by rw[z,Y] at a;cases a),λz=>(by rw[z,X] at a;cases a),λz=>(by rw[M b z] at a;cases a)⟩
 refine⟨⟨λb o a C d _=>?_,λb o a C d B=>?_,U.free,λb o a B=>?_,U.P4,U.frzs,U.tbls⟩,ok.Pt λb u a S=>?_,?_,?_⟩
 ·obtain⟨n1,n2,p⟩:=st b o a;exact G b o (U.keep b o a C d (by simp)) n1 n2 p d
 ·obtain⟨sl,i⟩:=U.slot b o a C d B;obtain⟨j,E⟩:=g.slot b _ i (l b d);exact⟨j,E⟩
 ·obtain⟨n1,n2,p⟩:=st b o a;obtain⟨x,i⟩:=U.there b o a B
  by_cases d:b∈Z5 outer
  ·obtain⟨j,E⟩:=g.slot b _ i (l b d);exact⟨_,E⟩
  ·exact⟨x,G b x i n1 n2 p d⟩
 ·exact G b u S (λz=>a (z▸Q)) (λz=>a (z▸te)) (λz=>a (J b z)) λz=>a (tf b z)
 ·rcases g.new with z | z
  ·exact J T z
  ·exact ok.none_of z
 ·rcases g.new with z | z
  ·exact M T z
  ·cases q:h.get? T with
   | none=>rfl
   | some o=>
    obtain⟨x,i⟩:=U.there T o q (by simp);rw[z] at i;cases i
section
variable{P:Program}{w:World}{K:WR}{mg:WM}{base:Heap}{N:WG}{qual:Str}{scope:Scope}{f:Addr}{cd:Value}{A:Around}{outer:List Env}{s:Shared}{H:Hp}{E:XK}
 {pins:WA} {σ:St} {H1:Hp} {s1:Shared}
theorem yx:s.heap.get? s.heap.objs.size=none:=by
 cases e:s.heap.get? s.heap.objs.size with
 | none=>rfl
 | some o=>exact absurd (sK e) (TL _)
theorem Nc{e:Addr}{i:Value}{vs:WH}{h':Heap}(I:Inv (eR (KL P w) P w K mg base N qual scope f cd A outer s H E) pins σ H1 s1)(mk:Heap.MadeExcOf s1.heap h' e i vs)(y:E i none H1) :
  (eR (KL P w) P w K mg base N qual scope f cd A outer s H E).xe (.ref e) { s1 with heap:=h' }:=by
 obtain⟨t,x,_,_⟩:=mk.there;have p:s1.heap.FunFrames base (envOfC qual scope s.heap.objs.size f cd::outer):=I.stack;have j:h'.FunFrames base (envOfC qual scope s.heap.objs.size f cd::outer):=p.of_keeps λb o h _=>⟨o,mk.keeps b o h,rfl⟩
 have l:U8 P w H1 h':=U8.kept I.hok mk.keeps;have v:Un (Z5 outer) [] H H1 s.heap s1.heap:=I.base;have z:Un (Z5 outer) [] H H1 s.heap h':=v.trans (Un.kept mk.keeps)
 have u:s.heap.get? e=none:=by
  cases q:s.heap.get? e with
  | none=>rfl
  | some o=>
   obtain⟨B,r⟩:=v.there e o q (by simp);rw[mk.new] at r;cases r
 have te:H1 e=none:=U8.none_of I.hok mk.new;refine pG (L:=s.heap.objs.size) (I.ok.frames) j rfl x rfl (a0:=.ref t) rfl rfl λC T g=>?_
 obtain⟨a,b,c,d⟩:=Gb (L:=s.heap.objs.size) rfl z l yx u (λb h=>by cases h) I.free te (λb h=>by cases h) (λb h=>I.mi b (by
  show b∈Z5 (envOfC qual scope s.heap.objs.size f cd::outer);exact hQ _ h)) g
 exact⟨e,i,.ref t,T,H1,rfl,g.FJ,u,d,te,c,I.os,I.bare,a,b,y⟩
end
def Makes(X:Cx)(E:XK):Prop:=∀(a:WA) (h:St) (g:Hp) (c:Shared) (e:Addr) (b:Value) (vs:WH) (d:Heap),Inv X a h g c->Heap.MadeExcOf c.heap d e b vs->E b none g->X.xe (.ref e) { c with heap:=d }
theorem yU{P:Program}{w:World}{K:WR}{mg:WM}{base:Heap}{N:WG}{a:Str}{scope:Scope}{f:Addr}{g:Value}{A:Around}{outer:List Env}{s:Shared}{H:Hp}{E:XK} :
  Makes (eR (KL P w) P w K mg base N a scope f g A outer s H E) E:=λb h l i e d vs j I mk c=>Nc I mk c
def Ls(C:Addr)(E:XK)(t:TA):TS:=λ_ a H=>t a H λvs b=>vs.length<=sizeLine/\E (.ref C) none b
theorem DP{X:Cx}{x:Str}{C:Addr}{B U c p d u:String}{bm M:WH}{np b o:Pos}{a:Expr}{rest:WI}{E:XK}{t:TA}(O:OwnCls x C bm c X.mg X.base)(Fn:ExcBaseFacts U c u M)(G:bm.contains (.type U)=true)
  (S:ExcBaseFacts B p d bm) (hc:X.calm=true) (mk:Makes X E) (hg:Gl X x) (ha:PA X (a::rest) t) (z:(x == ("__debug__" : Str))=false:=by decide)
  (R:starEach (a::rest) X.env=(false,eval a X.env)::starEach rest X.env:=by rfl) (v:(backTo b (starEach rest X.env)).any (·.1)=false:=by rfl) :
  PS X (.Raise (some (.Call (.Name x np) (a::rest) [] b)) none o) (Ls C E t):=by
 refine .of ?_;intro g s Q H D I h;obtain⟨Y,N,nm,q,bs,i,sn,sub,ab,J,dd,k0,k1,k2,k3,k5,mN,hC,hN,y,T⟩:=O.obj
 refine wpAny_Raise_call_subU (C:=C) (nm:=nm) (q:=q) (N:=N) (bs:=bs) (bm:=Y) (hdct:=i) (sn:=sn) (sub:=sub) (ab:=ab) (col:=J) (dd:=dd) (k0:=k0) (k1:=k1) (k2:=k2) (k3:=k3) (k5:=k5)
  Fn G S (mN:=mN) (T.hasType S.hasBase) (I.ok.hd hc) (by rw[R];show(false||(backTo b (starEach rest X.env)).any (·.1))=false;rw[v];rfl) y (yf I hg O.bound ⟨rfl,?_⟩ z)
 have j:=ha b g s Q H _ I h;rw[R] at j ⊢;refine UL (p9 j λus s1 ⟨vs,H1,l,r,hl,hE⟩=>⟨rfl,by rw[<-r.length];exact hl,l.bk _ _ hC,hN.keeps l.bk,T.keeps l.bk,λh' e m=>mk g Q H1 s1 e _ _ h' l m hE⟩)
section
variable{M:Model}{A:Around}{E:WO}{s:Shared}{base:Heap}{env:Env}{outer:List Env}{L e:Addr}{Q:Unit->Shared->Prop}
end
section
variable{M:Model}{A:Around}{E:WO}{h:Heap}{g:Array GenState}{d:Drawn}{t:Nat}{os:OsState}{e C C':Addr}{oe:Obj}{Q:Bool->Shared->Prop}
 {nm q:Str} {N:Addr} {bs bm:WH} {hdct:Bool} {sn:WG} {sub:WH} {ab:Bool} {col:Option Bool} {dd:Option Addr} {k0 k1 k2 k3 k5:WS} {newId:String}
 {nm' q':Str} {N':Addr} {bs' bm':WH} {hdct':Bool} {sn':WG} {sub':WH} {ab':Bool} {col':Option Bool} {dd':Option Addr} {k0' k1' k2' k3' k5':WS} {newId':String}
end
def Cx.ar(X:Cx)(e:Addr)(a:Obj)(F:WO):Cx:={ X with A:=X.A.mark (some (.ref e)),calm:=false,pn:=X.pn++[(e,a)],xe:=F }
section
variable{X:Cx}{pins:WA}{σ:St}{H:Hp}{s:Shared}{e:Addr}{oe:Obj}{F:WO}
theorem Cx.Ok.ar(ok:X.Ok):(X.ar e oe F).Ok:=
 ⟨ok.mod,ok.kind,ok.glob,ok.blt,ok.above,ok.inj,ok.has,ok.cab,λz=>absurd (show false=true from z) rm,ok.frames,ok.stk,ok.exf,ok.bs,ok.bsz,ok.noex,ok.exfs,ok.fC,ok.frf⟩
theorem Inv.ar(I:Inv X pins σ H s)(h:s.heap.get? e=some oe)(g:H e=none)(d:e≠X.env.locals)(c:e∉X.fs)(b:∀v,oe.data≠.cell v):Inv (X.ar e oe F) pins σ H s:=by
 refine⟨I.ok.ar,I.os,I.bare,I.base,I.loc,I.cell,I.free,I.freeC,λp a=>?_,I.hok,I.len⟩;have a:p∈(X.pn++[(e,oe)])++pins:=a;rcases List.mem_append.mp a with z | z
 ·rcases List.mem_append.mp z with z | z
  ·exact I.pin p (t7 _ z)
  ·rw[List.mem_singleton.mp z];exact⟨h,g,d,c,b⟩
 ·exact I.pin p (rj _ z)
end
structure NB(X:Cx)(pins:WA)(σ:St)(H:Hp)(s:Shared)(e T:Addr)(cls a0:Value):Prop where
 inv:Inv X pins σ H s
 FJ:NZ s.heap e cls a0 T
 te:H e=none
 tT:H T=none
 from_:∃H1 s1,Inv X pins σ H1 s1/\s.os=s1.os/\AllBare s.gens/\Un (Z5 X.stack) [] H1 H s1.heap s.heap/\s1.heap.get? e=none/\s1.heap.get? T=none
section
variable{X:Cx}{pins:WA}{σ:St}{H:Hp}{s:Shared}{e T:Addr}{cls a0:Value}{E:XK}{x:Value}{Q:Unit->Shared->Prop}{M:Model}{A:Around}{E2:WO}
theorem NZ.apart{base:Heap}{l:List Env}{h:Heap}(f:NZ h e cls a0 T)(d:h.FunFrames base l):e∉Z5 l/\T∉Z5 l:=by
 obtain⟨q,vs,r,g,i,u,B,hd,y,j,p,c,v⟩:=f;refine⟨λz=>?_,λz=>?_⟩
 ·obtain⟨_,o,a,b⟩:=d.mem z;rw[i] at a;cases a;exact b vs hd
 ·obtain⟨_,o,a,b⟩:=d.mem z;rw[p] at a;cases a;exact b g c
theorem NB.pin(a:NB X pins σ H s e T cls a0){F:WO}:∃c,c.cls=cls/\Inv (X.ar e c F) pins σ H s:=by
 have y:=a.FJ.apart a.inv.stack;obtain⟨c,vs,l,j,g,h,p,hd,_⟩:=a.FJ;refine⟨c,h,a.inv.ar g a.te (λz=>?_) (λz=>?_) λv z=>by rw[hd] at z;cases z⟩
 ·obtain⟨m,⟨o,r,u,d,b,_⟩,_⟩:=a.inv.loc;rw[<-z,g] at d;cases d;rw[hd] at b;cases b
 ·have i:s.heap.FunFrames X.base X.outer:=by
   rcases a.inv.ok.stk with q | ⟨q,_⟩
   ·rw[<-q];exact a.inv.stack
   ·have:=a.inv.stack;rw[q] at this;exact this.2.2
  exact(a.FJ.apart i).1 z
end
section
variable{X:Cx}{pins:WA}{σ:St}{H:Hp}{s:Shared}{i:Nat}{n:Str}{M:Model}{A:Around}{E:WO}{Q:Unit->Shared->Prop}
end
end L2
namespace L3
open PySem PySem.Spec PySem.Calls PyProof.Rows L2
abbrev Pj:=List D->(D->Prop)->(Str->Prop)->Prop
def mK(mg:WM)(W:Str->Prop)(H:Hp)(E:XK):Prop:=∀(y:Str) (C:Addr) (a:Hp),W y->mg y=some (.ref C)->c9 H a->E (.ref C) none a
def OS(K:WR)(mg:WM)(c:Pj):Sp:=λvs H Q E=>∃d A e W,i5 K H vs d A/\c d e W/\(∀r v b B,e r->c9 H b->Rep K b v r B->B.Nodup->(∀a∈B,H a=none)->Q v b)/\mK mg W H E
structure Lw(P:Program)(w:World)(K:WR)(mg:WM)(base:Heap)(x:Str)(k:Nat)(ps:WG)(sp:Sp)(f:Addr)(fd:FuncData):Prop where
 ok:p3 P w K mg base (KL P w) k f fd ps sp
 mgf:mg x=some (.ref f)
 kp:PySem.W.keepIn K (.ref f)=true
 bd:Binds K fd ps []
def calm(c:Pj):Cp:=λa Q=>c a Q λ_=>False
theorem PY{X:Cx}{P:Program}{w:World}:Passes (KL P w) X E0:=λ_ _ _ _ _ _ _ h=>by
 obtain⟨_,_,_,_,_,_,_,_,_,_,_,_,_,_,_,h⟩:=h;exact(show False from h).elim
section
variable{X:Cx}{cl:List Cl}{e:Expr}{es:WI}{pos p:Pos}{us:cy}{k:Nat}{fn:Addr}{fd:FuncData}{ps:WG}{x:Str}
theorem CW {c:Pj} (C:Lw X.prog X.w X.K X.mg X.base x k ps (OS X.K X.mg c) fn fd) (M:E7 k X.A) (O:Gl X x) (i:zN X cl (e::es) us) (b:isStar e=false) (g:(x == ("__debug__" : Str))=false:=by decide)
  (d:(backTo pos (starEach es X.env)).any (·.1)=false:=by rfl):PU X cl (.Call (.Name x p) (e::es) [] pos) .fresh (j5 (calm c) us):=.of<|by
 obtain⟨t,pt,h⟩:=i.run;refine⟨_,cZ C.ok M O C.mgf C.kp C.bd .nil PY pt g (M6 b) d,λG l j H T Q R S E J I=>?_⟩;refine h G l j H T _ _ S E J λvs H1 U A s r n3 q=>?_;rw[tz];exact⟨U,A,Q,_,r,q,λr v Y B y o u n1 n2=>I v Y r B (s.trans o) u ⟨n1,λa i=>s.free (n2 a i)⟩ y,λ_ _ _ z=>z.elim⟩
end
theorem To{CX:we}{Wt:Type}{Wi:Wt->Hp->XK->Prop}{P:Program}{w:World}{K:WR}{mg:WM}{base:Heap}{x p:Str}{st:Stmt}{f:Addr}{fd:FuncData}{N ps:WG}{k:Nat}{c:List D->(D->Prop)->Wt->Prop}{s:Wt->g4}{cl:List Cl}(F:M0 K x p st f fd)(S:i3 N ps (c6 st))(T:noOwn cl ps.length=true)
  (hl:∀ds Q W,c ds Q W->ds.length=ps.length)
  (hb:∀(W:Wt) (u:Value) (A:Around) (outer:List Env) (X:Shared) (H:Hp) (E:XK),E7 k (A.deeper (envOfC p (c6 st) X.heap.objs.size f u))->Wi W H E->kJ (eR CX P w K mg base N p (c6 st) f u A outer X H E) (cl++[.mk H]) (G9 st) (s W))
  (hc:∀ds Q W,c ds Q W->s W { nx:=λ_=>Q .l3,rt:=λd _=>Q d } (g9 N.length ds)):p3 P w K mg base CX (k+1) f fd ps (λvs H Q E=>∃ds A M W,i5 K H vs ds A/\c ds M W/\(∀r v l B,M r->c9 H l->Rep K l v r B->B.Nodup->(∀a∈B,H a=none)->Q v l)/\Wi W H E):=by
 obtain⟨oc,od,kV,ac,pm,an,u,ct,ab,rfl,lk,a3⟩:=F.ex;refine Kn lk a3 S (λvs H Q E h=>?_) λA outer X H vs Q E hr h=>?_
 ·obtain⟨ds,A,M,W,r,q,_⟩:=h;rw[r.length];exact hl ds M W q
 ·obtain⟨ds,B,M,W,r,q,kk,wi⟩:=h;have R:=hl ds M W q;obtain⟨t,pt,h⟩:=(hb W u A outer X H E hr wi).run;obtain⟨fa,h1,Y⟩:=r.each
  let G:Ent:=⟨H,λ_=>[],vs,cl++[.mk H],λ_=>False,H⟩
  have vl:vs.length=ps.length:=r.length.trans R
  have bor:∀i,i<vs.length->(cl++[Cl.mk H])[i]?=some .bor:=λi b=>by
   have q:=aU T (show i<ps.length by omega);rw[ud (List.getElem?_eq_some_iff.mp q).1];exact q
  have g:∀i,i<vs.length->¬G.own i:=λi b z=>by
   have y:(cl++[Cl.mk H])[i]?=some .own:=z;rw[bor i b] at y;cases y
  have U:∀i,G.own i->fa i=[]:=λi b=>Y i (by
   have q1:¬i<vs.length:=λq=>g i q b;have q2:=r.length;omega)
  have a2:∀(j:Nat) (l:Hp),(cl++[Cl.mk H])[j]?=some (.mk l)->l=H:=λj l e=>by
   by_cases hj:j<cl.length
   ·rw[ud hj] at e;exact(cS T e).elim
   ·rw[wT (by omega)] at e
    cases hk:j-cl.length with
    | zero=>rw[hk] at e;cases e;rfl
    | succ m=>rw[hk] at e;cases e
  have E0:E3 K G (g9 N.length ds) (L2.start N vs) H fa:=by
   refine⟨λi d e=>?_,λi e=>Y i ?_,cg r.length.symm,λi b=>?_,λi j _ b a J=>?_,λi b I=>absurd I (g i b),λi b I=>absurd I (g i b),λi b a J=>?_,λa o h _=>h,V2.refl H,λa z=>z.elim,λa z=>z.elim,λi _ a _ z=>z,⟨λi b I=>absurd I (g i b),λj l e a o a4=>?_⟩⟩
   ·obtain⟨v,e1,r1⟩:=h1 i d (bI e);exact⟨v,W2 e1,r1⟩
   ·by_cases b:i<ds.length
    ·exact absurd (ba (nA b)) (e _)
    ·omega
   ·rw[Y i (by
     by_cases q:i<ds.length
     ·rcases b with b | b
      ·exact absurd b (g i (by have:=r.length;omega))
      ·have y:(cl++[Cl.mk H])[i]?=some .loc:=b;rw[bor i (by have:=r.length;omega)] at y;cases y
     ·omega)];exact sd
   ·rw[U i b] at J;cases J
   ·rcases b with b | b
    ·have:¬i<vs.length:=λq=>by
      have y:(cl++[Cl.mk H])[i]?=some .loc:=b;rw[bor i q] at y;cases y
     rw[Y i (by have:=r.length;omega)] at J;cases J
    ·rw[U i b.1] at J;cases J
   ·have e:l=H:=a2 j l e;subst e;exact⟨a4,λi b I=>absurd I (g i b)⟩
  refine⟨t,pt,h G _ _ _ H fa _ rfl E0 (hc ds M W q) ⟨λa0 l C=>?_,λv l C=>?_,λ_ _ z=>?_,λ_ _ z=>?_⟩⟩
  ·obtain⟨a1,a5,E',C⟩:=C;exact kk .l3 .l3 l [] C (E'.kept (j:=cl.length) (show(cl++[Cl.mk H])[cl.length]?=some (.mk H) from by rw[wT (oT _),Uo];rfl)) .l3 sd (λ_ h=>(by cases h))
  ·obtain⟨d,a1,a0,a5,B',E',r',n',O,_,C⟩:=C;exact kk d v l B' C (E'.kept (j:=cl.length) (show(cl++[Cl.mk H])[cl.length]?=some (.mk H) from by rw[wT (oT _),Uo];rfl)) r' n' O
  ·obtain⟨_,_,_,z⟩:=z;exact z
  ·obtain⟨_,_,_,z⟩:=z;exact z
theorem fnX{P:Program}{w:World}{K:WR}{mg:WM}{base:Heap}{x a:Str}{st:Stmt}{f:Addr}{h:FuncData}{N ps:WG}{k:Nat}{c:Pj}{s:(Str->Prop)->g4}{cl:List Cl}(F:M0 K x a st f h)(S:i3 N ps (c6 st))(e:noOwn cl ps.length=true)
  (i:∀ds Q W,c ds Q W->ds.length=ps.length)
  (l:∀(W:Str->Prop) (b:Value) (A:Around) (outer:List Env) (g:Shared) (H:Hp) (E:XK),E7 k (A.deeper (envOfC a (c6 st) g.heap.objs.size f b))->mK mg W H E->kJ (eR (KL P w) P w K mg base N a (c6 st) f b A outer g H E) (cl++[.mk H]) (G9 st) (s W))
  (j:∀ds Q W,c ds Q W->s W { nx:=λ_=>Q .l3,rt:=λd _=>Q d } (g9 N.length ds)):p3 P w K mg base (KL P w) (k+1) f h ps (OS K mg c):=To (Wi:=λW H E=>mK mg W H E) F S e i l j
section
variable{X:Cx}{cl:List Cl}{e:Expr}{es:WI}{pos cpos hpos np p:Pos}{us:cy}{k:Nat}{fn:Addr}{fd:FuncData}{ps:WG}{x y bn n:Str}{i:Nat}
def Dt(W:Str->Prop)(y:Str)(us:cy):g4:=λ_ a=>us a λb=>Nat.ble b.length 9=true/\W y
theorem GQ{C:Addr}{B M a c b d:String}{bm v:WH}{W:Str->Prop}{I:Hp}{J:XK}{j:Nat}(O:OwnCls y C bm a X.mg X.base)(Fn:ExcBaseFacts M a d v)(u:bm.contains (.type M)=true)(FB:ExcBaseFacts B c b bm)(hc:X.calm=true)
  (mk:Makes X J) (U:mK X.mg W I J) (hj:cl[j]?=some (.mk I)) (hg:Gl X y) (ha:zN X cl (e::es) us) (g:isStar e=false) (o:(y == ("__debug__" : Str))=false:=by decide) (l:(backTo cpos (starEach es X.env)).any (·.1)=false:=by rfl) :
  J5 X cl (.Raise (some (.Call (.Name y np) (e::es) [] cpos)) none pos) (Dt W y us):=.of<|by
 obtain⟨t,pt,h⟩:=ha.run;refine⟨_,DP O Fn u FB hc mk hg pt o (M6 g) l,λG T S Q H fa R z E Y le=>?_⟩;refine h G S Q H fa _ _ z E Y λvs H1 ds A s r n3 q=>⟨?_,U y C H1 q.2 O.bound ((E.same s).kept (j:=j) (by rw[z];exact hj))⟩
 have:=vv q.1;rw[r.length,GM];omega
end
end L3
namespace PySem.W
open PySem PySem.Calls PyProof.Rows Builtin Builtin.ObjectAttr Builtin.Getset_descriptor
section
variable{K:Frag}{prog:Program}{w:World}{A:Around}{E:WO}{s:Shared}{e D:Addr}{oe:Obj}
end
end PySem.W
namespace PySem.W
open PySem PySem.Calls PyProof.Rows
structure JE(K:Frag)(D:Addr):Prop where
 ga:findIn K (.ref D) "__getattribute__"=some (some (.builtin "BaseException.__getattribute__"))
 gn:findIn K (.ref D) "__getattr__"=some none
 cl:findIn K (.ref D) "__class__"=some (some (.builtin "object.__class__"))
 sp:specialIn K (.builtin "object.__class__") "__get__"=some (some (.builtin "getset_descriptor.__get__"))
 tk:takesIn K (.builtin "object.__class__")=some true
 ob:mroIn K D (.type "object")=some true
 be:mroIn K D (.type "BaseException")=some true
section
variable{K:Frag}{D e:Addr}
theorem JE.at(B:JE K D):∃c d b a,K.lookup D=some ⟨c,d,.cls b,a⟩:=by
 have h:=B.ob;unfold mroIn clsIn at h;split at h
 ·rename_i c d b a g
  exact⟨_,_,_,_,g⟩
 ·cases h
theorem FW{h:Heap}{C:Addr}{d:WH}{a:String}(X:K.In h)(q:excIn K C d a=true) :
  ∃bm N nm g bs hd sn sub ab col dd k0 k1 k2 k3 k5 mN,h.get? C=some (excClassObj nm g C N bs bm hd sn sub ab col dd k0 k1 k2 k3 k5 a)/\h.Ns N mN/\mN "__init__"=none/\OwnTail h d bm/\∀v r,mroIn K C v=some r->(Value.ref C::bm).contains v=r:=by
 unfold excIn at q;split at q
 case h_2=>cases q
 rename_i dd G o p
 split at q
 case h_2=>cases q
 rename_i u bm k0 k1 k2 k3 n k5 j B
 simp only[uk,beq_iff_eq,Bool.not_eq_true'] at q;obtain⟨⟨⟨⟨⟨rfl,rfl⟩,b⟩,z⟩,hok⟩,c⟩:=q
 have y:∀v r,mroIn K u v=some r->(Value.ref u::bm).contains v=r:=λv r e=>by
  unfold mroIn clsIn at e;rw[p] at e;simp only[Option.bind_some,j,List.isEmpty_cons] at e;exact v7 e
 obtain⟨nm,bs,x,ns,g,hd,sn,sub,ab,col,E⟩:=G;dsimp only at j b hok c;subst j b
 have i:o=#[k0,k1,k2,k3,some (.builtin n),k5]:=by
  obtain⟨l⟩:=o;exact Fa Array.mk B
 subst i;exact⟨bm,ns,nm,g,bs,hd,sn,sub,ab,col,dd,k0,k1,k2,k3,k5,_,X _ _ p,.of_isNs (isNs_of_in X hok),nsMap_none_of_in X hok c,tail_of_in X z,y⟩
theorem Oz{h:Heap}{C:Addr}{i:WH}{g:String}{mg:WM}{x:Str}(X:K.In h)(G:h.Ns mainGlobals mg)(e:nsIn K mainGlobals x=some (some (.ref C)))(q:excIn K C i g=true):OwnCls x C i g mg h:=by
 obtain⟨E,N,nm,o,bs,hd,l,sub,H,j,B,z,y,v,u,r,p,a,b,c,d,_⟩:=FW X q;exact⟨mg_of X G e,E,N,nm,o,bs,hd,l,sub,H,j,B,z,y,v,u,r,p,a,b,c,d⟩
end
end PySem.W
namespace L3
open PySem PySem.Spec PySem.Calls PyProof.Rows PySem.W L2
section
variable{X:Cx}{cl:List Cl}{e C:Addr}{oe:Obj}{pos p p1 p2:Pos}{n y:Str}{i:Nat}{b:Bool}
end
end L3
namespace L2
open PySem PySem.Spec PyProof.Rows
end L2
namespace L3
open PySem PySem.Spec PyProof.Rows L2
section
variable{X:Cx}{cl:List Cl}{tg e a kx:Expr}{f fb:Fl}{ua ub:TU}{pos p:Pos}
def Be(c uv:TU):TU:=λb Q=>c b λx=>match V0 x with
 | some k=>uv b λy=>u9 y=true/\Q (.dic [(k,y)])
 | none=>False
theorem Ct(C:PU X cl kx f ua)(r:PU X cl e fb ub):PU X cl (.Dict [some kx] [e] pos) .fresh (Be ua ub):=.of<|by
 obtain⟨tk,pk,C⟩:=C.run;obtain⟨tv,pv,r⟩:=r.run;refine⟨_,sR<|HD (CZ pk pv Hr) rfl rfl (by simp) (show 1<=15 by decide),λG T S H fo Q R hG E hu k=>?_⟩;intro d hd;have l:c9 H (upd H d (.dK [])):=c9.e7 hd;refine C G T S _ fo _ _ hG (E.same l) hu λv H1 x A j r1 f1 i=>?_
 cases M:V0 x with
 | none=>rw[M] at i;exact i.elim
 | some g=>
  rw[M] at i;refine r G T S H1 fo _ _ hG ((E.same l).same j) i λw O y B U Y f2 q2=>?_;have h:O d=some (.dK []):=U _ _ (j _ _ c7);cases N7 r1 M;have hB:=Y.C9 q2.1;subst hB;refine⟨h,[(g,w)],rfl,by show 1<=15;decide,d,_,rfl,c7,λep=>?_⟩;rw[Y7]
  have s3:c9 H (upd O d (.dE (A3 [] [(g,w)]) ep)):=λb o I=>by
   have c:b≠d:=λz=>by subst z;rw[hd] at I;cases I
   rw[e9 c];exact U _ _ (j _ _ (l _ _ I))
  have q:Rep X.K (upd O d (.dE (A3 [] [(g,w)]) ep)) w y []:=Y.W3 ⟨λb xs e=>by
    have c:b≠d:=λz=>by subst z;rw[h] at e;cases e
    rw[e9 c];exact e,λb o u e=>by
    have c:b≠d:=λz=>by subst z;rw[h] at e;cases e
    rw[e9 c];exact e⟩ (λa J=>by cases J)
  exact k _ _ _ [d] s3 (.dic c7 (.cons q .nil)) ⟨List.nodup_cons.mpr ⟨(λz=>nomatch z),sd⟩,λa J=>by cases List.mem_singleton.mp J;exact hd⟩ q2.2
end
end L3
namespace PySem.SeqAt
open PySem MeetsSeq MeetsSeq2 MeetsSeq3 SeqRoads2
section
variable{A:Around}{s:Shared}
end
end PySem.SeqAt
namespace L2
open PySem PySem.Spec PyProof.Rows
section
variable{X:Cx}
end
end L2
namespace L3
open PySem PySem.Spec PyProof.Rows L2
section
variable{X:Cx}{cl:List Cl}{a b:Expr}{fa fb:Fl}{ua ub:TU}{pos:Pos}
end
end L3
namespace L2
open PySem PySem.Spec PyProof.Rows
section
variable{X:Cx}
end
end L2
namespace L3
open PySem PySem.Spec L2
section
variable{X:Cx}{cl:List Cl}{a:Expr}{fa:Fl}{ua:TU}{pos:Pos}
end
end L3
namespace PySem
theorem mn:typeLookup (.type "list") "keys"=pure none:=by rw[Tl,Gc];kernel_rfl
theorem GJ{prog:Program}{w:World}{A:Around}{E:WO}{s:Shared}{a:Addr}{o:Obj}{xs:WL}{k:Nat}{Q:WS->Shared->Prop}
  (l:s.heap.get? a=some o) (p:o.cls=.type "list") (b:o.data=.seq xs k) (hd:o.dict=none) (v:A.handled=none)
  (h:∀h' tk e,Heap.NewExcOf s.heap h' e "AttributeError"->Q none { s with heap:=h',toks:=tk }):wpAny (model prog w) A (getAttr? (.ref a) "keys") Q E s:=by
 obtain⟨c,x,y,r⟩:=o;simp only at p b hd;subst p b hd;obtain⟨u,g,d,tk,os⟩:=s;have q:∀i,(⟨u,g,d,i,os⟩:Shared).TypeIs (.ref a) "list":=λ_=>⟨_,l,rfl⟩
 have J:=sub_AttributeError;have I:=F.slot_list_getattribute.lookup;have H:=F.slot_list_getattribute.bind (.ref a);have G:=am_list_getattr_none;unfold getAttr? getAttrBy? getAttrBy
 repeat (any_goals (first | assumption | exact q _ | ((with_reducible show wpAny _ _ (call (Value.builtin "list.__getattribute__") _ _) _ _ _);refine VO F.slot_list_getattribute (q _) am_entry_list_getattribute (F.args_list_getattribute_2 _ _) (meets_getattribute_miss_list a xs k r "keys" _ mn (by decide +kernel) (by size_fits)) ⟨l,v,λh' i e j=>?_⟩) | wp_step))
 obtain⟨B,z,C⟩:=j.there;show wpAny _ _ (getattributeRaised _ _ _ _ _ _ _) _ _ _;unfold getattributeRaised
 repeat (any_goals (first | assumption | wp_step))
 exact h _ _ _ j.of
end PySem
namespace L2
open PySem PySem.Spec PyProof.Rows
theorem qS:entryFor table "dict.update.loop"=some Builtin.«dict.update.loop»:=entryFor_of_tree (by kernel_rfl)
theorem dh:plainId "dict.update.loop"=true:=by decide +kernel
def xy(H:Hp)(t:V)(b:Key×V):Prop:=∃a,t=.ref a/\H a=some (.tup [kV b.1,b.2])
theorem lz{d c:Type}{F:d->c->Prop}:∀{l:List d} {m:List c},Paired F l m->∀(i:Nat) (a:d) (b:c),l[i]?=some a->m[i]?=some b->F a b
 | _,_,.nil,i,a,b,h,_=>by simp at h
 | _,_,.cons r t,0,a,b,h,g=>by simp at h g;subst h g;exact r
 | _,_,.cons r t,i+1,a,b,h,g=>lz t i a b (by simpa using h) (by simpa using g)
section
variable{X:Cx}{pins:WA}{σ:St}
theorem uW{H:Hp}{s:Shared}{a:Addr}{v:V}{u r:Value}{A:Around}{E:WO}{kvs:List (Key×V)}{k:Key}{Q:Unit->Shared->Prop}(I:Inv X pins σ H s)(e:H a=some (.dK kvs))(l:kvs.length<sizeLine)(i:RelV (kV k) u)(rv:RelV v r)
  (h:∀d,Inv X pins σ (upd H a (.dK (putK kvs k v))) d->Heap.SameBut a s.heap d.heap->Q () d):wpAny (model X.prog X.w) A (dictSet a u r) Q E s:=by
 obtain⟨z,hd,vs,b,x⟩:=yh I.hok e;have j:vs.length<=sizeLine:=by rw[<-b.length];exact z
 have p:(putK kvs k v).length<=sizeLine:=by have:=D9 kvs k v;omega
 refine wpAny_dictSet_pairs (hsz:=j) (Z8 i) x λy c g=>h _ ?_ g;exact bh I (by rw[e];exact True.intro) g (let ⟨q,_,_,o,_⟩:=c;⟨q,o⟩) (gL p hd (b.put k rv) c)
theorem IK{A:Around}{R:Result->Shared->Prop}{H:Hp}{d p it:Addr}{ts:List V}{kvs:List (Key×V)}(hh:A.handled=none)(hp:G7 X.K H p ts)(hd:H d=none)(C:Paired (xy H) ts kvs)(hl:kvs.length<sizeLine)(hit:it≠d)(h:∀o,L8 X pins (upd H d o) it)(z:∀j,Inv X pins σ (upd H d (.dK (A3 [] kvs))) j->R (.ok (.ret .none)) j) :
  ∀(n i:Nat) (s:Shared),kvs.length-i=n->i<=kvs.length->Inv X pins σ (upd H d (.dK (A3 [] (kvs.take i)))) s->s.heap.IsListIter it p i ->
   codeAny (model X.prog X.w) A (.builtin "dict.update.loop" ⟨[.ref d,.ref it,rawInt i,.none],[]⟩) R s:=by
 intro n
 induction n with
 | zero=>
  intro i s hn c I st;have e:i=kvs.length:=by omega
  subst e;rw[wE] at I;have hq:G7 X.K (upd H d (.dK (A3 [] kvs))) p ts:=c9.seq (c9.e7 hd) hp;obtain⟨B,rv,pl,hz⟩:=I.list hq;obtain⟨Q,O,f2,M,J,G⟩:=h (.dK (A3 [] kvs));have e1:=C.length;have e2:=rv.length;refine Go qS ?_;rw[BB dh _];show wpAny _ A.in1 (pyNext (.ref it) >>= _) _ _ s;refine eH (wpAny_pyNext_list_end hh st pl.isList (by simp;omega) λl eb=>?_);have q:=I.turned (t':=s.toks) (h':=l) (λb o E e=>eb b o E e) Q O M J G;exact eH (hH (hH (z _ q)))
 | succ n ih=>
  intro i s hn c I st;have c:i<kvs.length:=by omega
  have sm:c9 H (upd H d (.dK (A3 [] (kvs.take i)))):=c9.e7 hd;obtain⟨B,rv,pl,hz⟩:=I.list (c9.seq sm hp);obtain⟨Q,O,f2,M,J,G⟩:=h (.dK (A3 [] (kvs.take i)));have e1:=C.length;have hx:ts[i]?=some (ts[i]'(by omega)):=nA (by omega);have hk:kvs[i]?=some (kvs[i]'c):=nA c;obtain⟨a,ea,ha⟩:=lz C i _ _ hx hk;obtain⟨u,hu,T⟩:=rv.get hx;rw[ea] at T;cases(show u=Value.ref a from T);refine Go qS ?_;rw[BB dh _];show wpAny _ A.in1 (pyNext (.ref it) >>= _) _ _ s;refine eH (wpAny_pyNext_list_item st pl.isList (x:=.ref a) (by simpa using hu) λl r sb=>?_);have q:=I.turned (t':=s.toks) (h':=l) (λb o E e=>(sb.2 b E).trans e) Q O M J G;obtain⟨_,Y,v,o2,g1,g2,n2,g3⟩:=(show p4 X.prog X.w _ l a (.tup _) from q.hok a _ (sm _ _ ha))
  obtain⟨U,S,rfl,rk,y⟩:=vals2 v
  have g:(A3 [] (kvs.take i)).length<sizeLine:=by
   have h1:=U6 (kvs.take i) [];rw[vy] at h1;simp at h1;omega
  have em:A3 [] (kvs.take (i+1))=putK (A3 [] (kvs.take i)) (kvs[i]'c).1 (kvs[i]'c).2:=by
   rw[v2,hk];unfold A3;rw[UR];rfl
  refine eH (x2 (eH (wpAny_tryCatch ?_)));unfold Builtin.Dict.pairItems;refine eH (Uz ⟨o2,g1,g2⟩ ?_);rw[ry (by decide)];refine eH (wpAny_seqItems g1 g3 (hH ?_));show wpAny _ _ (holding [U,S] (dictSet d U S)) _ _ _;refine x2 (uW q c7 g rk y λj I2 hs=>?_);rw[Y7,<-em] at I2;exact hH ⟨TH dh _,ih (i+1) j (by omega) c I2 (r.at λo e=>(hs.2 it hit).trans e)⟩
theorem sY(G:X.calm=true):D4 X (.type "dict") (λxs H Q=>∃p ts kvs,xs=[.ref p]/\G7 X.K H p ts/\Paired (xy H) ts kvs/\kvs.length<sizeLine/\∀d,H d=none->Q (.ref d) (upd H d (.dK (A3 [] kvs)))):=by
 intro pins s σ H xs Y Q I r h;obtain⟨p,ts,kvs,rfl,E,S,T,q⟩:=h;obtain⟨u,rfl,O⟩:=vals1 r;cases(show u=Value.ref p from O);refine callType_codes (Q₁:=λobj C=>obj=.ref s.heap.objs.size/\C={ s with heap:=s.heap.push { cls:=.type "dict",data:=.dict #[] } }) F.kt_called_dict (F.kt_typeCall_dict_1 _) F.entry_dict_init (kt_code_dict_new _ ⟨rfl,rfl⟩) ?_;rintro obj C ⟨rfl,rfl⟩;have v:=I.hok.fresh (oT s.heap.objs.size);have M:=I.laid (a:=s.heap.objs.size) (o:=.dK []) (h':=s.heap.push { cls:=.type "dict",data:=.dict #[] }) (t':=s.toks) (λ_ _ q=>hD _ q) (oT _) (aG s.heap I.big);obtain⟨x,rv,pl,hz⟩:=M.list (c9.seq (c9.e7 v) E);have J:Shared.TypeIs { s with heap:=s.heap.push { cls:=.type "dict",data:=.dict #[] } } (.ref s.heap.objs.size) "dict":=⟨_,sj _ rfl,rfl⟩
 refine⟨J,F.args_dict_init_2 _ _,?_⟩;unfold Builtin.«dict.__init__»;refine eH ?_;unfold Builtin.Dict.selfAndRest;refine eH (wpAny_notOrdered_dict J ?_);show wpAny _ _ (pure (s.heap.objs.size,[Value.ref p])) _ _ _;refine hH ?_;show wpAny _ _ (Builtin.Dict.updateFrom "dict.__init__" s.heap.objs.size (.ref p) [] .none) _ _ _;unfold Builtin.Dict.updateFrom;refine eH (Uz pl.isList.typeIs ?_);rw[ry (by decide)];obtain⟨ob,R,l,j,y,i⟩:=pl;refine eH (GJ l j i y (I.ok.hd G) λz c e2 nx=>?_);have B:=M.kept (t':=c) (h':=z) nx.keeps;rw[ry (show(none:WS).isNone=true from rfl)];refine eH (Uv ?_);refine eH (Vd (items:=x.toArray) ⟨ob,nx.keeps _ _ l,j,R,i⟩ ?_);refine hH ⟨TH dh _,?_⟩
 have g:s.heap.objs.size<z.objs.size:=by
  have:=sK (nx.keeps _ _ (sj s.heap (o:={ cls:=.type "dict",data:=.dict #[] }) rfl));exact this
 refine IK (X:=X) (pins:=pins) (σ:=σ) (A:=X.A.in1) (H:=H) (d:=s.heap.objs.size) (p:=p) (it:=z.objs.size) (ts:=ts) (kvs:=kvs) (I.ok.hd G) E v S T (Uq g) (λo=>?_) (λs' U=>?_) kvs.length 0 _ rfl (v5 _) ?_ ?_
 ·exact B.fP (oT _) (by rw[e9 (Uq g)];exact(c9.e7 v).free (B.hok.fresh (oT _)))
 ·exact⟨rfl,.ref s.heap.objs.size,_,U,rfl,q _ v⟩
 ·exact B.kept (t':=c) λb o e=>hD _ e
 ·exact⟨_,sj _ rfl,rfl,rfl⟩
end
end L2
namespace L3
open PySem PySem.Spec PyProof.Rows L2
def pairD:D->Option (Key×D)
 | .tup [k,v]=>(V0 k).map λj=>(j,v)
 | _=>none
def bF:List D->Option (List (Key×D))
 | []=>some []
 | x::a=>match pairD x,bF a with
  | some p,some b=>some (p::b)
  | _,_=>none
def iO(more:List (Key×D)):List (Key×D):=more.foldl (λa b=>putD a b.1 b.2) []
section
variable{X:Cx}
theorem oC{K:WR}{H:Hp}:∀{ts:List V} {xs:List D} {A:WE} {ps:List (Key×D)},i5 K H ts xs A->bF xs=some ps->u6 xs=true ->
  ∃kvs:List (Key×V),Paired (xy H) ts kvs/\u7 K H kvs ps []/\kvs.length=ps.length
 | _,_,_,_,.nil,e,_=>by cases e;exact⟨[],.nil,.nil,rfl⟩
 | _,_,_,ps,.cons (d:=d) (ds:=r) h t,e,I=>by
  have g:(u9 d&&u6 r)=true:=I;rw[uk] at g;unfold bF at e
  cases i:pairD d with
  | none=>rw[i] at e;cases e
  | some p=>
   cases l:bF r with
   | none=>rw[i,l] at e;cases e
   | some Q=>
    rw[i,l] at e;cases e;obtain⟨kvs,a,b,c⟩:=oC t l g.2;unfold pairD at i;split at i
    ·rename_i k v
     obtain⟨j,M,rfl⟩:=Option.map_eq_some_iff.mp i;obtain⟨q,vs,rfl,J,u⟩:=K7 h;obtain⟨x,y,B,C,rfl,E,o,_⟩:=u.two;cases N7 E M
     have G:u9 v=true:=by
      have z:(u9 k&&(u9 v&&true))=true:=g.1;simp only[uk] at z;exact z.2.1
     have O:=o.C9 G;subst O;exact⟨(j,y)::kvs,.cons ⟨q,rfl,J⟩ a,u7.cons (A:=[]) (B:=[]) o b,by rw[vu,vu,c]⟩
    ·cases i
theorem lN{K:WR}{H:Hp}:∀{kvs:List (Key×V)} {ps:List (Key×D)} {A:WE} {acc:List (Key×V)} {ad:List (Key×D)},u7 K H kvs ps A->A=[]->u7 K H acc ad []->u7 K H (A3 acc kvs) (ps.foldl (λa c=>putD a c.1 c.2) ad) []
 | _,_,_,_,_,.nil,_,q=>q
 | _,_,_,acc,ad,.cons (k:=k) h t,e,q=>by
  obtain⟨i,g⟩:=List.append_eq_nil_iff.mp e;subst i;obtain⟨C,b,d⟩:=q.put k h;rw[List.sublist_nil.mp d] at b;show u7 K H (A3 (putK acc k _) _) (List.foldl _ (putD ad k _) _) [];exact lN t g b
def tu:List D->(D->Prop)->Prop:=λe Q=>(∃(d:D) (b:List D) (c:List (Key×D)),e=[d]/\kindB false d=some b/\u6 b=true/\bF b=some c/\c.length<sizeLine/\Q (.dic (iO c))) \/
 ∃a:List (Key×D),e=[.dic a]/\(a.all λg=>u9 g.2)=true/\Q (.dic a)
def vZ(K:WR)(xs:List V)(H:Hp)(Q:VK):Prop:=(∃p b a,xs=[.ref p]/\G7 K H p b/\Paired (xy H) b a/\a.length<sizeLine/\∀d,H d=none->Q (.ref d) (upd H d (.dK (A3 [] a)))) \/
  ∃p a,xs=[.ref p]/\Dd H p a/\∀d,H d=none->Q (.ref d) (upd H d (.dK a))
theorem ot(C:X.calm=true):D4 X (.type "dict") (vZ X.K):=by
 intro c s g H i j Q I r h;rcases h with h | ⟨p,v,rfl,y,q⟩
 ·exact sY C c s g H i j Q I r h
 ·obtain⟨u,rfl,l⟩:=vals1 r;cases(show u=Value.ref p from l);obtain⟨z,hd,vs,a,J⟩:=bx I.hok (.of y);refine kt_call_dict hd J (by rw[<-a.length];exact z) λG d x=>?_;have B:=I.hok.fresh (oT s.heap.objs.size)
  have kp:∀b o,s.heap.get? b=some o->G.get? b=some o:=λb o e=>by
   have E:b≠s.heap.objs.size:=t8 (sK e);exact(x.2 b E).trans (hD _ e)
  have M:(s.heap.objs.size == sysModules)=false:=(aG (P:=X.prog) (w:=X.w) (H:=H) s.heap I.big).2.1;exact⟨.ref s.heap.objs.size,_,I.laid (t':=s.toks) kp (oT _) (gL z M a d),rfl,q _ B⟩
theorem jl(a:X.calm=true):D4 X (.type "dict") (λxs H Q=>vZ X.K xs H (Oc Q)):=CY (ot a)
theorem wJ:Call3 X (λxs H Q=>vZ X.K xs H (Oc Q)) tu:=by
 intro H vs T A Q R r q k;rcases q with⟨d,xs,x,rfl,S,j,O,I,q⟩ | ⟨C,rfl,j,q⟩
 ·obtain⟨v,rfl,i⟩:=r.one;obtain⟨p,l,B,rfl,E,u,_⟩:=Y3 i S;obtain⟨c,y,h,el⟩:=oC u O j;refine .inl ⟨p,l,c,rfl,E,y,by rw[el];exact I,λa g=>?_⟩;have o:u7 X.K H (A3 [] c) (iO x) []:=lN h rfl .nil;refine⟨a,_,rfl,c7,λM=>?_⟩;rw[Y7];refine k _ _ _ [a] (c9.e7 g) (.dic c7 (o.mono (V2.of (c9.e7 g)) λb e=>by cases e)) (List.nodup_cons.mpr ⟨(λz=>nomatch z),sd⟩) (λb e=>by cases List.mem_singleton.mp e;exact g) q
 ·obtain⟨v,rfl,i⟩:=r.one;obtain⟨p,c,B,rfl,G,h,_⟩:=aR i;have J:=h.C9 j;subst J;refine .inr ⟨p,c,rfl,G,λa g=>?_⟩;refine⟨a,_,rfl,c7,λM=>?_⟩;rw[Y7];exact k _ _ _ [a] (c9.e7 g) (.dic c7 (h.mono (V2.of (c9.e7 g)) λb e=>by cases e)) (List.nodup_cons.mpr ⟨(λz=>nomatch z),sd⟩) (λb e=>by cases List.mem_singleton.mp e;exact g) q
end
end L3
namespace L2
open PySem PySem.Spec PyProof.Rows
section
variable{X:Cx}{e c:Expr}{te:TE}{pos p2:Pos}
def OK(K:WR)(te:TE)(tc:TO):TE:=λd H Q=>te d H λx h=>tc d h λl b=>l=some (-1)/\∃a g,x=.ref a/\G7 K b a g/\∀p,b p=none->Q (.ref p) (upd b p (.lst g.reverse))
theorem Hc{tc:TO}(R:PE X e te)(S:PO X (some c) tc):PE X (.Subscript e (.Slice none none (some c) p2) pos) (OK X.K te tc):=by
 refine .of ?_;intro d s i H Q I h;refine Subscript_ (p9 (R d s i H _ I h) λv B ⟨x,H1,Y,C,G⟩=>?_);refine wpAny_Slice ?_;rw[VI];refine hH (hH ?_);refine p9 (S d B i H1 _ Y G) λp g ⟨l,H2,U,pc,T,a,z,ex,O,E⟩=>?_;subst T ex;cases C;have j:Inv X d i H2 { g with heap:=g.heap.push { cls:=.type "slice",data:=.fields #[.none,.none,p] } }:=U.kept (t':=g.toks) λb ob q=>hD _ q;obtain⟨J,r,u,M⟩:=j.list O;have y:=r.length;show wpAny (model X.prog X.w) X.A (subscriptTail e (.Slice none none (some c) p2) (.ref a) (.ref g.heap.objs.size)) (EP X d i Q) X.xe { g with heap:=g.heap.push { cls:=.type "slice",data:=.fields #[.none,.none,p] } };refine tail_any (ops:=[.ref a,.ref g.heap.objs.size]) u.isList.typeIs slot_list_getitem.lookup ?_ (by with_unfolding_all rfl);refine wpAny_getItem_list_slice u.isList (VR ..) .none .none pc (by decide) ?_ (by rw[sh];omega);rw[PySem.W.krv_pick];refine⟨.ref _,_,j.laid (t':=g.toks) (o:=.lst z.reverse) (λb ob q=>hD _ q) (oT _) ?_,rfl,E _ (j.hok.fresh (oT _))⟩;exact⟨by rw[KF];exact M,_,0,r.reverse,sj _ rfl⟩
end
end L2
namespace L3
open PySem PySem.Spec L2
section
variable{X:Cx}{cl:List Cl}{a c:Expr}{fa:Fl}{ua uc:TU}{pos p2:Pos}
def Kq(ua:TU)(uc:LH):TU:=λb Q=>ua b λd=>uc b λl=>l=some (-1)/\match d with
 | .lst e=>u6 e=true/\Q (.lst e.reverse)
 | _=>False
theorem qk{K:WR}{H:Hp}{vs:List V}{ds:List D}(r:i5 K H vs ds []):i5 K H vs.reverse ds.reverse []:=by
 obtain⟨C,b,d,_⟩:=r.rev
 have e:C=[]:=by
  cases C with
  | nil=>rfl
  | cons a C=>exact absurd ((d a).mp re) (by simp)
 rw[e] at b;exact b
theorem GY{f:Fl}{uc:TU}(j:PU X cl a fa ua)(O:PU X cl c f uc):PU X cl (.Subscript a (.Slice none none (some c) p2) pos) .fresh (Kq ua (cO uc)):=.of<|by
 obtain⟨ta,I,j⟩:=j.run;obtain⟨tl,pl,g⟩:=(aS O).run;refine⟨_,Hc I pl,λG q o H x Q R u E J k=>j G q o H x _ _ u E J λv Y d A i y f1 C=>g G q o Y x _ _ u (E.same i) C λo1 H2 h e=>?_⟩;obtain⟨U,e⟩:=e;cases d<;>first | exact(show False from e).elim | skip
 obtain⟨p,vs,B,rfl,M,r,_⟩:=D5 (y.same h);have T:=r.C9 e.1;subst T;refine⟨U,p,vs,rfl,G7.of M,λl g=>?_⟩;exact k _ _ _ [l] ((i.trans h).trans (c9.e7 g)) (.lst c7 ((qk r).same (c9.e7 g))) ⟨List.nodup_cons.mpr ⟨(λz=>nomatch z),sd⟩,λb S=>by cases List.mem_singleton.mp S;exact(i.trans h).free g⟩ e.2
end
end L3
namespace L2
open PySem PySem.Spec PySem.Calls PyProof.Rows
section
variable{X:Cx}{pins:WA}{σ:St}{H:Hp}{s:Shared}
end
end L2
namespace L3
open PySem PySem.Spec PySem.Calls PyProof.Rows L2
section
variable{X:Cx}{cl:List Cl}{e:Expr}{es:WI}{pos cpos hpos np p:Pos}{us:cy}{k m:Nat}{x y bn n:Str}{i j:Nat}{AP:Addr->Prop}
end
section
variable{X:Cx}{cl:List Cl}{e:Expr}{es:WI}{pos p:Pos}{us:cy}{k:Nat}{fn:Addr}{fd:FuncData}{ps:WG}{x:Str}{ua:TU}{f:Fl}{ma:TM}
structure QU(X:Cx)(cl:List Cl)(es:WI)(u:cy):Prop where
 of ::
 run:∃t,PA X es t/\∀(G:Ent) (ρ:Ev) (σ:L2.St) (H:Hp) (fa:WQ) (Q:List D->Prop) (R:List V->Hp->Prop),G.cl=cl->E3 X.K G ρ σ H fa->u ρ Q ->
  (∀vs H' ds A,c9 H H'->i5 X.K H' vs ds A->ds.length=es.length->(∀i,G.own i->∀a∈A,a∉fa i)->Q ds->R vs H')->t σ H R
theorem LF:QU X cl [] i4:=.of ⟨_,M7,λG c b H d Q R _ E a k=>k [] H [] [] (c9.refl H) .nil rfl (λ_ _ _ h=>(by cases h)) a⟩
theorem xX(b:PU X cl e f ua)(U:QU X cl es us)(T:isStar e=false)(Y:hZ f .stab=true):QU X cl (e::es) (a9 ua us):=.of<|by
 obtain⟨t1,J,h1⟩:=b.run;obtain⟨t2,I,h2⟩:=U.run;refine⟨_,bp J I T,λG g c H q Q R o E S k=>?_⟩;refine h1 G g c H q _ _ o E S λv H1 d A j u f1 C=>?_;refine h2 G g c H1 q _ _ o (E.same j) C λvs H2 ds B h r O M y=>?_;refine k (v::vs) H2 (d::ds) (A++B) (j.trans h) (.cons (u.same h) r) (by simp[O]) (λi l a b=>?_) y;rcases List.mem_append.mp b with z | z
 ·exact f1.weak E Y i l a z
 ·exact M i l a z
theorem Io{d}(h:QU X cl es us)(l:Nat.ble es.length 1000=true):PU X cl (.Tuple es d pos) .stab (bo us):=.of<|by
 obtain⟨t,p,h⟩:=h.run;refine⟨_,nq p,λG c b H u Q R o E j k=>?_⟩;refine h G c b H u _ _ o E j λvs y v A s r i g q=>⟨by rw[r.length,i];exact aI (vv l),λx a=>?_⟩
 exact k _ _ (.tup v) A (s.trans (c9.e7 a)) (.tup c7 (r.same (c9.e7 a))) g q
end
end L3
namespace L2
open PySem PySem.Spec PyProof.Rows
theorem ra{prog:Program}{w:World}{A:Around}{E:WO}{s:Shared}{T d b:String}{v:Builtin}{a:WH}{Q Q1:WO}(g:TypeCalled T d b)(ct:checkTypeCall T ⟨a,[]⟩=pure ())(B:entryFor table b=some v)
  (l:codeAny (model prog w) A.in1 (.call (.builtin d) ⟨.type T::a,[]⟩) (wants Q1 E) s)
  (next:∀x j,Q1 x j->j.TypeIs x T/\(∀{H:Around} {u:Unit->Shared->Prop} {G:WO},u () j->wpAny (model prog w) H (checkBuiltinCall b ⟨x::a,[]⟩) u G j) /\
   wpAny (model prog w) A.in1.in1 (v ⟨x::a,[]⟩)
    (λf o=>match f with | .done r=>wants (λr i=>r=.none/\Q x i) E (.ok r) o | .again c=>c.quiet=true/\codeAny (model prog w) A.in1 c (wants (λr i=>r=.none/\Q x i) E) o)
    (λe o=>wants (λr i=>r=.none/\Q x i) E (.error e) o) j) :
  wpAny (model prog w) A (call (.type T) a) Q E s:=by
 have⟨c,I,f1⟩:=g.mro;have Y:=g.made;have X:=g.sub;have U:=g.notType;have S:=g.canCreate;refine wpAny_call (Vu (show wpAny _ _ (callAny (.type T) _) _ _ _ from hH ⟨Code.quiet_builtin _ (by decide +kernel),Go F.entry_type_call ?_⟩));rw[Around.under_plain (weight_type_call_type T a []) rfl];repeat (any_goals (first | assumption | wp_step))
 refine US l λr j p=>?_
 cases r with
 | error e=>exact p
 | ok z=>
  cases z with
  | ret x=>
   have⟨R,C,run⟩:=next _ _ p;have O:=g.init.lookup;have M:=g.init.bind x;repeat (any_goals (first | assumption | wp_step))
   refine US (codeAny_call_builtin g.init.plain B (C run)) λy i h=>?_
   cases y with
   | error e=>exact h
   | ok q=>
    cases q with
    | ret r=>obtain⟨rfl,J⟩:=h;repeat (any_goals (first | assumption | wp_step))
    | _=>exact h.elim
  | _=>exact p.elim
theorem oY{prog:Program}{w:World}{A:Around}{R:Result->Shared->Prop}{I:Addr}{Q q:WE}{n:Nat}{P:Nat->Value->Prop}{St:Nat->Heap->Prop}(W:Walks prog w A.in1 I Q q n P St)(S:Addr)(O:S∉Q)(c:Nat->Key)(hv:∀i v,P i v->aM (c i) v=true)(d:n+1<scanBound) :
  ∀(k i:Nat) (s:Shared),n-i=k->i<=n->St i s.heap->(∃m,m<=i/\s.heap.SetOf (i7 prog w) S (λx=>((List.range i).map c).any λz=>decide (z=x)) m) ->
   (∀h' tk m,(∀b o,b∉S::q->s.heap.get? b=some o->h'.get? b=some o)->h'.SetOf (i7 prog w) S (λx=>((List.range n).map c).any λz=>decide (z=x)) m->R (.ok (.ret .none)) { s with heap:=h',toks:=tk }) ->
   codeAny (model prog w) A (.builtin "set.update.loop" ⟨[.ref S,.ref I],[]⟩) R s:=by
 have X:S∉q:=λh=>O (W.sub _ h);have cQ:∀{h h':Heap} {T:Key->Bool} {m:Nat},(∀b o,b∉q->h.get? b=some o->h'.get? b=some o)->h.SetOf (i7 prog w) S T m->h'.SetOf (i7 prog w) S T m:=λk ⟨o,es,ep,t,ho,r⟩=>⟨o,es,ep,t,k S _ X ho,r⟩
 have same:∀{h:Heap} {T U:Key->Bool} {m:Nat},h.SetOf (i7 prog w) S T m->T=U->h.SetOf (i7 prog w) S U m:=λa e=>e▸a;intro k
 induction k with
 | zero=>
  intro i s hk hi st ⟨m,_,J⟩ g;have e:i=n:=by omega
  subst e;refine Go Pv ?_;rw[BB At _];show wpAny _ A.in1 (pyNext (.ref I) >>= _) _ _ s;refine eH (W.done s _ _ st λh' tk kp=>?_);exact hH (g h' tk m (λb o d e=>kp b o (λz=>d (hQ _ z)) e) (cQ kp J))
 | succ k ih=>
  intro i s hk hi st ⟨m,a0,J⟩ g;have p:i<n:=by omega
  refine Go Pv ?_;rw[BB At _];show wpAny _ A.in1 (pyNext (.ref I) >>= _) _ _ s;refine eH (W.item i s _ _ p st λv h' tk hP y kp=>?_);have l:=hv i v hP;have C:v.scannable=true:=by rcases l6 l with⟨j,t,_,rfl⟩ | ⟨x,t,_,rfl⟩<;>rfl
  have H:=cQ kp J;show wpAny _ A.in1 (holding [v] (setAdd S v) >>= _) _ _ _;refine eH (x2 ?_);unfold setAdd;refine x2 (eH ((i7 prog w).pyHash (k:=c i) l ?_));refine wpAny_setAddHashed_of (knd:=i7 prog w) (n:=m) (s:={ s with heap:=h',toks:=tk+1 }) l C H (by omega) λh2 M G=>?_;refine hH ⟨TH At _,ih (i+1) _ (by omega) p (W.frame (i+1) h' h2 y λb d o e=>(M.2 b λz=>O (z▸d)).trans e) ⟨_,?_,same G (funext λx=>?_)⟩ λh3 u Y B E=>?_⟩
  ·split<;>omega
  ·rw[Vg,ue];rw[List.any_append];show((_:Bool)||decide (x=c i))=(_||(decide (c i=x)||false));rw[Bool.or_false,show decide (x=c i)=decide (c i=x) from decide_eq_decide.mpr eq_comm]
  ·refine g h3 u Y (λb o d e=>B b o d ?_) E;exact(M.2 b λz=>d (by rw[z];exact re)).trans (kp b o (λz=>d (hQ _ z)) e)
theorem lQ(P:Program)(w:World){ts:List V}{its:WH}{a:List Key}(r:Vals ts its)(e:ts=a.map kV)(i:Nat)(v:Value)(h:its.toArray[i]?=some v):aM (a.getD i (.inl 0)) v=true:=by
 subst e;have d:its[i]?=some v:=by simpa using h
 have j:=r.length;rw[dL] at j;have l:=(List.getElem?_eq_some_iff.mp d).1;have c:a[i]?=some (a[i]'(by omega)):=nA (by omega);obtain⟨u,b,g⟩:=r.get (show(a.map kV)[i]?=some (kV (a[i]'(by omega))) by rw[rx,c];rfl);rw[d] at b;cases b;rw[t5,c];exact Z8 (P:=P) (w:=w) g
theorem range_getD(a:List Key):(List.range a.length).map (λi=>a.getD i (.inl 0))=a:=by
 refine VC λi=>?_;rw[rx]
 by_cases h:i<a.length
 ·rw[Vs h,nA h];show some (a.getD i (.inl 0))=_;rw[t5,nA h];rfl
 ·rw[TR (by simpa using h),TR (by simpa using h)];rfl
section
variable{X:Cx}
theorem sub_tuple_set:isSubtype (.type "tuple") (.type "set")=pure false:=by rw[Ps];kernel_rfl
theorem iZ:isSubtype (.type "tuple") (.type "frozenset")=pure false:=by rw[Ps];kernel_rfl
theorem zx(hc:X.calm=true):D4 X (.type "set") (λxs H Q=>∃(p:Addr) (ts:List V) (l:List Key),xs=[.ref p]/\(G7 X.K H p ts\/P8 X.K H p ts)/\ts=l.map kV/\l.length+1<scanBound/\∀d n,H d=none->Q (.ref d) (upd H d (.set (λk=>l.any λz=>decide (z=k)) n))):=by
 intro U s σ H xs us Q I r h;obtain⟨p,ts,l,rfl,G,ht,hl,q⟩:=h;obtain⟨u,rfl,ru⟩:=vals1 r;cases(show u=Value.ref p from ru);refine ra (Q1:=λx s1=>∃led:Bool,x=.ref s.heap.objs.size/\s1={ s with heap:=s.heap.push { cls:=.type "set",dict:=none,data:=.set #[] 0 (.fresh 0 0 led) } }) F.called_set (F.typeCall_set_1 _) F.entry_set_init (code_set_new_1 _ λled=>⟨led,rfl,rfl⟩) ?_;rintro x s1 ⟨led,rfl,rfl⟩;have hn:=I.hok.fresh (oT s.heap.objs.size);have hS:(s.heap.push { cls:=.type "set",dict:=none,data:=.set #[] 0 (.fresh 0 0 led) }).get? s.heap.objs.size=some { cls:=.type "set",dict:=none,data:=.set #[] 0 (.fresh 0 0 led) }:=sj _ rfl;have hT:Shared.TypeIs { s with heap:=s.heap.push { cls:=.type "set",dict:=none,data:=.set #[] 0 (.fresh 0 0 led) } } (.ref s.heap.objs.size) "set":=⟨_,hS,rfl⟩
 refine⟨hT,λhq=>check_set_init_1 hT hq,?_⟩
 have a1:∀(y:Heap) (tk m:Nat),(∀b o,b<s.heap.objs.size->s.heap.get? b=some o->y.get? b=some o)->y.SetOf (i7 X.prog X.w) s.heap.objs.size (λx=>l.any λz=>decide (z=x)) m ->
   EP X U σ Q (.ref s.heap.objs.size) { s with heap:=y,toks:=tk }:=λy tk m kp O=>
  ⟨.ref s.heap.objs.size,_,I.laid (a:=s.heap.objs.size) (o:=.set (λk=>l.any λz=>decide (z=k)) m) (h':=y) (t':=tk) (λb o e=>kp b o (sK e) e) (oT _) O,rfl,q _ m hn⟩
 have hh:=I.ok.hd hc;have e0:((List.range 0).map λi=>l.getD i (.inl 0))=[]:=rfl
 have start:∀{h2:Heap},h2.get? s.heap.objs.size=some { cls:=.type "set",dict:=none,data:=.set #[] 0 (.fresh 0 0 led) }->h2.SetOf (i7 X.prog X.w) s.heap.objs.size (λx=>((List.range 0).map λi=>l.getD i (.inl 0)).any λz=>decide (z=x)) 0:=λg=>
  ⟨_,#[],0,_,g,⟨rfl,rfl,rfl⟩,rfl,λe he=>by simp at he,λk=>by simp,by decide,by rfl,rfl⟩
 have T:p<s.heap.objs.size:=by
  rcases G with G | G
  ·obtain⟨_,_,pl,_⟩:=I.list G;obtain⟨o,_,e,_⟩:=pl;exact sK e
  ·obtain⟨_,_,pl,_⟩:=I.tuple G;exact pl.lt
 have np:s.heap.objs.size∉[(s.heap.push { cls:=.type "set",dict:=none,data:=.set #[] 0 (.fresh 0 0 led) }).objs.size,p]:=by
  rw[Do];intro z;rcases List.mem_cons.mp z with z | z
  ·exact absurd z (t8 (Ub _))
  ·exact absurd (List.mem_singleton.mp z) (Uq T)
 have nI:p≠(s.heap.push { cls:=.type "set",dict:=none,data:=.set #[] 0 (.fresh 0 0 led) }).objs.size:=by
  rw[Do];exact t8 (Ix T)
 have Y:∀{h2 y:Heap},(∀b o,s.heap.get? b=some o->h2.get? b=some o)->(∀b o,b∉[s.heap.objs.size,(s.heap.push { cls:=.type "set",dict:=none,data:=.set #[] 0 (.fresh 0 0 led) }).objs.size]->h2.get? b=some o->y.get? b=some o)->∀b o,b<s.heap.objs.size->s.heap.get? b=some o->y.get? b=some o:=λk1 k2 b o hb e=>k2 b o (λz=>by
  rw[Do] at z;rcases List.mem_cons.mp z with z | z
  ·exact absurd z (t8 hb)
  ·exact absurd (List.mem_singleton.mp z) (t8 (Ix hb))) (k1 b o e)
 rcases G with G | G
 ·obtain⟨c,rv,pl,hz⟩:=I.list G;have j:c.length=l.length:=by rw[<-rv.length,ht,dL]
  obtain⟨ob,M,R,E,a0,C⟩:=pl;obtain⟨oc,od,a2,J⟩:=ob;simp only at E a0 C;subst E a0 C;have B:(s.heap.push { cls:=.type "set",dict:=none,data:=.set #[] 0 (.fresh 0 0 led) }).get? p=some { cls:=.type "list",dict:=none,data:=.seq c.toArray M,slots:=J }:=hD _ R;have f1:=F.sub_list_set;have f2:=F.sub_list_frozenset;have f3:(Value.type "list" == Value.type "dict")=false:=by decide
  unfold Builtin.«set.__init__» noKeywords Builtin.Frozenset.updateFrom;generalize S:pyIter=PI
  wp_walk
  subst S;refine Vd (items:=c.toArray) ⟨_,B,rfl,M,rfl⟩ (eH (Vw ?_));refine oY (Walks.list (by simp[hh]) _ p nI c.toArray) s.heap.objs.size np (λi=>l.getD i (.inl 0)) (λi v hv=>lQ X.prog X.w rv ht i v hv) (by rw[sh,j];exact hl) c.toArray.size 0 _ (by omega) (v5 _) ⟨⟨_,sj _ rfl,rfl,rfl⟩,⟨_,hD _ B,rfl,M,rfl⟩⟩ ⟨0,oT _,start (hD _ hS)⟩ λy tk m kp O=>?_;rw[show c.toArray.size=l.length by rw[sh];exact j,range_getD] at O;exact hH (hH ⟨rfl,a1 y tk m (Y (λb o e=>hD _ (hD _ e)) kp) O⟩)
 ·obtain⟨c,rv,pl,hz⟩:=I.tuple G;have j:c.length=l.length:=by rw[<-rv.length,ht,dL]
  obtain⟨ob,R,E,M,C⟩:=pl;obtain⟨oc,od,a2,J⟩:=ob;simp only at E C;subst E C;have B:(s.heap.push { cls:=.type "set",dict:=none,data:=.set #[] 0 (.fresh 0 0 led) }).get? p=some { cls:=.type "tuple",dict:=od,data:=.seq c.toArray M,slots:=J }:=hD _ R;have f1:=sub_tuple_set;have f2:=iZ;have f3:(Value.type "tuple" == Value.type "dict")=false:=by decide
  unfold Builtin.«set.__init__» noKeywords Builtin.Frozenset.updateFrom;generalize S:pyIter=PI
  wp_walk
  subst S;refine VN (items:=c.toArray) ⟨_,B,rfl,M,rfl⟩ (eH (Vw ?_));refine oY (Walks.tuple (by simp[hh]) _ p nI c.toArray) s.heap.objs.size np (λi=>l.getD i (.inl 0)) (λi v hv=>lQ X.prog X.w rv ht i v hv) (by rw[sh,j];exact hl) c.toArray.size 0 _ (by omega) (v5 _) ⟨⟨_,sj _ rfl,rfl,rfl⟩,⟨_,hD _ B,rfl,M,rfl⟩⟩ ⟨0,oT _,start (hD _ hS)⟩ λy tk m kp O=>?_;rw[show c.toArray.size=l.length by rw[sh];exact j,range_getD] at O;exact hH (hH ⟨rfl,a1 y tk m (Y (λb o e=>hD _ (hD _ e)) kp) O⟩)
theorem EH{k:Key}{u:Value}(r:RelV (kV k) u):u.scannable=true:=by
 cases k with
 | inl i=>obtain⟨t,rfl⟩:=r;rfl
 | inr x=>obtain⟨t,rfl⟩:=r;rfl
def OT(a:Bool):R2:=λx y H Q=>∃k p S n,x=kV k/\y=.ref p/\H p=some (.set S n)/\Q (.bl (match a with | true=>!S k | false=>S k)) H
theorem zl:N6 X (compareOp .NotIn) (OT true):=by
 intro b s d H x y v u Q I a c h;obtain⟨k,p,S,n,rfl,rfl,g,q⟩:=h;cases c;exact wpAny_notInSet_of (Z8 a) (EH a) (show s.heap.SetOf (i7 X.prog X.w) p S n from I.hok p _ g) ⟨.bl (!S k),H,I.tok _,rfl,q⟩
end
end L2
namespace L3
open PySem PySem.Spec L2
def AJ(a:List Key)(k:Key):Bool:=a.any λz=>decide (z=k)
def kD:Key->D
 | .inl i=>.int i
 | .inr x=>.str x
section
variable{X:Cx}{cl:List Cl}{e a b tg:Expr}{es:WI}{f:Fl}{pos:Pos}{ua ub:TU}{fa fb:Fl}{us:cy}{x y:Str}
theorem Nh{K:WR}{H:Hp}{v:V}{k:Key}{A:WE}(r:Rep K H v (kD k) A):v=kV k:=by
 cases k with
 | inl i=>cases r;rfl
 | inr x=>cases r;rfl
theorem xG{K:WR}{H:Hp}:∀{vs:List V} {c:List Key} {A:WE},i5 K H vs (c.map kD) A->vs=c.map kV
 | _,[],_,.nil=>rfl
 | _,k::c,_,.cons h r=>by rw[sw,Nh h,xG r]
def LC(c:Bool):D->D->(D->Prop)->Prop:=λd e Q=>match e with
 | .st g=>∃k,V0 d=some k/\Q (.bl (ng c (AJ g k)))
 | _=>False
theorem Ph{c:Bool}:bu X (OT c) (LC c):=by
 intro H v w d e A B Q R l i q k;cases e<;>first | exact(show False from q).elim | skip
 rename_i o
 obtain⟨j,r,q⟩:=q
 cases i with
 | st g u=>
  rename_i p S n
  refine⟨j,_,_,_,N7 l r,rfl,g,?_⟩;have z:S j=AJ o j:=u j;rw[z];cases c<;>exact k _ H _ _ (c9.refl H) .bl sd (λ_ h=>(by cases h)) q
theorem yn(g:PU X cl a fa ua)(d:PU X cl b fb ub)(c:behindInMarks .NotIn b=false):PU X cl (.Compare a [.NotIn] [b] pos) .fresh (l7 (LC true) ua ub):=iG zl Ph g d c
def Qf:List D->(D->Prop)->Prop:=λg Q=>∃d c,g=[d]/\pY d=some (c.map kD)/\c.length<4000/\Q (.st c)
theorem LO:Call3 X (λxs H Q=>∃(p:Addr) (ts:List V) (c:List Key),xs=[.ref p]/\(G7 X.K H p ts\/P8 X.K H p ts)/\ts=c.map kV/\c.length+1<scanBound/\∀d n,H d=none->Q (.ref d) (upd H d (.set (λk=>c.any λz=>decide (z=k)) n))) Qf:=by
 intro H vs C A Q R r q k;obtain⟨d,c,rfl,e,g,q⟩:=q;obtain⟨v,rfl,i⟩:=r.one;obtain⟨p,h,B,rfl,o,j,_⟩:=cD i e;refine⟨p,h,c,rfl,o,xG j,by unfold scanBound;omega,λl n g=>k _ _ (.st c) [l] (c9.e7 g) (.st c7 λ_=>rfl) (by simp) (λa u=>?_) q⟩;rw[List.mem_singleton.mp u];exact g
def MI(i j:Nat)(us:cy):g4:=λT c=>us c λg=>∃d e,g=[d,e]/\u9 d=true/\u9 e=true/\Nat.blt i c.length=true/\Nat.blt j c.length=true/\T.nx ((c.set i (some d)).set j (some e))
theorem KI{i j:Nat}{l g pt:Pos}{o k2 c}(hc:X.calm=true)(hN:X.N.Nodup)(hi:X.N[i]?=some x)(hj:X.N[j]?=some y)(p:i≠j)(S:X.env.scope.names.lookup x=some .local)(Q:X.env.scope.names.lookup y=some .local)(ha:zN X cl [a,b] us)(ci:cl[i]?=some .bor)(cj:cl[j]?=some .bor)
  (hw:swappedStores [.Tuple [.Name x l,.Name y g] o pt] (.Tuple [a,b] k2 c) X.env=pure (some [x,y])) (Y:swapsWithSole [.Tuple [.Name x l,.Name y g] o pt] (.Tuple [a,b] k2 c) pos.line X.env=pure false:=by rfl) :
  J5 X cl (.Assign [.Tuple [.Name x l,.Name y g] o pt] (.Tuple [a,b] k2 c) pos) (MI i j us):=.of<|by
 obtain⟨t,pt,h⟩:=ha.run;refine⟨_,KP hc hN hi hj p S Q pt hw Y,λG T C B H fa R z E U le=>?_⟩;refine h G C B H fa _ _ z E U λvs H1 ds A s r n3 q=>?_;obtain⟨d,e,rfl,O,M,J,I,q⟩:=q
 cases r with
 | cons v r=>
  cases r with
  | cons u r=>
   cases r;have e1:=v.C9 O;have e2:=u.C9 M;subst e1 e2;have ok:∀(fa:WQ) (n:Nat),cl[n]?=some .bor->fJ G fa [] n:=λfa n hn=>⟨λ_ _ _ _ h=>(by cases h),by rw[z,hn];trivial⟩
   have E1:=(E.same s).set (vv J) v (ok _ i ci);have E2:=E1.set (by rw[OV];exact vv I) u (ok _ j cj);exact⟨_,_,rfl,le.nx _ _ ⟨_,_,E2,q⟩⟩
def vY(i:Nat)(g h:TU):g4:=λT d=>a7 i d λl=>g d λy=>match l with
 | .dic c=>∃k a,V0 y=some k/\x3 c k=some (.int a)/\c.length<sizeLine/\h d λz=>∃b,z=.int b/\T.nx (d.set i (some (.dic (putD c k (.int (a+b))))))
 | _=>False
theorem Ap{vp tp:Pos}{ik:Expr}(hu:X.A.units+1<cLine)(i:Nat)(hv:PE X (.Name x vp) (bq i))(hi:cl[i]?=some .own)(hk:PU X cl ik fb ub)(he:PU X cl e fa ua)
  (j:∀M O new,augStore ik M O new=(do holding [new,M,O] (setItem M O new);release [new,M,O] [];pure .next):=by intros;rfl) :
  J5 X cl (.AugAssign (.Subscript (.Name x vp) ik tp) .Add e pos) (vY i ub ua):=.of<|by
 obtain⟨t,p,h⟩:=he.run;obtain⟨t2,p2,h2⟩:=hk.run;refine⟨_,uR<|Gx hu hv p2 p (Cn (X:=X)) j,λG T ρ σ H Q R hG E a4 le=>?_⟩;have own:G.own i:=by unfold Ent.own;rw[hG];exact hi
 obtain⟨l0,e0,q⟩:=o4 a4;obtain⟨v,o,r0⟩:=E.rep i l0 e0;refine⟨v,o,h2 G ρ σ H Q _ _ hG E q λwk H1 dk Bk s1 rk fk q=>?_⟩;obtain⟨c,rfl⟩:∃c,l0=.dic c:=by cases l0<;>first | exact⟨_,rfl⟩ | exact(show False from q).elim
 obtain⟨k,Y,hk,r,hn,q⟩:=q;obtain⟨p,l,a5,B,rfl,hp,rs,eA⟩:=pV r0;cases N7 rk hk;obtain⟨u,C0,e1,r1,_⟩:=(rs.val k).1 _ r;cases r1;refine⟨p,_,rfl,e1▸Y4.k (.inr ⟨_,s1 _ _ hp⟩),h G ρ σ H1 Q _ _ hG (E.same s1) q λw H2 z Bz s2 rz fz q=>?_⟩;obtain⟨U,rfl,q⟩:=q;cases rz;refine⟨Y,U,rfl,rfl,?_⟩;have d:=s1.trans s2;have E2:=E.same d;have g:=d _ _ hp
 have a1:u7 X.K H2 l c B:=by
  have:=(Rep.dic hp rs:Rep X.K H (.ref p) (.dic c) (p::B)).same d
  cases this with
  | dic J a2=>
   rw[g] at J;cases J;exact a2
 have nd:=E2.nd i (.inl own);have pin:p∈Q i:=by rw[eA];exact re
 rw[eA] at nd;obtain⟨np,a3⟩:=List.nodup_cons.mp nd;obtain⟨C,rC,sC⟩:=a1.put k (.int (i:=Y+U));have I:p∉C:=λz=>np (sC.mem z);have rn:∀S,Rep X.K (upd H2 p (.dE (putK l k (.int (Y+U))) S)) (.ref p) (.dic (putD c k (.int (Y+U)))) (p::C):=λS=>.dic c7 (rC.mono (V2.NV (by rw[g];exact True.intro)) λa j=>e9 λe=>I (e▸j))
 have n3:∀a∈p::C,a∈Q i:=λa j=>by
  rcases List.mem_cons.mp j with z | z
  ·exact z▸pin
  ·rw[eA];exact hQ _ (sC.mem z)
 have li:i<ρ.length:=(List.getElem?_eq_some_iff.mp e0).1;refine⟨_,nR.k (.inr ⟨_,g⟩) (by rw[rs.length];exact hn),p,_,c7,λS=>?_⟩;rw[Y7];exact le.nx _ _ ⟨_,_,E2.put own li o pin T7 (by rw[c7];exactλz=>nomatch z) (rn S) (List.nodup_cons.mpr ⟨I,a3.sublist sC⟩) λa j=>.inl (n3 a j),q⟩
end
end L3
namespace L2
open PySem PySem.Spec PyProof.Rows
namespace RT
theorem pW:Manifest.owners.lookup (String.ofList ['d','e','s','r','e','v','e','r'].reverse)=some Manifest.sig_reversed:=by kernel_rfl
theorem D1:Slot "reversed" "__next__" "reversed.__next__":=.of (owner:="reversed") (n:="__next__") (by rw[Tl,Gc];kernel_rfl) (by decide +kernel) (by decide +kernel) (by decide +kernel) (by first | exact .inl (by decide +kernel) | exact .inr (by decide +kernel)) (by rw[Ps];kernel_rfl)
theorem bW:entryFor table "reversed.__next__"=some Builtin.«reversed.__next__»:=entryFor_of_tree (by kernel_rfl)
theorem bV(a:Value):argsOk "reversed.__next__" ⟨[a],[]⟩:=by unfold argsOk;rw[VH (id:="reversed.__next__") (n:=['_','_','t','x','e','n','_','_']) (o:=['d','e','s','r','e','v','e','r']) (by kernel_rfl) pW];kernel_rfl
theorem ja:Slot "reversed" "__iter__" "reversed.__iter__":=.of (owner:="reversed") (n:="__iter__") (by rw[Tl,Gc];kernel_rfl) (by decide +kernel) (by decide +kernel) (by decide +kernel) (by first | exact .inl (by decide +kernel) | exact .inr (by decide +kernel)) (by rw[Ps];kernel_rfl)
theorem wt(a:Value):argsOk "reversed.__iter__" ⟨[a],[]⟩:=by unfold argsOk;rw[VH (id:="reversed.__iter__") (n:=['_','_','r','e','t','i','_','_']) (o:=['d','e','s','r','e','v','e','r']) (by kernel_rfl) pW];kernel_rfl
theorem KU:Slot "reversed" "__init__" "object.__init__":=.of (owner:="object") (n:="__init__") (by rw[Tl,Gc];kernel_rfl) (by decide +kernel) (by decide +kernel) (by decide +kernel) (by first | exact .inl (by decide +kernel) | exact .inr (by decide +kernel)) (by rw[Ps];kernel_rfl)
theorem called:TypeCalled "reversed" "reversed.__new__" "object.__init__":=⟨by decide +kernel,by decide +kernel,⟨_,_,F.mro_reversed⟩,F.made_reversed,by decide +kernel,F.sub_reversed_self,KU⟩
theorem Np:typeLookup (.type "tuple") "__reversed__"=pure none:=by rw[Tl,Gc];kernel_rfl
theorem Gr:isSubtype (.type "tuple") (.type "dict")=pure false:=by rw[Ps];kernel_rfl
theorem tQ:entryFor table "reversed.__iter__"=some Builtin.«dict_keyiterator.__iter__»:=entryFor_alias (id':="dict_keyiterator.__iter__") (by kernel_rfl) (by first | rfl | decide +kernel | (unfold String.splitOn;simp +decide [VA])) (by decide +kernel) (by kernel_rfl)
end RT
def Hl(t:Addr)(i:Int):Obj:={ cls:=.type "reversed",data:=.fields #[.ref t,rawInt i] }
def ke(h:Heap)(a t:Addr)(i:Int):Prop:=∃o,h.get? a=some o/\o.cls=.type "reversed" /\ o.data=.fields #[.ref t,rawInt i]
section
variable{prog:Program}{w:World}{A:Around}{E:WO}{s:Shared}
theorem ke.ty{a t:Addr}{i:Int}(x:ke s.heap a t i):s.TypeIs (.ref a) "reversed":=let ⟨o,b,c,_⟩:=x;⟨o,b,c⟩
theorem ke.at{h h':Heap}{a t:Addr}{i:Int}(x:ke h a t i)(e:∀o,h.get? a=some o->h'.get? a=some o):ke h' a t i:=let ⟨o,b,r⟩:=x;⟨o,e _ b,r⟩
theorem LN{t:Addr}{items:WL}{Q1:WO}(b:IsTup s.heap t items)(c:(items.size:Int)<2^63)(h:Q1 (.ref s.heap.objs.size) { s with heap:=s.heap.push (Hl t ((items.size:Int)-1)),toks:=s.toks+1+1 }) :
  codeAny (model prog w) A (.call (.builtin "reversed.__new__") ⟨[.type "reversed",.ref t],[]⟩) (wants Q1 E) s:=by
 refine Vu (show wpAny _ A.in1 (do checkBuiltinCall "reversed.__new__" ⟨[.type "reversed",.ref t],[]⟩;again (.builtin "reversed.__new__" ⟨[.type "reversed",.ref t],[]⟩)) _ _ s from eH (TB (F.newCall_reversed_1 _) (hH ⟨TH F.plain_reversed_new _,Go F.entry_reversed_new ?_⟩)));rw[BB F.plain_reversed_new _];unfold Builtin.«reversed.__new__»;refine eH (TB (newClass_reversed _) ?_);try dsimp only
 refine eH (TB (a:=()) (by first | rfl | kernel_rfl) (eH (TB (a:=()) (by first | rfl | kernel_rfl) ?_)))
 try dsimp only
 refine eH (Uu b.typeIs RT.Np ?_);try dsimp only
 refine eH ?_;show wpAny _ _ (isInstance (.ref t) (.type "dict") >>= _) _ _ _;refine eH (UF b.typeIs RT.Gr ?_);show wpAny _ _ (specialOf (.ref t) "__getitem__" >>= _) _ _ _;refine eH (Uu b.typeIs slot_tuple_getitem.lookup (hH ?_));show wpAny _ _ (call (.builtin "len") [.ref t] >>= _) _ _ _;refine eH (len_tuple b c ?_);refine eH (TB (a:=some (items.size:Int)) rfl ?_);show wpAny _ _ (Builtin.SmallTypes.newRecord (.type "reversed") [.ref t,rawInt ((items.size:Int)-1)] >>= _) _ _ _;unfold Builtin.SmallTypes.newRecord;refine eH (ux (hH h) (by size_fits))
theorem Cf{t:Addr}{items:WL}{Q:WO}(c:IsTup s.heap t items)(d:(items.size:Int)<2^63)(h:Q (.ref s.heap.objs.size) { s with heap:=s.heap.push (Hl t ((items.size:Int)-1)),toks:=s.toks+1+1 }) :
  wpAny (model prog w) A (call (.type "reversed") [.ref t]) Q E s:=by
 refine callType_codes (Q₁:=λx a=>x=.ref s.heap.objs.size/\a={ s with heap:=s.heap.push (Hl t ((items.size:Int)-1)),toks:=s.toks+1+1 }) RT.called (F.typeCall_reversed_1 _) F.entry_object_init (LN c d ⟨rfl,rfl⟩) ?_;rintro x a ⟨rfl,rfl⟩;have b:Shared.TypeIs { s with heap:=s.heap.push (Hl t ((items.size:Int)-1)),toks:=s.toks+1+1 } (.ref s.heap.objs.size) "reversed":=⟨_,sj _ rfl,rfl⟩
 exact⟨b,F.args_object_init_2 _ _,object_init_meets RT.called.init.lookup RT.called.made (by decide) prog w A.in1 _ _ ⟨b,rfl,h⟩⟩
theorem Gh{it t:Addr}{i:Nat}{items:WL}{x:Value}{Q:WS->Shared->Prop}(hit:ke s.heap it t (i:Int))(d:IsTup s.heap t items)(l:t≠it)(c:items[i]?=some x)(q:(items.size:Int)<2^63)
  (h:∀h',ke h' it t ((i:Int)-1)->Heap.SameBut it s.heap h'->Q (some x) { s with heap:=h',toks:=s.toks+1 }):wpAny (model prog w) A (pyNext (.ref it)) Q E s:=by
 obtain⟨o,b,g,hd⟩:=id hit;unfold pyNext;refine eH (Ul (A1 (name:=Str.ofString "__next__") hit.ty RT.D1 (z0 RT.D1 hit.ty RT.bW ?_ (RT.bV _))));unfold Builtin.«reversed.__next__»;refine eH (TB (a:=(Value.ref it,[])) rfl ?_);try dsimp only
 refine eH (TC b hd (x:=.ref t) rfl (eH (TC b hd (x:=rawInt (i:Int)) rfl ?_)));show wpAny _ _ (if (i:Int)<0 then _ else _) _ _ s;rw[ro (by omega)];show wpAny _ _ (specialOf (.ref t) "__getitem__" >>= _) _ _ s;refine eH (Uu d.typeIs slot_tuple_getitem.lookup ?_);show wpAny _ _ (mkInt (i:Int) >>= _) _ _ s;refine eH (wpAny_mkInt ?_);have p:=(Array.getElem?_eq_some_iff.mp c).1
 have e:seqIndex? (i:Int) items.size=some i:=by
  unfold seqIndex?
  simp;omega
 refine eH (Ul (getItem_tuple (j:=i) (x:=x) (s:={ s with toks:=s.toks+1 }) d (by omega) (by omega) e c ?_));show wpAny _ _ (field (.ref it) 1 >>= _) _ _ _;refine eH (TC b hd (x:=rawInt (i:Int)) rfl ?_);show wpAny _ _ (setField (.ref it) 1 (rawInt ((i:Int)-1)) >>= _) _ _ _;refine eH (SL b hd (by simp) ?_);exact hH ⟨x,rfl,hH (h _ ⟨_,xz _ b (Op (wl hd _)),(Vf ..).trans g,by rw[wl hd];simp⟩ (AT ..))⟩
theorem MD{it t:Addr}{Q:WS->Shared->Prop}(d:A.handled=none)(hit:ke s.heap it t (-1))
  (h:∀h',Heap.ExtBut it s.heap h'->Q none { s with heap:=h' }):wpAny (model prog w) A (pyNext (.ref it)) Q E s:=by
 obtain⟨o,c,i,hd⟩:=id hit;unfold pyNext;refine eH (Ul (A1 (name:=Str.ofString "__next__") hit.ty RT.D1 (z0 RT.D1 hit.ty RT.bW ?_ (RT.bV _))));unfold Builtin.«reversed.__next__»;refine eH (TB (a:=(Value.ref it,[])) rfl ?_);try dsimp only
 refine eH (TC c hd (x:=.ref t) rfl (eH (TC c hd (x:=rawInt (-1)) rfl ?_)));show wpAny _ _ (if (-1:Int)<0 then _ else _) _ _ s;rw[ry (by decide)];refine eH (Uv (eH ?_));show wpAny _ _ (setField (.ref it) 1 (rawInt (-1)) >>= _) _ _ s;refine eH (SL c hd (by simp) ?_);have g:=xz (λo=>o.mapFields λe=>e.setIfInBounds 1 (rawInt (-1))) c (Op (wl hd _));refine SL g (wl hd _) (by simp) ?_;have ex:Heap.ExtBut it s.heap ((s.heap.update it (Obj.mapFields λx=>x.setIfInBounds 1 (rawInt (-1)))).update it (Obj.mapFields λx=>x.setIfInBounds 0 Value.none)):=(AT ..).extBut.trans (AT ..).extBut;show wpAny _ _ _ _ _ { s with heap:=(s.heap.update it (Obj.mapFields λx=>x.setIfInBounds 1 (rawInt (-1)))).update it (Obj.mapFields λx=>x.setIfInBounds 0 Value.none) };generalize (s.heap.update it (Obj.mapFields λx=>x.setIfInBounds 1 (rawInt (-1)))).update it (Obj.mapFields λx=>x.setIfInBounds 0 Value.none)=j at ex;refine eH (show wpAny _ _ (newExc (.type "StopIteration") [] >>= _) _ _ _ from eH ?_);simp only[newExc,newTuple];refine eH (ux (eH (m:=firstArgMember _ _) (TB (a:=Value.none) (by first | rfl | (simp only[firstArgMember];rfl)) (ux ?_ (by size_fits)))) (by size_fits));simp only[raiseNew];refine eH (wpAny_handled ?_)
 first | rw[show A.in1.handled=none from d] | rw[d]
 refine eH (hH (wpAny_throw ?_));refine eH (UF (T:="StopIteration") (b:=true) ⟨_,sj _ rfl,rfl⟩ isSubtype_stop (hH (h _ ((ex.push _).push _))))
theorem xN{it t:Addr}{i:Int}{Q:WO}(hit:ke s.heap it t i)(h:Q (.ref it) s):wpAny (model prog w) A (pyIter (.ref it)) Q E s:=by
 refine VU hit.ty RT.ja (z0 RT.ja hit.ty RT.tQ (show wpAny _ _ (ret (.ref it)) _ _ s from hH ⟨_,rfl,"reversed",_,hit.ty,RT.D1.lookup,h⟩) (RT.wt _))
end
def Rz(K:WR)(a:Addr)(n:Nat):It:=
 ⟨λi H=>i<n/\n<=sizeLine/\∃b,P8 K H a b/\b.length=n,λi H x c=>c=H/\∀b,P8 K H a b->b[n-1-i]?=some x,λi H=>i=n⟩
theorem BR{P:Program}{w:World}{K:WR}{tg:Expr}(a it:Addr)(n:Nat)(ne:a≠it):Turn P w K tg (Rz K a n) [it] it (λi h=>i<=n/\ke h it a ((n:Int)-1-(i:Int))) where
 mem:=List.mem_singleton.mpr rfl
 obj:=λi h st b q=>by
  cases List.mem_singleton.mp q;obtain⟨_,o,e,c,d⟩:=st;exact⟨o,e,λv z=>by rw[d] at z;cases z⟩
 keep:=λi h y st k=>⟨st.1,st.2.at λo e=>k it (List.mem_singleton.mpr rfl) o e⟩
 item:=by
  intro X G hw J hc i j s T H E I r st C;subst G hw J;obtain⟨hi,hz,U,hq,hn⟩:=C;obtain⟨B,rv,p,_⟩:=I.tuple hq;have Y:U[n-1-i]?=some (U[n-1-i]'(by omega)):=nA (by omega);obtain⟨u,hu,ru⟩:=rv.get Y;obtain⟨S,R,f2,Q,O,M⟩:=r it (List.mem_singleton.mpr rfl);have g:=st.2;have hl:B.length=n:=by rw[<-rv.length];exact hn
  rw[show(n:Int)-1-(i:Int)=((n-1-i:Nat):Int) by omega] at g;refine Gh g p ne (x:=u) (by simpa using hu) (by rw[sh,hl];rw[GM] at hz;omega) λy l sb=>?_;rw[show((n-1-i:Nat):Int)-1=(n:Int)-1-((i+1:Nat):Int) by omega] at l;have I1:Inv X j T H { s with heap:=y,toks:=s.toks+1 }:=I.turned (t':=s.toks+1) (λb o q e=>(sb.2 b q).trans e) S R Q O M;obtain⟨o,e,c,d⟩:=id l;exact⟨u,rfl,qJ (s:={ s with heap:=y,toks:=s.toks+1 }) e c d (by decide) ⟨_,H,I1,ru,⟨rfl,λys hy=>by rw[I.kG hy hq];exact Y⟩,⟨hi,l⟩,λb q=>(r b q).1⟩⟩
 done:=by
  intro X G hw J hc i j s T H E I r st C;subst G hw J;obtain rfl:i=n:=C;obtain⟨S,R,f2,Q,O,M⟩:=r it (List.mem_singleton.mpr rfl);have g:=st.2;rw[show(i:Int)-1-(i:Int)=-1 by omega] at g;exact MD (I.ok.hd hc) g λy eb=>⟨rfl,I.turned (t':=s.toks) (λb o q e=>eb b o q e) S R Q O M⟩
 self:=λ_ _ _ _ _ st h=>xN st.2 h
def Dc(K:WR)(e:TA):TI:=λd H R=>e d H λvs c=>∃a b,vs=[.ref a]/\P8 K c a b/\R (Rz K a b.length) c
theorem Fp {X:Cx} {B a:Expr} {y:TA} {p g:Pos} (S:Gl X "reversed") (Q:X.mg "reversed"=none) (U:PA X [a] y) (M:starEach [a] X.env=[(false,eval a X.env)]:=by rfl):PI X B (.Call (.Name "reversed" p) [a] [] g) (Dc X.K y):=by
 refine .of ?_;intro j s z H R I h;refine UV (bA I S Q PyProof.Rows.boot_reversed ?_ (by decide) (by decide));refine callWith_type1 (p9 (U g j s z H _ I h) λus v ⟨vs,Y,r,E,G⟩=>?_) M rfl;obtain⟨l,d,rfl,O,q⟩:=G;obtain⟨u,rfl,C⟩:=vals1 E;cases(show u=Value.ref l from C);obtain⟨x,rv,pl,J⟩:=r.tuple O;have c:x.toArray.size=d.length:=by rw[sh];exact rv.length.symm
 refine Cf pl (by rw[c];rw[GM] at J;omega) ?_;rw[c];refine xN (t:=l) (i:=(d.length:Int)-1) ⟨_,sj _ rfl,rfl,rfl⟩ ?_;refine⟨v.heap.objs.size,[v.heap.objs.size],_,_,Y,rfl,r.kept (t':=v.toks+1+1) λb o e=>hD _ e,BR l _ d.length (t8 pl.lt),⟨v5 _,?_⟩,λb T=>?_,q⟩
 ·rw[show(d.length:Int)-1-((0:Nat):Int)=(d.length:Int)-1 by omega];exact⟨_,sj _ rfl,rfl,rfl⟩
 ·cases List.mem_singleton.mp T;exact r.fP (oT _) (r.hok.fresh (oT _))
end L2
namespace L3
open PySem PySem.Spec PyProof.Rows L2
section
variable{X:Cx}{cl:List Cl}{tg e:Expr}{f:Fl}{ua:TU}{pos p:Pos}
def JG(u:TU):mj:=λb Q=>u b λd=>match d with
 | .tup a=>a.length<sizeLine/\Q a.reverse
 | _=>False
theorem EC{K:WR}{H:Hp}{q:Addr}{vs:List V}{xs:List D}{C:WE}(hz:vs.length<=sizeLine)(h:∀a,Tf H a->P8 K a q vs)(r:i5 K H vs xs C):bj K (Rz K q vs.length) xs.reverse C H:=λa tf k i=>by
 have c:=h a tf;have o:=r.length;refine⟨λe=>?_,λd e=>?_⟩
 ·show i=vs.length;rw[KF] at e;omega
 ·have u:i<xs.length:=by
   have:=(List.getElem?_eq_some_iff.mp e).1
   rwa [KF] at this
  rw[List.getElem?_reverse u] at e;obtain⟨v,B,z,l,j⟩:=aQ r tf k e;refine⟨⟨by omega,hz,vs,c,rfl⟩,λy E b=>?_⟩;obtain⟨x,b⟩:=b;subst x;have g:=b vs c;rw[o,z] at g;cases g;exact⟨c9.refl _,B,l,j⟩
theorem Jw (h:PU X cl e f ua) (j:isStar e=false) (mk:∀{t},PA X [e] t->PI X tg (.Call (.Name "reversed" p) [e] [] pos) (Dc X.K t)):ak X cl tg (.Call (.Name "reversed" p) [e] [] pos) f (JG ua):=.of<|by
 obtain⟨t,q,h⟩:=h.run;refine⟨_,mk (bp q M7 j),λG g c H u Q R l E i k=>h G g c H u _ _ l E i λv x d B s r o q=>?_⟩;cases d<;>first | exact(show False from q).elim | skip
 obtain⟨p,vs,rfl,b,a⟩:=K7 r;exact⟨p,vs,rfl,.inl (.inl b),k _ x _ _ s (EC (by rw[a.length];exact IN q.1) (λy tf=>.inl (.inl (tf.P4 _ _ b))) a) a.there o q.2⟩
end
end L3
namespace L2
open PySem PySem.Spec PyProof.Rows
section
variable{X:Cx}
end
end L2
namespace L3
open PySem PySem.Spec PySem.Calls PyProof.Rows L2
section
variable{X:Cx}{cl:List Cl}{e a b:Expr}{es:WI}{pos cpos hpos np p:Pos}{us:cy}{ua ub:TU}{fa fb:Fl}{ma:TM}{k:Nat}{fn:Addr}{fd:FuncData}{ps:WG}{x y bn:Str}{i:Nat}
end
end L3
namespace L2
open PySem PySem.Spec PyProof.Rows
end L2
namespace L3
open PySem PySem.Spec PySem.Calls PyProof.Rows L2
section
variable{X:Cx}{cl:List Cl}{tg e a b:Expr}{es:WI}{pos p2 vp:Pos}{ua ub:TU}{f fa fb:Fl}{ma mb:TM}{x:Str}{i:Nat}
theorem Ar{K:WR}{H:Hp}(k:Key):Rep K H (kV k) (kD k) []:=by
 cases k with
 | inl i=>exact .int
 | inr x=>exact .str
theorem J8{K:WR}{H:Hp}:∀{vs:List V} {ns:WJ} {A:WE},i5 K H vs (ns.map D.int) A->vs=ns.map V.int
 | _,[],_,.nil=>rfl
 | _,n::ns,_,.cons h r=>by cases h;rw[J8 r];rfl
end
section
variable{X:Cx}{cl:List Cl}{tg e a b:Expr}{es:WI}{pos p2 vp:Pos}{ua ub:TU}{f fa fb:Fl}{ma mb:TM}{x y:Str}{i j:Nat}
end
end L3
namespace L2
open PySem PySem.Spec PyProof.Rows PySem.SeqAt
end L2
namespace L3
open PySem PySem.Spec PySem.Calls PyProof.Rows L2
section
variable{X:Cx}{cl:List Cl}{e a b:Expr}{pos:Pos}{ua ub:TU}{fa fb:Fl}
end
end L3
namespace L2
open PySem PySem.Spec PyProof.Rows
def MS(h:Heap)(e:Addr)(b a0:Value)(T:Addr)(g:Option Addr):Prop:=
 ∃a vs d c,h.get? e=some a/\a.cls=b/\a.dict=g/\vs[0]?=some a0/\a.data=.fields vs/\vs[1]?=some (.ref T)/\T≠e/\h.get? T=some d/\d.data=.fields c/\c[3]?=some .none
theorem MS.FJ{h:Heap}{e:Addr}{a a0:Value}{T:Addr}{i:Option Addr}(f:MS h e a a0 T i):NZ h e a a0 T:=
 let ⟨g,vs,j,d,l,o,_,u,hd,r,c,p,b,q⟩:=f;⟨g,vs,j,d,l,o,u,hd,r,c,p,b,q⟩
section
variable{M:Model}{A:Around}{E:WO}{s:Shared}{base:Heap}{env:Env}{outer:List Env}{L e:Addr}{Q:Unit->Shared->Prop}
end
section
variable{prog:Program}{w:World}{A:Around}{E:WO}{h:Heap}{g:Array GenState}{d:Drawn}{t:Nat}{os:OsState}
variable{nm q:Str}{C N fI:Addr}{oI:Obj}{bs bm bmB bmN:WH}{hdct:Bool}{sn:WG}{sub:WH}{ab:Bool}{col:Option Bool}{dd:Option Addr}{k0 k1 k2 k3 k5:WS}{B Bn newId nid initId inN:String}{mN:WM}{rest:WH}
end
section
variable{M:Model}{A:Around}{E:WO}{env:Env}
variable{nm q:Str}{C N:Addr}{bs bm:WH}{hdct:Bool}{sn:WG}{sub:WH}{ab:Bool}{col:Option Bool}{dd:Option Addr}{k0 k1 k2 k3 k5:WS}{newId:String}
end
section
variable{prog:Program}{w:World}{A:Around}{E:WO}{s:Shared}{K:WR}{x C:Addr}{ox:Obj}{name:Str}{v:Value}
end
end L2
namespace PySem.W
open PySem PySem.Calls PyProof.Rows Builtin Builtin.ObjectAttr Builtin.Getset_descriptor
section
variable{K:Frag}{prog:Program}{w:World}{A:Around}{E:WO}{s:Shared}{e D dx:Addr}{oe:Obj}{name:Str}{m:WM}{v:Value}{cd:ClassData}
end
end PySem.W
namespace L2
open PySem PySem.Spec PyProof.Rows
section
variable{P:Program}{w:World}{K:WR}{mg:WM}{base:Heap}{N:WG}{qual:Str}{scope:Scope}{f:Addr}{cd:Value}{A:Around}{outer:List Env}{s:Shared}{H:Hp}{E:XK}
 {pins:WA} {σ:St} {H1:Hp} {s1:Shared}
end
section
variable{X:Cx}{pins:WA}{σ:St}{H:Hp}{s:Shared}
end
structure KH(X:Cx)(pins:WA)(σ:St)(H:Hp)(s:Shared)(e T:Addr)(cls a0:Value)(od:Option Addr):Prop where
 held:NB X pins σ H s e T cls a0
 FJ:MS s.heap e cls a0 T od
section
variable{X:Cx}{pins:WA}{σ:St}{H:Hp}{s:Shared}{e T:Addr}{cls a0:Value}{od:Option Addr}{E:XK}{x:Value}{Q:Unit->Shared->Prop}{M:Model}{A:Around}{E2:WO}
theorem KH.pin(c:KH X pins σ H s e T cls a0 od){F:WO}:∃a,a.cls=cls/\a.dict=od/\(∃vs,a.data=.fields vs)/\Inv (X.ar e a F) pins σ H s:=by
 have l:=c.FJ.FJ.apart c.held.inv.stack;obtain⟨a,j,I⟩:=c.held.pin (F:=F);obtain⟨b,vs,_,_,g,_,h,_,d,_⟩:=c.FJ;obtain⟨i,_⟩:=I.pin (e,a) (t7 _ (rj _ (List.mem_singleton.mpr rfl)));have:b=a:=v7 (g.symm.trans i);subst this;exact⟨b,j,h,⟨vs,d⟩,I⟩
end
section
variable{X:Cx}{o:Expr}{f:Str}{pos:Pos}{ta:TE}{e dx C:Addr}{oe:Obj}{vs:WL}
end
section
variable{X:Cx}{o e value:Expr}{f:Str}{pos pos':Pos}{ta tv:TE}
end
section
variable{K:WR}{C:Addr}{f1 f2 f3:Str}{vs:List V}{H:Hp}{Q:VK}{E:XK}{N:WG}
end
end L2
namespace L3
open PySem PySem.Spec PySem.Calls PyProof.Rows L2
def QC:D->Bool
 | .int _=>true
 | .str _=>true
 | _=>false
def leafOf:D->V
 | .int i=>.int i
 | .str x=>.str x
 | _=>.l3
theorem lT{K:WR}{H:Hp}:∀{vs:List V} {ds:List D} {A:WE},i5 K H vs ds A->ds.all QC=true->vs=ds.map leafOf
 | _,_,_,.nil,_=>rfl
 | _,_,_,.cons (d:=d) h r,e=>by
  rw[TN,uk] at e;rw[sw,<-lT r e.2];congr 1;cases h<;>first | rfl | (have:=e.1;cases this)
section
variable{X:Cx}{cl:List Cl}{e:Expr}{es:WI}{pos cpos hpos np p p1:Pos}{us:cy}{k kI:Nat}{fn:Addr}{fd:FuncData}{ps:WG}{x y bn n f:Str}{i:Nat}{Fo:Str->WG}
end
end L3
namespace PySem.W
open PySem PySem.Calls PyProof.Rows
section
variable{K:Frag}
end
end PySem.W
namespace L3
open PySem PySem.Spec PySem.Calls PyProof.Rows PySem.W L2
section
variable{X:Cx}{cl:List Cl}{e:Expr}{es:WI}{pos p:Pos}{us:cy}{k:Nat}{fn:Addr}{fd:FuncData}{ps:WG}{x:Str}{Fo:Str->WG}
end
section
variable{X:Cx}{cl:List Cl}{e dx C:Addr}{oe:Obj}{pos p p1 p2:Pos}{n y:Str}{i:Nat}{b:Bool}
end
end L3
namespace PySem
open Sem (wp)
open AutoSeq1 (wpAny_loadPart')
end PySem
namespace L2
open PySem PySem.Spec PyProof.Rows
end L2
namespace L3
open PySem PySem.Spec PySem.Calls PyProof.Rows PySem.W L2
section
variable{X:Cx}{cl:List Cl}{tg e:Expr}{pos p:Pos}{f:Fl}{ua:TU}
end
section
variable{X:Cx}{cl:List Cl}{tg a b:Expr}{pos p:Pos}{us:cy}
def AR(us:cy):mj:=λc Q=>us c λd=>∃i j:Int,d=[.int i,.int j]/\(-(2^62)<=i/\i<2^62/\-(2^62)<=j/\j<2^62)/\Q (jd i (j-i).toNat)
theorem oO (h:zN X cl [a,b] us) (mk:∀{t},PA X [a,b] t->PI X tg (.Call (.Name "range" p) [a,b] [] pos) (Kx t)):ak X cl tg (.Call (.Name "range" p) [a,b] [] pos) .fresh (AR us):=.of<|by
 obtain⟨t,pt,h⟩:=h.run;refine⟨_,mk pt,λG d c H u Q R o E e k=>h G d c H u _ _ o E e λvs x z A s r y q=>?_⟩;obtain⟨i,j,rfl,g,q⟩:=q;have v:=lT r rfl;subst v;exact⟨i,j,rfl,g,k _ x _ [] s (itR i _) (λa l=>(by cases l)) (y3.nil _) q⟩
end
section
variable{X:Cx}{cl:List Cl}{a b:Expr}{pos:Pos}{fa fb:Fl}{ua ub:TU}
end
end L3
namespace PySem
open Sem (wp)
open Builtin
open AutoSeq1 (wpAny_loadPart')
end PySem
namespace L2
open PySem PySem.Spec PyProof.Rows
section
variable{X:Cx}
end
end L2
namespace L3
open PySem PySem.Spec PySem.Calls PyProof.Rows PySem.W L2
section
variable{X:Cx}{cl:List Cl}{a b:Expr}{pos:Pos}{fa fb:Fl}{ua ub:TU}
end
end L3
namespace PySem
open AutoSeq1 (wpAny_loadPart')
open AutoSeq1
theorem yj(l:Addr)(items:WL)(n:Nat)(e:Array (WS))(b:Addr)(a:WL)(n2:Nat)(c:Array (WS))(j:items.size+a.size<=sizeLine) :
  Meets (Builtin.«list.__add__» ⟨[.ref l,.ref b],[]⟩) (λ_ R s=>s.heap.get? l=some { cls:=.type "list",dict:=none,data:=.seq items n,slots:=e }/\s.heap.get? b=some { cls:=.type "list",dict:=none,data:=.seq a n2,slots:=c }/\R (.ok (.ret (Value.ref s.heap.objs.size))) { s with heap:=s.heap.push { cls:=Value.type "list",data:=Data.seq (items++a) },toks:=s.toks }):=
 .of_wp λprog w A R s h=>by obtain⟨p,g,d,tk,os⟩:=s;obtain⟨i,o,h⟩:=h;have x:=idx_int;have v:=sub_tuple_tuple;have u:=sub_list_list;have r:=sub_tuple_list;have q:=sub_list_tuple;wp_walk using wpAny_loadPart' i,wpAny_loadPart' o;exact⟨_,rfl,h⟩
end PySem
namespace L2
open PySem PySem.Spec PyProof.Rows
section
variable{X:Cx}
def Km(K:WR):R2:=λx y H Q=>∃l b c a,x=.ref l/\y=.ref b/\G7 K H l c/\G7 K H b a/\c.length+a.length<=sizeLine/\∀p,H p=none->Q (.ref p) (upd H p (.lst (c++a)))
theorem Gz:N6 X (binaryOp .Add) (Km X.K):=by
 intro B s Y H x y v u Q I O M h;obtain⟨l,b,xs,zs,rfl,rfl,S,T,hz,q⟩:=h;cases O;cases M;obtain⟨c,r,⟨⟨c1,d1,G,J⟩,n,e,p,hd,o⟩,hl⟩:=I.list S;obtain⟨a,z,⟨⟨c2,d2,E,j⟩,n2,C,i,g,d⟩,R⟩:=I.list T
 replace p:c1=.type "list":=p
 replace hd:d1=none:=hd
 replace o:G=.seq c.toArray n:=o
 replace i:c2=.type "list":=i
 replace g:d2=none:=g
 replace d:E=.seq a.toArray n2:=d
 subst p hd o i g d;have l1:=r.length;have l2:=z.length;refine VW ⟨_,e,rfl⟩ ⟨_,C,rfl⟩ noFill_list_add seq_list_add F.slot_list_add F.entry_list_add (F.args_list_add_2 _ _) (yj l c.toArray n J b a.toArray n2 j (by rw[sh,sh];omega)) ⟨e,C,?_⟩;have U:c.toArray++a.toArray=(c++a).toArray:=by simp
 rw[U];exact⟨.ref _,_,I.BW (t':=s.toks) (r.append z) (by rw[tt];omega),rfl,q _ I.fresh⟩
end
section
variable{X:Cx}{pins:WA}{σ:St}{H:Hp}{s:Shared}{a:Addr}
theorem Inv.freeze{xs:List V}(I:Inv X pins σ H s)(e:H a=some (.lst xs)):∃ob,Inv X pins σ (upd H a (.frz ob (.lst xs))) s:=by
 obtain⟨z,c,n,r,d⟩:=(show p4 X.prog X.w H s.heap a (.lst xs) from I.hok a _ e)
 exact⟨_,I.write (x:=a) (e:=a) (h':=s.heap) (t':=s.toks) (o:=.frz { cls:=.type "list",data:=.seq c.toArray n } (.lst xs)) (by rw[e];exact True.intro) (.inl rfl) (λb q g z=>z) ⟨_,d⟩ ⟨d,z,c,n,r,d⟩⟩
def Sl(Q:VK):VK:=λv c=>∃p b,v=.ref p/\c p=some (.lst b)/\∀ob,Q v (upd c p (.frz ob (.lst b)))
theorem LJ{e:Expr}{t:TE}(h:PE X e t):PE X e (λσ H Q=>t σ H (Sl Q)):=by
 refine .of ?_;intro pins s σ H Q I q;exact p9 (h pins s σ H _ I q) λv l ⟨x,r,i,b,p,j,o,d,c⟩=>let ⟨ob,g⟩:=i.freeze d;⟨x,_,g,b,c ob⟩
theorem sF:∀{ns:WJ} {its:WH},Vals (ns.map V.int) its->IntsAre its ns
 | [],_,.nil=>.nil
 | n::ns,_,.cons ⟨t,h⟩ r=>by subst h;exact .cons n t (sF r)
theorem jr:∀{ns:WJ} {its:WH},IntsAre its ns->Vals (ns.map V.int) its
 | _,_,.nil=>.nil
 | _,_,.cons n t r=>.cons ⟨t,rfl⟩ (jr r)
def KC(K:WR)(xs:List V)(H:Hp)(Q:VK):Prop:=∃(p:Addr) (ns:WJ),xs=[.ref p]/\G7 K H p (ns.map V.int)/\ns.length<64/\∀(b:WJ) l,b.Perm ns->b.Pairwise (·<=·)->H l=none->Q (.ref l) (upd H l (.lst (b.map V.int)))
theorem sW:D4 X (.builtin "sorted") (KC X.K):=by
 intro pins s σ H J M Q I r h;obtain⟨p,ns,rfl,x,E,q⟩:=h;obtain⟨u,rfl,l⟩:=vals1 r;cases(show u=Value.ref p from l);obtain⟨g,rv,pl,i⟩:=I.list x;have y:=rv.length;rw[dL] at y;refine sorted_ints pl.isList (sF rv) (by omega) λc d z j v=>?_;obtain⟨e,B⟩:=sortedAll_at s.heap g c
 have G:=I.laid (t':=s.toks) (a:=s.heap.objs.size+1) (o:=.lst (d.map V.int)) (h':=sortedAll s.heap g c) (λb o C=>sortedAll_old C) (UO _)
  ⟨by rw[dL,j.length_eq];rw[dL] at i;exact i,c.toList,e,jr z,by rw[Vp];exact B⟩
 exact⟨.ref (s.heap.objs.size+1),_,G,rfl,q d _ j v (I.hok.fresh (UO _))⟩
def AI(xs:List V)(H:Hp)(Q:VK):Prop:=∃(p:Addr) (b:List (Key×V)) (d:Nat),xs=[.ref p]/\H p=some (.dE b d)/\∀l,H l=none->Q (.ref l) (upd H l (.lst (b.map λc=>kV c.1)))
theorem lF{P:Program}{w:World}:∀{kvs:List (Key×V)} {vs:List (Key×Value)} {its:WH},kvs.map (·.1)=vs.map (·.1)->its.length=vs.length->(∀(i:Nat) (v:Value),its[i]?=some v->∃k x,vs[i]?=some (k,x)/\(i7 P w).is k v=true)->Vals (kvs.map λb=>kV b.1) its
 | [],[],[],_,_,_=>.nil
 | [],[],_::_,_,e,_=>by simp at e
 | [],_::_,_,e,_,_=>by simp at e
 | _::_,[],_,e,_,_=>by simp at e
 | _::_,_::_,[],_,e,_=>by simp at e
 | b::kvs,v::vs,c::its,e,l,h=>by
  obtain⟨k,x,p,o⟩:=h 0 c rfl;cases p
  injection e with j g
  exact .cons (Qx (P:=P) (w:=w) (by rw[show b.1=k from j];exact o)) (lF (P:=P) (w:=w) g (by simpa using l) λi v d=>h (i+1) v d)
theorem sP(G:X.calm=true):D4 X (.type "list") AI:=by
 intro pins s σ H U Y Q I r h;obtain⟨p,e,j,rfl,B,q⟩:=h;obtain⟨u,rfl,l⟩:=vals1 r;cases(show u=Value.ref p from l);obtain⟨z,hd,vs,d,R⟩:=(show p4 X.prog X.w H s.heap p (.dE e j) from I.hok p _ B)
 have C:=d.length;refine PySem.W.kdl_call (PySem.W.kdl_dict (knd:=i7 X.prog X.w) (kvs:=vs) (ep:=j) hd) (I.ok.hd G) R (by rw[<-C];exact z) λO tk g S E M c=>?_
 have T:=I.laid (t':=tk) (a:=s.heap.objs.size) (o:=.lst (e.map λx=>kV x.1)) (h':=O) (λb o J=>E b o J) (oT _)
  ⟨by rw[dL];exact z,g.toList,S,lF (P:=X.prog) (w:=X.w) d.keys (by rw[t4];exact c.1) (λi v y=>c.2 i v (by rw[<-NE];exact y)),by rw[Vp];exact M⟩
 exact⟨.ref s.heap.objs.size,_,T,rfl,q _ I.fresh⟩
end
end L2
namespace L3
open PySem PySem.Spec PySem.Calls PyProof.Rows PySem.W L2
section
variable{X:Cx}{cl:List Cl}{e a b:Expr}{ua ub:TU}{fa fb:Fl}{pos:Pos}
def FI:D->D->(D->Prop)->Prop:=λd e Q=>∃g c,kindB false d=some g/\kindB false e=some c/\u6 g=true/\u6 c=true/\g.length+c.length<=sizeLine/\Q (.lst (g++c))
theorem MQ:bu X (Km X.K) FI:=by
 intro H v w d e A B Q R r p q k;obtain⟨M,J,j,i,z,y,C,q⟩:=q;obtain⟨x,vs,S,rfl,I,g,_⟩:=Y3 r j;obtain⟨u,o,O,rfl,G,c,_⟩:=Y3 p i;have j:=g.C9 z;have i:=c.C9 y;subst j;subst i;refine⟨x,u,vs,o,rfl,rfl,I,G,by rw[g.length,c.length];exact C,λl h=>k _ _ _ [l] (c9.e7 h) (.lst c7 ((g.same (c9.e7 h)).append (c.same (c9.e7 h)))) (by simp) (λa E=>?_) q⟩;have:a=l:=by simpa using E
 rw[this];exact h
theorem Jt(d:PU X cl a fa ua)(c:PU X cl b fb ub):PU X cl (.BinOp a .Add b pos) .fresh (l7 FI ua ub):=gR Gz MQ d c
def NR(u:TU):TU:=λg Q=>u g λd=>∃c,d=.lst c/\u6 c=true/\Q (.fz c)
theorem CK(h:PU X cl e .fresh ua):PU X cl e .fresh (NR ua):=.of<|by
 obtain⟨t,J,h⟩:=h.run;refine⟨_,LJ J,λG l j H T Q R S E I k=>h G l j H T _ _ S E I λv H1 d A s r U q=>?_⟩;obtain⟨x,rfl,C,q⟩:=q;obtain⟨p,vs,B,rfl,g,i,eA⟩:=D5 r;have Y:=i.C9 C;subst Y;refine⟨p,vs,rfl,g,λob=>?_⟩;have M:H p=none:=U.2 p (by rw[eA];exact re)
 have y:c9 H (upd H1 p (.frz ob (.lst vs))):=λb o c=>by
  rw[e9 (λz=>by rw[z,M] at c;cases c)];exact s b o c
 refine k _ _ (.fz x) [] y (.frz (.inl ⟨ob,c7⟩) ?_) (y3.nil _) q;exact i.W3 ⟨λb ys c=>by rw[e9 (oA c g (λz=>nomatch z))];exact c,λb o u c=>by rw[e9 (oA c g (λz=>nomatch z))];exact c⟩ λa O=>by cases O
def Kr:List D->(D->Prop)->Prop:=λg Q=>∃(d:D) (ns:WJ),g=[d]/\kindB false d=some (ns.map D.int)/\ns.length<64/\∀c:WJ,c.Perm ns->c.Pairwise (·<=·)->Q (.lst (c.map D.int))
theorem bK{K:WR}{H:Hp}:∀ns:WJ,i5 K H (ns.map V.int) (ns.map D.int) []
 | []=>.nil
 | n::ns=>i5.cons (A:=[]) (B:=[]) .int (bK ns)
theorem Mg:Call3 X (KC X.K) Kr:=by
 intro H vs C A Q R r q k;obtain⟨d,ns,rfl,e,g,q⟩:=q;obtain⟨v,rfl,i⟩:=r.one;obtain⟨p,z,B,rfl,u,j,_⟩:=Y3 i e;cases J8 j;refine⟨p,ns,rfl,u,g,λc l x o h=>k _ _ (.lst (c.map D.int)) [l] (c9.e7 h) (.lst c7 (bK c)) (by simp) (λa y=>?_) (q c x o)⟩;rw[List.mem_singleton.mp y];exact h
def Cu:List D->(D->Prop)->Prop:=λg Q=>∃c,g=[.dic c]/\Q (.lst (c.map λd=>kD d.1))
theorem lq{K:WR}{H d:Hp}:∀{vs:List (Key×V)} {ds:List (Key×D)} {A:WE},u7 K H vs ds A->i5 K d (vs.map λc=>kV c.1) (ds.map λc=>kD c.1) []
 | _,_,_,.nil=>.nil
 | _,_,_,.cons _ r=>i5.cons (A:=[]) (B:=[]) (Ar _) (lq r)
theorem GW:Call3 X AI Cu:=by
 intro H vs z A Q R r q k;obtain⟨d,rfl,q⟩:=q;obtain⟨v,rfl,i⟩:=r.one;obtain⟨p,c,x,B,rfl,o,h,y⟩:=pV i;refine⟨p,c,x,rfl,o,λl g=>k _ _ (.lst (d.map λj=>kD j.1)) [l] (c9.e7 g) (.lst c7 (lq h)) (by simp) (λa u=>?_) q⟩;rw[List.mem_singleton.mp u];exact g
end
end L3
namespace L2
open PySem PySem.Spec PyProof.Rows
def QX:K3->V
 | none=>.l3
 | some k=>kV k
theorem FF{P:Program}{w:World}{k:K3}{u:Value}(r:RelV (QX k) u):(aB P w).is k u=true:=by
 cases k with
 | none=>rw[show u=Value.none from r];rfl
 | some k=>exact Z8 (P:=P) (w:=w) r
theorem BJ{P:Program}{w:World}{H:Hp}(h:Heap)(a:sysModules<h.objs.size):p4 P w H (h.push { cls:=.type "dict",data:=.dict #[] }) h.objs.size (.dN []):=
 ⟨v5 _,beq_eq_false_iff_ne.mpr (Da (t8 a)),[],.nil,Heap.DictOf.new h⟩
section
variable{X:Cx}{o e f i value:Expr}{pos pos' apos cpos:Pos}{td ty tx tv:TE}
theorem Bx:PE X (.Dict [] [] pos) (λ_ H Q=>∀p,H p=none->Q (.ref p) (upd H p (.dN []))):=.of<|λb s c H Q I h=>
 wpAny_Dict_empty ⟨.ref s.heap.objs.size,_,I.laid (a:=s.heap.objs.size) (o:=.dN []) (t':=s.toks) (λ_ _ q=>hD _ q) (oT _) (BJ s.heap I.big),rfl,h _ (I.hok.fresh (oT _))⟩
def Mz(td ty tx:TE):TE:=λc H Q=>td c H λx h=>∃a d,x=.ref a/\h a=some (.dN d)/\ty c h λy j=>tx c j λz g=>∃b k,g a=some (.dN b)/\y=QX k/\Q ((ah b k).getD z) g
theorem FA (ho:PE X o td) (he:PE X e ty) (hf:PE X f tx) (m:M2 X o "get" apos e f cpos):PE X (.Call (.Attribute o "get" apos) [e,f] [] cpos) (Mz td ty tx):=by
 refine .of ?_;intro c s p H Q I h;refine wpAny_Call_method m.base m.few m.line PySem.F.plainAttrs_dict Sc PySem.F.type_dict_get (p9 (ho c s p H _ I h) λu B ⟨x,J,E,T,a,v,ex,d,q1⟩=>?_);subst ex;obtain rfl:u=Value.ref a:=T;obtain⟨_,hd,vs,_,l⟩:=(show p4 X.prog X.w J B.heap a (.dN v) from E.hok a _ d)
 refine⟨l.typeIs,λb q=>by cases q;obtain⟨ob,_,_,h1,h2,_⟩:=l;exact⟨ob,h1,h2.2.1⟩,?_⟩;rw[m.trees]
 refine UB rfl (UL (Ux (p9 (he c B p J _ E q1) λiv O ⟨y,H2,I2,S,Y⟩=>
  Ux (p9 (hf c O p H2 _ I2 Y) λfv M ⟨z,G,C,R,j,k,g,ey,U⟩=>Wb ?_))))
 subst ey;obtain⟨_,hd,vs,r,l⟩:=(show p4 X.prog X.w G M.heap a (.dN j) from C.hok a _ g)
 exact VY Sc l.typeIs Um (Uj _ _ _) (Vr (aB X.prog X.w) a (FF S) hd fv) ⟨_,l.mapOf,⟨_,G,C.tok _,(r.val k).getD R,U⟩⟩
def Nl(td ty tv:TE):TS:=λD c H=>tv c H λv h=>td c h λx g=>ty c g λy d=>∃a b k,x=.ref a/\d a=some (.dN b)/\y=QX k/\b.length<sizeLine/\D.nx c (upd d a (.dN (putK b k v)))
theorem BM(ho:PE X o td)(hi:PE X i ty)(Y:PE X value tv)(hs:swapsWith value (some (.Subscript o i pos')) pos.line X.env=pure false) :
  PS X (.Assign [.Subscript o i pos'] value pos) (Nl td ty tv):=by
 refine .of ?_;intro b s p H D I h;refine wpAny_Assign_Subscript (p9 (Y b s p H _ I h) λr M ⟨v,H1,I1,rv,T⟩=>p9 (ho b M p H1 _ I1 T) λu J ⟨x,H2,I2,Q,S⟩=>p9 (hi b J p H2 _ I2 S) λiv C ⟨y,H3,G,O,a,c,k,ex,g,ey,l,R⟩=>?_) hs;subst ex ey;obtain rfl:u=Value.ref a:=Q;obtain⟨z,hd,vs,d,dd⟩:=(show p4 X.prog X.w H3 C.heap a (.dN c) from G.hok a _ g)
 have U:vs.length<=sizeLine:=by rw[<-d.length];exact z
 have hl:(putK c k v).length<=sizeLine:=by have:=D9 c k v;omega
 refine wpAny_setItem_pairs (hsz:=U) (FF O) dd λE j B=>?_;have he:∃q,E.get? a=some q:=let ⟨q,_,_,hq,_⟩:=j;⟨q,hq⟩;exact⟨p,_,bh (t':=C.toks+1) G (by rw[g];exact True.intro) B he (show p4 X.prog X.w _ E a (.dN (putK c k v)) from⟨hl,hd,_,d.put k rv,j⟩),R⟩
end
end L2
namespace L3
open PySem PySem.Spec PySem.Calls PyProof.Rows PySem.W L2
def kO:D->Option K3
 | .l3=>some none
 | d=>(V0 d).map some
def G1(kvs:List (K3×Int))(k:K3):Option Int:=(kvs.find? λa=>decide (a.1=k)).map (·.2)
def bt(kvs:List (K3×Int))(k:K3)(n:Int):List (K3×Int):=
 if (kvs.any λa=>decide (a.1=k))=true then kvs.map (λa=>if a.1=k then(a.1,n) else a) else kvs++[(k,n)]
def vN(kvs:List (K3×Int)):List (K3×V):=kvs.map λq=>(q.1,V.int q.2)
theorem Ax{K:WR}{H:Hp}{v:V}{kvs:List (K3×Int)}{A:WE}(h:Rep K H v (.dn kvs) A):∃p,v=.ref p/\H p=some (.dN (vN kvs))/\A=[p]:=by
 cases h with
 | dn h=>exact⟨_,rfl,h,rfl⟩
theorem pD{K:WR}{H:Hp}{v:V}{d:D}{A:WE}{k:K3}(r:Rep K H v d A)(e:kO d=some k):v=QX k:=by
 unfold kO at e;split at e
 ·cases e;exact cJ r
 ·obtain⟨b,a,rfl⟩:=Option.map_eq_some_iff.mp e;exact N7 r a
theorem Ll(kvs:List (K3×Int))(k:K3):ah (vN kvs) k=(G1 kvs k).map V.int:=by
 unfold ah G1 vN
 induction kvs with
 | nil=>rfl
 | cons q kvs a=>
  rw[sw,x0,x0]
  by_cases h:q.1=k
  ·rw[t6 h];rfl
  ·rw[vr h];exact a
theorem Nb(kvs:List (K3×Int))(k:K3)(n:Int):putK (vN kvs) k (.int n)=vN (bt kvs k n):=by
 have e:((vN kvs).any λa=>decide (a.1=k))=kvs.any λa=>decide (a.1=k):=by unfold vN;rw[List.any_map];rfl
 unfold putK bt;rw[e];split
 ·unfold vN;rw[v9,v9];refine PP λq _=>?_;show(if q.1=k then(q.1,V.int n) else(q.1,V.int q.2))=_
  by_cases h:q.1=k
  ·rw[ry h];show _=((if q.1=k then(q.1,n) else q).1,V.int (if q.1=k then(q.1,n) else q).2);rw[ry h]
  ·rw[ro h];show _=((if q.1=k then(q.1,n) else q).1,V.int (if q.1=k then(q.1,n) else q).2);rw[ro h]
 ·unfold vN;rw[ue];rfl
section
variable{X:Cx}{cl:List Cl}{e a b c:Expr}{ua ub uc:TU}{fa fb fc:Fl}{pos:Pos}{ma:TM}{x:Str}
theorem CS:PU X cl (.Dict [] [] pos) .fresh (uC (.dn [])):=.of<|by
 refine⟨_,Bx,λG j i H l Q R _ E g k p d=>?_⟩;refine k _ _ _ [p] (c9.e7 d) (.dn c7) ⟨by simp,λa h=>?_⟩ g;rw[List.mem_singleton.mp h];exact d
def vo(ua ub uc:TU):TU:=λg Q=>ua g λx=>∃d,x=.dn d/\ub g λy=>∃k,kO y=some k/\uc g λz=>∃n,z=.int n/\Q (.int ((G1 d k).getD n))
theorem pE {g:Pos} (S:PU X cl a fa ua) (O:PU X cl b fb ub) (M:PU X cl c fc uc) (m:M2 X a "get" g b c pos):PU X cl (.Call (.Attribute a "get" g) [b,c] [] pos) .fresh (vo ua ub uc):=.of<|by
 obtain⟨ta,pa,S⟩:=S.run;obtain⟨tb,pb,O⟩:=O.run;obtain⟨tc,pc,M⟩:=M.run;refine⟨_,FA pa pb pc m,λG l j H U Q R T E J k=>S G l j H U _ _ T E J λv H1 d A q r1 f1 I=>?_⟩;obtain⟨h,rfl,I⟩:=I;obtain⟨p,rfl,hp,rfl⟩:=Ax r1;refine⟨p,_,rfl,hp,O G l j H1 U _ _ T (E.same q) I λw H2 e B o r2 f2 y=>?_⟩;obtain⟨i,hk,y⟩:=y;refine M G l j H2 U _ _ T (E.same (q.trans o)) y λu H3 z C Y r3 f3 r=>?_;obtain⟨n,rfl,r⟩:=r;cases r8 r3;refine⟨_,i,Y _ _ (o _ _ hp),pD r2 hk,?_⟩;rw[Ll];have e:(((G1 h i).map V.int).getD (.int n))=.int ((G1 h i).getD n):=by cases G1 h i<;>rfl
 rw[e];exact k _ H3 _ [] ((q.trans o).trans Y) .int (y3.nil _) r
def Jo(i:Nat)(y:D)(n:Int)(g:Ev)(Q:Ev->Prop):D->Prop
 | .dn d=>∃k,kO y=some k/\d.length<sizeLine/\Q (g.set i (some (.dn (bt d k n))))
 | _=>False
def Bp(i:Nat)(l mk:TM):g4:=λT j=>l j λd h=>∃n,d=.int n/\a7 i h λ_=>mk h λy g=>a7 i g (Jo i y n g T.nx)
theorem Ge{u tp:Pos}{y:Expr}{mk:TM}(i:Nat)(hv:PE X (.Name x u) (bq i))(hi:cl[i]?=some .own)(he:PN X cl e ma)(C:PN X cl y mk)(hs:swapsWith e (some (.Subscript (.Name x u) y tp)) pos.line X.env=pure false:=by rfl) :
  J5 X cl (.Assign [.Subscript (.Name x u) y tp] e pos) (Bp i ma mk):=.of<|by
 obtain⟨t,p,h⟩:=he.run;obtain⟨t2,p2,h2⟩:=C.run;refine⟨_,BM hv p2 p hs,λG T ρ O H fa R I E B le=>?_⟩;have own:G.own i:=by unfold Ent.own;rw[I];exact hi
 refine h G ρ O H fa _ _ I E B λw H1 d B1 r M Y c1 r1 n1 q=>?_;obtain⟨n,rfl,q⟩:=q;cases r8 r1;obtain⟨l0,e0,q⟩:=o4 q;obtain⟨v,o,r0⟩:=Y.rep i l0 e0;refine⟨_,o,h2 G r O H1 M _ _ I Y q λwk H2 dk Bk l J U c2 rk nk q=>?_⟩;obtain⟨Q,S,q⟩:=o4 q;obtain⟨v',j,r2⟩:=U.rep i Q S;have ev:v'=v:=by rw[o] at j;cases j;rfl
 subst ev;cases Q<;>first | exact(show False from q).elim | skip
 rename_i g
 obtain⟨k,C,hn,q⟩:∃k,kO dk=some k/\g.length<sizeLine/\T.nx (l.set i (some (.dn (bt g k n)))):=q;obtain⟨p,rfl,hp,eA⟩:=Ax r2;cases pD rk C;have pin:p∈J i:=by rw[eA];exact re
 have li:i<l.length:=(List.getElem?_eq_some_iff.mp S).1;refine⟨p,_,k,rfl,hp,rfl,by unfold vN;rw[dL];exact hn,?_⟩;rw[Nb];exact le.nx _ _ ⟨_,_,U.put own li j pin T7 (by rw[c7];exactλz=>nomatch z) (Rep.dn c7:Rep X.K _ (.ref p) (.dn (bt g k n)) [p]) (by simp) λa ha=>.inl (by rw[List.mem_singleton.mp ha];exact pin),q⟩
def JK(i:Nat)(j m2:TM):g4:=λT h=>j h λd1 g=>u9 d1=true/\m2 g λd2 d=>u9 d2=true/\a7 i d λl=>T.rt (.tup [d1,d2,l]) d
theorem LS{Y:TM}{Q B:Pos}{kt}{i:Nat}(d:PM X cl a ma)(sa:isStar a=false)(I:PM X cl b Y)(sb:isStar b=false)(h:PE X (.Name x Q) (bq i))(hi:i≠0)(hc:cl[i]?=some .own):J5 X cl (.Return (some (.Tuple [a,b,.Name x Q] kt B)) pos) (JK i ma Y):=.of<|by
 obtain⟨t1,p1,d⟩:=d.run;obtain⟨t2,B,I⟩:=I.run;refine⟨_,nF (nq (bp p1 (bp B (bp h M7 rfl) sb) sa)),λG T ρ p H fo R J E hu le=>?_⟩;have o:G.own i:=by unfold Ent.own;rw[J];exact hc
 refine d G ρ p H fo _ _ J E hu λO H1 d1 B1 u M E1 c1 U _ _ q=>?_;obtain⟨i1,q⟩:=q;have e1:=U.C9 i1;subst e1;refine I G u p H1 M _ _ J E1 q λw2 H2 d2 B2 r l g c2 S _ _ q=>?_;obtain⟨i2,q⟩:=q;have e2:=S.C9 i2;subst e2;obtain⟨d0,e0,q⟩:=o4 q;obtain⟨v,hv,r0⟩:=g.rep i d0 e0;refine⟨v,hv,by show 3<=sizeLine;decide,λpp C=>?_⟩;have s:=c9.e7 (o:=.tup [O,w2,v]) C;have z:Rep X.K H2 O d1 []:=c2.keep U λi _ a d=>(by cases d)
 refine le.rt _ _ ⟨.tup [d1,d2,d0],r,p,l,[]++([]++(l i++[])),g.same s,.tup c7 (.cons (z.same s) (.cons (S.same s) (.cons (r0.same s) .nil))),?_,?_,?_,q⟩
 ·rw[tz];exact g.nd i (.inl o)
 ·intro a d;rw[tz] at d;exact g.new i (.inr ⟨o,λy=>hi (g.po.one i y o)⟩) a d
 ·intro j hj ho a d;rw[tz] at d;exactλy=>g.dj i j (λe=>hi (e▸g.po.one j hj ho)) o a d y
end
end L3
namespace HT
open PySem PySem.Spec PyProof.Rows
section
variable{prog:Program}{w:World}{A:Around}{E:WO}{s:Shared}
theorem pC(n:Nat):Builtin.Slice.slicePlaces ((n:Int)-1) (-1) (-1)=n:=by
 unfold Builtin.Slice.slicePlaces;have a:¬((-1:Int)>0):=by decide
 simp only[a,UI]
 by_cases h:(n:Int)-1>-1
 ·rw[ry h,show((n:Int)-1 - -1-1)/(- -1)+1=n from by rw[show(- -1:Int)=1 from by decide,Int.ediv_one];omega];exact wS n
 ·rw[ro h];show(0:Int).toNat=n;omega
theorem zZ(xs:WL):((List.range xs.size).filterMap λ(k:Nat)=>xs[((xs.size:Int)-1+(k:Int)*-1).toNat]?).toArray=xs.toList.reverse.toArray:=by
 have e:(List.range xs.size).filterMap (λ(k:Nat)=>xs[((xs.size:Int)-1+(k:Int)*-1).toNat]?)=((List.range xs.size).map λk=>xs.size-1-k).filterMap (xs[·]?):=by
  rw[List.filterMap_map]
  have go:∀l:WK,(∀k∈l,k<xs.size)->l.filterMap (λ(k:Nat)=>xs[((xs.size:Int)-1+(k:Int)*-1).toNat]?)=l.filterMap ((xs[·]?)∘λk=>xs.size-1-k):=λl=>by
   induction l with
   | nil=>intro _;rfl
   | cons k l c=>
    intro a;have b:=a k re;have e:((xs.size:Int)-1+(k:Int)*-1).toNat=xs.size-1-k:=by omega
    rw[Ew,Ew,c λz d=>a z (hQ _ d)];rw[e];rfl
  exact go _ λk b=>List.mem_range.mp b
 rw[e,PySem.W.krv_range,List.filterMap_reverse,PySem.W.krv_all]
theorem cK{c:Addr}{vs:Value}{n:Nat}{Q:Int×Int×Nat->Shared->Prop}(d:s.heap.IsSliceOf c .none .none vs)(ps:IsPart vs (some (-1)))
  (h:Q ((n:Int)-1,-1,n) s):wpAny (model prog w) A (Builtin.Slice.sliceApplied (.ref c) (pure (n:Int))) Q E s:=by
 obtain⟨os,a,e,b⟩:=id d;unfold Builtin.Slice.sliceApplied Builtin.Slice.sliceFields;refine eH (eH (TC a b (x:=.none) rfl (eH (TC a b (x:=.none) rfl (eH (TC a b (x:=vs) rfl (hH ?_)))))));refine eH (R9 ps ?_);show wpAny _ _ (if ((-1:Int) == 0)=true then _ else _) _ _ s;rw[ro (by decide)];refine eH (R9 .none (eH (R9 .none (eH (hH ?_)))));show wpAny _ _ (pure ((n:Int)-1,(-1:Int),Builtin.Slice.slicePlaces ((n:Int)-1) (-1) (-1))) _ _ s;rw[pC];exact hH h
theorem bB{t c:Addr}{items:WL}{vs:Value}{Q:WO}(b:IsTup s.heap t items)(j:s.heap.IsSliceOf c .none .none vs)(ps:IsPart vs (some (-1)))
  (h:Q (.ref s.heap.objs.size) { s with heap:=s.heap.push { cls:=.type "tuple",data:=.seq items.toList.reverse.toArray } })
  (hsz:items.size<=sizeLine):wpAny (model prog w) A (getItem (.ref t) (.ref c)) Q E s:=by
 have a:sizeOk (.seq items.toList.reverse.toArray):=by
  show items.toList.reverse.toArray.size<=sizeLine;rw[sh,KF,t4];exact hsz
 obtain⟨os,d,g,l⟩:=id j;have i:s.TypeIs (.ref c) "slice":=⟨os,d,g⟩
 unfold getItem
 try with_reducible refine x2 ?_
 first | refine eH (hH ?_) | skip
 refine eH (VT b.typeIs (by decide) ?_)
 refine eH (A1 (name:=Str.ofString "__getitem__") b.typeIs C2
  (z0 C2 b.typeIs entry_tuple_getitem ?_ (args_tuple_getitem _ _)))
 show wpAny _ _ (Builtin.Tuple.tupleItemsOf (.ref t) >>= _) _ _ s;refine eH (tupleItemsOf_ b ?_);refine eH (Uz i ?_);rw[ry (by decide)];refine eH (cK j ps ?_)
 have e:¬((((items.size:Int)-1) == 0&&(-1:Int) == 1&&items.size == items.size)=true):=by
  rw[show((-1:Int) == 1)=false from rfl,Bool.and_false,Bool.false_and];exact rm
 show wpAny _ _ (if (((items.size:Int)-1) == 0&&(-1:Int) == 1&&items.size == items.size)=true then _ else _) _ _ s;rw[ro e,zZ]
 first
  | exact eH (m:=Builtin.Tuple.tupleExact _) (ux (hH ⟨_,rfl,hH h⟩) a)
  | exact eH (m:=Builtin.Tuple.tupleExact _) (ux (eH (hH (hH ⟨_,rfl,hH h⟩))) a)
  | exact eH (eH (m:=Builtin.Tuple.tupleExact _) (ux (hH (hH ⟨_,rfl,hH h⟩)) a))
  | exact eH (eH (m:=Builtin.Tuple.tupleExact _) (ux (hH ⟨_,rfl,hH h⟩) a))
end
end HT
namespace L2
open PySem PySem.Spec PyProof.Rows
section
variable{X:Cx}{e c:Expr}{te:TE}{pos p2:Pos}
def NS(K:WR)(te:TE)(tc:TO):TE:=λd H Q=>te d H λx h=>tc d h λl b=>l=some (-1)/\∃a g,x=.ref a/\P8 K b a g/\∀p,b p=none->Q (.ref p) (upd b p (.tup g.reverse))
theorem DV{tc:TO}(R:PE X e te)(S:PO X (some c) tc):PE X (.Subscript e (.Slice none none (some c) p2) pos) (NS X.K te tc):=by
 refine .of ?_;intro d s i H Q I h;refine Subscript_ (p9 (R d s i H _ I h) λv B ⟨x,H1,Y,C,G⟩=>?_);refine wpAny_Slice ?_;rw[VI];refine hH (hH ?_);refine p9 (S d B i H1 _ Y G) λp g ⟨l,H2,U,pc,T,a,z,ex,O,E⟩=>?_;subst T ex;cases C;have j:Inv X d i H2 { g with heap:=g.heap.push { cls:=.type "slice",data:=.fields #[.none,.none,p] } }:=U.kept (t':=g.toks) λb ob q=>hD _ q;obtain⟨J,r,u,M⟩:=j.tuple O;have y:=r.length;show wpAny (model X.prog X.w) X.A (subscriptTail e (.Slice none none (some c) p2) (.ref a) (.ref g.heap.objs.size)) (EP X d i Q) X.xe { g with heap:=g.heap.push { cls:=.type "slice",data:=.fields #[.none,.none,p] } };refine tail_any (ops:=[.ref a,.ref g.heap.objs.size]) u.typeIs PyProof.Rows.slot_tuple_getitem.lookup ?_ (by with_unfolding_all rfl);refine HT.bB u (VR ..) pc ?_ (by rw[sh];omega);refine⟨.ref _,_,j.laid (t':=g.toks) (o:=.tup z.reverse) (λb ob q=>hD _ q) (oT _) ?_,rfl,E _ (j.hok.fresh (oT _))⟩;exact⟨by rw[KF];exact M,_,r.reverse,IsTup.new _ _⟩
end
end L2
namespace L3
open PySem PySem.Spec L2
section
variable{X:Cx}{cl:List Cl}{a c:Expr}{fa:Fl}{ua uc:TU}{pos p2:Pos}
def CG(ua:TU)(uc:LH):TU:=λb Q=>ua b λd=>uc b λl=>l=some (-1)/\match d with
 | .tup e=>u6 e=true/\Q (.tup e.reverse)
 | _=>False
theorem DC{f:Fl}{uc:TU}(g:PU X cl a fa ua)(I:PU X cl c f uc):PU X cl (.Subscript a (.Slice none none (some c) p2) pos) .fresh (CG ua (cO uc)):=.of<|by
 obtain⟨T,z,g⟩:=g.run;obtain⟨S,pl,e⟩:=(aS I).run;refine⟨_,DV z pl,λG i h H u Q R r E B k=>g G i h H u _ _ r E B λv O d A o x Y y=>e G i h O u _ _ r (E.same o) y λU H2 j b=>?_⟩;obtain⟨M,b⟩:=b;cases d<;>first | exact(show False from b).elim | skip
 obtain⟨p,vs,rfl,C,q⟩:=K7 (x.same j);have J:=q.C9 b.1;subst J;refine⟨M,p,vs,rfl,P8.of C,λl e=>?_⟩;exact k _ _ _ [] ((o.trans j).trans (c9.e7 e)) (.tup c7 ((qk q).same (c9.e7 e))) (y3.nil _) b.2
end
end L3
namespace PySem
open SetTable
theorem iV{xs:Array Nat}(v:xs.toList.Pairwise (·<·))(j:Nat):∀(d lo g:Nat),g-lo<=d->lo<=g->g<=xs.size->(∀i,i<lo->xs.getD i 0<j)->(∀i,g<=i->i<xs.size->j<=xs.getD i 0) ->
  below.go xs j d lo g<=xs.size/\(∀i,i<below.go xs j d lo g->xs.getD i 0<j)/\∀i,below.go xs j d lo g<=i->i<xs.size->j<=xs.getD i 0
 | 0,lo,g,z,x,o,r,q=>by
  have e:lo=g:=by omega
  subst e;exact⟨o,r,q⟩
 | d+1,lo,g,z,x,o,r,q=>by
  unfold below.go
  by_cases h:lo<g
  ·rw[ry h]
   have up:∀a b,a<=b->b<xs.size->xs.getD a 0<=xs.getD b 0:=λa b C B=>by
    have y:∀k,k<xs.size->xs.getD k 0=xs.toList.getD k 0:=λk E=>by
     rw[ww,t5,NE]
    by_cases e:a=b
    ·rw[e];exact oT _
    ·rw[y a (by omega),y b B,t5,t5,nA (by rw[t4];omega),nA (by rw[t4];omega)];exact IN (List.pairwise_iff_getElem.mp v a b (by rw[t4];omega) (by rw[t4];omega) (by omega))
   by_cases c:xs.getD ((lo+g)/2) 0<j
   ·rw[show(let l:=(lo+g)/2;if xs.getD l j<j then below.go xs j d (l+1) g else below.go xs j d lo l)=below.go xs j d ((lo+g)/2+1) g from by
     have e:xs.getD ((lo+g)/2) j=xs.getD ((lo+g)/2) 0:=by
      rw[ww,ww,v3 (by omega)];rfl
     show(if xs.getD ((lo+g)/2) j<j then _ else _)=_;rw[e,ry c]]
    exact iV v j d _ _ (by omega) (by omega) o (λi p=>UJ (up i _ (by omega) (by omega)) c) q
   ·rw[show(let l:=(lo+g)/2;if xs.getD l j<j then below.go xs j d (l+1) g else below.go xs j d lo l)=below.go xs j d lo ((lo+g)/2) from by
     have e:xs.getD ((lo+g)/2) j=xs.getD ((lo+g)/2) 0:=by
      rw[ww,ww,v3 (by omega)];rfl
     show(if xs.getD ((lo+g)/2) j<j then _ else _)=_;rw[e,ro c]]
    exact iV v j d _ _ (by omega) (by omega) (by omega) r λi p u=>AC (by omega) (up _ i p u)
  ·rw[ro h];have e:lo=g:=by omega
   subst e;exact⟨o,r,q⟩
theorem bU{xs:Array Nat}(a:xs.toList.Pairwise (·<·))(j:Nat):below xs j<=xs.size/\(∀i,i<below xs j->xs.getD i 0<j)/\∀i,below xs j<=i->i<xs.size->j<=xs.getD i 0:=
 iV a j _ _ _ (oT _) (v5 _) (oT _) (λi h=>absurd h (Uf _)) λi c b=>by omega
theorem mh{xs:Array Nat}(b:xs.toList.Pairwise (·<·)){j:Nat}(u:xs[below xs j]?≠some j):(insertAt xs (below xs j) j).toList.Pairwise (·<·):=by
 obtain⟨G,B,o⟩:=bU b j;rw[toList_insertAt];have C:xs.toList.length=xs.size:=t4
 have ge:∀k (a:k<xs.toList.length),xs.toList[k]=xs.getD k 0:=λk a=>by
  rw[ww,<-NE,nA a];rfl
 refine List.pairwise_append.mpr ⟨b.sublist (TW _ _),List.pairwise_cons.mpr ⟨λy c=>?_,b.sublist (List.drop_sublist _ _)⟩,λx q y c=>?_⟩
 ·obtain⟨k,a,rfl⟩:=UD c;have h:=a;rw[Re] at h;rw[List.getElem_drop,ge _ (by omega)];have v:=o (below xs j+k) (by omega) (by omega);have E:=o (below xs j) (oT _) (by omega);have g:below xs j<xs.size:=by rw[Re] at a;omega
  have l:xs[below xs j]?=some (xs.getD (below xs j) 0):=by rw[ww,v3 g];rfl
  have r:xs.getD (below xs j) 0≠j:=λe=>u (by rw[l,e])
  by_cases z:k=0
  ·subst z;rw[Nat.add_zero] at v ⊢;omega
  ·have:=List.pairwise_iff_getElem.mp b (below xs j) (below xs j+k) (by omega) (by omega) (by omega);rw[ge _ (by omega),ge _ (by omega)] at this;omega
 ·obtain⟨k,a,rfl⟩:=UD q;rw[vy] at a;have d:=B k (by omega);rw[List.getElem_take,ge _ (by omega)];rcases List.mem_cons.mp c with e | e
  ·rw[e];exact d
  ·obtain⟨p,i,rfl⟩:=UD e;rw[Re] at i;rw[List.getElem_drop,ge _ (by omega)];have:=o (below xs j+p) (by omega) (by omega);omega
def TG(t:SetTable):Prop:=t.plain=true->t.place.toList.Pairwise (·<·)/\t.dummies=#[]
theorem vA{t:SetTable}{j:Nat}(h:t.slot j=.empty):t.place[below t.place j]?≠some j:=λe=>by
 have:t.slot j=.live (below t.place j):=by unfold SetTable.slot;simp[e]
 rw[this] at h;cases h
theorem vU{t:SetTable}(hd:t.dummies=#[])(j:Nat):t.slot j≠.dummy:=λh=>by
 unfold SetTable.slot at h;have e:has t.dummies j=false:=by rw[hd];unfold has;simp
 dsimp only at h;rw[e] at h
 by_cases c:(t.place[below t.place j]? == some j)=true
 ·rw[ry c] at h;cases h
 ·rw[ro c,ro rm] at h;cases h
theorem jO(t:SetTable)(p:Probe):(t.advance p).dummy=p.dummy:=by
 unfold SetTable.advance;split<;>rfl
theorem eW{t:SetTable}(hd:t.dummies=#[]){g:Nat->Int}{h:Int}:∀(a:Nat) (p:Probe),p.dummy=none->∀{j:Nat} {d:WT},probe.go t g h a p=some (.empty j d)->t.slot j=.empty/\d=none
 | 0,_,_,_,_,e=>by cases e
 | a+1,p,c,j,d,e=>by
  unfold probe.go at e;split at e
  ·rename_i b
   cases e;exact⟨b,c⟩
  ·rename_i b
   exact absurd b (vU hd _)
  ·split at e
   ·cases e
   ·exact eW hd a _ (by rw[jO];exact c) e
theorem zV{t:SetTable}(hd:t.dummies=#[]){h:Int}{j:Nat}{b:Bool}(e:t.freeSlot h=some (j,b)):t.slot j=.empty:=by
 unfold SetTable.freeSlot at e;split at e
 ·rename_i i d a
  obtain⟨g,c⟩:=eW hd _ _ rfl a;subst c;cases e;exact g
 ·cases e
theorem TG.xZ(t:SetTable)(n:Nat):TG (t.standIn n):=λh=>by cases h
theorem TG.GK{t:SetTable}(h:TG t)(n:Nat):TG (t.orStandIn n):=by
 unfold SetTable.orStandIn;split
 ·exact h
 ·exact TG.xZ t n
theorem pS(t:SetTable)(n:Nat):(t.orStandIn n).led=t.led:=by
 unfold SetTable.orStandIn;split<;>rfl
theorem TG.layNew{t:SetTable}(g:TG t)(d:Array (Int×Value))(h:Int)(x:Value):TG (PySem.layNew t d h x).2.1/\(PySem.layNew t d h x).2.1.led=t.led:=by
 unfold PySem.layNew;split
 ·rename_i j b e
  refine⟨TG.GK (λa=>?_) _,pS _ _⟩;have a:t.plain=true:=a;obtain⟨g1,c⟩:=g a;refine⟨mh g1 (vA (zV c e)),?_⟩;show(if has t.dummies j=true then _ else t.dummies)=#[];have e:has t.dummies j=false:=by rw[c];unfold has;simp
  rw[e];exact c
 ·exact⟨TG.xZ _ _,rfl⟩
theorem tB(o:Nat->WT):∀l:WK,l.Pairwise (·<·)->((l.filterMap λj=>(o j).map (j,·)).map (·.1)).Pairwise (·<·):=λl h=>by
 rw[TX];refine List.Pairwise.filterMap _ (λa i d b e g c=>?_) h;obtain⟨_,_,rfl⟩:=Option.map_eq_some_iff.mp e;obtain⟨_,_,rfl⟩:=Option.map_eq_some_iff.mp c;exact d
theorem TG.relayAll{t:SetTable}(g:TG t)(c:Array (Int×Value))(n:Nat):TG (PySem.relayAll t c n).2.1/\(PySem.relayAll t c n).2.1.led=t.led:=by
 unfold PySem.relayAll;split
 ·rename_i h b e
  unfold SetTable.relaid SetTable.laid at e;obtain⟨a,_,d⟩:=Option.bind_eq_some_iff.mp e;cases d;dsimp only;split
  ·exact⟨λ_=>⟨by rw[List.toList_toArray];exact tB _ _ (List.pairwise_lt_range ..),rfl⟩,rfl⟩
  ·exact⟨TG.xZ _ _,rfl⟩
 ·exact⟨TG.xZ _ _,rfl⟩
theorem TG.fresh(a b:Nat)(led:Bool):TG (SetTable.fresh a b led):=λ_=>⟨List.Pairwise.nil,rfl⟩
end PySem
namespace PySem
section
variable{prog:Program}{w:World}{A:Around}{E:WO}{s:Shared}{a:Addr}
structure G5(prog:Program)(w:World)(led:Bool)(h:Heap)(a:Addr)(es:Array (Int×Value)):Prop where
 at_:∃o ep t,h.get? a=some o/\o.ExactSet/\o.data=.set es ep t/\t.fits es.size=true/\TG t/\t.led=led
 el:ElemsOf (intKind prog w) es.toList
 small:es.size<scanBound
theorem lO{led:Bool}{o:Obj}{q b:Array (Int×Value)}{ep:Nat}{t t':SetTable}{h:Heap}(i:h.get? a=some o)(c:o.ExactSet)(hd:o.data=.set q ep t)(d:ElemsOf (intKind prog w) b.toList)(p:b.size<scanBound)(l:t'.fits b.size=true)(g:TG t')(j:t'.led=led) :
  (h.update a (Obj.putSet b t')).get? a=some { o with data:=.set b (ep+1) t' }/\G5 prog w led (h.update a (Obj.putSet b t')) a b:=by
 have e:(h.update a (Obj.putSet b t')).get? a=some { o with data:=.set b (ep+1) t' }:=by
  have:=xz (Obj.putSet b t') i (by rw[putSet_of b t' hd];rfl);rw[putSet_of b t' hd] at this;exact this
 exact⟨e,⟨_,ep+1,t',e,c,rfl,l,g,j⟩,d,p⟩
theorem kU{g:Bool->Sem Unit}(T:∀(b:Bool) (l:Shared) (S:Unit->Shared->Prop),S () l->wpAny (model prog w) A (g b) S E l)
  {led:Bool} {o:Obj} {X:Array (Int×Value)} {ep:Nat} {t:SetTable} (O:s.heap.get? a=some o) (y:o.ExactSet) (hd:o.data=.set X ep t)
  {c:Array (Int×Value)} {i:SetTable} (q:ElemsOf (intKind prog w) c.toList)
  (u:c.size<scanBound) (G:i.fits c.size=true) (M:TG i) (Q:i.led=led) {d:Bool} {R:Option Bool->Shared->Prop}
  (h:∀h' e,Heap.SameBut a s.heap h'->G5 prog w led h' a e->e.toList.Perm c.toList->R (some true) { s with heap:=h' }) :
  wpAny (model prog w) A (do
    storeSet a c i
    if (!d&&i.tooFull)=true then do
      g (relayAll i c (SetTable.grown c.size)).2.2
      storeSet a (relayAll i c (SetTable.grown c.size)).1 (relayAll i c (SetTable.grown c.size)).2.1
      pure (some true)
     else pure (some true)) R E s:=by
 refine eH (wpAny_storeSet_of O hd ?_ (fits_of_scanBound u));obtain⟨x,I⟩:=lO (prog:=prog) (w:=w) O y hd q u G M Q;have p:=AT s.heap a (Obj.putSet c i);split
 ·have v:=relayAll_perm i c (SetTable.grown c.size);have r:=relayAll_fits i c (SetTable.grown c.size);have j:=M.relayAll c (SetTable.grown c.size);generalize U:relayAll i c (SetTable.grown c.size)=Y at v r j ⊢;obtain⟨e,t3,J⟩:=Y;dsimp only at v r j ⊢;have z:ElemsOf (intKind prog w) e.toList:=q.perm v;have C:e.size=c.size:=by rw[<-t4,v.length_eq,t4]
  have B:e.size<scanBound:=by rw[C];exact u
  refine eH (T _ _ _ ?_);refine eH (wpAny_storeSet_of x rfl ?_ (fits_of_scanBound B));obtain⟨_,H⟩:=lO (prog:=prog) (w:=w) (led:=led) x y rfl z B r j.1 (j.2.trans Q);exact hH (h _ _ (p.trans (AT _ a _)) H v)
 ·exact hH (h _ _ p I (List.Perm.refl _))
theorem Fe{led:Bool}{p:Array (Int×Value)}{k:Int}{x:Value}{Q:Bool->Shared->Prop}(y:(intKind prog w).is k x=true)(G:x.scannable=true)(hS:G5 prog w led s.heap a p)(H:p.size+1<scanBound)
  (h:∀h' O r,Heap.SameBut a s.heap h'->G5 prog w led h' a O->((∃e∈p.toList,(intKind prog w).is k e.2=true)/\O=p\/(¬∃e∈p.toList,(intKind prog w).is k e.2=true)/\O.toList.Perm (p.toList++[((intKind prog w).hash k,x)]))->Q r { s with heap:=h' }) :
  wpAny (model prog w) A (setAddHashed a x ((intKind prog w).hash k)) Q E s:=by
 obtain⟨⟨o,ep,t,U,S,hd,hf,tg,Y⟩,J,hb⟩:=id hS;unfold setAddHashed setAddHashedIn;refine x2 (eH (Tz U hd hf ?_));dsimp only;rw[byScan_of G hb J];simp only[↓reduceIte];unfold setAddByScan;refine eH ?_;refine eH (Uv ?_);refine eH (wpAny_setScan_of y U hd hf J ?_)
 cases hr:List.findIdx? (λe=>(intKind prog w).is k e.2) p.toList with
 | some j=>
  dsimp only;obtain⟨hj,X,_⟩:=List.findIdx?_eq_some_iff_getElem.mp hr;refine hH (hH ?_);exact h s.heap p _ (Heap.SameBut.refl a s.heap) hS (.inl ⟨⟨p.toList[j],TD hj,X⟩,rfl⟩)
 | none=>
  dsimp only
  have no:¬∃e∈p.toList,(intKind prog w).is k e.2=true:=λ⟨e,he,I⟩=>by
   have:=List.findIdx?_eq_none_iff.mp hr e he;rw[I] at this;exact Bool.noConfusion this
  have a0:∀(b:Bool) {g:Shared} {T:Unit->Shared->Prop},T () g->wpAny (model prog w) A (match b with | true=>rule "set.scan.the-table-gave-way" | false=>pure ()) T E g:=
   λb g T v=>by cases b<;>first | exact hH v | exact Uv v
  have c:=layNew_perm t p ((intKind prog w).hash k) x;have d:=layNew_fits t p ((intKind prog w).hash k) x;have l:=tg.layNew p ((intKind prog w).hash k) x;generalize hL:layNew t p ((intKind prog w).hash k) x=L at c d l ⊢;obtain⟨M,t1,R,a1⟩:=L;dsimp only at c d l ⊢;rw[Array.toList_push] at c;have B:ElemsOf (intKind prog w) M.toList:=(J.push y G).perm c;have C:M.size<scanBound:=by rw[<-t4,c.length_eq,tt,t4];simpa using H
  refine eH (a0 _ ?_);have z:∀h' i,Heap.SameBut a s.heap h'->G5 prog w led h' a i->i.toList.Perm M.toList->∀r,Q r { s with heap:=h' }:=λh' i q u I r=>h h' i r q u (.inr ⟨no,I.trans c⟩);split
  ·refine eH ?_;rw[hashByValue_scannable 8 G];refine hH ?_;refine kU (led:=led) ?_ U S hd B C ?_ ?_ ?_ ?_
   ·intro b g T v;cases b<;>first | exact hH v | exact Uv v
   ·split
    ·exact d
    ·exact SetTable.fits_plain_off d
   ·split
    ·exact l.1
    ·exactλh=>by cases h
   ·split
    ·exact l.2.trans Y
    ·exact l.2.trans Y
   ·intro h' i q u I;dsimp only;exact hH (z h' i q u I _)
  ·refine eH (hH ?_);simp only[↓reduceIte];refine kU (led:=led) ?_ U S hd B C d l.1 (l.2.trans Y) ?_
   ·intro b g T v;cases b<;>first | exact hH v | exact Uv v
   ·intro h' i q u I;dsimp only;exact hH (z h' i q u I _)
end
end PySem
namespace L2
open PySem PySem.Spec PyProof.Rows
def S8(a:WJ)(k:Int):WJ:=if k∈a then a else a++[k]
def EI(c:Array (Int×Value))(b:WJ):Prop:=∃a,IntsAre (c.toList.map (·.2)) a/\a.Perm b
theorem ki{k n:Int}{t:Tok}:Value.isInt k (.int n t)=true ↔ n=k:=by
 constructor
 ·intro h;obtain⟨a,e⟩:=Value.isInt_shape h;cases e;rfl
 ·rintro rfl;exact lE n t
theorem pj{P:Program}{w:World}:∀{b:List (Int×Value)} {c:WJ},IntsAre (b.map (·.2)) c->∀k,(∃e∈b,(intKind P w).is k e.2=true) ↔ k∈c
 | [],_,h,k=>by
  cases h;constructor
  ·rintro⟨_,h,_⟩;cases h
  ·intro h;cases h
 | e::b,c,h,k=>by
  obtain⟨n,t,ns,j,rfl,o⟩:∃n t ns,e.2=Value.int n t/\c=n::ns/\IntsAre (b.map (·.2)) ns:=by
   have g:IntsAre (e.2::b.map (·.2)) c:=h;clear h;generalize e.2=v at g;generalize List.map (·.2) b=vs at g ⊢
   cases g with
   | cons n t l=>exact⟨n,t,_,rfl,rfl,l⟩
  have i:=pj (P:=P) (w:=w) o k;constructor
  ·rintro⟨z,d,a⟩;rcases List.mem_cons.mp d with q | q
   ·rw[q,j] at a;have a:Value.isInt k (.int n t)=true:=a;rw[ki.mp a];exact re
   ·exact hQ _ (i.mp ⟨z,q,a⟩)
  ·intro a;rcases List.mem_cons.mp a with q | q
   ·exact⟨e,re,by rw[j,q];exact(ki (t:=t)).mpr rfl⟩
   ·obtain⟨z,d,a⟩:=i.mpr q;exact⟨z,hQ _ d,a⟩
theorem EI.mem{P:Program}{w:World}{b:Array (Int×Value)}{a:WJ}(h:EI b a)(k:Int):(∃e∈b.toList,(intKind P w).is k e.2=true) ↔ k∈a:=by
 obtain⟨c,g,d⟩:=h;rw[pj g,d.mem_iff]
theorem ky:∀{vs e:WH},e.Perm vs->∀{d:WJ},IntsAre vs d->∃c,IntsAre e c/\c.Perm d:=λp=>by
 induction p with
 | nil=>intro d h;exact⟨d,h,.refl _⟩
 | cons v p i=>
  intro d h
  cases h with
  | cons n t h=>obtain⟨c,a,b⟩:=i h;exact⟨n::c,.cons n t a,b.cons _⟩
 | swap v u l=>
  intro d h
  cases h with
  | cons n t h=>cases h with
   | cons m q h=>exact⟨m::n::_,.cons m q (.cons n t h),.swap ..⟩
 | trans p q o j=>
  intro d h;obtain⟨B,z,x⟩:=j h;obtain⟨g,y,r⟩:=o z;exact⟨g,y,r.trans x⟩
theorem ints_app:∀{vs a:WH} {b c:WJ},IntsAre vs b->IntsAre a c->IntsAre (vs++a) (b++c)
 | _,_,_,_,.nil,q=>q
 | _,_,_,_,.cons n t h,q=>.cons n t (ints_app h q)
theorem gY:∀{vs:WH} {a:WJ},IntsAre vs a->vs.length=a.length
 | _,_,.nil=>rfl
 | _,_,.cons n t h=>by rw[vu,vu,gY h]
theorem EI.size{b:Array (Int×Value)}{a:WJ}(h:EI b a):b.size=a.length:=by
 obtain⟨c,e,d⟩:=h;have:=gY e;rw[dL,t4] at this;rw[this,d.length_eq]
theorem EI.add{P:Program}{w:World}{g c:Array (Int×Value)}{j:WJ}{k v:Int}{t:Tok}(h:EI g j)(q:((∃e∈g.toList,(intKind P w).is k e.2=true)/\c=g\/(¬∃e∈g.toList,(intKind P w).is k e.2=true)/\c.toList.Perm (g.toList++[(v,Value.int k t)]))):EI c (S8 j k):=by
 unfold S8;rcases q with⟨i,rfl⟩ | ⟨i,p⟩
 ·rw[ry ((h.mem k).mp i)];exact h
 ·rw[ro λz=>i ((h.mem k).mpr z)];obtain⟨l,u,r⟩:=h;have d:=p.map (·.2);rw[ue] at d;obtain⟨o,a,b⟩:=ky d (ints_app u (.cons k t .nil));exact⟨o,a,b.trans (r.append_right _)⟩
theorem EZ(a:WJ)(k:Int):(S8 a k).length<=a.length+1:=by
 unfold S8;split
 ·omega
 ·rw[tt];exact oT _
theorem pQ(ns:WJ):∀a:WJ,(ns.foldl S8 a).length<=a.length+ns.length:=by
 induction ns with
 | nil=>intro a;exact oT _
 | cons n ns b=>
  intro a;have:=b (S8 a n);have:=EZ a n;rw[TK,vu];omega
theorem Jm(ns:WJ):∀c:WJ,c.Nodup->(ns.foldl S8 c).Nodup/\∀x,x∈ns.foldl S8 c ↔ x∈c\/x∈ns:=by
 induction ns with
 | nil=>intro c h;exact⟨h,λx=>by simp⟩
 | cons n ns g=>
  intro c h
  have o:(S8 c n).Nodup:=by
   unfold S8;split
   ·exact h
   ·rename_i d
    refine List.nodup_append.mpr ⟨h,Ch _ _,λa j b i e=>?_⟩;rw[List.mem_singleton.mp i] at e;exact d (e▸j)
  have l:∀x,x∈S8 c n ↔ x∈c\/x=n:=λx=>by
   unfold S8;split
   ·rename_i d;exact⟨.inl,λz=>z.elim id λe=>by rw[e];exact d⟩
   ·rw[Vh,List.mem_singleton]
  obtain⟨a,b⟩:=g _ o;refine⟨a,λx=>?_⟩;rw[TK,b,l,SZ,or_assoc]
theorem zb{prog:Program}{w:World}{A:Around}{R:Result->Shared->Prop}{I:Addr}{X q:WE}{led:Bool}{ns:WJ}{P:Nat->Value->Prop}{St:Nat->Heap->Prop}(W:Walks prog w A.in1 I X q ns.length P St)(S:Addr)(U:S∉X)(hv:∀i v,P i v->∃t,v=.int (ns.getD i 0) t)(g:ns.length+1<scanBound) :
  ∀(k i:Nat) (s:Shared),ns.length-i=k->i<=ns.length->St i s.heap->(∃c,G5 prog w led s.heap S c/\EI c ((ns.take i).foldl S8 [])) ->
   (∀h' tk c,(∀b o,b∉S::q->s.heap.get? b=some o->h'.get? b=some o)->G5 prog w led h' S c->EI c (ns.foldl S8 [])->R (.ok (.ret .none)) { s with heap:=h',toks:=tk }) ->
   codeAny (model prog w) A (.builtin "set.update.loop" ⟨[.ref S,.ref I],[]⟩) R s:=by
 have Y:S∉q:=λh=>U (W.sub _ h);have cQ:∀{h h':Heap} {c:Array (Int×Value)},(∀b o,b∉q->h.get? b=some o->h'.get? b=some o)->G5 prog w led h S c->G5 prog w led h' S c:=λk ⟨⟨o,ep,t,ho,r⟩,a,b⟩=>⟨⟨o,ep,t,k S _ Y ho,r⟩,a,b⟩
 intro k
 induction k with
 | zero=>
  intro i s hk hi st ⟨c,H,p⟩ j;have e:i=ns.length:=by omega
  subst e;rw[wE] at p;refine Go Pv ?_;rw[BB At _];show wpAny _ A.in1 (pyNext (.ref I) >>= _) _ _ s;refine eH (W.done s _ _ st λh' tk kp=>?_);exact hH (j h' tk c (λb o g e=>kp b o (λz=>g (hQ _ z)) e) (cQ kp H) p)
 | succ k ih=>
  intro i s hk hi st ⟨c,H,p⟩ j;have d:i<ns.length:=by omega
  refine Go Pv ?_;rw[BB At _];show wpAny _ A.in1 (pyNext (.ref I) >>= _) _ _ s;refine eH (W.item i s _ _ d st λv h' tk hP x kp=>?_);obtain⟨t,rfl⟩:=hv i v hP;have G:=cQ kp H
  have B:c.size+1<scanBound:=by
   have h1:=p.size;have M:=pQ (ns.take i) [];rw[vy] at M;have:([]:WJ).length=0:=rfl;omega
  show wpAny _ A.in1 (holding [_] (setAdd S _) >>= _) _ _ _;refine eH (x2 ?_);unfold setAdd;refine x2 (eH ((intKind prog w).pyHash (k:=ns.getD i 0) (intKind_is _ _ _ _) ?_));refine Fe (s:={ s with heap:=h',toks:=tk+1 }) (intKind_is _ _ _ _) rfl G B λM Q r T E hq=>?_;have l:=p.add hq
  have et:S8 ((ns.take i).foldl S8 []) (ns.getD i 0)=(ns.take (i+1)).foldl S8 []:=by
   rw[v2,nA d,UR,t5,nA d];rfl
  rw[et] at l;refine hH ⟨TH At _,ih (i+1) _ (by omega) d (W.frame (i+1) h' M x λb g o e=>(T.2 b λz=>U (z▸g)).trans e) ⟨Q,E,l⟩ λh3 u O y C J=>?_⟩;refine j h3 u O (λb o g e=>y b o g ?_) C J;exact(T.2 b λz=>g (by rw[z];exact re)).trans (kp b o (λz=>g (hQ _ z)) e)
end L2
namespace PySem
namespace L4
theorem D1:Slot "set_iterator" "__next__" "set_iterator.__next__":=.of (owner:="set_iterator") (n:="__next__") (by rw[Tl,Gc];kernel_rfl) (by decide +kernel) (by decide +kernel) (by decide +kernel) (by first | exact .inl (by decide +kernel) | exact .inr (by decide +kernel)) (by rw[Ps];kernel_rfl)
theorem ja:Slot "set_iterator" "__iter__" "set_iterator.__iter__":=.of (owner:="set_iterator") (n:="__iter__") (by rw[Tl,Gc];kernel_rfl) (by decide +kernel) (by decide +kernel) (by decide +kernel) (by first | exact .inl (by decide +kernel) | exact .inr (by decide +kernel)) (by rw[Ps];kernel_rfl)
theorem bW:entryFor table "set_iterator.__next__"=some Builtin.«set_iterator.__next__»:=entryFor_of_tree (by kernel_rfl)
theorem tQ:entryFor table "set_iterator.__iter__"=some Builtin.«dict_keyiterator.__iter__»:=entryFor_alias (id':="dict_keyiterator.__iter__") (by kernel_rfl) (by first | rfl | decide +kernel | (unfold String.splitOn;simp +decide [VA])) (by decide +kernel) (by kernel_rfl)
theorem QH:entryFor table "set.__iter__"=some Builtin.«frozenset.__iter__»:=entryFor_alias (id':="frozenset.__iter__") (by kernel_rfl) (by first | rfl | decide +kernel | (unfold String.splitOn;simp +decide [VA])) (by decide +kernel) (by kernel_rfl)
theorem sv:Manifest.owners.lookup (String.ofList ['r','o','t','a','r','e','t','i','_','t','e','s'].reverse)=some Manifest.sig_set_iterator:=by kernel_rfl
theorem bV(a:Value):argsOk "set_iterator.__next__" ⟨[a],[]⟩:=by unfold argsOk;rw[VH (id:="set_iterator.__next__") (n:=['_','_','t','x','e','n','_','_']) (o:=['r','o','t','a','r','e','t','i','_','t','e','s']) (by kernel_rfl) sv];kernel_rfl
theorem wt(a:Value):argsOk "set_iterator.__iter__" ⟨[a],[]⟩:=by unfold argsOk;rw[VH (id:="set_iterator.__iter__") (n:=['_','_','r','e','t','i','_','_']) (o:=['r','o','t','a','r','e','t','i','_','t','e','s']) (by kernel_rfl) sv];kernel_rfl
theorem OB:typeLookup (.type "set") "__len__"=pure (some (.builtin "set.__len__")):=by rw[Tl,Gc];kernel_rfl
end L4
theorem bT{a:Type}:∀(l:List a) (i:Nat) (h:i<l.length),(l[i]::l.eraseIdx i).Perm l
 | [],_,h=>absurd h (Uf _)
 | x::l,0,h=>.refl _
 | x::l,i+1,h=>(List.Perm.swap x _ _).trans ((bT l i (Nat.lt_of_succ_lt_succ h)).cons x)
theorem wG{c:Type}(next:Nat->Nat):∀(n k:Nat) (a:List c) (out:Array c),a.length=n->(pickOrder.go next n k a out).toList.Perm (out.toList++a)
 | 0,k,a,out,h=>by
  rw[List.length_eq_zero_iff.mp h,tz];show out.toList.Perm out.toList;exact .refl _
 | n+1,k,a,out,h=>by
  have b:next k%a.length<a.length:=Nat.mod_lt _ (by omega)
  unfold pickOrder.go;rw[nA b];refine(wG next n (k+1) _ _ (by rw[Wa b];omega)).trans ?_;rw[Array.toList_push,wh];exact(bT _ _ b).append_left _
theorem dY{a:Type}(next:Nat->Nat)(xs:Array a):(pickOrder next xs).toList.Perm xs.toList:=by
 have:=wG next xs.size 0 xs.toList #[] t4
 rwa [show(#[]:Array a).toList++xs.toList=xs.toList from rfl] at this
section
variable{M:Model}{A:Around}{E:WO}
theorem mB{s:Shared}{a:Source}{n:Nat}{Q:Nat->Shared->Prop}(b:n≠0)(h:∀i d,i<n->Q i { s with drawn:=d }):wpAny M A (choose a n) Q E s:=λc p _=>by
 unfold choose;rw[Sem.wp_choose];exact⟨b,h _ _ (Nat.mod_lt _ (Nat.pos_of_ne_zero b))⟩
theorem vO{b:Type}:∀(n:Nat) (xs:List b) {s:Shared} {Q:List b->Shared->Prop},xs.length=n->(∀ys d,ys.Perm xs->Q ys { s with drawn:=d })->wpAny M A (drawOrder n xs) Q E s:=by
 intro n
 induction n with
 | zero=>
  intro xs s Q h q;unfold drawOrder;rw[List.length_eq_zero_iff.mp h] at q;exact hH (q [] s.drawn (.refl _))
 | succ n c=>
  intro xs s Q h q
  cases xs with
  | nil=>cases h
  | cons x xs=>
   unfold drawOrder;refine eH (mB (by simp) λi d a=>?_);rw[nA a];refine eH (c _ (by rw[Wa a];omega) λys g e=>?_);exact hH (q _ g ((e.cons _).trans (bT _ _ a)))
end
section
variable{prog:Program}{w:World}{A:Around}{E:WO}{s:Shared}{it a:Addr}
def wd(h:Heap)(it a:Addr)(b:Value)(i n ep:Nat):Prop:=∃o,h.get? it=some o/\o.cls=.type "set_iterator" /\ o.data=.fields #[b,.int (i:Int) 0,.ref a,.int (n:Int) 0,.int (ep:Int) 0]
def SW(h:Heap)(a:Addr)(b:Array (Int×Value))(ep:Nat)(t:SetTable):Prop:=(∃o,h.get? a=some o/\o.data=.set b ep t)/\t.fits b.size=true
theorem wd.typeIs{b:Value}{i n ep:Nat}(x:wd s.heap it a b i n ep):s.TypeIs (.ref it) "set_iterator":=let ⟨o,c,d,_⟩:=x;⟨o,c,d⟩
theorem wd.at'{h h':Heap}{b:Value}{i n ep:Nat}(x:wd h it a b i n ep)(e:∀o,h.get? it=some o->h'.get? it=some o):wd h' it a b i n ep:=let ⟨o,c,r⟩:=x;⟨o,e _ c,r⟩
theorem SW.at'{h h':Heap}{b:Array (Int×Value)}{ep:Nat}{t:SetTable}(x:SW h a b ep t)(e:∀o,h.get? a=some o->h'.get? a=some o):SW h' a b ep t:=let ⟨⟨o,c,r⟩,f⟩:=x;⟨⟨o,e _ c,r⟩,f⟩
theorem au{b:Value}{i n ep:Nat}{Q:WO}(hit:wd s.heap it a b i n ep)(h:Q (.ref it) s):wpAny (model prog w) A (pyIter (.ref it)) Q E s:=by
 refine VU hit.typeIs L4.ja (z0 L4.ja hit.typeIs L4.tQ ?_ (L4.wt _));show wpAny _ _ (ret (.ref it)) _ _ s;exact hH ⟨_,rfl,"set_iterator",_,hit.typeIs,L4.D1.lookup,h⟩
theorem kF:isSubtype (.type "StopIteration") (.type "StopIteration")=pure true:=by rw[Ps];kernel_rfl
theorem lh{slot slot' i n ep:Nat}{e:Array (Int×Value)}{t:SetTable}{x:Value}{Q:WS->Shared->Prop}(hit:wd s.heap it a (.int (slot:Int) 0) i n ep)(j:SW s.heap a e ep t)(l:e.size=n)
  (h:∀(E:WO) (g:Option (Value×Nat)->Shared->Prop),g (some (x,slot')) s->wpAny (model prog w) A.in1 (setNext a slot i ep) g E s)
  (r:∀h',wd h' it a (.int (slot':Int) 0) (i+1) n ep->Heap.SameBut it s.heap h'->Q (some x) { s with heap:=h' }) :
  wpAny (model prog w) A (pyNext (.ref it)) Q E s:=by
 obtain⟨o,b,q,hd⟩:=id hit;obtain⟨⟨os,c,d⟩,p⟩:=id j;unfold pyNext;refine eH (Ul (A1 (name:=Str.ofString "__next__") hit.typeIs L4.D1 (z0 L4.D1 hit.typeIs L4.bW ?_ (L4.bV _))));unfold Builtin.«set_iterator.__next__»;refine eH (hH ?_);refine eH (Vy b hd ?_);refine eH (Uk c d p ?_);rw[ro (by rw[l];simp)];dsimp only;rw[wS,wS,wS];refine eH (h _ _ ?_);dsimp only;refine eH (SL b hd (by simp) ?_);refine eH (SL (xz _ b (Op (wl hd _))) (wl hd _) (by simp) ?_);refine hH ⟨_,rfl,hH (r _ ?_ ((AT ..).trans (AT ..)))⟩;have u:=xz (Obj.mapFields (·.setIfInBounds 0 (rawInt slot'))) b (Op (wl hd _));refine⟨_,xz _ u (Op (wl (wl hd _) _)),?_,?_⟩
 ·exact(Vf ..).trans ((Vf ..).trans q)
 ·rw[wl (wl hd _)];simp[rawInt]
theorem vX{tp i n ep j:Nat}{l:Array (Int×Value)}{t:SetTable}{ps:WL}{x:Int×Value}{Q:WS->Shared->Prop}(hit:wd s.heap it a (.ref tp) i n ep)(r:SW s.heap a l ep t)(v:l.size=n)
  (u:∃o e,s.heap.get? tp=some o/\o.data=.seq ps e) (y:ps[i]?=some (.int (j:Int) 0)) (q:l[j]?=some x)
  (B:∀h',wd h' it a (.ref tp) (i+1) n ep->Heap.SameBut it s.heap h'->Q (some x.2) { s with heap:=h' }) :
  wpAny (model prog w) A (pyNext (.ref it)) Q E s:=by
 obtain⟨o,g,z,hd⟩:=id hit;obtain⟨⟨os,b,c⟩,p⟩:=id r;obtain⟨C,e,d,h⟩:=u;unfold pyNext;refine eH (Ul (A1 (name:=Str.ofString "__next__") hit.typeIs L4.D1 (z0 L4.D1 hit.typeIs L4.bW ?_ (L4.bV _))));unfold Builtin.«set_iterator.__next__»;refine eH (hH ?_);refine eH (Vy g hd ?_);refine eH (Uk b c p ?_);rw[ro (by rw[v];simp)];dsimp only;refine eH ?_;unfold seqItems?
 refine eH (wpAny_load d ?_);rw[h];refine hH ?_;dsimp only;rw[wS,y];dsimp only;rw[wS,wS];refine eH ?_;unfold setNextDrawn;refine eH (Tz b c p ?_);dsimp only;rw[ro (by simp),q];refine hH ?_;refine eH (SL g hd (by simp) ?_);refine hH ⟨_,rfl,hH (B _ ?_ (AT ..))⟩;refine⟨_,xz _ g (Op (wl hd _)),(Vf ..).trans z,?_⟩;rw[wl hd];simp[rawInt]
theorem L1 {Q:Bool->Shared->Prop} (h:Q (w.params.followText "set-order") s):wpAny (model prog w) A setsByText Q E s:=by
 unfold setsByText;exact eH (Vn (hH h))
theorem vg{xs:Array Nat}(g:xs.toList.Pairwise (·<·)){i j:Nat}(h:xs[i]?=some j):SetTable.below xs (j+1)=i+1:=by
 obtain⟨v,o,l⟩:=bU g (j+1);obtain⟨d,e⟩:=Array.getElem?_eq_some_iff.mp h;have r:xs.getD i 0=j:=by rw[ww,h];rfl
 have c1:i<SetTable.below xs (j+1):=by
  rcases Nat.lt_or_ge i (SetTable.below xs (j+1)) with c | c
  ·exact c
  ·have:=l i c d;omega
 rcases Nat.lt_or_ge (i+1) (SetTable.below xs (j+1)) with c | c
 ·have q:=o (i+1) c;have b:i+1<xs.size:=by omega
  have g1:xs.getD (i+1) 0=xs.toList[i+1]'(by rw[t4];exact b):=by
   rw[ww,v3 b];rfl
  have p:=List.pairwise_iff_getElem.mp g i (i+1) (by rw[t4];exact d) (by rw[t4];exact b) (by omega);have u:xs.toList[i]'(by rw[t4];exact d)=j:=e;omega
 ·omega
theorem vB{xs:Array Nat}(b:xs.toList.Pairwise (·<·)):SetTable.below xs 0=0:=by
 obtain⟨h,d,g⟩:=bU b 0;rcases Nat.eq_zero_or_pos (SetTable.below xs 0) with e | c
 ·exact e
 ·exact absurd (d 0 c) (Uf _)
theorem qR {slot i ep:Nat} {c:Array (Int×Value)} {t:SetTable} {x:Int×Value} {Q:Option (Value×Nat)->Shared->Prop} (g:SW s.heap a c ep t) (u:w.params.followText "set-order"=false) (p:t.led=true)
  (hd:(!t.plain&&decide (c.size>1))=false) (y:t.place.toList.Pairwise (·<·)) (r:SetTable.below t.place slot=i) (e:c[i]?=some x) {j:Nat} (q:t.place[i]?=some j)
  (h:Q (some (x.2,j+1)) s):wpAny (model prog w) A (setNext a slot i ep) Q E s:=by
 obtain⟨⟨o,l,b⟩,d⟩:=id g;unfold setNext;refine eH (Tz l b d ?_);dsimp only;refine eH (L1 ?_);rw[u];rw[ro rm];show wpAny _ _ (if (!t.plain&&decide (c.size>1))=true then _ else _) _ _ s;rw[hd,ro rm];refine eH ?_
 wp_delta
 rw[p];refine hH ?_;rw[r,e]
 have v:t.place.size=c.size:=by
  simp only[SetTable.fits,uk,beq_iff_eq,EQ] at d;exact d.1
 rw[q];exact hH h
theorem fO {slot ep g:Nat} {c:Array (Int×Value)} {t:SetTable} {Q:Option (Value×Nat)->Shared->Prop} (d:SW s.heap a c ep t) (p:w.params.followText "set-order"=false) (i:t.led=true)
  (hd:(!t.plain&&decide (c.size>1))=false) (j:SetTable.below t.place slot=c.size)
  (h:Q none s):wpAny (model prog w) A (setNext a slot g ep) Q E s:=by
 obtain⟨⟨o,e,b⟩,l⟩:=id d;unfold setNext;refine eH (Tz e b l ?_);dsimp only;refine eH (L1 ?_);rw[p];rw[ro rm];show wpAny _ _ (if (!t.plain&&decide (c.size>1))=true then _ else _) _ _ s;rw[hd,ro rm];refine eH ?_
 wp_delta
 rw[i];refine hH ?_;rw[j,Ut (oT _)];exact hH h
theorem kW {slot i ep:Nat} {j:Array (Int×Value)} {t:SetTable} {Q:Option (Value×Nat)->Shared->Prop} (l:SW s.heap a j ep t) (g:w.params.followText "set-order"=true)
  (h:Q ((pickOrder (w.params.setOrder a ep) j)[i]?.map λe=>(e.2,slot)) s):wpAny (model prog w) A (setNext a slot i ep) Q E s:=by
 obtain⟨⟨o,c,b⟩,d⟩:=id l;unfold setNext;refine eH (Tz c b d ?_);dsimp only;refine eH (L1 ?_);rw[g,ry rfl];rw[ro (by simp)];refine eH ?_;unfold setWalk;refine eH (Tz c b d ?_);dsimp only;refine eH (L1 ?_);rw[g,ry rfl];refine eH (Vn (hH ?_));exact hH h
theorem qv{slot i n ep:Nat}{g:Array (Int×Value)}{t:SetTable}{Q:WS->Shared->Prop}(q:A.handled=none)(hit:wd s.heap it a (.int (slot:Int) 0) i n ep)(l:SW s.heap a g ep t)(p:g.size=n)
  (j:∀(E:WO) (h:Option (Value×Nat)->Shared->Prop),h none s->wpAny (model prog w) A.in1 (setNext a slot i ep) h E s)
  (u:∀h',Heap.ExtBut it s.heap h'->Q none { s with heap:=h' }) :
  wpAny (model prog w) A (pyNext (.ref it)) Q E s:=by
 obtain⟨o,e,v,hd⟩:=id hit;obtain⟨⟨os,c,d⟩,r⟩:=id l;unfold pyNext;refine eH (Ul (A1 (name:=Str.ofString "__next__") hit.typeIs L4.D1 (z0 L4.D1 hit.typeIs L4.bW ?_ (L4.bV _))));unfold Builtin.«set_iterator.__next__»;refine eH (hH ?_);refine eH (Vy e hd ?_);refine eH (Uk c d r ?_);rw[ro (by rw[p];simp)];dsimp only;rw[wS,wS,wS];refine eH (j _ _ ?_);dsimp only;refine eH (SL e hd (by simp) ?_);refine eH ?_;simp only[newExc,newTuple];refine eH (ux ?_ (by size_fits));refine eH (m:=firstArgMember _ _) (TB (a:=Value.none) (by first | rfl | (simp only[firstArgMember];rfl)) ?_);refine ux ?_ (by size_fits);simp only[raiseNew];refine eH (wpAny_handled ?_);rw[show A.in1.handled=none from q];refine eH (hH (wpAny_throw ?_));refine eH (UF (T:="StopIteration") (b:=true) ⟨_,sj _ rfl,rfl⟩ kF ?_);exact hH (u _ (((AT ..).extBut.push _).push _))
theorem jj{tp i n ep:Nat}{l:Array (Int×Value)}{t:SetTable}{ps:WL}{Q:WS->Shared->Prop}(v:A.handled=none)(hit:wd s.heap it a (.ref tp) i n ep)(p:SW s.heap a l ep t)(r:l.size=n)
  (q:∃o e,s.heap.get? tp=some o/\o.data=.seq ps e) (u:ps[i]?=none)
  (y:∀h',Heap.ExtBut it s.heap h'->Q none { s with heap:=h' }) :
  wpAny (model prog w) A (pyNext (.ref it)) Q E s:=by
 obtain⟨o,g,B,hd⟩:=id hit;obtain⟨⟨os,c,h⟩,x⟩:=id p;obtain⟨z,e,d,j⟩:=q;unfold pyNext;refine eH (Ul (A1 (name:=Str.ofString "__next__") hit.typeIs L4.D1 (z0 L4.D1 hit.typeIs L4.bW ?_ (L4.bV _))));unfold Builtin.«set_iterator.__next__»;refine eH (hH ?_);refine eH (Vy g hd ?_);refine eH (Uk c h x ?_);rw[ro (by rw[r];simp)];dsimp only;refine eH ?_;unfold seqItems?
 refine eH (wpAny_load d ?_);rw[j];refine hH ?_;dsimp only;rw[wS,u];dsimp only;refine eH (SL g hd (by simp) ?_);refine eH (SL (xz _ g (Op (wl hd _))) (wl hd _) (by simp) ?_);refine eH ?_;simp only[newExc,newTuple];refine eH (ux ?_ (by size_fits));refine eH (m:=firstArgMember _ _) (TB (a:=Value.none) (by first | rfl | (simp only[firstArgMember];rfl)) ?_);refine ux ?_ (by size_fits);simp only[raiseNew];refine eH (wpAny_handled ?_);rw[show A.in1.handled=none from v];refine eH (hH (wpAny_throw ?_));refine eH (UF (T:="StopIteration") (b:=true) ⟨_,sj _ rfl,rfl⟩ kF ?_);exact hH (y _ ((((AT ..).trans (AT ..)).extBut.push _).push _))
end
section
variable{prog:Program}{w:World}{A:Around}{E:WO}{s:Shared}{I a:Addr}
theorem kq{t:SetTable}{n:Nat}(b:t.fits n=true):t.place.size=n:=by
 simp only[SetTable.fits,uk,beq_iff_eq,EQ] at b;exact b.1
theorem nU (O:A.handled=none) (r:a≠I) {g:Array (Int×Value)} {ep:Nat} {t:SetTable} (d:w.params.followText "set-order"=false) (G:t.led=true)
  (hd:(!t.plain&&decide (g.size>1))=false) (C:t.place.toList.Pairwise (·<·)) :
  Walks prog w A I [I,a] [I] g.size (λi v=>(g.toList.map (·.2))[i]?=some v) (λi h=>(∃slot,wd h I a (.int ((slot:Nat):Int) 0) i g.size ep/\SetTable.below t.place slot=i)/\SW h a g ep t) where
 sub:=λb d=>by simp at d;simp[d]
 frame:=λ_ _ _ ⟨⟨slot,st,e⟩,c⟩ H=>⟨⟨slot,st.at' λo e=>H I (by simp) o e,e⟩,c.at' λo e=>H a (by simp) o e⟩
 item:=λi s Q E M ⟨⟨slot,st,e⟩,c⟩ p=>by
  have S:=kq c.2;have u:i<t.place.size:=by omega
  have J:t.place[i]?=some t.place[i]:=v3 u;have B:g[i]?=some g[i]:=v3 M;refine lh st c rfl (x:=g[i].2) (slot':=t.place[i]+1) (λE R q=>qR c d G hd C e B J q) λz l j=>?_;exact p _ z s.toks (by rw[rx,NE,B];rfl) ⟨⟨_,l,vg C J⟩,c.at' λo e=>j.extBut a o r e⟩ λb o d e=>j.extBut b o (λh=>d (by simp[h])) e
 done:=λs Q E ⟨⟨slot,st,e⟩,c⟩ p=>qv O st c rfl (λE R q=>fO c d G hd e q) λz y=>p z s.toks λb o d e=>y b o (λh=>d (by simp[h])) e
 self:=λ_ _ _ _ ⟨⟨_,st,_⟩,_⟩ p=>au st p
theorem tw (G:A.handled=none) (r:a≠I) {c:Array (Int×Value)} {ep:Nat} {t:SetTable} (d:w.params.followText "set-order"=true) :
  Walks prog w A I [I,a] [I] c.size (λi v=>((pickOrder (w.params.setOrder a ep) c).toList.map (·.2))[i]?=some v) (λi h=>wd h I a (.int ((0:Nat):Int) 0) i c.size ep/\SW h a c ep t) where
 sub:=λb d=>by simp at d;simp[d]
 frame:=λ_ _ _ ⟨st,g⟩ C=>⟨st.at' λo e=>C I (by simp) o e,g.at' λo e=>C a (by simp) o e⟩
 item:=λi s Q E J ⟨st,g⟩ p=>by
  have z:(pickOrder (w.params.setOrder a ep) c).size=c.size:=by
   have:=(dY (w.params.setOrder a ep) c).length_eq
   rwa [t4,t4] at this
  have B:(pickOrder (w.params.setOrder a ep) c)[i]?=some (pickOrder (w.params.setOrder a ep) c)[i]:=v3 (by omega);refine lh st g rfl (x:=((pickOrder (w.params.setOrder a ep) c)[i]'(by omega)).2) (slot':=0) (λE H q=>kW g d (by rw[B];exact q)) λy l j=>?_;exact p _ y s.toks (by rw[rx,NE,B];rfl) ⟨l,g.at' λo e=>j.extBut a o r e⟩ λb o d e=>j.extBut b o (λh=>d (by simp[h])) e
 done:=λs Q E ⟨st,g⟩ p=>by
  have z:(pickOrder (w.params.setOrder a ep) c).size=c.size:=by
   have:=(dY (w.params.setOrder a ep) c).length_eq
   rwa [t4,t4] at this
  exact qv G st g rfl (λE H q=>kW g d (by rw[Ut (Uc z)];exact q)) λy u=>p y s.toks λb o d e=>u b o (λh=>d (by simp[h])) e
 self:=λ_ _ _ _ ⟨st,_⟩ p=>au st p
def dw(c:Array (Int×Value))(b:WK):WH:=b.map λj=>((c[j]?).map (·.2)).getD .none
theorem jR(d:Array (Int×Value)){b:WK}(h:b.Perm (List.range d.size)):(dw d b).Perm (d.toList.map (·.2)):=by
 unfold dw;refine(h.map _).trans ?_
 have:(List.range d.size).map (λj=>((d[j]?).map (·.2)).getD Value.none)=d.toList.map (·.2):=by
  refine VC λi=>?_;rw[rx,rx,NE (xs:=d)]
  by_cases c:i<d.size
  ·rw[Vs c,v3 c];show some (((d[i]?).map (·.2)).getD Value.none)=_;rw[v3 c];rfl
  ·rw[TR (by simpa using c),Ut (by omega)];rfl
 rw[this]
theorem qA(S:A.handled=none){tp:Addr}(C:a≠I)(B:tp≠I){d:Array (Int×Value)}{ep:Nat}{t:SetTable}{c:WK}(z:c.Perm (List.range d.size)) :
  Walks prog w A I [I,a,tp] [I] d.size (λi v=>(dw d c)[i]?=some v) (λi h=>wd h I a (.ref tp) i d.size ep/\SW h a d ep t/\∃o e,h.get? tp=some o/\o.data=.seq (c.map λj=>rawInt ((j:Nat):Int)).toArray e) where
 sub:=λb q=>by simp at q;simp[q]
 frame:=λ_ _ _ ⟨st,p,o,e,u,r⟩ H=>⟨st.at' λo e=>H I (by simp) o e,p.at' λo e=>H a (by simp) o e,o,e,H tp (by simp) o u,r⟩
 item:=λi s Q E T ⟨st,p,o,e,u,r⟩ y=>by
  have O:c.length=d.size:=by rw[z.length_eq,tL]
  have l:i<c.length:=by omega
  have G:c[i]<d.size:=List.mem_range.mp (z.mem_iff.mp (TD l));have R:d[c[i]]?=some d[c[i]]:=v3 G;refine vX st p rfl ⟨o,e,u,r⟩ (j:=c[i]) (by simp[l,rawInt]) R λM x g=>?_;exact y _ M s.toks (by unfold dw;rw[rx,nA l];show some (((d[c[i]]?).map (·.2)).getD Value.none)=_;rw[R];rfl) ⟨x,p.at' λo e=>g.extBut a o C e,o,e,g.extBut tp o B u,r⟩ λb o q e=>g.extBut b o (λh=>q (by simp[h])) e
 done:=λs Q E ⟨st,p,o,e,u,r⟩ y=>by
  have O:c.length=d.size:=by rw[z.length_eq,tL]
  exact jj S st p rfl ⟨o,e,u,r⟩ (by simp[O]) λM J=>y M s.toks λb o q e=>J b o (λh=>q (by simp[h])) e
 self:=λ_ _ _ _ ⟨st,_⟩ y=>au st y
theorem qu{t:SetTable}(g:TG t){n:Nat}(e:t.fits n=true)(hd:(!t.plain&&decide (n>1))=false):t.place.toList.Pairwise (·<·):=by
 cases b:t.plain with
 | true=>exact(g b).1
 | false=>
  rw[b] at hd;have h:=kq e;have i:¬n>1:=λc=>by rw[t6 c] at hd;cases hd
  have d:t.place.toList.length<=1:=by rw[t4];omega
  match t.place.toList,d with
  | [],_=>exact List.Pairwise.nil
  | [x],_=>exact Ch _ _
theorem uB (x:A.handled=none) {l:Array (Int×Value)} (R:G5 prog w (!w.params.followText "set-order") s.heap a l) {Q:WO}
  (h:∀(I:Addr) (h':Heap) (d:Drawn) (vs:WH) (H:WE) (St:Nat->Heap->Prop),(∀b o,s.heap.get? b=some o->h'.get? b=some o)->s.heap.objs.size<=I->(∀b∈H,b=a\/s.heap.objs.size<=b)->vs.Perm (l.toList.map (·.2)) ->
   Walks prog w A I H [I] l.size (λi v=>vs[i]?=some v) St->St 0 h'->Q (.ref I) { s with heap:=h',drawn:=d }) :
  wpAny (model prog w) A (pyIter (.ref a)) Q E s:=by
 obtain⟨⟨o,q,t,c,y,hd,g,C,J⟩,M,j⟩:=id R;have G:s.TypeIs (.ref a) "set":=⟨o,c,y.1⟩
 have p:=sK c;refine VU G F.slot_set_iter (z0 F.slot_set_iter G L4.QH ?_ (F.args_set_iter_1 _));unfold Builtin.«frozenset.__iter__»;refine eH (hH ?_);refine eH (eH (Uk c hd g (hH ?_)));refine eH (eH (Tz c hd g (eH (L1 (hH ?_)))));show wpAny _ _ (if (!w.params.followText "set-order" && (!t.plain&&decide (l.size>1)))=true then _ else _) _ _ s
 cases B:w.params.followText "set-order" with
 | true=>
  rw[ro (by simp)];refine eH (hH ?_);refine eH (VS c hd g ?_);unfold newFields;refine eH (ux (hH ⟨_,rfl,"set_iterator",_,⟨_,sj _ rfl,rfl⟩,L4.D1.lookup,?_⟩));refine h _ _ s.drawn _ _ _ (λb o e=>hD _ e) (oT _) (λb j=>?_) ((dY (w.params.setOrder a q) l).map _) (tw (t:=t) (ep:=q) x (t8 p) B) ⟨⟨_,sj _ rfl,rfl,rfl⟩,⟨_,hD _ c,hd⟩,g⟩;simp only[SZ,VE,or_false] at j;rcases j with rfl | rfl
  ·exact .inr (oT _)
  ·exact .inl rfl
 | false=>
  cases z:(!t.plain&&decide (l.size>1)) with
  | false=>
   rw[ro (by simp)];refine eH (hH ?_);refine eH (VS c hd g ?_);unfold newFields;refine eH (ux (hH ⟨_,rfl,"set_iterator",_,⟨_,sj _ rfl,rfl⟩,L4.D1.lookup,?_⟩));refine h _ _ s.drawn _ _ _ (λb o e=>hD _ e) (oT _) (λb j=>?_) (.refl _) (nU (ep:=q) x (t8 p) B (by rw[J,B];rfl) z (qu C g z)) ⟨⟨0,⟨_,sj _ rfl,rfl,rfl⟩,vB (qu C g z)⟩,⟨_,hD _ c,hd⟩,g⟩;simp only[SZ,VE,or_false] at j;rcases j with rfl | rfl
   ·exact .inr (oT _)
   ·exact .inl rfl
  | true=>
   rw[ry (by simp)];refine eH (vO l.size _ tL λr d u=>?_);refine eH (wpAny_newTuple ?_ (by have O:l.size<4096:=j;rw[dL,u.length_eq,tL,GM];omega));refine eH (VS (hD _ c) hd g ?_);unfold newFields;refine eH (ux (hH ⟨_,rfl,"set_iterator",_,⟨_,sj _ rfl,rfl⟩,L4.D1.lookup,?_⟩))
   refine h _ _ d _ _ _ (λb o e=>hD _ (hD _ e)) (by rw[Do];exact UO _) (λb j=>?_) (jR l u) (qA (tp:=s.heap.objs.size) (t:=t) (ep:=q) x (by rw[Do];exact t8 (Ix p)) (by rw[Do];exact t8 (Ub _)) u)
    ⟨⟨_,sj _ rfl,rfl,rfl⟩,⟨⟨_,hD _ (hD _ c),hd⟩,g⟩,⟨_,0,hD _ (sj _ rfl),rfl⟩⟩
   simp only[SZ,VE,or_false] at j;rcases j with rfl | rfl | rfl
   ·exact .inr (by rw[Do];exact UO _)
   ·exact .inl rfl
   ·exact .inr (oT _)
end
end PySem
namespace PySem
open PyProof.Rows
section
variable{prog:Program}{w:World}{A:Around}{E:WO}{s:Shared}{a:Addr}
theorem ED {Q:Bool->Shared->Prop} (g:s.TypeIs (.ref a) "set") (h:Q false s):wpAny (model prog w) A (Builtin.List.listLengthHint (.ref a)) Q E s:=by
 unfold Builtin.List.listLengthHint;refine eH (Uu g L4.OB ?_);generalize d:("set.__len__" : String)=e
 wp_delta
 rw[show splitId e=some ("set","__len__") from by subst d;decide +kernel];subst d;refine eH (UF (T:="set") (b:=true) g (by rw[Ps];kernel_rfl) ?_);refine wpAny_ite_split (λc=>absurd c (by decide)) (λ_=>?_);refine wpAny_ite_split (λ_=>?_) (λc=>absurd (by decide +kernel) c);refine eH (Uz g ?_);exact hH h
theorem wu {R:Result->Shared->Prop} (hh:A.handled=none) {B:Array (Int×Value)} (hS:G5 prog w (!w.params.followText "set-order") s.heap a B) (S:Addr) (O:S≠a) (q:Value) (h0:s.heap.get? S=some { cls:=.type "list",data:=.seq #[] })
  (hR:∀h' tk d g C (vs:WH),vs.Perm (B.toList.map (·.2))->(∀b o,b≠S->s.heap.get? b=some o->h'.get? b=some o)->h'.get? S=some { cls:=.type "list",dict:=none,data:=.seq g C,slots:=#[] }->ItemsOf (λi v=>vs[i]?=some v) g B.size->R (.ok (.ret q)) { s with heap:=h',toks:=tk,drawn:=d }) :
  wpAny (model prog w) A.in1 (Builtin.List.listExtendWith (.ref S) (.ref a) q)
   (λa0 u=>match a0 with | .done f=>R (.ok f) u | .again C=>C.quiet=true/\codeAny (model prog w) A C R u) (λe u=>R (.error e) u) s:=by
 obtain⟨⟨o,ep,t,ho,H,hd,hf,tg,hl⟩,a1,r⟩:=id hS;have hn:B.size<=sizeLine:=by have a2:B.size<4096:=r;rw[GM];omega
 have hT:s.TypeIs (.ref a) "set":=⟨o,ho,H.1⟩
 unfold Builtin.List.listExtendWith;refine eH (Uz (T:="set") hT ?_);have h1:Builtin.List.listSameRef (.ref S) (.ref a)=false:=by simp[Builtin.List.listSameRef,O]
 have y:(Value.type "set" == Value.type "list")=false:=by decide
 have h3:(Value.type "set" == Value.type "tuple")=false:=by decide
 simp only[h1,y,h3,Bool.or_false,Ui,UI];refine eH (uB (A:=A.in1) hh hS λI h' d vs fp St keep hI X hp W st=>?_)
 have Q:S∉fp:=λz=>by
  rcases X _ z with e | e
  ·exact O e
  ·exact absurd (sK h0) (Nat.not_lt.mpr e)
 have G:∀(y:Heap) (p:Nat),St 0 y->(∀b o,b≠S->h'.get? b=some o->y.get? b=some o) ->
   y.get? S=some { cls:=.type "list",data:=.seq #[] p }->codeAny (model prog w) A (.builtin "list.extend.loop" ⟨[.ref S,.ref I,q],[]⟩) R { s with heap:=y,drawn:=d }:=by
  intro y p U hk c;refine codeAny_extend_loopS W.toS hn S Q q B.size 0 _ #[] p rfl (v5 _) U c (ItemsOf.nil _) λu g C hm Y M=>?_;rw[Moved.eq_with hm];refine hR u.heap u.toks d g C vs hp (λb o r e=>hm.heap b o (λj=>?_) (hk b o r (keep b o e))) Y M;rcases List.mem_cons.mp j with e' | j
  ·exact r e'
  ·rcases List.mem_singleton.mp j with rfl
   exact absurd (sK e) (Nat.not_lt.mpr hI)
 have c:=keep _ _ h0;refine eH (x2 (ED ⟨o,keep _ _ ho,H.1⟩ ?_));refine wpAny_ite_split (λ_=>?_) (λ_=>hH ⟨TH PySem.F.plain_extend_loop _,G _ _ st (λb o _ e=>e) c⟩);refine eH (Uv ?_);refine eH ?_;show wpAny _ _ (updateSeq S (·.push .none) >>= λ_=>updateSeq S (·.pop)) _ _ _;refine eH (wpAny_updateSeq c rfl ?_);have l:=xz (Obj.mapSeq (·.push Value.none)) c rfl;refine wpAny_updateSeq (hz:=by seq_fits) l rfl ?_;have x:=xz (Obj.mapSeq (·.pop)) l rfl;refine hH ⟨TH PySem.F.plain_extend_loop _,G _ _ ?_ (λb o r e=>?_) x⟩
 ·refine W.frame 0 _ _ st λb r o e=>?_;have J:b≠S:=λh=>Q (h▸r);exact(SC _ _ (Da J)).trans ((SC _ _ (Da J)).trans e)
 ·exact(SC _ _ (Da r)).trans ((SC _ _ (Da r)).trans e)
theorem G5.keep{led:Bool}{h h':Heap}{d:Array (Int×Value)}(x:G5 prog w led h a d)(k:∀o,h.get? a=some o->h'.get? a=some o):G5 prog w led h' a d:=
 let ⟨⟨o,g,t,e,r⟩,b,c⟩:=x;⟨⟨o,g,t,k o e,r⟩,b,c⟩
theorem G5.lt{led:Bool}{h:Heap}{c:Array (Int×Value)}(x:G5 prog w led h a c):a<h.objs.size:=let ⟨⟨o,_,_,b,_⟩,_,_⟩:=x;sK b
theorem Ek {R:Result->Shared->Prop} (h:A.handled=none) {g:Array (Int×Value)} (j:G5 prog w (!w.params.followText "set-order") s.heap a g) (S:Addr) (e:S≠a) (p:s.heap.get? S=some { cls:=.type "list",data:=.seq #[] })
  (l:∀h' tk d c q (vs:WH),vs.Perm (g.toList.map (·.2))->(∀b o,b≠S->s.heap.get? b=some o->h'.get? b=some o)->h'.get? S=some { cls:=.type "list",dict:=none,data:=.seq c q,slots:=#[] }->ItemsOf (λi v=>vs[i]?=some v) c g.size->R (.ok (.ret (.ref S))) { s with heap:=h',toks:=tk,drawn:=d }) :
  codeAny (model prog w) A (.builtin "list.__iadd__" ⟨[.ref S,.ref a],[]⟩) R s:=by
 refine Go F.entry_list_iadd ?_;rw[BB F.plain_list_iadd _];exact wu h j S e (.ref S) p l
theorem rA (y:A.handled=none) {j:Array (Int×Value)} (v:G5 prog w (!w.params.followText "set-order") s.heap a j) {Q:WH->Shared->Prop}
  (h:∀(vs:WH) (h':Heap) (tk:Nat) (d:Drawn),vs.Perm (j.toList.map (·.2))->s.heap.objs.size<h'.objs.size->(∀b o,s.heap.get? b=some o->h'.get? b=some o)->Q vs { s with heap:=h',toks:=tk,drawn:=d }) :
  wpAny (model prog w) A (collect (.ref a)) Q E s:=by
 unfold collect;refine eH (Vw (Go F.entry_proto_collect ?_));rw[BB F.plain_proto_collect _];show wpAny _ A.in1 (newList [] >>= λl=>again (.builtin "list.__iadd__" ⟨[l,.ref a],[]⟩)) _ _ s;refine eH (ux ?_);refine hH ⟨TH F.plain_list_iadd _,Ek (s:={ s with heap:=s.heap.push { cls:=.type "list",data:=.seq ([]:WH).toArray } }) y (v.keep λo e=>hD _ e) s.heap.objs.size (Uq v.lt) (sj _ rfl) λh' tk d g c vs p keep r u=>?_⟩;show wpAny _ A (load s.heap.objs.size >>= _) _ _ _;refine eH (wpAny_load r ?_);have x:vs.length=j.size:=by rw[p.length_eq,dL,t4]
 have z:g.toList=vs:=by
  refine VC λi=>?_;rw[NE]
  by_cases q:i<g.size
  ·exact(v3 q).trans (u.2 i _ (v3 q)).symm
  ·rw[Ut (VD q),TR (by rw[x,<-u.1];exact VD q)]
 refine hH ?_;rw[z];exact h vs h' tk d p (sK r) λb o e=>keep b o (t8 (sK e)) (hD _ e)
theorem vE (G:A.handled=none) {y:Array (Int×Value)} {p:WJ} (J:G5 prog w (!w.params.followText "set-order") s.heap a y) (O:L2.EI y p) (r:p.length<64) {Q:WO}
  (M:∀(l:Addr) (h':Heap) (tk:Nat) (d:Drawn) (out:WL) (c:WJ) (e:Nat),s.heap.objs.size<=l->(∀b o,s.heap.get? b=some o->h'.get? b=some o)->h'.get? l=some (seqObj "list" out e)->IntsAre out.toList c->c.Perm p->c.Pairwise (·<=·) ->
   Q (.ref l) { s with heap:=h',toks:=tk,drawn:=d }) :
  wpAny (model prog w) A (call (.builtin "sorted") [.ref a]) Q E s:=by
 refine Calls.call_function_entry kind_sorted plain_sorted entry_sorted (args_sorted1 _) ?_;unfold Builtin.«sorted»;refine eH (m:=checkCount "sorted" 1 1 _) (hH ?_);refine eH (rA (A:=A.in1) G J λvs h' tk d C q keep=>?_);obtain⟨z,B,v⟩:=O;obtain⟨ns,x,u⟩:=L2.ky C B;have i:vs.length<64:=by rw[L2.gY x,u.length_eq,v.length_eq];exact r
 refine eH (wpAny_newList ?_ (by rw[GM];omega));have g:(h'.push (seqObj "list" vs.toArray 0)).get? h'.objs.size=some (seqObj "list" vs.toArray 0):=sj _ rfl;refine eH (x2 (z0 slot_list_sort ⟨_,g,rfl⟩ entry_list_sort (list_sort_tree g x i λout c T S R=>⟨_,rfl,?_⟩) (args_list_sort _)));obtain⟨e,H⟩:=sortedHeap_at (out:=out) g;refine hH ⟨_,rfl,M _ _ tk d out c e ?_ (λb o I=>?_) H T (S.trans (u.trans v)) R⟩
 ·exact IN q
 ·have j:=keep b o I;have h:=sK j;rw[sortedHeap_old (t8 h) (by rw[size_push'];exact Ix h)];exact hD _ j
end
end PySem
namespace L2
open PySem PySem.Spec PyProof.Rows
abbrev W4(w:World):Bool:=!w.params.followText "set-order"
section
variable{prog:Program}{w:World}{A:Around}{E:WO}{s:Shared}
theorem zD{I:Addr}{b a:WE}{n m:Nat}{P:Nat->Value->Prop}{St:Nat->Heap->Prop}(e:n=m)(W:Walks prog w A I b a n P St):Walks prog w A I b a m P St:=by rw[<-e];exact W
theorem Co(a:Value){Q1:WO}
  (h:Q1 (.ref s.heap.objs.size) { s with heap:=s.heap.push { cls:=.type "set",dict:=none,data:=.set #[] 0 (.fresh 0 0 (W4 w)) } }) :
  codeAny (model prog w) A (.call (.builtin "set.__new__") ⟨[.type "set",a],[]⟩) (wants Q1 E) s:=by
 refine Vu ?_;show wpAny _ A.in1 (do checkBuiltinCall "set.__new__" ⟨[.type "set",a],[]⟩;again (.builtin "set.__new__" ⟨[.type "set",a],[]⟩)) _ _ s;refine eH (TB (F.newCall_set_1 a) (hH ⟨TH F.plain_set_new _,Go F.entry_set_new ?_⟩));rw[BB F.plain_set_new _];unfold Builtin.«set.__new__» Builtin.Frozenset.newClass;have b:=sub_set_self;obtain⟨c,g,d,tk,os⟩:=s;dsimp only
 wp_walk
 refine Vn (hH ?_);dsimp only;simp only[newObj];exact eH (wpAny_alloc (hH (hH h)))
end
section
variable{X:Cx}
def Cg(X:Cx)(d:Addr)(b:WJ)(h:Heap):Prop:=∃a,G5 X.prog X.w (W4 X.w) h d a/\EI a b
def Qz(K:WR)(X:Cx):List V->Hp->VK->Prop:=λa H Q=>∃(p:Addr) (ns:WJ),a=[.ref p]/\G7 K H p (ns.map V.int)/\ns.length+1<scanBound/\∀d,H d=none->Q (.ref d) (upd H d (.ext (Cg X d (ns.foldl S8 []))))
theorem yP(hc:X.calm=true):D4 X (.type "set") (Qz X.K X):=by
 intro E s σ H xs us Q I r h;obtain⟨p,ns,rfl,hp,hl,q⟩:=h;obtain⟨u,rfl,ru⟩:=vals1 r;cases(show u=Value.ref p from ru);refine ra (Q1:=λx s1=>x=.ref s.heap.objs.size/\s1={ s with heap:=s.heap.push { cls:=.type "set",dict:=none,data:=.set #[] 0 (.fresh 0 0 (W4 X.w)) } }) F.called_set (F.typeCall_set_1 _) F.entry_set_init (Co _ ⟨rfl,rfl⟩) ?_;rintro x s1 ⟨rfl,rfl⟩;have hn:=I.hok.fresh (oT s.heap.objs.size);have hS:(s.heap.push { cls:=.type "set",dict:=none,data:=.set #[] 0 (.fresh 0 0 (W4 X.w)) }).get? s.heap.objs.size=some { cls:=.type "set",dict:=none,data:=.set #[] 0 (.fresh 0 0 (W4 X.w)) }:=sj _ rfl;have hT:Shared.TypeIs { s with heap:=s.heap.push { cls:=.type "set",dict:=none,data:=.set #[] 0 (.fresh 0 0 (W4 X.w)) } } (.ref s.heap.objs.size) "set":=⟨_,hS,rfl⟩
 refine⟨hT,λhq=>check_set_init_1 hT hq,?_⟩
 have a1:∀(d:Heap) (tk:Nat) (j:Array (Int×Value)),(∀b o,b<s.heap.objs.size->s.heap.get? b=some o->d.get? b=some o)->G5 X.prog X.w (W4 X.w) d s.heap.objs.size j->EI j (ns.foldl S8 []) ->
   EP X E σ Q (.ref s.heap.objs.size) { s with heap:=d,toks:=tk }:=λd tk j kp y l=>
  ⟨.ref s.heap.objs.size,_,I.laid (a:=s.heap.objs.size) (o:=.ext (Cg X s.heap.objs.size (ns.foldl S8 []))) (h':=d) (t':=tk) (λb o e=>kp b o (sK e) e) (oT _)
   ⟨⟨j,y,l⟩,let ⟨⟨o,_,_,ho,_⟩,_,_⟩:=y;⟨o,ho⟩,λh1 B ⟨j,y,l⟩ k=>⟨j,y.keep k,l⟩⟩,rfl,q _ hn⟩
 have hh:=I.ok.hd hc
 have start:∀{B:Heap},B.get? s.heap.objs.size=some { cls:=.type "set",dict:=none,data:=.set #[] 0 (.fresh 0 0 (W4 X.w)) }->G5 X.prog X.w (W4 X.w) B s.heap.objs.size #[]:=λg=>
  ⟨⟨_,0,_,g,⟨rfl,rfl,rfl⟩,rfl,by rfl,TG.fresh _ _ _,rfl⟩,λe l=>by simp at l,by decide⟩
 obtain⟨c,rv,pl,hz⟩:=I.list hp;have J:c.length=ns.length:=by rw[<-rv.length,dL]
 obtain⟨ob,U,S,R,O,M⟩:=pl;obtain⟨oc,od,a2,T⟩:=ob;simp only at R O M;subst R O M;have C:p<s.heap.objs.size:=sK S
 have np:s.heap.objs.size∉[(s.heap.push { cls:=.type "set",dict:=none,data:=.set #[] 0 (.fresh 0 0 (W4 X.w)) }).objs.size,p]:=by
  rw[Do];intro z;rcases List.mem_cons.mp z with z | z
  ·exact absurd z (t8 (Ub _))
  ·exact absurd (List.mem_singleton.mp z) (Uq C)
 have nI:p≠(s.heap.push { cls:=.type "set",dict:=none,data:=.set #[] 0 (.fresh 0 0 (W4 X.w)) }).objs.size:=by
  rw[Do];exact t8 (Ix C)
 have Y:∀{B d:Heap},(∀b o,s.heap.get? b=some o->B.get? b=some o)->(∀b o,b∉[s.heap.objs.size,(s.heap.push { cls:=.type "set",dict:=none,data:=.set #[] 0 (.fresh 0 0 (W4 X.w)) }).objs.size]->B.get? b=some o->d.get? b=some o)->∀b o,b<s.heap.objs.size->s.heap.get? b=some o->d.get? b=some o:=λk1 k2 b o hb e=>k2 b o (λz=>by
  rw[Do] at z;rcases List.mem_cons.mp z with z | z
  ·exact absurd z (t8 hb)
  ·exact absurd (List.mem_singleton.mp z) (t8 (Ix hb))) (k1 b o e)
 have G:(s.heap.push { cls:=.type "set",dict:=none,data:=.set #[] 0 (.fresh 0 0 (W4 X.w)) }).get? p=some { cls:=.type "list",dict:=none,data:=.seq c.toArray U,slots:=T }:=hD _ S;have f1:=F.sub_list_set;have f2:=F.sub_list_frozenset;have f3:(Value.type "list" == Value.type "dict")=false:=by decide
 unfold Builtin.«set.__init__» noKeywords Builtin.Frozenset.updateFrom;generalize a0:pyIter=PI
 wp_walk
 subst a0;refine Vd (items:=c.toArray) ⟨_,G,rfl,U,rfl⟩ (eH (Vw ?_));have ez:c.toArray.size=ns.length:=by rw[sh];exact J
 refine zb (zD ez (Walks.list (by simp[hh]) _ p nI c.toArray)) s.heap.objs.size np (λi v hv=>?_) hl ns.length 0 _ (by omega) (v5 _) ⟨⟨_,sj _ rfl,rfl,rfl⟩,⟨_,hD _ G,rfl,U,rfl⟩⟩ ⟨#[],start (hD _ hS),⟨[],.nil,.refl _⟩⟩ λd tk j kp y l=>?_
 ·have h1:c[i]?=some v:=by simpa using hv
  have hi:=(List.getElem?_eq_some_iff.mp h1).1;obtain⟨u,hu,t,ht⟩:=rv.get (i:=i) (x:=.int (ns.getD i 0)) (by rw[rx,t5,nA (by omega)];rfl);rw[h1] at hu;cases hu;exact⟨t,ht⟩
 ·exact hH (hH ⟨rfl,a1 d tk j (Y (λb o e=>hD _ (hD _ e)) kp) y l⟩)
theorem Inv.ML{pins:WA}{σ:St}{H:Hp}{s:Shared}(I:Inv X pins σ H s)(d:Drawn):Inv X pins σ H { s with drawn:=d }:=
 ⟨I.ok,I.os,I.bare,I.base,I.loc,I.cell,I.free,I.freeC,I.pin,I.hok,I.len⟩
def Ng(X:Cx):List V->Hp->VK->Prop:=λc H Q=>∃(d:Addr) (b:WJ),c=[.ref d]/\H d=some (.ext (Cg X d b))/\b.length<64/\∀(a:WJ) l,a.Perm b->a.Pairwise (·<=·)->H l=none->Q (.ref l) (upd H l (.lst (a.map V.int)))
theorem ve(C:X.calm=true):D4 X (.builtin "sorted") (Ng X):=by
 intro j s R H S T Q I r h;obtain⟨d,y,rfl,hd,i,q⟩:=h;obtain⟨u,rfl,x⟩:=vals1 r;cases(show u=Value.ref d from x);obtain⟨⟨U,E,G⟩,_⟩:=(show p4 X.prog X.w H s.heap d (.ext (Cg X d y)) from I.hok d _ hd)
 refine vE (I.ok.hd C) E G i λl J tk M c b e v keep g B p z=>?_
 have O:=(I.laid (t':=tk) (a:=l) (o:=.lst (b.map V.int)) (h':=J) keep v
  ⟨by rw[dL,p.length_eq,GM];omega,c.toList,e,jr B,by rw[Vp];exact g⟩).ML M
 exact⟨.ref l,_,O,rfl,q b l p z (I.hok.fresh v)⟩
end
end L2
namespace L3
open PySem PySem.Spec PySem.Calls PyProof.Rows PySem.W L2
section
variable{X:Cx}{cl:List Cl}{e:Expr}{us:cy}{x y:Str}{p1 p2 pos pos2:Pos}
def pe:List D->(D->Prop)->Prop:=λb Q=>∃(d:D) (ns:WJ),b=[d]/\kindB false d=some (ns.map D.int)/\ns.length<64/\∀a:WJ,a.Pairwise (·<·)->(∀n,n∈a ↔ n∈ns)->Q (.lst (a.map D.int))
theorem rQ{l:WJ}(h:l.Pairwise (·<=·))(n:l.Nodup):l.Pairwise (·<·):=by
 refine(h.and n).imp λ⟨a,b⟩=>?_;omega
theorem vH (hc:X.calm=true) (T:Gl X x) (J:X.mg x=none) (u:bootBuiltins x=some (.builtin "sorted")) (S:Gl X y) (I:X.mg y=none) (o:bootBuiltins y=some (.type "set")) (ha:zN X cl [e] us)
  (hn:x ≠ "__name__":=by decide) (hd:(x == ("__debug__" : Str))=false:=by decide) (C:y ≠ "__name__":=by decide) (Y:(y == ("__debug__" : Str))=false:=by decide)
  (U:starEach [e] X.env=(false,eval e X.env)::starEach [] X.env:=by rfl) (g:(backTo pos2 (starEach [] X.env)).any (·.1)=false:=by rfl) (z:(backTo pos (starEach [] X.env)).any (·.1)=false:=by rfl) :
  PU X cl (.Call (.Name x p1) [.Call (.Name y p2) [e] [] pos2] [] pos) .fresh (Z4 pe us):=.of<|by
 obtain⟨t,p,h⟩:=ha.run;refine⟨_,gB (ve hc) T J u (wV (dJ (yP hc) S I o p C Y U g) M7 rfl) hn hd rfl z,λG ρ σ H fa Q R hG E hu k=>?_⟩;refine h G ρ σ H fa _ _ hG E hu λvs H1 ds A s r n3 q=>?_;obtain⟨d,ns,rfl,ek,a0,q⟩:=q;obtain⟨v,rfl,rr⟩:=r.one;obtain⟨pp,ts,B,rfl,hq,r2,_⟩:=Y3 rr ek;cases J8 r2;refine⟨pp,ns,rfl,hq,by have:scanBound=4096:=rfl;omega,λj i=>?_⟩;have fl:=pQ ns [];have fn:=Jm ns [] sd;refine⟨j,ns.foldl S8 [],rfl,c7,by have:([]:WJ).length=0:=rfl;omega,λb l hp hs O=>?_⟩;have s2:c9 H1 (upd (upd H1 j (.ext (Cg X j (ns.foldl S8 [])))) l (.lst (b.map V.int))):=(c9.e7 i).trans (c9.e7 O)
 have M:H1 l=none:=by
  by_cases c:l=j
  ·rw[c];exact i
  ·rw[e9 c] at O;exact O
 refine k _ _ (.lst (b.map D.int)) [l] (s.trans s2) (.lst c7 (bK b)) ⟨by simp,λa ha=>?_⟩ (q b (rQ hs (hp.nodup_iff.mpr fn.1)) λn=>by rw[hp.mem_iff,fn.2];simp);rw[List.mem_singleton.mp ha];exact s.free M
end
end L3
namespace L2
open PySem PySem.Spec PyProof.Rows
section
variable(elt t1 i1 t2 i2:Expr)(ifs1 ifs2:WI)(scope:Scope)(pos:Pos)
abbrev two:Expr:=.ListComp elt [⟨t1,i1,ifs1,0⟩,⟨t2,i2,ifs2,0⟩] scope pos
theorem BA(it acc:Value)(env:Env):compTurn (two elt t1 i1 t2 i2 ifs1 ifs2 scope pos) 0 it acc env=(do
  standAt i1.pos
  match <-pyNext it with
  | none=>pure (.done .next)
  | some v=>
   letOwnedTupleGo t1 it v
   assign t1 env v
   let mut ok:=true
   for c in ifs1 do
    if ok then ok <-isTrue c env (eval c env)
   if ok then
    let x <-eval i2 env
    standAt i2.pos
    let x <-foldedSetIterable i2 env x
    let _ <-runOwn (.compStart (two elt t1 i1 t2 i2 ifs1 ifs2 scope pos) 1 (<-holding [x] (pyIter x)) acc env) env
   again (.compLoop (two elt t1 i1 t2 i2 ifs1 ifs2 scope pos) 0 it acc env)):=by rfl
theorem Jd(it acc:Value)(env:Env):compTurn (two elt t1 i1 t2 i2 ifs1 ifs2 scope pos) 1 it acc env=(do
  standAt i2.pos
  match <-pyNext it with
  | none=>pure (.done .next)
  | some v=>
   letOwnedTupleGo t2 it v
   assign t2 env v
   let mut ok:=true
   for c in ifs2 do
    if ok then ok <-isTrue c env (eval c env)
   if ok then
    (do let _ <-call (.builtin "list.append") [acc,<-eval elt env])
   again (.compLoop (two elt t1 i1 t2 i2 ifs1 ifs2 scope pos) 1 it acc env)):=by rfl
end
section
variable{prog:Program}{w:World}{A:Around}{R:Result->Shared->Prop}{s:Shared}{elt t1 i1 t2 i2:Expr}{ifs1 ifs2:WI}{scope:Scope}{pos:Pos}{it acc:Value}{env:Env}
abbrev SX(a:WI)(env:Env):Sem Bool:=forIn a true λc r=>if r=true then do let ok <-isTrue c env (eval c env);pure (ForInStep.yield ok) else pure (ForInStep.yield r)
theorem AN(I:Nat->Shared->Prop)(y:∀x,foldedSetIterable i2 env x=pure x)
  (b:∀n s,I n s->wpAny (model prog w) A (pyNext it) (λr d=>match r with
   | none=>R (.ok .next) d
   | some v=>wpAny (model prog w) A (letOwnedTupleGo t1 it v) (λ_ p=>wpAny (model prog w) A (assign t1 env v) (λ_ o=>
     wpAny (model prog w) A (SX ifs1 env) (λok c=>
      if ok=true then wpAny (model prog w) A (eval i2 env) (λx l=>wpAny (model prog w) A (pyIter x) (λj i=>
       codeAny (model prog w) A (.compStart (two elt t1 i1 t2 i2 ifs1 ifs2 scope pos) 1 j acc env) (λr g=>r=.ok .next/\∃m,m<n/\I m g) i) (λ_ _=>False) l) (λ_ _=>False) c
      else ∃m,m<n/\I m c) (λ_ _=>False) o) (λ_ _=>False) p) (λ_ _=>False) d) (λ_ _=>False) s)
  (n:Nat) (h:I n s) :
  codeAny (model prog w) A (.compLoop (two elt t1 i1 t2 i2 ifs1 ifs2 scope pos) 0 it acc env) R s:=by
 refine VX rfl I (λn s z=>?_) n h;show wpAny _ A ((compTurn (two elt t1 i1 t2 i2 ifs1 ifs2 scope pos) 0 it acc env).onRaise (λx=>do noteFrame x env;theTreesLotGoes x)) _ _ s;refine wpAny_noted ?_;rw[BA];refine eH (KM (eH (v6 (b n s z) (λr d u=>?_) λ_ _ a=>a.elim)))
 cases r with
 | none=>exact hH u
 | some v=>
  refine eH (v6 u (λ_ p G=>?_) λ_ _ a=>a.elim);refine eH (v6 G (λ_ o E=>eH (v6 E (λok c q=>?_) λ_ _ a=>a.elim)) λ_ _ a=>a.elim)
  cases ok with
  | false=>exact hH ⟨rfl,q⟩
  | true=>
   refine eH (v6 q (λx l C=>?_) λ_ _ a=>a.elim);refine eH (KM ?_);rw[y];refine eH (hH ?_);refine eH (x2 (v6 C (λj i B=>?_) λ_ _ a=>a.elim));refine eH (wpAny_runOwn (US B λr g e=>?_));obtain⟨rfl,e⟩:=e;exact hH ⟨rfl,e⟩
theorem Ga(I:Nat->Shared->Prop)
  (b:∀n s,I n s->wpAny (model prog w) A (pyNext it) (λr d=>match r with
   | none=>R (.ok .next) d
   | some v=>wpAny (model prog w) A (letOwnedTupleGo t2 it v) (λ_ j=>wpAny (model prog w) A (assign t2 env v) (λ_ i=>
     wpAny (model prog w) A (SX ifs2 env) (λok c=>
      if ok=true then wpAny (model prog w) A (eval elt env) (λx g=>
       wpAny (model prog w) A (call (.builtin "list.append") [acc,x]) (λ_ e=>∃m,m<n/\I m e) (λ_ _=>False) g) (λ_ _=>False) c
      else ∃m,m<n/\I m c) (λ_ _=>False) i) (λ_ _=>False) j) (λ_ _=>False) d) (λ_ _=>False) s)
  (n:Nat) (h:I n s) :
  codeAny (model prog w) A (.compLoop (two elt t1 i1 t2 i2 ifs1 ifs2 scope pos) 1 it acc env) R s:=by
 refine VX rfl I (λn s p=>?_) n h;show wpAny _ A ((compTurn (two elt t1 i1 t2 i2 ifs1 ifs2 scope pos) 1 it acc env).onRaise (λx=>do noteFrame x env;theTreesLotGoes x)) _ _ s;refine wpAny_noted ?_;rw[Jd];refine eH (KM (eH (v6 (b n s p) (λr d o=>?_) λ_ _ a=>a.elim)))
 cases r with
 | none=>exact hH o
 | some v=>
  refine eH (v6 o (λ_ j z=>?_) λ_ _ a=>a.elim);refine eH (v6 z (λ_ i y=>eH (v6 y (λok c l=>?_) λ_ _ a=>a.elim)) λ_ _ a=>a.elim)
  cases ok with
  | false=>exact hH ⟨rfl,l⟩
  | true=>
   exact eH (eH (v6 l (λx g u=>eH (v6 u (λ_ e q=>hH (hH ⟨rfl,q⟩)) λ_ _ a=>a.elim)) λ_ _ a=>a.elim))
theorem EN{j:Value}(b:codeAny (model prog w) A (.compLoop (two elt t1 i1 t2 i2 ifs1 ifs2 scope pos) 1 j acc env) R s)
  (h:wpAny (model prog w) A (pyIter j) (λc a=>codeAny (model prog w) A (.compLoop (two elt t1 i1 t2 i2 ifs1 ifs2 scope pos) 1 c acc env) R a) (notedBy (model prog w) A env λx a=>R (.error x) a) s) :
  codeAny (model prog w) A (.compStart (two elt t1 i1 t2 i2 ifs1 ifs2 scope pos) 1 j acc env) R s:=by
 refine Vu ?_;show wpAny _ _ ((compStart (two elt t1 i1 t2 i2 ifs1 ifs2 scope pos) 1 j acc env).onRaise (λx=>do noteFrame x env;standAt theWindowsPlace)) _ _ s;refine wpAny_notedAt ?_;unfold compStart;show wpAny _ _ (ask >>= _) _ _ s;refine eH (Vn (wpAny_ite ?_));split
 ·first
   | exact eH (hH (hH (And.intro rfl b)))
   | exact hH (And.intro rfl b)
 ·refine eH (Uv ?_);show wpAny _ _ (standAt i2.pos >>= _) _ _ s;exact eH (KM (eH (v6 h (λd a e=>hH (And.intro rfl e)) λ_ _ x=>x)))
end
def SO(J:It)(g:TG)(tc:TT)(te:TE)(d:Addr)(h:St)(r:Hp)(Fin:Hp->Prop):Prop:=
 ∃W:Nat->Nat->St->Hp->Prop,(∃m,W 0 m h r)/\∀i m j H,W i m j H ->
  (J.stop i H/\Fin H) \/
  (J.go i H/\∀x p,J.yld i H x p->g x j p λa q=>tc a q λb o=>
   if b=true then te a o λv l=>∃c,l d=some (.lst c)/\c.length<sizeLine/\∃e,e<m/\W (i+1) e a (upd l d (.lst (c++[v])))
   else ∃e,e<m/\W (i+1) e a o)
section
variable{X:Cx}{N:WG}{scope:Scope}{cl:WC}{fp0:WE}{s0:Shared}{H0:Hp}{elt t1 i1 t2 i2:Expr}{ifs1 ifs2:WI}{pos:Pos}
theorem zy{J:It}{B:WE}{it d:Addr}{tn:Nat->Heap->Prop}{g:TG}{tc:TT}{te:TE}{pins:WA}{σ:St}{H:Hp}{s:Shared}{Fin:Hp->Prop}{R:Result->Shared->Prop}(l:X.calm=true)
  (hg:PG (y8 X N scope cl fp0 s0 H0) t2 g) (hc:uY (y8 X N scope cl fp0 s0 H0) ifs2 tc) (he:PE (y8 X N scope cl fp0 s0 H0) elt te)
  (I:Inv (y8 X N scope cl fp0 s0 H0) pins σ H s) (T:Turn X.prog X.w X.K t2 J B it tn) (st:tn 0 s.heap) (hf:∀b∈B,L8 (y8 X N scope cl fp0 s0 H0) pins H b) (q:SO J g tc te d σ H Fin)
  (hR:∀a c S,Inv (y8 X N scope cl fp0 s0 H0) pins a c S->Fin c->R (.ok .next) S) :
  codeAny (model X.prog X.w) X.A (.compStart (two elt t1 i1 t2 i2 ifs1 ifs2 scope pos) 1 (.ref it) (.ref d) (y8 X N scope cl fp0 s0 H0).env) R s:=by
 obtain⟨W,⟨m0,w0⟩,O⟩:=q;have a4:∀b∈B,H b=none:=λb p=>(hf b p).1;have j:∀{c:Hp},(∀b∈B,c b=none)->∀b∈B,L8 (y8 X N scope cl fp0 s0 H0) pins c b:=λhn b p=>⟨hn b p,(hf b p).2⟩
 have z:codeAny (model X.prog X.w) X.A (.compLoop (two elt t1 i1 t2 i2 ifs1 ifs2 scope pos) 1 (.ref it) (.ref d) (y8 X N scope cl fp0 s0 H0).env) R s:=by
  refine Ga (λn S=>∃i a c,Inv (y8 X N scope cl fp0 s0 H0) pins a c S/\tn i S.heap/\(∀b∈B,c b=none)/\W i n a c) ?_ m0 ⟨0,σ,H,I,st,a4,w0⟩;rintro n s4 ⟨i,a2,H4,I4,Q,a0,w4⟩;rcases O i n a2 H4 w4 with⟨stop,qn⟩ | ⟨go,step⟩
  ·refine p9 (T.done (y8 X N scope cl fp0 s0 H0) rfl rfl rfl l i pins s4 _ H4 (λ_ _=>False) I4 (j a0) Q stop) λr s5 ⟨hr,I5⟩=>?_;subst hr;exact hR _ _ _ I5 qn
  ·refine p9 (T.item (y8 X N scope cl fp0 s0 H0) rfl rfl rfl l i pins s4 _ H4 (λ_ _=>False) I4 (j a0) Q go) λr s5 ⟨u,hr,h5⟩=>?_;subst hr;refine p9 h5 λ_ s6 ⟨x,H6,I6,r6,y6,C,a3⟩=>?_;have ab:=I6.pinned (j a3) (T.obj _ _ C);refine p9 (hg _ s6 _ H6 x u _ ab r6 (step x H6 y6)) λ_ s7 ⟨h,H7,I7,q7⟩=>?_;refine p9 (hc _ s7 h H7 _ I7 q7) λok s8 ⟨H8,I8,q8⟩=>?_
   have again:∀{E:Hp} {G:Shared},Inv (y8 X N scope cl fp0 s0 H0) (pins++aA B s6.heap) h E G->(∃M,M<n/\W (i+1) M h E) ->
     ∃m,m<n/\∃i a c,Inv (y8 X N scope cl fp0 s0 H0) pins a c G/\tn i G.heap/\(∀b∈B,c b=none)/\W i m a c:=λ{E G} I9 ⟨M,hm,w9⟩=>by
    refine⟨M,hm,i+1,h,E,I9.R1,T.keep _ _ _ C λb p o e=>(I9.pin (b,o) (rj _ (rj _ (A9 p e)))).1,λb p=>?_,w9⟩;obtain⟨o,e,_⟩:=T.obj _ _ C b p;exact(I9.pin (b,o) (rj _ (rj _ (A9 p e)))).2.1
   cases ok with
   | false=>exact again I8 q8
   | true=>
    show wpAny _ _ (eval elt _) _ _ s8;refine p9 (he _ s8 h H8 _ I8 q8) λy G ⟨v,E,I9,r9,a1,Y,U,M,hm,w9⟩=>?_;refine p9 (y4 _ G h E (.ref d) [v] (.ref d) [y] (λ_ c=>c=upd E d (.lst (a1++[v]))) I9 rfl (.cons r9 .nil) ⟨_,a1,v,rfl,rfl,Y,U,rfl⟩) λ_ ad ⟨_,al,ac,_,a5⟩=>?_;subst a5;exact again ac ⟨M,hm,w9⟩
 exact EN z (T.self _ 0 _ _ _ st z)
end
def LP(J:It)(g:TG)(tc:TT)(o:TI)(g2:TG)(tc2:TT)(te:TE)(e:St)(Q:VK)(j:Hp):Prop:=∀d,j d=none ->
 ∃W:Nat->Nat->Hp->Prop,(∃m,W 0 m (upd j d (.lst [])))/\∀i m H,W i m H ->
  (J.stop i H/\Q (.ref d) H) \/
  (J.go i H/\∀x l,J.yld i H x l->g x e l λa u=>tc a u λb h=>
   if b=true then o a h λp r=>SO p g2 tc2 te d a r λq=>∃c,c<m/\W (i+1) c q
   else ∃c,c<m/\W (i+1) c h)
theorem zt{X:Cx}{N:WG}{scope:Scope}{cap:WB}{a:WE}{pins:WA}{σ:St}{H:Hp}{s:Shared}{al l a2 t2 i2:Expr}{a5 S:WI}{b0:Pos}{g:WC->WE->Shared->Hp->TG}{tc:WC->WE->Shared->Hp->TT}{wi2:WC->WE->Shared->Hp->TI}{g2:WC->WE->Shared->Hp->TG}{tc2:WC->WE->Shared->Hp->TT}{te:WC->WE->Shared->Hp->TE}{J:It}{it:Addr}{tn:Nat->Heap->Prop}
  {E:WO} {RR:Value->Addr->Result->Shared->Prop} {Q:VK} (M:X.calm=true) (cf:L0 X N scope cap) (hk:scope.kind=.function)
  (hg:∀cl a s H,PG (y8 X N scope cl a s H) l (g cl a s H)) (hc:∀cl a s H,uY (y8 X N scope cl a s H) a5 (tc cl a s H)) (b7:∀cl a s H,PI (y8 X N scope cl a s H) t2 i2 (wi2 cl a s H)) (b8:∀cl a s H,PG (y8 X N scope cl a s H) t2 (g2 cl a s H)) (bb:∀cl a s H,uY (y8 X N scope cl a s H) S (tc2 cl a s H)) (he:∀cl a s H,PE (y8 X N scope cl a s H) al (te cl a s H))
  (b5:∀cl a s H x,foldedSetIterable i2 (y8 X N scope cl a s H).env x=pure x)
  (I:Inv X pins σ H s) (T:Turn X.prog X.w X.K l J a it tn) (st:tn 0 s.heap) (hf:∀b∈a,L8 X pins H b) (q:∀cl a s z,LP J (g cl a s z) (tc cl a s z) (wi2 cl a s z) (g2 cl a s z) (tc2 cl a s z) (te cl a s z) (K5 cap σ) Q H)
  (bg:∀d C z s' m,Inv X pins σ z s'->s'.heap.Ns C m->L8 X pins z C->Q (.ref d) z->RR (.ref d) C (.ok .next) s') :
  wpAny (model X.prog X.w) X.A (newList []) (λacc B=>wpAny (model X.prog X.w) X.A (newFunctionEnv scope X.env.globals (A2 X.env scope.names []) [] X.env.qual none .none (some X.env)) (λa3 s4=>
   codeAny (model X.prog X.w) X.A (.compStart (two al l a2 t2 i2 a5 S scope b0) 0 (.ref it) acc { a3 with scope:=relabel scope X.env }) (RR acc a3.locals) s4) E B) E s:=by
 refine ux (Vx cf.nocell (by intro y hy;simp at hy) (λh1 ac ab=>?_) hk);have I3:Inv X pins σ (upd H s.heap.objs.size (.lst [])) { s with heap:=s.heap.push { cls:=.type "list",data:=.seq ([]:WH).toArray } }:=I.BW (its:=[]) (t':=s.toks) .nil (v5 _);have b9:H s.heap.objs.size=none:=I.fresh;obtain⟨W,⟨m0,w0⟩,a0⟩:=q (A2 X.env scope.names []) a { s with heap:=s.heap.push { cls:=.type "list",data:=.seq ([]:WH).toArray } } (upd H s.heap.objs.size (.lst [])) s.heap.objs.size b9
 have b1:∀b∈a,b<s.heap.objs.size:=λb j=>by
  obtain⟨o,e,_⟩:=T.obj 0 _ st b j;exact sK e
 have ad:∀b∈a,L8 X pins (upd H s.heap.objs.size (.lst [])) b:=λb j=>⟨by rw[e9 (t8 (b1 b j))];exact(hf b j).1,(hf b j).2⟩
 have U:∀b∈a,b<(s.heap.push { cls:=.type "list",data:=.seq ([]:WH).toArray }).objs.size:=λb j=>by
  rw[Do];exact Ix (b1 b j)
 dsimp only at ac ab ⊢;generalize Y:({ s with heap:=s.heap.push { cls:=.type "list",data:=.seq ([]:WH).toArray } }:Shared)=B at I3 a0;have G:B.heap=s.heap.push { cls:=.type "list",data:=.seq ([]:WH).toArray }:=by rw[<-Y]
 have c5:B.toks=s.toks:=by rw[<-Y]
 rw[<-G] at ac ab U;have R:∀b o,B.heap.get? b=some o->h1.get? b=some o:=λb o e=>ab.extBut b o (t8 (sK e)) (hD _ e);have keep:∀b o,s.heap.get? b=some o->h1.get? b=some o:=λb o e=>R b o (by rw[G];exact hD _ e);have Ic:=gC (tk:=s.toks) I3 cf hk ad U ac R;have ap:tn 0 h1:=T.keep 0 _ _ st λb _ o e=>keep b o e;have bn:∀b∈a,(upd H s.heap.objs.size (.lst [])) b=none:=λb j=>(ad b j).1
 have O:∀{z:Hp},(∀b∈a,z b=none)->∀b∈a,L8 (y8 X N scope (A2 X.env scope.names []) a B (upd H s.heap.objs.size (.lst []))) [] z b:=λhn b j=>
  ⟨hn b j,t8 (U b j),Ic.ok.exfs b j,.inl j,λx c h=>(hf b j).2.2.2.2.1 x c (X2 h),λp hp=>absurd (show p∈([]:WA) from hp) (by simp)⟩
 have ci:B.os=s.os:=by rw[<-Y]
 have cj:B.gens=s.gens:=by rw[<-Y]
 have a1:codeAny (model X.prog X.w) X.A (.compLoop (two al l a2 t2 i2 a5 S scope b0) 0 (.ref it) (.ref s.heap.objs.size) (compEnvC scope (A2 X.env scope.names []) B.heap.objs.size X.env))
   (RR (.ref s.heap.objs.size) B.heap.objs.size) { B with heap:=h1,toks:=s.toks }:=by
  refine AN (λn s'=>∃i z,Inv (y8 X N scope (A2 X.env scope.names []) a B (upd H s.heap.objs.size (.lst []))) [] (K5 cap σ) z s'/\tn i s'.heap/\(∀b∈a,z b=none)/\W i n z) (λx=>b5 (A2 X.env scope.names []) a B (upd H s.heap.objs.size (.lst [])) x) ?_ m0 ⟨0,_,Ic,ap,bn,w0⟩;rintro n s4 ⟨i,H4,I4,ao,b2,w4⟩;rcases a0 i n H4 w4 with⟨stop,qn⟩ | ⟨go,step⟩
  ·refine p9 (T.done (y8 X N scope (A2 X.env scope.names []) a B (upd H s.heap.objs.size (.lst []))) rfl rfl rfl M i [] s4 _ H4 (λ_ _=>False) I4 (O b2) ao stop) λr s5 ⟨hr,I5⟩=>?_;subst hr;obtain⟨m,b6,_⟩:=I5.loc;refine bg _ _ H4 s5 m ?_ b6 (I3.fP (oT _) I5.free) qn;exact I3.CM I5.os I5.base I5.hok I5.bare λb j=>⟨(hf b j).2.2.2.1,(hf b j).2.1,(hf b j).2.2.2.2.1,(hf b j).2.2.2.2.2⟩
  ·refine p9 (T.item (y8 X N scope (A2 X.env scope.names []) a B (upd H s.heap.objs.size (.lst []))) rfl rfl rfl M i [] s4 _ H4 (λ_ _=>False) I4 (O b2) ao go) λr s5 ⟨u,hr,h5⟩=>?_;subst hr;refine p9 h5 λ_ s6 ⟨x,H6,I6,r6,y6,a4,bm⟩=>?_;have c0:=I6.pinned (O bm) (T.obj _ _ a4);refine p9 (hg _ _ _ _ _ s6 _ H6 x u _ c0 r6 (step x H6 y6)) λ_ s7 ⟨an,H7,I7,q7⟩=>?_;refine p9 (hc _ _ _ _ _ s7 an H7 _ I7 q7) λok s8 ⟨H8,I8,q8⟩=>?_
   have again:∀{am:St} {H9:Hp} {s9:Shared},Inv (y8 X N scope (A2 X.env scope.names []) a B (upd H s.heap.objs.size (.lst []))) ([]++aA a s6.heap) am H9 s9->(∃m',m'<n/\W (i+1) m' H9) ->
     ∃m,m<n/\∃i z,Inv (y8 X N scope (A2 X.env scope.names []) a B (upd H s.heap.objs.size (.lst []))) [] (K5 cap σ) z s9/\tn i s9.heap/\(∀b∈a,z b=none)/\W i m z:=λ{am H9 s9} I9 ⟨m',hm,w9⟩=>by
    refine⟨m',hm,i+1,H9,eu I3 cf ad I9.R1,T.keep _ _ _ a4 λb j o e=>(I9.pin (b,o) (rj _ (rj _ (A9 j e)))).1,λb j=>?_,w9⟩;obtain⟨o,e,d⟩:=T.obj _ _ a4 b j;exact(I9.pin (b,o) (rj _ (rj _ (A9 j e)))).2.1
   cases ok with
   | false=>exact again I8 q8
   | true=>
    show wpAny _ _ (eval i2 _) _ _ s8;refine p9 (b7 _ _ _ _ _ s8 an H8 _ I8 q8) λv s9 h9=>p9 h9 λce cd bi=>?_;obtain⟨ch,ck,cc,J2,cn,rfl,c3,T2,b3,f2,b4⟩:=bi;exact zy M (b8 _ _ _ _) (bb _ _ _ _) (he _ _ _ _) c3 T2 b3 f2 b4 λca z s' I' bv=>⟨rfl,again I' bv⟩
 have e4:({ s with heap:=h1,toks:=s.toks+([]:WD).length }:Shared)={ B with heap:=h1,toks:=s.toks }:=by rw[<-Y];rfl
 rw[<-G,e4];exact codeAny_compStart_list a1 (T.self _ 0 _ _ _ ap a1)
def RF(cap:WB)(d:TI)(g:WC->WE->Shared->Hp->TG)(tc:WC->WE->Shared->Hp->TT)(wi2:WC->WE->Shared->Hp->TI)(g2:WC->WE->Shared->Hp->TG)(tc2:WC->WE->Shared->Hp->TT)(te:WC->WE->Shared->Hp->TE):TE:=λc H Q=>d c H λJ e=>∀cl a s b,LP J (g cl a s b) (tc cl a s b) (wi2 cl a s b) (g2 cl a s b) (tc2 cl a s b) (te cl a s b) (K5 cap c) Q e
theorem ym{X:Cx}{i:Nat}{y:Str}{XN N:WG}{XS scope:Scope}{cap:WB}{r b c O R:Expr}{p l:WI}{B u M:Pos}{wi:TI}{g:WC->WE->Shared->Hp->TG}{tc:WC->WE->Shared->Hp->TT}{wi2:WC->WE->Shared->Hp->TI}{g2:WC->WE->Shared->Hp->TG}{tc2:WC->WE->Shared->Hp->TT}{te:WC->WE->Shared->Hp->TE}
  (ab:X.N.Nodup) (a2:X.N[i]?=some y) (hy:X.env.scope.names.lookup y=some .local)
  (S:V4 XN N XS scope cap=true) (hN:X.N=XN) (hS:X.env.scope=XS) (hk:scope.kind=.function) (E:X.calm=true) (hi:PI X b c wi)
  (hg:∀cl j s H,PG (y8 X N scope cl j s H) b (g cl j s H)) (hc:∀cl j s H,uY (y8 X N scope cl j s H) p (tc cl j s H)) (a3:∀cl j s H,PI (y8 X N scope cl j s H) O R (wi2 cl j s H)) (a4:∀cl j s H,PG (y8 X N scope cl j s H) O (g2 cl j s H)) (a5:∀cl j s H,uY (y8 X N scope cl j s H) l (tc2 cl j s H)) (he:∀cl j s H,PE (y8 X N scope cl j s H) r (te cl j s H))
  (a1:∀cl j s H x,foldedSetIterable R (y8 X N scope cl j s H).env x=pure x)
  (a0:swapsWith (two r b c O R p l scope B) (some (.Name y M)) u.line X.env=pure true:=by rfl)
  (hs:∀x,foldedSetIterable c X.env x=pure x:=by intro _;rfl):PS X (.Assign [.Name y M] (two r b c O R p l scope B) u) (qp (RF cap wi g tc wi2 g2 tc2 te) (kh i)):=by
 refine .of ?_;intro o s σ H D I h;have cf:=O0 hN hS S;rw[Vv _ _ _ _ a0];refine eH (KM (eH ?_));show wpAny _ X.A (do let _ <-comprehension (two r b c O R p l scope B) scope X.env _ (newList []) false (eval c X.env) (some (assign (.Name y M) X.env))) _ _ s
 refine eH (v6 (TF (use:=some (assign (.Name y M) X.env)) (Q:=λ_ G=>SP X o D .next G) rfl hs (R0 (I.S3 cf)) hk cf.loc (p9 (hi o s σ H _ I h) λv s1 h1=>p9 h1 λad s2 h2=>?_))
  (λ_ G hq=>hH (hH hq)) λ_ _ e=>e)
 obtain⟨it,j,tn,J,H2,rfl,I2,T,U,f2,q⟩:=h2;refine zt (RR:=λac C=>compPost (model X.prog X.w) X.A X.xe (some (assign (.Name y M) X.env)) (λ_ G=>SP X o D .next G) ac C) E cf hk hg hc a3 a4 a5 he a1 I2 T U f2 q λd C H' G m I' hn hC q'=>?_;show wpAny _ _ (assign (.Name y M) X.env (.ref d)) _ _ G;refine Ve (aX (v:=.ref d) I' ab a2 (.inl hy) rfl (λs2 I2 ⟨a,sb,ha⟩=>⟨m,hn.sameBut sb ?_,λh' Y=>⟨_,H',I2.rD hC Y,q'⟩⟩) (.inr hy));rcases ha with z | z
 ·rw[z];exact hC.2.1
 ·exactλe=>hC.2.2.2.2.1 y a z e.symm
end L2
namespace L3
open PySem PySem.Spec PySem.Calls PySem.W L2
open PyProof.Rows hiding St
def EK(a:Ev):Bool:=a.all λo=>match o with
 | some d=>u9 d
 | none=>true
theorem Fu{a:Ev}(h:EK a=true){i:Nat}{d:D}(e:a[i]?=some (some d)):u9 d=true:=List.all_eq_true.mp h _ (sg e)
theorem Tf.tr{H d c:Hp}(a:Tf H d)(b:Tf d c):Tf H c:=⟨λ_ _ h=>b.P4 _ _ (a.P4 _ _ h),λ_ _ _ h=>b.frzs _ _ _ (a.frzs _ _ _ h)⟩
theorem Y2{H a:Hp}(s:c9 H a):Tf H a:=⟨λ_ _ h=>s _ _ h,λ_ _ _ h=>s _ _ h⟩
theorem Mn{H:Hp}{d:Addr}{xs:List V}{o:HO}(h:H d=some (.lst xs)):Tf H (upd H d o):=⟨λb a e=>by rw[e9 (oA e h (λz=>nomatch z))];exact e,λb _ _ e=>by rw[e9 (oA e h (λz=>nomatch z))];exact e⟩
theorem E3.Ot{K:WR}{cap:WB}{c:Ev}{σ:St}{H l:Hp}{j:WQ}(E:E3 K (X1 cap) c σ H j)(h:EK c=true)(tf:Tf H l):E3 K (X1 cap) c σ l j:=by
 refine⟨λi d e=>?_,E.emp,E.len,E.nd,E.dj,E.par,E.old,E.new,λa o h=>(nomatch h),⟨λb q h=>(nomatch h),λb o u h=>(nomatch h),λ_ _=>rfl⟩,λa z=>z.elim,λa z=>z.elim,E.zo,E.po⟩;obtain⟨v,p,r⟩:=E.rep i d e;refine⟨v,p,r.W3 tf λa g=>?_⟩;rw[r.C9 (Fu h e)] at g;cases g
def Dl(g2:af)(tc2:aj)(te:TU):List D->Ev->List D->(List D->Prop)->Prop
 | [],_,c,Q=>Q c
 | y::e,g,c,Q=>g2 y g λa=>EK a=true/\tc2 a λb=>Br b (c.length<sizeLine/\te a λd=>u9 d=true/\Dl g2 tc2 te e a (c++[d]) Q) (Dl g2 tc2 te e a c Q)
def gM(g:af)(tc:aj)(e:mj)(g2:af)(tc2:aj)(te:TU)(d:Ev):List D->List D->(List D->Prop)->Prop
 | [],c,Q=>Q c
 | x::i,c,Q=>g x d λa=>tc a λb=>Br b (EK a=true/\e a λj=>Dl g2 tc2 te j a c λh=>gM g tc e g2 tc2 te d i h Q) (gM g tc e g2 tc2 te d i c Q)
theorem RC{K:WR}{cap:WB}{g3 U:af}{a2 I:aj}{a0:mj}{S:TU}{J:It}{g g2:TG}{tc tc2:TT}{wi:TI}{te:TE}{xs:List D}{C:WE}{l:Ev}{σ:St}{G:Ent}{O:Hp}{z:WQ}{Q:List D->Prop}{R:VK}
  (hg:∀(G:Ent) (l:Ev) (σ:St) (H:Hp) (z:WQ) (v:V) (d:D) (B:WE) (Q:Ev->Prop) (R:St->Hp->Prop),G.cl=B0 cap->E3 K G l σ H z->Rep K H v d B->(∀i,G.own i->∀a∈B,a∉z i)->g3 d l Q ->
   (∀p h u,E3 K G h p H u->(∀i,G.own i->u i=z i/\p[i]?=σ[i]?)->(∀i,G.own i->h[i]?=l[i]?)->Q h->R p H)->g v σ H R)
  (hc:∀(G:Ent) (l:Ev) (σ:St) (H:Hp) (z:WQ) (Q:Bool->Prop) (R:Bool->Hp->Prop),G.cl=B0 cap->E3 K G l σ H z->a2 l Q->(∀b r,c9 H r->Q b->R b r)->tc σ H R)
  (bg:∀(G:Ent) (l:Ev) (σ:St) (H:Hp) (z:WQ) (Q:List D->Prop) (R:It->Hp->Prop),G.cl=B0 cap->E3 K G l σ H z->a0 l Q->(∀J O xs,c9 H O->bj K J xs [] O->Q xs->R J O)->wi σ H R)
  (bi:∀(G:Ent) (l:Ev) (σ:St) (H:Hp) (z:WQ) (v:V) (d:D) (B:WE) (Q:Ev->Prop) (R:St->Hp->Prop),G.cl=B0 cap->E3 K G l σ H z->Rep K H v d B->(∀i,G.own i->∀a∈B,a∉z i)->U d l Q ->
   (∀p h u,E3 K G h p H u->(∀i,G.own i->u i=z i/\p[i]?=σ[i]?)->(∀i,G.own i->h[i]?=l[i]?)->Q h->R p H)->g2 v σ H R)
  (bm:∀(G:Ent) (l:Ev) (σ:St) (H:Hp) (z:WQ) (Q:Bool->Prop) (R:Bool->Hp->Prop),G.cl=B0 cap->E3 K G l σ H z->I l Q->(∀b r,c9 H r->Q b->R b r)->tc2 σ H R)
  (he:∀(G:Ent) (l:Ev) (σ:St) (H:Hp) (z:WQ) (Q:D->Prop) (R:VK),G.cl=B0 cap->E3 K G l σ H z->S l Q->(∀v r d B,c9 H r->Rep K r v d B->y3 G H z B .fresh->Q d->R v r)->te σ H R)
  (E:E3 K G l σ O z) (it:bj K J xs C O) (tr:∀a∈C,O a≠none) (q:gM g3 a2 a0 U I S (T3 cap l) xs [] Q)
  (k:∀d r ds,c9 O r->Rep K r (.ref d) (.lst ds) [d]->O d=none->Q ds->R (.ref d) r):LP J g tc wi g2 tc2 te (K5 cap σ) R O:=by
 intro d hd
 refine⟨λi m H=>m=xs.length-i/\i<=xs.length/\c9 O H/\∃x ds,H d=some (.lst x)/\i5 K H x ds []/\gM g3 a2 a0 U I S (T3 cap l) (xs.drop i) ds Q,
  ⟨xs.length,by simp,v5 _,c9.e7 hd,[],[],c7,.nil,q⟩,?_⟩
 rintro i m H ⟨rfl,c5,s1,x,ds,ab,rs,q⟩;have tf:Tf O H:=Y2 s1
 have kC:∀a∈C,H a=O a:=λa ha=>by
  obtain⟨o,eo⟩:=Option.ne_none_iff_exists'.mp (tr a ha);rw[eo];exact s1 a o eo
 by_cases a4:i<xs.length
 ·right
  obtain⟨go,yl⟩:=(it H tf kC i).2 _ (nA a4);rw[Db a4] at q;refine⟨go,λy H2 hy=>?_⟩;obtain⟨s2,By,rB,sB⟩:=yl y H2 hy;have E2:=(E.same (s1.trans s2)).comp cap;refine hg (X1 cap) _ _ H2 _ y _ By _ _ rfl E2 rB (λj hj=>(D7 hj).elim) q λb0 ac am ao _ _ q3=>?_;refine hc (X1 cap) ac b0 H2 am _ _ rfl ao q3 λb H3 s3 q4=>?_;have T:H3 d=some (.lst x):=s3 _ _ (s2 _ _ ab)
  cases b with
  | false=>
   rw[ro rm];exact⟨xs.length-(i+1),by omega,rfl,a4,(s1.trans s2).trans s3,x,ds,T,(rs.same s2).same s3,q4.f rfl⟩
  | true=>
   rw[ry rfl];obtain⟨bb,q5⟩:=q4.t rfl;refine bg (X1 cap) ac b0 H3 am _ _ rfl (ao.same s3) q5 λJ2 H4 ys s4 b1 q6=>?_
   refine⟨λj m2 p r=>m2=ys.length-j/\j<=ys.length/\∃h u x ds,E3 K (X1 cap) h p r u/\EK h=true/\c9 O r/\Tf H4 r/\r d=some (.lst x)/\i5 K r x ds []/\Dl U I S (ys.drop j) h ds λc=>gM g3 a2 a0 U I S (T3 cap l) (xs.drop (i+1)) c Q,
    ⟨ys.length,by simp,v5 _,ac,am,x,ds,(ao.same s3).same s4,bb,((s1.trans s2).trans s3).trans s4,Y2 (c9.refl _),s4 _ _ T,((rs.same s2).same s3).same s4,q6⟩,?_⟩
   rintro j m2 p r ⟨rfl,hj,h,u,c,an,E',c3,ad,a1,b4,a3,q'⟩
   by_cases M:j<ys.length
   ·right
    obtain⟨bn,b5⟩:=(b1 r a1 (λa ha=>nomatch ha) j).2 _ (nA M);rw[Db M] at q';refine⟨bn,λy2 H5 b9=>?_⟩;obtain⟨s5,bv,b7,c0⟩:=b5 y2 H5 b9;refine bi (X1 cap) h p H5 u y2 _ bv _ _ rfl (E'.same s5) b7 (λj hj=>(D7 hj).elim) q' λap Y a5 E6 _ _ q6=>?_;obtain⟨al,q6⟩:=q6;refine bm (X1 cap) Y ap H5 a5 _ _ rfl E6 q6 λb H6 X q7=>?_;have b3:H6 d=some (.lst c):=X _ _ (s5 _ _ b4)
    cases b with
    | false=>
     rw[ro rm];exact⟨ys.length-(j+1),by omega,rfl,M,Y,a5,c,an,E6.same X,al,(ad.trans s5).trans X,(a1.tr (Y2 s5)).tr (Y2 X),b3,(a3.same s5).same X,q7.f rfl⟩
    | true=>
     obtain⟨hl,q8⟩:=q7.t rfl;rw[ry rfl];refine he (X1 cap) Y ap H6 a5 _ _ rfl (E6.same X) q8 λv H7 dv Bv s7 rv fo q9=>?_;obtain⟨b8,q9⟩:=q9;have eB:=rv.C9 b8;subst eB;have b2:H7 d=some (.lst c):=s7 _ _ b3;have td:Tf H7 (upd H7 d (.lst (c++[v]))):=Mn b2;have b6:=(((a3.same s5).same X).same s7).W3 td (λa ha=>nomatch ha);refine⟨c,b2,by rw[a3.length];exact hl,ys.length-(j+1),by omega,rfl,M,Y,a5,c++[v],an++[dv],((E6.same X).same s7).Ot al td,al,λb o e=>?_,((((a1.tr (Y2 s5)).tr (Y2 X)).tr (Y2 s7)).tr td),c7,b6.append (B:=[]) (i5.cons (A:=[]) (B:=[]) (rv.W3 td λa ha=>nomatch ha) .nil),q9⟩;rw[e9 (o6 e hd)];exact(((ad.trans s5).trans X).trans s7) _ _ e
   ·left
    have ej:j=ys.length:=by omega
    subst ej;rw[Ud] at q';exact⟨(b1 r a1 (λa ha=>nomatch ha) _).1 rfl,xs.length-(i+1),by omega,rfl,a4,ad,c,an,b4,a3,q'⟩
 ·have ei:i=xs.length:=by omega
  subst ei
  left
  rw[Ud] at q;exact⟨(it H tf kC _).1 rfl,k d H ds s1 (.lst ab rs) hd q⟩
structure SJ(X:Cx)(cl:List Cl)(tg iter:Expr)(u:mj):Prop where
 of ::
 run:∃wi,PI X tg iter wi/\∀(G:Ent) (ρ:Ev) (σ:St) (H:Hp) (fa:WQ) (Q:List D->Prop) (R:It->Hp->Prop),G.cl=cl->E3 X.K G ρ σ H fa->u ρ Q ->
  (∀J H1 xs,c9 H H1->bj X.K J xs [] H1->Q xs->R J H1)->wi σ H R
def tupI(u:TU):mj:=λb Q=>u b λd=>match d with
 | .tup a=>u6 a=true/\Q a
 | _=>False
section
variable{X:Cx}{cl:List Cl}{tg e:Expr}{f:Fl}{pos:Pos}{ua:TU}
theorem KS(h:PU X cl e f ua):SJ X cl tg e (tupI ua):=.of<|by
 obtain⟨t,p,h⟩:=h.run;refine⟨_,Lk p,λG g c H o Q R l E j k=>h G g c H o _ _ l E j λv x d B s r y q=>?_⟩;cases d<;>first | exact(show False from q).elim | skip
 obtain⟨i,q⟩:=q;obtain⟨p,vs,rfl,b,a⟩:=K7 r;have u:=a.C9 i;subst u;exact⟨p,rfl,⟨vs,P8.of b⟩,k _ x _ s (Ro b a) q⟩
def PB(cap:WB)(d:mj)(g:af)(tc:aj)(a:mj)(g2:af)(tc2:aj)(te:TU):TU:=λb Q=>d b λc=>gM g tc a g2 tc2 te (T3 cap b) c [] λh=>Q (.lst h)
variable{XN N:WG}{XS scope:Scope}{cap:WB}{elt target iter t2 i2:Expr}{ifs ifs2:WI}{ui ui2:mj}{g3 g23:af}{tc3 tc23:aj}{te3:TU}
theorem EA{i:Nat}{y:Str}{h py:Pos}(a0:X.N.Nodup)(M:X.N[i]?=some y)(hy:X.env.scope.names.lookup y=some .local)(U:yw cl[i]? .fresh i=true)
  (z:V4 XN N XS scope cap=true) (hN:X.N=XN) (hS:X.env.scope=XS) (hk:scope.kind=.function) (o:X.calm=true) (O:ak X cl target iter f ui)
  (Q:∀c b s H,xV (y8 X N scope c b s H) (B0 cap) target g3) (Y:∀c b s H,rX (y8 X N scope c b s H) (B0 cap) ifs tc3)
  (j:∀c b s H,SJ (y8 X N scope c b s H) (B0 cap) t2 i2 ui2) (l:∀c b s H,xV (y8 X N scope c b s H) (B0 cap) t2 g23) (p:∀c b s H,rX (y8 X N scope c b s H) (B0 cap) ifs2 tc23) (S:∀c b s H,PU (y8 X N scope c b s H) (B0 cap) elt .fresh te3)
  (B:swapsWith (.ListComp elt [⟨target,iter,ifs,0⟩,⟨t2,i2,ifs2,0⟩] scope pos) (some (.Name y py)) h.line X.env=pure true:=by rfl)
  (hs:∀x,foldedSetIterable iter X.env x=pure x:=by intro _;rfl) (I:∀c b s H x,foldedSetIterable i2 (y8 X N scope c b s H).env x=pure x:=by intro _ _ _ _ _;rfl) :
  J5 X cl (.Assign [.Name y py] (.ListComp elt [⟨target,iter,ifs,0⟩,⟨t2,i2,ifs2,0⟩] scope pos) h) (o3 i (PB cap ui g3 tc3 ui2 g23 tc23 te3)):=.of<|by
 obtain⟨wi,pi,O⟩:=O.run
 refine⟨_,ym (g:=λc b s H=>Classical.choose (Q c b s H).run) (tc:=λc b s H=>Classical.choose (Y c b s H).run) (wi2:=λc b s H=>Classical.choose (j c b s H).run) (g2:=λc b s H=>Classical.choose (l c b s H).run) (tc2:=λc b s H=>Classical.choose (p c b s H).run) (te:=λc b s H=>Classical.choose (S c b s H).run) a0 M hy z hN hS hk o pi
  (λc b s H=>(ri (Q c b s H).run).1) (λc b s H=>(ri (Y c b s H).run).1) (λc b s H=>(ri (j c b s H).run).1) (λc b s H=>(ri (l c b s H).run).1) (λc b s H=>(ri (p c b s H).run).1) (λc b s H=>(ri (S c b s H).run).1) I B hs,λG T ρ σ H fa R hG E hu le=>?_⟩
 refine O G ρ σ H fa _ _ hG E hu λJ H1 xs C s it tr fo q=>λc b u v=>?_;refine RC (K:=X.K) (ri (Q c b u v).run).2 (ri (Y c b u v).run).2 (ri (j c b u v).run).2 (ri (l c b u v).run).2 (ri (p c b u v).run).2 (ri (S c b u v).run).2 (E.same s) it tr q λd H2 ds s2 r n q2=>?_;exact le.nx _ _ ⟨_,_,(E.same (s.trans s2)).set (vv q2.1) r (fJ.of (f:=.fresh) E ⟨by simp,λa ha=>by rw[List.mem_singleton.mp ha];exact s.free n⟩ (by rw[hG];exact U)),q2.2⟩
end
end L3
namespace PySem
open PyProof.Rows PySem.SeqAt
section
variable{prog:Program}{w:World}{A:Around}{E:WO}
end
end PySem
namespace L2
open PySem PySem.Spec PyProof.Rows
section
variable{X:Cx}
end
end L2
namespace L3
open PySem PySem.Spec PySem.Calls PyProof.Rows PySem.W L2
section
variable{X:Cx}
theorem MT{i j k:Nat}{ds:List D}{d:Ev}{Q:Ev->Prop}(h:u4 (g1 i) (u4 (gT (u4 (g1 j) (u4 (g1 k) T8))) T8) ds d Q):ds.length=2:=by
 match ds,h with
 | [_,_],_=>rfl
 | [_],h=>exact h.2.elim
 | a::b::c::ds,h=>
  obtain⟨_,h⟩:=h
  cases b with
  | tup e=>
   match e,h with
   | [_,_],h=>exact h.2.2.elim
   | [_],h=>exact h.2.elim
   | [],h=>exact(show False from h).elim
   | _::_::_::_,h=>exact h.2.2.elim
  | _=>exact(show False from h).elim
 | [],h=>exact(show False from h).elim
end
end L3
namespace L3
open PySem PySem.Spec PySem.Calls PyProof.Rows L2
section
variable{X:Cx}{cl:List Cl}{e a b:Expr}{es:WI}{f fa fb:Fl}{pos pos' p vp:Pos}{ua ub:TU}{us:cy}{ms:mS}{k k':Nat}{fn:Addr}{fd:FuncData}{ps:WG}{x y:Str}
theorem uv (i:Nat) (g:KQ cl[i]?=f) (h:X.N[i]?=some x:=by rfl) (d:NY X.env.scope x:=by first | exact Or.inl rfl | exact Or.inr (Or.inl rfl) | exact Or.inr (Or.inr rfl)) (hd:(x == ("__debug__" : Str))=false:=by decide) (c:(x == ("__classdict__" : Str))=false:=by decide):PU X cl (.Name x pos) f (a7 i):=Mq i (pv i h d hd c) g
theorem l4(d:E7 k X.A)(h:PU X cl a fa ua)(g:PU X cl b fb ub)(c:fU b:=by exactλ_ _=>rfl):PU X cl (.Subscript a b pos) fa (e6 ua ub):=NH (B9 d) h g c
theorem gn(i:Nat)(j:X.N.Nodup)(d:X.N[i]?=some x:=by rfl)(c:Loc X.env.scope x:=by exact Or.inl rfl)(g:X.fn x=true\/X.env.scope.names.lookup x=some .local:=by first | exact .inl rfl | exact .inr rfl | assumption)(h:cl[i]?=some .bor:=by rfl):xV X cl (.Name x pos) (g1 i):=CP (wO j d c g) h
theorem ss(i:Nat)(o:X.N.Nodup)(j:PU X cl e f ua)(l:yw cl[i]? f i=true)(g:X.N[i]?=some x:=by rfl)(c:Loc X.env.scope x:=by exact Or.inl rfl)(d:swapsWith e (some (.Name x pos')) pos.line X.env=pure false:=by rfl)(h:X.fn x=true\/X.env.scope.names.lookup x=some .local:=by first | exact .inl rfl | exact .inr rfl | assumption) :
  J5 X cl (.Assign [.Name x pos'] e pos) (o3 i ua):=gU o g c j l d h
theorem pc {c:Cp} (C:JI X.prog X.w X.K X.mg X.base x k ps (Q0 X.K c) fn fd) (i:E7 k' X.A) (o:zN X cl (e::es) us) (d:isStar e=false) (j:k<=k':=by decide) (l:Gl X x:=by rfl) (h:(x == ("__debug__" : Str))=false:=by decide)
  (g:(backTo pos (starEach es X.env)).any (·.1)=false:=by rfl):PU X cl (.Call (.Name x p) (e::es) [] pos) .fresh (j5 c us):=Gv C (i.mono j) l o d h g
theorem pl {c:Cm} (j:Nat) (C:JI X.prog X.w X.K X.mg X.base x k ps (FP X.K c) fn fd) (i:E7 k' X.A) (r:Gs X cl es ms) (h:PE X (.Name y vp) (bq j):=by exact pv _) (o:cl[j]?=some .own:=by rfl) (l:k<=k':=by decide) (q:Gl X x:=by rfl) (g:(x == ("__debug__" : Str))=false:=by decide)
  (d:(backTo pos (starEach es X.env)).any (·.1)=false:=by rfl):PM X cl (.Call (.Name x p) (.Name y vp::es) [] pos) (t9 j c ms):=Hm j h o C (i.mono l) q r g d
end
end L3
namespace L3
open PySem PySem.Spec L2
section
variable{X:Cx}{cl:List Cl}{pos:Pos}{x:Str}
def LL(i:Nat)(a:Ev)(Q:Ev->Prop):D->Prop
 | .lst _=>Q (a.set i (some (.lst [])))
 | _=>False
def Qi(i:Nat):TM:=λa Q=>a7 i a (LL i a (Q .l3))
theorem MX{b e:Pos}(i:Nat)(U:PE X (.Name x e) (bq i))(J:cl[i]?=some .own)
  (mk:PE X (.Call (.Attribute (.Name x e) "clear" b) [] [] pos) (Ol X.K "list" BE (bq i))):PM X cl (.Call (.Attribute (.Name x e) "clear" b) [] [] pos) (Qi i):=.of<|by
 refine⟨_,mk,λG r S H l Q R M E I k=>?_⟩;obtain⟨h,o,q⟩:=o4 I;have own:G.own i:=by unfold Ent.own;rw[M];exact J
 obtain⟨v,d,y⟩:=E.rep i h o;cases h<;>first | exact(show False from q).elim | skip
 obtain⟨p,vs,B,rfl,j,T,O⟩:=D5 y;have pin:p∈l i:=by rw[O];exact re
 have u:Rep X.K (upd H p (.lst [])) (.ref p) (.lst []) [p]:=.lst c7 .nil;have g:∀a∈[p],a∈l i:=λa c=>by rw[List.mem_singleton.mp c];exact pin
 have C:i<r.length:=(List.getElem?_eq_some_iff.mp o).1;refine⟨_,d,.inl ⟨rfl,vs,G7.of j⟩,p,vs,rfl,rfl,j,?_⟩;exact k .l3 _ .l3 [] _ _ (E.put own C d pin T7 (by rw[c7];exactλz=>nomatch z) u (by simp) λa c=>.inl (g a c)) (O8.refl.put E own pin T7 (by rw[c7];exactλz=>nomatch z) λa c=>.inl (g a c)) .l3 sd (λa c=>(by cases c)) q
end
end L3
namespace My
open PySem L2 L3
theorem N0{a:Type}(x:a)(xs:List a):N8 (x::xs) 0=some x:=by
 have:(0:Int)<((xs.length+1:Nat):Int):=by omega
 unfold N8 kS;rw[ry (UA 0),vu,ry this];rfl
theorem N1{e:Type}{g:af}{tc:aj}{te:TU}{d:Ev}{F f:e->D}{Q:List D->Prop}:∀(as:List e) (acc:List D),(∀a∈as,∀(K:D->Prop) (R:Prop),K (f a)->g (F a) d λc=>tc c λb=>Br b (te c K) R)->Q (acc++as.map f)->qt g tc te d (as.map F) acc Q
 | [],acc,_,q=>by
  rw[UG,tz] at q;exact q
 | a::as,acc,h,q=>by
  rw[sw];refine h a re _ _ (N1 as (acc++[f a]) (λb i=>h b (hQ _ i)) ?_);rw[wh];exact q
theorem N3{i:Type}{g:af}{tc:aj}{te:TU}{d:Ev}{F f:i->D}{Q:List D->Prop}(p:i->Bool):∀(as:List i) (acc:List D),(∀a∈as,∀(K:D->Prop) (R:Prop),(p a=true->K (f a))->(p a=false->R)->g (F a) d λc=>tc c λb=>Br b (te c K) R)->Q (acc++(as.filter p).map f)->qt g tc te d (as.map F) acc Q
 | [],acc,_,q=>by
  rw[List.filter_nil,UG,tz] at q;exact q
 | a::as,acc,h,q=>by
  rw[sw];refine h a re _ _ (λe=>N3 p as (acc++[f a]) (λb j=>h b (hQ _ j)) ?_) (λe=>N3 p as acc (λb j=>h b (hQ _ j)) ?_)
  ·rw[Rl,ry e,sw] at q;rw[wh];exact q
  ·rw[Rl,ro (by rw[e];exact rm)] at q;exact q
theorem get_map{b:Type}{F:b->D}{as:List b}{i:Nat}{d:D}(h:(as.map F)[i]?=some d):∃a,as[i]?=some a/\d=F a:=by
 rw[rx] at h
 cases e:as[i]? with
 | none=>rw[e] at h;cases h
 | some a=>rw[e] at h;cases h;exact⟨a,rfl,rfl⟩
theorem g7{n:Nat}(h:n<=100000):n<sizeLine:=by rw[GM];omega
theorem Fi(ns:WJ):u6 (ns.map D.int)=true:=by
 induction ns with
 | nil=>rfl
 | cons n ns a=>rw[sw];exact a
theorem aw(ns:WG):u6 (ns.map D.str)=true:=by
 induction ns with
 | nil=>rfl
 | cons n ns a=>rw[sw];exact a
theorem qI{xs:List D}(h:∀x∈xs,u9 x=true):u6 xs=true:=by
 induction xs with
 | nil=>rfl
 | cons n ns a=>
  show(u9 n&&u6 ns)=true;rw[h n re,a λx b=>h x (hQ _ b)];rfl
theorem E9{b:Type}{f:b->D}{xs:List b}{i:Int}(d:0<=i)(c:i<xs.length):∃x,x∈xs/\xs[i.toNat]?=some x/\N8 (xs.map f) i=some (f x):=by
 have a:i.toNat<xs.length:=by omega
 refine⟨xs[i.toNat],TD a,nA a,?_⟩;unfold N8 kS;rw[ry d,dL,ry c];simp[a]
theorem Oy{n:Int}(h:n<=10^70)(b:0<n):n.natAbs.log2<9000:=by
 have a:n.natAbs<2^9000:=UJ (m:=10^70) (by omega) (by decide +kernel);exact(VL (by omega)).mpr a
abbrev EM(Q:D->D->Prop):W0:={ nx:=λa=>a7 0 a λl=>Q .l3 l,rt:=λd a=>a7 0 a λl=>Q d l }
abbrev EP(Q:D->Prop):W0:={ nx:=λ_=>Q .l3,rt:=λd _=>Q d }
def nums(xs:WJ):D:=.lst (xs.map D.int)
theorem x9(n:Nat):jd 0 n=(List.range n).map λ(k:Nat)=>D.int (0+(k:Int)):=rfl
theorem dX(p:Key×D)(r:List (Key×D))(j:Key):x3 (p::r) j=if p.1=j then some p.2 else x3 r j:=by
 unfold x3;rw[x0]
 by_cases e:p.1=j
 ·rw[ry e,t6 e];rfl
 ·rw[ro e,vr e]
theorem kN(k j:Key)(y:D):∀kvs:List (Key×D),x3 (kvs.map λc=>if c.1=k then(c.1,y) else c) j=if j=k then(x3 kvs j).map (λ_=>y) else x3 kvs j
 | []=>by simp[x3]
 | p::r=>by
  rw[sw,dX,dX,kN k j y r]
  by_cases b:p.1=k
  ·rw[ry b]
   by_cases a:p.1=j
   ·have d:j=k:=a.symm.trans b;simp[a,d]
   ·simp[a]
  ·rw[ro b]
   by_cases a:p.1=j
   ·have d:¬j=k:=λz=>b (a.trans z);simp[a,d]
   ·simp[a]
theorem iR(k:Key):∀kvs:List (Key×D),(kvs.any λa=>decide (a.1=k))=(x3 kvs k).isSome
 | []=>rfl
 | p::r=>by
  rw[Tk,iR k r,dX]
  by_cases e:p.1=k
  ·simp[e]
  ·simp[e]
theorem oQ(k j:Key)(y:D):∀kvs:List (Key×D),x3 (kvs++[(k,y)]) j=(x3 kvs j).or (if k=j then some y else none)
 | []=>by rw[u0,dX];simp[x3]
 | p::r=>by
  rw[List.cons_append,dX,dX,oQ k j y r]
  by_cases e:p.1=j
  ·simp[e]
  ·simp[e]
theorem ow(kvs:List (Key×D))(k j:Key)(y:D):x3 (putD kvs k y) j=if j=k then some y else x3 kvs j:=by
 unfold putD
 by_cases a:(kvs.any λb=>decide (b.1=k))=true
 ·rw[ry a,kN];rw[iR] at a;obtain⟨v,c⟩:=Option.isSome_iff_exists.mp a
  by_cases e:j=k
  ·subst e;simp[c]
  ·simp[e]
 ·rw[ro a,oQ];rw[iR] at a
  have d:x3 kvs k=none:=by
   cases q:x3 kvs k with
   | none=>rfl
   | some v=>rw[q] at a;exact(a rfl).elim
  by_cases e:j=k
  ·subst e;simp[d]
  ·have g:¬k=j:=λz=>e z.symm;simp[e,g]
theorem ag(a b:D)(l:List D):N8 (a::b::l) 1=some b:=by
 unfold N8 kS;rw[ry (by decide),ry (by simp only[vu];omega)];rfl
theorem nO{i:Type}{g:af}{tc:aj}{tk te:TU}{e:Ev}{F v:i->D}{k:i->Key}{Q:List (Key×D)->Prop}:∀(as:List i) (acc:List (Key×D)),(∀a∈as,∀(K:Key->D->Prop) (R:Prop),K (k a) (v a)->g (F a) e λc=>tc c λb=>Br b (tk c λy=>te c λd=>∃k,V0 y=some k/\u9 d=true/\K k d) R) ->
  Q (as.foldl (λacc a=>putD acc (k a) (v a)) acc)->nX g tc tk te e (as.map F) acc Q
 | [],acc,_,q=>q
 | a::as,acc,h,q=>by
  rw[sw];exact h a re (λk d=>nX g tc tk te e (as.map F) (putD acc k d) Q) _ (nO as _ (λb j=>h b (hQ _ j)) q)
theorem dZ{c:Type}{v:c->D}{k:c->Key}(j:Key):∀(as:List c) (acc:List (Key×D)),(∀a∈as,k a≠j)->x3 (as.foldl (λacc a=>putD acc (k a) (v a)) acc) j=x3 acc j
 | [],acc,_=>rfl
 | a::as,acc,h=>by
  rw[TK,dZ j as _ λb d=>h b (hQ _ d),ow,ro λz=>h a re z.symm]
theorem iy{d:Type}{v:d->D}{k:d->Key}:∀(as:List d) (acc:List (Key×D)),(as.map k).Nodup->∀a∈as,x3 (as.foldl (λacc a=>putD acc (k a) (v a)) acc) (k a)=some (v a)
 | [],_,_,a,g=>by cases g
 | b::as,acc,h,a,g=>by
  rw[sw] at h;obtain⟨l,j⟩:=List.nodup_cons.mp h;rw[TK];rcases List.mem_cons.mp g with e | e
  ·subst e;rw[dZ (k a) as _ λc i z=>l (List.mem_map.mpr ⟨c,i,z⟩),ow,ry rfl]
  ·exact iy as _ j a e
def Ht(d:D)(ns:WJ):Prop:=d=.fz (ns.map D.int)\/d=.lst (ns.map D.int)
def feed(c d k:Int):D:=.lst [.int c,.int d,.int k]
abbrev Rw:=Str×List D
def row(r:Rw):D:=.tup (.str r.1::r.2)
def jw(xs:WG):D:=.lst (xs.map D.str)
def uD:Option Str->D
 | none=>.l3
 | some x=>.str x
abbrev Pr:=Int×Int
def pr(p:Pr):D:=.tup [.int p.1,.int p.2]
def kd(ps:List Pr):D:=.tup (ps.map pr)
def RY(p:Pr):Prop:=1<=p.1/\p.1<10^59/\0<=p.2/\p.2<10^60
theorem V7:∀ps:List Pr,u6 (ps.map pr)=true
 | []=>rfl
 | p::ps=>by
  show((true&&(true&&true))&&u6 (ps.map pr))=true;rw[V7 ps];rfl
def S7(ps:List Pr):Prop:=1<=ps.length/\ps.length<=5/\(∀p∈ps,1<=p.1/\p.1<10^60/\1<=p.2/\p.2<10^60)/\ps.Pairwise λp q=>p.1<q.1/\q.2<p.2
def nm(n:Nat)(x:Str):Prop:=1<=x.cps.toList.length/\x.cps.toList.length<=n/\∀c∈x.cps.toList,97<=c/\c<=122
instance (n:Nat) (x:Str):Decidable (nm n x):=by unfold nm;infer_instance
theorem bf(ps:List Pr):u9 (kd ps)=true:=V7 ps
def X9:Cp:=λa Q=>∃(d:D) (ns:WJ) (k:Int),a=[d,.int k]/\Ht d ns/\0<=k/\∀c,Q (.int c)
def Z9:Cp:=λa Q=>∃(d:D) (ns:WJ) (k:Int),a=[d,.int k]/\Ht d ns/\0<=k/\k<=1000/\∀c,Q (feed c c (100*k))
def p6:Cm:=λa Q=>∃(c d k n:Int),a=[feed c d k,.int n]/\0<=k/\k<=10^9/\0<n/\n<=10^70/\∀(r b:Int),0<=r->r<n->Q (.int r) (feed c b (k+1))
def nu:g4:=(w5 (w8 (e6 (a7 0) (a7 1))))
def Ab:g4:=(w5 (uC (.int 0)))
def xH:g4:=(e5 (dt (tP (uT (l7 QP (a7 1) (Z4 cX (a9 (a7 0) i4))))) nu B7) Ab)
def IS:g4:=(w5 (U4 (a9 (w8 (a7 2)) (a9 (w8 (a7 2)) (a9 (l7 G2 (uC (.int 100)) (a7 1)) i4)))))
def Kb:g4:=(e5 (o3 2 (j5 X9 (a9 (a7 0) (a9 (a7 1) i4)))) IS)
def tO:g4:=(w5 (w8 (a7 2)))
def vK:g4:=(e5 (yF 0 (mP (l7 Jh (e6 (a7 0) (uC (.int 1))) (a7 1))) (mP (uC (.int 1)))) tO)
def wc:g4:=(e5 (o3 2 (l7 iA (e6 (a7 0) (uC (.int 1))) (a7 1))) vK)
def Ii:g4:=(w5 (l7 iA (l7 Jh (l7 iA (l7 G2 (a7 3) (l7 o9 (l7 iA (a7 3) (uC (.int 65521))) (uC (.int 3)))) (uC (.int 2147483629))) (uC (.int 5))) (a7 1)))
def Im:g4:=(e5 (o3 3 (l7 iA (l7 o9 (l7 o9 (a7 3) (l7 G2 (l7 G2 (e6 (a7 0) (uC (.int 2))) (e6 (a7 0) (uC (.int 2)))) (uC (.int 69621)))) (uC (.int 11))) (uC (.int 2147483647)))) Ii)
def IJ:g4:=(e5 (o3 3 (l7 o9 (l7 G2 (l7 iA (e6 (a7 0) (uC (.int 0))) (uC (.int 2147483629))) (uC (.int 48271))) (l7 G2 (uC (.int 7919)) (e6 (a7 0) (uC (.int 2)))))) Im)
def HC:g4:=(e5 (dt (tP (oq (uT (l7 RU (e6 (a7 0) (uC (.int 0))) (l7 Iv (uC (.int 10)) (uC (.int 18))))) (uT (l7 MW (e6 (a7 0) (uC (.int 1))) (uC (.int 0)))))) wc B7) IJ)
def JJ:g4:=(e5 (yF 0 (mP (l7 o9 (e6 (a7 0) (uC (.int 2))) (uC (.int 1)))) (mP (uC (.int 2)))) HC)
abbrev HP(n:Str)(k:Nat)(ps:WG)(c:Cp)(P:Program)(w:World)(K:WR)(mg:WM)(base:Heap)(f:Addr)(a:FuncData):=JI P w K mg base n k ps (Q0 K c) f a
abbrev HM(n:Str)(k:Nat)(ps:WG)(c:Cm)(P:Program)(w:World)(K:WR)(mg:WM)(base:Heap)(f:Addr)(a:FuncData):=JI P w K mg base n k ps (FP K c) f a
abbrev B8(c:Cp)(n:Nat):Prop:=∀a Q,c a Q->a.length=n
abbrev Kd(c:Cm)(n:Nat):Prop:=∀a Q,c a Q->a.length=n
abbrev W6(c:Cp)(t:g4)(n:Nat):Prop:=∀a Q,c a Q->t (EP Q) (g9 n a)
abbrev QR(c:Cm)(t:g4)(n:Nat):Prop:=∀a Q,c a Q->t (EM Q) (g9 n a)
def Q5(K:WR)(f:Addr)(x:Str)(st:Stmt):Prop:=PySem.W.nsIn K mainGlobals x=some (some (.ref f))/\∃(e:Value) (d h:Option Addr) (b:Array (WS)) (kV g c a ct:Value),K.lookup f=some ⟨e,d,.func (PySem.W.fnOf x x (X6 st) (G9 st) (c6 st) .none kV g c h a ct),b⟩/\PySem.W.codeIn K a x=true/\PySem.W.keepIn K (.ref f)=true
theorem Q5.mk{K:WR}{h:Heap}{mg:WM}{f:Addr}{x:Str}{st:Stmt}(X:K.In h)(G:h.Ns mainGlobals mg)(d:Q5 K f x st):∃b,M0 K x x st f b/\mg x=some (.ref f)/\PySem.W.keepIn K (.ref f)=true:=
 let ⟨a,_,_,_,_,_,_,_,_,_,l,c,k⟩:=d;⟨_,Ce l c k,PySem.W.mg_of X G a,k⟩
def mr:Str:="abcdefghijklmnopqrstuvwxyz"
def jy(i:Int):Nat:=(N8 mr.cps.toList i).getD 0
theorem GF:∀n:Nat,n<26->jy (n:Int)=97+n:=by decide +kernel
theorem mZ{i:Int}(a:0<=i)(b:i<26):jy i=97+i.toNat:=by
 have e:((i.toNat:Nat):Int)=i:=Int.toNat_of_nonneg a;have q:=GF i.toNat (by omega);rw[e] at q;exact q
theorem wL{i j:Int}(d:0<=i)(c:i<26)(b:0<=j)(a:j<26)(h:jy i=jy j):i=j:=by
 rw[mZ d c,mZ b a] at h;omega
theorem uX{i:Int}(b:0<=i)(a:i<26):97<=jy i/\jy i<=122:=by rw[mZ b a];omega
theorem xB{c:Nat}{n:Int}(b:0<=n)(a:n<=4):(Txt.mul ⟨#[c]⟩ n).cps.toList=List.replicate n.toNat c:=by
 have h:n=0\/n=1\/n=2\/n=3\/n=4:=by omega
 rcases h with rfl | rfl | rfl | rfl | rfl
 all_goals rfl
theorem zc(xs:WJ):∀acc:Array Nat,((xs.map λb=>(⟨#[jy b]⟩:Str)).foldl (λacc p=>acc++(Str.cps "")++p.cps) acc).toList=acc.toList++xs.map jy:=by
 induction xs with
 | nil=>intro acc;simp
 | cons b B a=>
  intro acc;rw[sw,TK,a,sw];show(acc++#[]++#[jy b]).toList++_=_;simp
theorem As(xs:WJ):(Txt.join "" (xs.map λb=>(⟨#[jy b]⟩:Str))).cps.toList=xs.map jy:=by
 unfold Txt.join Builtin.Str.glued
 cases xs with
 | nil=>rfl
 | cons b B=>
  exact(zc B #[jy b]).trans rfl
theorem Gu(x y:Str):(x++y).cps.toList=x.cps.toList++y.cps.toList:=by
 show(x.cps++y.cps).toList=_;simp
theorem Z7{d:Type}(f:Nat->d)(n:Nat)(h:∀i j,i<n->j<n->f i=f j->i=j):((List.range n).map f).Nodup:=by
 rw[List.Nodup,TX];refine List.Pairwise.imp_of_mem ?_ (List.nodup_range (n:=n));intro a b l g c e;exact c (h a b (List.mem_range.mp l) (List.mem_range.mp g) e)
theorem lL{b:Type}{x:b}:∀{xs:List b} (i:Nat),xs.Nodup->x∉xs->(xs.set i x).Nodup
 | [],_,_,_=>sd
 | y::c,0,h,a=>List.nodup_cons.mpr ⟨λz=>a (hQ _ z),(List.nodup_cons.mp h).2⟩
 | y::c,i+1,h,a=>by
  rw[List.set_cons_succ];refine List.nodup_cons.mpr ⟨λz=>?_,lL i (List.nodup_cons.mp h).2 λz=>a (hQ _ z)⟩;rcases No z with w | w
  ·exact(List.nodup_cons.mp h).1 w
  ·exact a (w▸re)
def nameA(f:Int)(i:Nat):Str:=Txt.mul ⟨#[jy ((f+(0+(i:Int)))%26)]⟩ (1+(0+(i:Int))/26)
theorem dS{f:Int}{i:Nat}(a:i<100):(nameA f i).cps.toList=List.replicate (1+i/26) (jy ((f+(0+(i:Int)))%26)):=by
 unfold nameA;rw[xB (by omega) (by omega)];congr 1;omega
theorem zR{f:Int}{i j:Nat}(b:i<100)(a:j<100)(h:nameA f i=nameA f j):i=j:=by
 have e:=Fa (λx:Str=>x.cps.toList) h;rw[dS b,dS a] at e;have el:=Fa List.length e;rw[TQ,TQ] at el;rw[el] at e
 have d:jy ((f+(0+(i:Int)))%26)=jy ((f+(0+(j:Int)))%26):=by
  have c:=Fa (λl:WK=>l.head?) e;simpa[Nat.add_comm 1,IR] using c
 have g:=wL (Bi _ (by decide)) (xi _ (by decide)) (Bi _ (by decide)) (xi _ (by decide)) d;omega
theorem DD{f:Int}{i n:Nat}(a:i<100)(h:1+i/26<=n):nm n (nameA f i):=by
 unfold nm;rw[dS a,TQ];refine⟨by omega,h,λc b=>?_⟩;rw[(List.mem_replicate.mp b).2];exact uX (Bi _ (by decide)) (xi _ (by decide))
def fQ(bs:WJ)(a o c b:Int)(i:Nat):WJ:=(bs.set a.toNat ((c+(0+(i:Int)))%26)).set o.toNat ((b+(0+(i:Int))/26)%26)
def fq(bs:WJ)(a o d c f l:Int)(i:Nat):Str:=Txt.join "" ((fQ bs a o d c i).map λb=>(⟨#[jy b]⟩:Str))++Txt.mul ⟨#[jy f]⟩ (l*((0+(i:Int))%2))
theorem aC{bs:WJ}{a o c b:Int}{i:Nat}:(fQ bs a o c b i).length=bs.length:=by unfold fQ;rw[OV,OV]
theorem ni{bs:WJ}{a o g e:Int}{i:Nat}(d:∀b∈bs,0<=b/\b<26):∀b∈fQ bs a o g e i,0<=b/\b<26:=λb c=>by
 rcases No c with w | w
 ·rcases No w with w | w
  ·exact d b w
  ·rw[w];exact⟨Bi _ (by decide),xi _ (by decide)⟩
 ·rw[w];exact⟨Bi _ (by decide),xi _ (by decide)⟩
theorem Qj{l:Int}(b:0<=l)(a:l<=1)(i:Nat):0<=l*((0+(i:Int))%2)/\l*((0+(i:Int))%2)<=1:=by
 have h:l=0\/l=1:=by omega
 rcases h with rfl | rfl<;>omega
theorem eO{bs:WJ}{a o c b f l:Int}{i:Nat}(e:0<=l)(d:l<=1):(fq bs a o c b f l i).cps.toList=(fQ bs a o c b i).map jy++List.replicate (l*((0+(i:Int))%2)).toNat (jy f):=by
 unfold fq;have:=Qj e d i;rw[Gu,As,xB this.1 (by omega)]
theorem yC{bs:WJ}{a o d c f l:Int}{i j:Nat}(J:i<100)(I:j<100)(p:0<=l)(g:l<=1)(a0:0<=a)(O:a<bs.length)(H:0<=o)(G:o<bs.length)(M:a≠o)(u:∀b∈bs,0<=b/\b<26)
  (h:fq bs a o d c f l i=fq bs a o d c f l j):i=j:=by
 have e:=Fa (λx:Str=>x.cps.toList) h;rw[eO p g,eO p g] at e;have B:=(List.append_inj e (by rw[dL,dL,aC,aC])).1
 have at_:∀(n:Nat) (x y:Int),(fQ bs a o d c i)[n]?=some x->(fQ bs a o d c j)[n]?=some y->x=y:=λn x y r q=>by
  have v:=Fa (λz:WK=>z[n]?) B;rw[rx,rx,r,q] at v;have:=ni u x (sg r);have:=ni u y (sg q);exact wL (by omega) (by omega) (by omega) (by omega) (v7 v)
 have ga:∀k:Nat,(fQ bs a o d c k)[a.toNat]?=some ((d+(0+(k:Int)))%26):=λk=>by
  unfold fQ;rw[v4 (by omega),v1 (by omega)]
 have go:∀k:Nat,(fQ bs a o d c k)[o.toNat]?=some ((c+(0+(k:Int))/26)%26):=λk=>by
  unfold fQ;rw[v1 (by rw[OV];omega)]
 have E:=at_ _ _ _ (ga i) (ga j);have C:=at_ _ _ _ (go i) (go j);omega
theorem Cv{bs:WJ}{a o v u f l:Int}{i n:Nat}(g:0<=l)(e:l<=1)(r:0<=f)(q:f<26)(p:∀b∈bs,0<=b/\b<26)(y:1<=bs.length)(x:bs.length+l<=n):nm n (fq bs a o v u f l i):=by
 have:=Qj g e i;have h:l=0\/l=1:=by omega
 unfold nm;rw[eO g e,tt,dL,aC,TQ];refine⟨by omega,?_,λc j=>?_⟩
 ·rcases h with rfl | rfl
  ·rw[UH];show bs.length+0<=n;omega
  ·omega
 ·rcases List.mem_append.mp j with w | w
  ·obtain⟨b,d,rfl⟩:=List.mem_map.mp w;have:=ni p b d;exact uX this.1 this.2
  ·rw[(List.mem_replicate.mp w).2];exact uX r q
theorem De{a r n:Int}(a0:0<=a)(g:a<n)(d:0<=r)(c:r<n-1):a≠(a+1+r)%n:=by
 by_cases h:a+1+r<n
 ·rw[Int.emod_eq_of_lt (by omega) h];omega
 ·have e:(a+1+r)%n=a+1+r-n:=by
   have b:a+1+r=(a+1+r-n)+n:=by omega
   rw[b,Int.add_emod_right,Int.emod_eq_of_lt (by omega) (by omega)];omega
  rw[e];omega
def bC:Cm:=λe Q=>∃(c d k m:Int),e=[feed c d k,.int m]/\0<=k/\k<=10^6/\1<=m/\m<=100/\∀(a:WG) (g b:Int),a.length=m->a.Nodup->(∀x∈a,nm 8 x)->Q (jw a) (feed c g b)
local macro_rules | `(tactic| walk_at "w")=>`(tactic| conv=>whnf)
local macro_rules | `(tactic| walk_at "a")=>`(tactic| first | refine⟨rfl,?_⟩ | refine⟨_,rfl,?_⟩ | refine⟨(show(0:Int)<_ from by decide),?_⟩ | refine⟨(show R4 _ _ from⟨by decide,by decide⟩),?_⟩ | refine⟨(show ae _ _ from⟨by decide,by decide,by decide⟩),?_⟩ | refine⟨(show K8 _ _ from .inr ⟨by decide,by decide⟩),?_⟩ | refine⟨(show K8 _ _ from .inl ⟨by decide,by decide⟩),?_⟩ | refine⟨_,_,_,rfl,rfl,rfl,?_⟩ | refine⟨_,N0 _ _,?_⟩ | refine⟨_,_,rfl,rfl,?_⟩)
local macro_rules | `(tactic| walk_at "r")=>`(tactic| ((repeat ((conv=>whnf);(walk_at "a")));(try (conv=>whnf))))
structure PH(xs:WG)(gs:List Rw)(ds:WK)(i:Nat)(g:Rw)(u:Option Str)(e:Nat)(cv:List Pr)(n1 n2:Int):Prop where
 name:xs[i]?=some g.1
 row:g.2=[uD u,kd cv,.int n1,.int n2]
 cv:S7 cv
 n1:0<=n1/\n1<10^60
 n2:0<=n2/\n2<10^60
 dep:ds[i]?=some e
 top:u=none->e=1
 under:∀y,u=some y->∃j f gj,j<i/\gs[j]?=some gj/\gj.1=y/\ds[j]?=some f/\e=f+1
 ge:1<=e
 le:e<=8
def Pz(xs:WG)(gs:List Rw)(ds:WK):Prop:=ds.length=gs.length/\∀i g,gs[i]?=some g->∃u e cv n1 n2,PH xs gs ds i g u e cv n1 n2
theorem Pz.u6{xs:WG}{gs:List Rw}{ds:WK}(h:Pz xs gs ds):∀g∈gs,u6 g.2=true:=λg c=>by
 obtain⟨i,b⟩:=x4 c;obtain⟨u,e,cv,n1,n2,a⟩:=h.2 i g b;rw[a.row];show(u9 (uD u)&&(u9 (kd cv)&&(true&&(true&&true))))=true;rw[bf];cases u<;>rfl
theorem PH.more{xs:WG}{gs:List Rw}{ds:WK}{i:Nat}{g:Rw}{u:Option Str}{e:Nat}{cv:List Pr}{n1 n2:Int}(a:PH xs gs ds i g u e cv n1 n2)(b:List Rw)(c:WK):PH xs (gs++b) (ds++c) i g u e cv n1 n2:=by
 refine⟨a.name,a.row,a.cv,a.n1,a.n2,?_,a.top,λy l=>?_,a.ge,a.le⟩
 ·rw[ud (List.getElem?_eq_some_iff.mp a.dep).1];exact a.dep
 ·obtain⟨j,f,r,q,h,p,d,o⟩:=a.under y l;exact⟨j,f,r,q,by rw[ud (List.getElem?_eq_some_iff.mp h).1];exact h,p,by rw[ud (List.getElem?_eq_some_iff.mp d).1];exact d,o⟩
theorem Pz.snoc{xs:WG}{gs:List Rw}{ds:WK}{g:Rw}{e:Nat}{u:Option Str}{cv:List Pr}{n1 n2:Int}(h:Pz xs gs ds)(a:PH xs (gs++[g]) (ds++[e]) gs.length g u e cv n1 n2):Pz xs (gs++[g]) (ds++[e]):=by
 refine⟨by simp[h.1],λi x b=>?_⟩
 by_cases p:i<gs.length
 ·rw[ud p] at b;obtain⟨o,r,l,d,c,v⟩:=h.2 i x b;exact⟨o,r,l,d,c,v.more _ _⟩
 ·have j:=(List.getElem?_eq_some_iff.mp b).1;rw[tt,wf] at j;have q:i=gs.length:=by omega
  subst q;rw[wT (oT _),Uo] at b;cases b;exact⟨_,_,_,_,_,a⟩
structure RL(xs:WG)(gs:List Rw)(i:Nat)(l:Rw)(y:Str)(ps:List Pr)(n:Int)(b:Bool):Prop where
 name:xs[i]?=some l.1
 row:l.2=[.str y,kd ps,.int n,.bl b]
 at_:∃g∈gs,g.1=y
 len:ps.length<=4
 prs:∀p∈ps,RY p
 n:0<=n/\n<10^60
def SK(xs:WG)(gs ls:List Rw):Prop:=ls.length=xs.length/\∀i l,ls[i]?=some l->∃y a n b,RL xs gs i l y a n b
theorem RL.u6{xs:WG}{gs:List Rw}{i:Nat}{l:Rw}{y:Str}{ps:List Pr}{n:Int}{b:Bool}(a:RL xs gs i l y ps n b):u6 l.2=true:=by
 rw[a.row];show(true&&(L3.u6 (ps.map pr)&&(true&&(true&&true))))=true;rw[V7];rfl
theorem SK.u6{xs:WG}{gs ls:List Rw}(h:SK xs gs ls):∀l∈ls,u6 l.2=true:=λl c=>by
 obtain⟨i,d⟩:=x4 c;obtain⟨y,e,n,b,a⟩:=h.2 i l d;exact a.u6
structure Gd where
 nm:Str
 un:Option Str
 cv:List Pr
 de:Int
 wa:Int
structure Ld where
 nm:Str
 at_:Str
 cs:List Pr
 la:Int
 on:Bool
structure Bd where
 gs:List Gd
 ls:List Ld
def gD(g:Gd):D:=.tup [.str g.nm,uD g.un,kd g.cv,.int g.de,.int g.wa]
def lD(l:Ld):D:=.tup [.str l.nm,.str l.at_,kd l.cs,.int l.la,.bl l.on]
def bD(b:Bd):D:=.tup [.tup (b.gs.map gD),.tup (b.ls.map lD)]
def Jr(gs:List Gd):Prop:=∃dp:Nat->Nat,∀i g,gs[i]?=some g->1<=dp i/\dp i<=8/\(g.un=none->dp i=1)/\∀y,g.un=some y->∃j a,j<i/\gs[j]?=some a/\a.nm=y/\dp i=dp j+1
abbrev QO:Int:=10^60
structure j7(b:Bd):Prop where
 g1:1<=b.gs.length
 g16:b.gs.length<=16
 l24:b.ls.length<=24
 nd:(b.gs.map (·.nm)++b.ls.map (·.nm)).Nodup
 nmg:∀g∈b.gs,nm 8 g.nm
 nml:∀l∈b.ls,nm 8 l.nm
 cv:∀g∈b.gs,S7 g.cv
 de:∀g∈b.gs,0<=g.de/\g.de<QO
 wa:∀g∈b.gs,0<=g.wa/\g.wa<10^60
 un:Jr b.gs
 cs4:∀l∈b.ls,l.cs.length<=4
 cs:∀l∈b.ls,∀p∈l.cs,1<=p.1/\p.1<10^60/\0<=p.2/\p.2<10^60
 la:∀l∈b.ls,0<=l.la/\l.la<10^60
 at_:∀l∈b.ls,∃g∈b.gs,g.nm=l.at_
theorem jk(u:Option Str):u9 (uD u)=true:=by cases u<;>rfl
theorem Y9(g:Gd):u9 (gD g)=true:=by
 show(true&&(u9 (uD g.un)&&(u9 (kd g.cv)&&(true&&(true&&true)))))=true;rw[jk,bf];rfl
theorem LG(g:Ld):u9 (lD g)=true:=by
 show(true&&(true&&(u9 (kd g.cs)&&(true&&(true&&true)))))=true;rw[bf];rfl
theorem S2{b:Type}{f:b->D}(h:∀a,u9 (f a)=true)(as:List b):u6 (as.map f)=true:=qI λx c=>by
 obtain⟨a,_,rfl⟩:=List.mem_map.mp c;exact h a
theorem cF(gs:List Gd):u6 (gs.map gD)=true:=S2 Y9 gs
theorem nK(gs:List Ld):u6 (gs.map lD)=true:=S2 LG gs
theorem AK(b:Bd):u9 (bD b)=true:=by
 show(u6 (b.gs.map gD)&&(u6 (b.ls.map lD)&&true))=true;rw[cF,nK];rfl
abbrev cs(x:Str):WK:=x.cps.toList
def nt(n:Int):Str:=Str.ofString (toString n)
theorem Lb{n:Int}(h:0<=n)(a:n<10^60):(nt n).length<=61:=by
 unfold nt;rw[ofString_length];exact int_text_length_le10 (by decide) (by omega)
def num(n:Int):Prop:=0<=n/\n<10^60
def AY(ps:List Pr):Prop:=ps.length<=5/\∀p∈ps,num p.1/\num p.2
structure GT(g:Gd):Prop where
 nm:nm 8 g.nm
 un:∀y,g.un=some y->My.nm 8 y
 cv:AY g.cv
 de:num g.de
 wa:num g.wa
structure LT(l:Ld):Prop where
 nm:nm 8 l.nm
 at_:My.nm 8 l.at_
 cs:AY l.cs
 la:num l.la
theorem num.len{n:Int}(h:num n):(nt n).length<=61:=Lb h.1 h.2
theorem MU{n:Nat}{x:Str}(h:nm n x):x.length<=n:=by
 have:=h.2.1;simpa[Str.length] using this
def Oj(x:Str):Prop:=10∉cs x
instance (x:Str):Decidable (Oj x):=by unfold Oj;infer_instance
theorem j7.gt{b:Bd}(h:j7 b):∀g∈b.gs,GT g:=λg a=>by
 refine⟨h.nmg g a,λy c=>?_,⟨(h.cv g a).2.1,λp d=>?_⟩,h.de g a,h.wa g a⟩
 ·obtain⟨dp,hd⟩:=h.un;obtain⟨i,l⟩:=x4 a;obtain⟨j,o,_,e,rfl,_⟩:=(hd i g l).2.2.2 y c;exact h.nmg o (sg e)
 ·have:=(h.cv g a).2.2.1 p d;unfold num;omega
theorem j7.lt{b:Bd}(h:j7 b):∀l∈b.ls,LT l:=λl a=>by
 refine⟨h.nml l a,?_,⟨AC (h.cs4 l a) (by decide),λp c=>?_⟩,h.la l a⟩
 ·obtain⟨g,d,e⟩:=h.at_ l a;rw[<-e];exact h.nmg g d
 ·have:=h.cs l a p c;unfold num;omega
mutual
def kn:D->Bool
 | .l3=>true
 | .bl _=>true
 | .int _=>true
 | .str x=>decide (x.length<=100000)
 | .tup xs=>Rx xs
 | .lst xs=>Rx xs
 | .dic _=>true
 | _=>false
def Rx:List D->Bool
 | []=>true
 | x::xs=>kn x&&Rx xs
end
theorem JQ{d:D}(h:kn d=true):∃a,tyName d=some a:=by
 cases d<;>first | exact⟨_,rfl⟩ | (simp[kn] at h)
def zq(q:D)(xs:List D):Prop:=q=.tup xs\/q=.lst xs
def Of:D->Str
 | .tup (.str x::_)=>x
 | _=>Str.empty
def LX(d:D):Prop:=∃x r,d=.tup (.str x::r)
def O5:Cp:=λb Q=>∃(q:D) (a:List D),b=[q]/\zq q a/\a.length<=100/\(∀x∈a,LX x)/\Q (jw (a.map Of))
structure Oi(gs:List Gd):Prop where
 len:gs.length<=16
 nd:(gs.map (·.nm)).Nodup
 un:Jr gs
def sH(gs:List Gd)(x:Str):Option Str:=match gs.find? (λg=>decide (g.nm=x)) with
 | some g=>g.un
 | none=>none
def ups(gs:List Gd):Nat->Option Str->WG
 | 0,_=>[]
 | _+1,none=>[]
 | n+1,some x=>x::ups gs n (sH gs x)
def cm:Cp:=λa Q=>∃(q:D) (gs:List Gd) (x:Str),a=[q,.str x]/\zq q (gs.map gD)/\Oi gs/\(∃g∈gs,g.nm=x)/\Q (jw (ups gs 8 (some x)))
def u3(b:Bd):WG:=b.gs.map (·.nm)
def K4(b:Bd):WG:=b.ls.map (·.nm)
def mR(xs:WG):D->Bool
 | .str x=>decide (x∈xs)
 | _=>false
def X0(b:Bd)(x:Str):Str:=match b.ls.find? (λl=>decide (l.nm=x)) with
 | some l=>l.at_
 | none=>x
def i9(b:Bd)(x:Str):WG:=ups b.gs 8 (some (X0 b x))
def J7:Cp:=λa Q=>∃(b:Bd),a=[bD b]/\j7 b/\Q (jw (u3 b))
def S0:Cp:=λa Q=>∃(b:Bd),a=[bD b]/\j7 b/\Q (jw (K4 b))
def M9:Cp:=λa Q=>∃(b:Bd) (d:D),a=[bD b,d]/\j7 b/\kn d=true/\Q (.bl (mR (u3 b) d))
def R7:Cp:=λa Q=>∃(b:Bd) (d:D),a=[bD b,d]/\j7 b/\kn d=true/\Q (.bl (mR (K4 b) d))
def M4:Cp:=λa Q=>∃(b:Bd) (d:D),a=[bD b,d]/\j7 b/\kn d=true/\Q (.bl (mR (u3 b) d||mR (K4 b) d))
def fm:Pj:=λa Q W=>∃(b:Bd) (d:D),a=[bD b,d]/\j7 b/\kn d=true/\((∃x,d=.str x/\x∈u3 b++K4 b/\Q (jw (i9 b x)))\/(mR (u3 b) d=false/\mR (K4 b) d=false/\W "NoPlace"))
def MC(d:D)(xs:WG):Prop:=d=.lst (xs.map D.str)\/d=.tup (xs.map D.str)
def F0(b:Bd)(a:WG)(x:Str):Bool:=(i9 b x).all λg=>decide (g∉a)
def Pd(kvs:List (Key×D))(x:Str):Int:=match x3 kvs (.inr x) with
 | some (.int n)=>n
 | _=>0
def tE(kvs:List (Key×D)):Prop:=∀a∈kvs,∃n,a.2=.int n
def qr(b:Bd)(a:WG):List (Key×D):=b.gs.map λg=>(.inr g.nm,.bl (F0 b a g.nm))
def j9(b:Bd)(v:Str->Int):List (Key×D):=b.gs.map λg=>(.inr g.nm,.int (v g.nm))
def O4(b:Bd)(a:WG)(P:Str->Int)(y:Str):Int:=((u3 b++K4 b).map λx=>if F0 b a x then(((i9 b x).count y:Nat):Int)*P x else 0).sum
def lo(cv:List Pr):Int:=(cv.head?.map (·.1)).getD 0
def rW(b:Bd)(x:Str):Int:=match b.ls.find? (λl=>decide (l.nm=x)) with
 | some l=>if l.on then l.la else 0
 | none=>0
def p7(b:Bd):Str->Int:=O4 b [] (rW b)
def L5(b:Bd)(v:Str->Int):WG:=(b.gs.filter λg=>decide (lo g.cv<=v g.nm)).map (·.nm)
def Q3:Cp:=λa Q=>∃(cv:List Pr),a=[kd cv]/\S7 cv/\Q (.int (lo cv))
def J3:Cp:=λc Q=>∃(b:Bd) (o:D) (a:WG),c=[bD b,o]/\j7 b/\MC o a/\a.length<4000/\Q (.dic (qr b a))
def N4:Cp:=λd Q=>∃(b:Bd) (c:WG) (a:List (Key×D)),d=[bD b,.dic (qr b c),.dic a]/\j7 b/\tE a/\Q (.dic (j9 b (O4 b c (Pd a))))
def bX:Cp:=λd Q=>∃(b:Bd) (o:D) (c:WG) (a:List (Key×D)),d=[bD b,o,.dic a]/\j7 b/\MC o c/\c.length<4000/\tE a/\Q (.dic (j9 b (O4 b c (Pd a))))
def eU:Cp:=λa Q=>∃(b:Bd),a=[bD b]/\j7 b/\Q (.dic (j9 b (p7 b)))
def cp:Cp:=λa Q=>∃(b:Bd) (v:Str->Int),a=[bD b,.dic (j9 b v)]/\j7 b/\Q (jw (L5 b v))
def wm:WG->D
 | []=>.l3
 | x::_=>.str x
def bJ:Cp:=λa Q=>∃(b:Bd),a=[bD b]/\j7 b/\Q (wm (L5 b (p7 b)))
def oP:g4:=(w5 (w8 (e6 (e6 (a7 0) (uC (.int 0))) (uC (.int 0)))))
def Z2:g4:=(bN 3 (mP (w8 (HA (l7 (LC true) (a7 5) (a7 2)) (RW (l7 (S6 false) (a7 6) (uC .l3)) (e6 (a7 3) (a7 6)))))) (mP (a7 5)))
def fL:g4:=(e5 (MI 5 6 (a9 (e6 (a7 4) (uC (.int 0))) (a9 (e6 (a7 4) (uC (.int 1))) i4))) Z2)
def mW:g4:=(w5 (a7 3))
def mL:g4:=(e5 (P0 (iP (C8 (e6 (a7 0) (uC (.int 0))))) (g1 4) fL) mW)
def nZ:g4:=(e5 (o3 3 (uC (.dic []))) mL)
def jq:g4:=(e5 (o3 2 (Z4 Qf (a9 (a7 1) i4))) nZ)
def iY:g4:=(vY 3 (e6 (a7 5) (uC (.int 1))) (ju (a7 2) (e6 (a7 5) (uC (.int 0))) (uC (.int 0))))
def gG:g4:=(bN 3 (mP (uC (.int 0))) (mP (a7 6)))
def ie:g4:=(vY 3 (a7 7) (e6 (a7 3) (a7 6)))
def gX:g4:=(dt (tP (uT (l7 (S6 true) (a7 7) (uC .l3)))) ie B7)
def ji:g4:=(dt (tP (Ej (tU (e6 (a7 1) (a7 6))))) gG gX)
def az:g4:=(e5 (MI 6 7 (a9 (e6 (a7 4) (uC (.int 0))) (a9 (e6 (a7 4) (uC (.int 1))) i4))) ji)
def rS:g4:=(w5 (a7 3))
def ff:g4:=(e5 (P0 (iP (JG (e6 (a7 0) (uC (.int 0))))) (g1 4) az) rS)
def qK:g4:=(e5 (P0 (iP (C8 (e6 (a7 0) (uC (.int 1))))) (g1 5) iY) ff)
def ko:g4:=(e5 (o3 3 (MV [none,some 2] (C8 (e6 (a7 0) (uC (.int 0)))) (g1 0) R6 (e6 (a7 0) (uC (.int 0))) (ju (a7 1) (e6 (a7 0) (uC (.int 0))) (uC (.int 0))))) qK)
def DK:g4:=(w5 (j5 N4 (a9 (a7 0) (a9 (j5 J3 (a9 (a7 0) (a9 (a7 1) i4))) (a9 (a7 2) i4)))))
def KA:g4:=(w5 (j5 bX (a9 (a7 0) (a9 (U4 i4) (a9 (MV [none] (C8 (e6 (a7 0) (uC (.int 1)))) (g1 0) (tU (e6 (a7 0) (uC (.int 4)))) (e6 (a7 0) (uC (.int 0))) (e6 (a7 0) (uC (.int 3)))) i4)))))
def CJ:g4:=(w5 (nY [none,some 1] (C8 (e6 (a7 0) (uC (.int 0)))) (g1 0) (uT (l7 RU (e6 (a7 1) (e6 (a7 0) (uC (.int 0)))) (j5 Q3 (a9 (e6 (a7 0) (uC (.int 2))) i4)))) (w8 (e6 (a7 0) (uC (.int 0))))))
def CO:g4:=(w5 (w8 (Ta (tU (a7 1)) (e6 (a7 1) (uC (.int 0))) (uC .l3))))
def Ba:g4:=(e5 (o3 1 (j5 cp (a9 (a7 0) (a9 (j5 eU (a9 (a7 0) i4)) i4)))) CO)
def SH(q:D)(b:Bd):Prop:=∃x y:D,q=.tup [x,y]/\zq x (b.gs.map gD)/\zq y (b.ls.map lD)
def jx(b:Bd)(a:WG):List (Key×D):=a.map λx=>(.inr x,.fz ((i9 b x).map D.str))
def U3(u t:Int):Prop:=1<=u/\u<=10^50+3/\1<=t/\t<=10^40
structure Rq(gs:List Gd)(u t:Int):Prop where
 c1:∀g∈gs,∀p∈g.cv,p.1<=46*u
 c2:∀g∈gs,∀p∈g.cv,p.2<=15*t
 de:∀g∈gs,g.de<=3*t
 wa:∀g∈gs,g.wa<=2*t
structure RQ(ls:List Ld)(u t:Int):Prop where
 la:∀l∈ls,l.la<=3*u
 cs:∀l∈ls,∀p∈l.cs,p.1<=3*t/\p.2<=11*u
structure QW(b:Bd)(u t:Int):Prop where
 g8:b.gs.length<=8
 l8:b.ls.length<=8
 c1:∀g∈b.gs,∀p∈g.cv,p.1<=70*u
 c2:∀g∈b.gs,∀p∈g.cv,p.2<=15*t
 de:∀g∈b.gs,g.de<=3*t
 wa:∀g∈b.gs,g.wa<=2*t
 ls:RQ b.ls u t
def Q6(g:Gd)(n:Int):Gd:={ g with cv:=g.cv.map λp=>(p.1+n,p.2) }
def aH:Cp:=λa Q=>∃(q:D) (b:Bd),a=[q]/\SH q b/\j7 b/\Q (.dic (jx b (u3 b++K4 b)))
def R5:Cm:=λb Q=>∃(c d k u t:Int),b=[feed c d k,.int u,.int t]/\0<=k/\k<=10^6/\U3 u t/\∀(cv:List Pr) (e a:Int),S7 cv->(∀p∈cv,p.1<=46*u)->(∀p∈cv,p.2<=15*t)->k<=a->a<=k+50->Q (kd cv) (feed c e a)
def T5:Cp:=λa Q=>∃(g:Gd) (n:Int),a=[gD g,.int n]/\g.cv.length<=5/\Q (gD (Q6 g n))
def U5:Cp:=λa Q=>∃(q:D) (b:Bd),a=[q]/\SH q b/\j7 b/\Q (.dic (j9 b (p7 b)))
def M8:Cp:=λb Q=>∃(d:D) (ns:WJ) (a:WG) (u t:Int),b=[d,jw a,.int u,.int t]/\Ht d ns/\1<=a.length/\a.length<=8/\a.Nodup/\U3 u t/\∀gs:List Gd,gs.map (·.nm)=a->Jr gs->(∀g∈gs,S7 g.cv)->(∀g∈gs,0<=g.de)->(∀g∈gs,0<=g.wa)->Rq gs u t->Q (.lst (gs.map gD))
def R8:Cp:=λb Q=>∃(d:D) (ns:WJ) (a:WG) (gs:List Gd) (u t:Int),b=[d,jw a,.lst (gs.map gD),.int u,.int t]/\Ht d ns/\1<=gs.length/\gs.length<=8/\a.length<=8/\U3 u t/\∀ls:List Ld,ls.map (·.nm)=a->(∀l∈ls,l.cs.length<=4)->(∀l∈ls,∀p∈l.cs,1<=p.1/\0<=p.2)->(∀l∈ls,0<=l.la)->(∀l∈ls,∃g∈gs,g.nm=l.at_)->RQ ls u t->Q (.lst (ls.map lD))
def Q4:Cp:=λa Q=>∃(d:D) (ns:WJ) (u t:Int),a=[d,.int u,.int t]/\Ht d ns/\U3 u t/\∀b:Bd,j7 b->QW b u t->Q (bD b)
def bM:Cp:=λa Q=>∃(d:D) (ns:WJ),a=[d]/\Ht d ns/\∀(b:Bd) (u t:Int),j7 b->QW b u t->U3 u t->Q (.tup [bD b,.int u])
def FR(b:Bd)(x:Str):Gd:=(b.gs.find? λg=>decide (g.nm=x)).getD ⟨x,none,[],0,0⟩
def cV(b:Bd)(x:Str):Bool:=b.ls.any λl=>decide (l.nm=x)&&!l.on
def G6(b:Bd)(x:Str):List (Gd×Int):=bif cV b x then[] else(i9 b x).map λy=>(FR b y,p7 b y)
def dF(ps:List (Gd×Int)):D:=.lst (ps.map λr=>.tup [gD r.1,.int r.2])
structure jM(ps:List (Gd×Int)):Prop where
 len:ps.length<=16
 cv:∀r∈ps,S7 r.1.cv
def ai(cv:List Pr)(n:Int):Option Int:=((cv.filter λp=>decide (p.1<=n)).getLast?).map (·.2)
def S9:Option Int->D
 | none=>.l3
 | some n=>.int n
structure tX(ps:List (Gd×Int))(m:Int)(ls:WJ):Prop where
 up:ls.Pairwise (·<·)
 mem:∀x,x∈ls ↔ x=1\/∃r∈ps,∃s∈r.1.cv,x=s.1-r.2/\x<=m
def bG:Cp:=λa Q=>∃(b:Bd),a=[bD b]/\j7 b/\Q (wm (L5 b (p7 b)))
def fw:Cp:=λa Q=>∃(b:Bd) (x:Str),a=[bD b,.str x]/\j7 b/\x∈u3 b++K4 b/\Q (dF (G6 b x))
def X5:Cp:=λa Q=>∃(b:Bd),a=[bD b]/\j7 b/\Q (jw (u3 b++K4 b))
def bS:Cp:=λb Q=>∃(a:List (Gd×Int)) (m:Int),b=[dF a,.int m]/\jM a/\a.length<=8/\∀ls:WJ,tX a m ls->Q (.lst (ls.map D.int))
def ip:Cm:=λe Q=>∃(c d k u:Int) (a:List (Gd×Int)),e=[feed c d k,dF a,.int u]/\0<=k/\k<=10^6/\1<=u/\u<=10^50+3/\jM a/\∀(m g b:Int),1<=m->(m<10^60\/∃r∈a,∃s∈r.1.cv,m<=s.1-r.2+1)->k<=b->b<=k+5->Q (.int m) (feed c g b)
def Y1:Cp:=λb Q=>∃(a:List (Gd×Int)) (i n:Int),b=[dF a,.int i,.int n]/\jM a/\0<=i/\i<a.length/\∀r,a[i.toNat]?=some r->Q (S9 (ai r.1.cv (r.2+n)))
def J4:Cp:=λa Q=>∃(b:Bd),a=[bD b]/\j7 b/\L5 b (p7 b)=[]/\Q (.dic (j9 b (p7 b)))
def bE:Cp:=λa Q=>∃(b:Bd) (x:Str),a=[bD b,.str x]/\j7 b/\x∈u3 b++K4 b/\L5 b (p7 b)=[]/\Q (dF (G6 b x))
def fR(cv:List Pr)(n:Int):Int:=(cv.filter λp=>decide (p.1<=n)).length
def vI:Cp:=λa Q=>∃(cv:List Pr) (n:Int),a=[.tup (cv.map pr),.int n]/\S7 cv/\Q (.int (fR cv n))
def S4:Cp:=λa Q=>∃(cv:List Pr) (n:Int),a=[.tup (cv.map pr),.int n]/\S7 cv/\Q (S9 (ai cv n))
def Y5:Cp:=λb Q=>∃(a:List (Gd×Int)) (m:Int),b=[dF a,.int m]/\jM a/\a.length<=8/\∀ls:WJ,tX a m ls->Q (.lst (ls.map D.int))
def D6(r:Gd×Int)(n:Int)(a:Bool):Option Int:=(ai r.1.cv (r.2+n)).map λt=>bif a then t+r.1.wa else t
def u5(n:Int):Bool->List (Gd×Int)->List (Option Int)
 | _,[]=>[]
 | a,r::b=>D6 r n a::u5 n (ai r.1.cv (r.2+n)).isSome b
def Q7:Cp:=λb Q=>∃(a:List (Gd×Int)) (n:Int),b=[dF a,.int n]/\jM a/\Q (.lst ((u5 n false a).map S9))
def Pc:g4:=(w5 (Z4 cX (a9 (nY [none,some 1] (C8 (a7 0)) (g1 0) (uT (l7 Af (e6 (a7 0) (uC (.int 0))) (a7 1))) (w8 (a7 0))) i4)))
def kf:g4:=(w5 (uC .l3))
def tG:g4:=(w5 (w8 (e6 (e6 (a7 0) (l7 T1 (a7 2) (uC (.int 1)))) (uC (.int 1)))))
def uU:g4:=(e5 (dt (tP (uT (l7 (bR false) (a7 2) (uC (.int 0))))) kf B7) tG)
def rJ:g4:=(e5 (o3 2 (j5 vI (a9 (a7 0) (a9 (a7 1) i4)))) uU)
def zT:g4:=(w5 (Z4 pe (a9 (l7 o9 (U4 (a9 (uC (.int 1)) i4)) (nY [none,some 1] (C8 (a7 2)) (g1 0) (uT (l7 Af (a7 0) (a7 1))) (w8 (a7 0)))) i4)))
def xb:g4:=(e5 (o3 2 (PB [none,none,none] (C8 (a7 0)) (gT (u4 (g1 0) (u4 (g1 1) T8))) R6 (tupI (e6 (a7 0) (uC (.int 2)))) (g1 2) R6 (l7 T1 (e6 (a7 2) (uC (.int 0))) (a7 1)))) zT)
def jY:g4:=(JW 6 (λi j=>i+j) (e6 (a7 4) (uC (.int 4))))
def U9:g4:=(W7 (fM 2 (mP (w8 (a7 6)))))
def kc:g4:=(e5 (dt (tP (oq (uT (l7 (S6 true) (a7 6) (uC .l3))) (oq (uT (l7 MW (a7 3) (uC (.int 0)))) (uT (l7 (S6 true) (e6 (a7 2) (l7 T1 (a7 3) (uC (.int 1)))) (uC .l3)))))) jY B7) U9)
def kb:g4:=(e5 (o3 6 (j5 S4 (a9 (e6 (a7 4) (uC (.int 2))) (a9 (l7 o9 (a7 5) (a7 1)) i4)))) kc)
def uH:g4:=(w5 (a7 2))
def tK:g4:=(e5 (P0 (iP (Pb (a7 0))) (gT (u4 (g1 3) (u4 (gT (u4 (g1 4) (u4 (g1 5) T8))) T8))) kb) uH)
def oB:g4:=(e5 (o3 2 (U4 i4)) tK)
def oG:g4:=(w5 (nY [none] (C8 (a7 0)) (g1 0) R6 (w8 (e6 (a7 0) (uC (.int 0))))))
def pH:g4:=(o3 1 (e6 (a7 2) (a7 1)))
def pw:g4:=(e5 (W7 (fM 4 (mP (w8 (a7 1))))) pH)
def AW:g4:=(w5 (a7 4))
def An:g4:=(e5 (Ca (tP (uT (l7 (S6 true) (a7 1) (uC .l3)))) pw) AW)
def pB:g4:=(e5 (o3 4 (U4 i4)) An)
def BN:g4:=(e5 (o3 2 (MV [none] (C8 (a7 0)) (g1 0) R6 (e6 (a7 0) (uC (.int 0))) (e6 (a7 0) (uC (.int 1))))) pB)
def lU:g4:=(w5 (j5 O5 (a9 (e6 (a7 0) (uC (.int 0))) i4)))
def pO:g4:=(w5 (j5 O5 (a9 (e6 (a7 0) (uC (.int 1))) i4)))
def lA:g4:=(w5 (HA (Z4 Ms (a9 (a7 1) (a9 (uC (.ty "str")) i4))) (l7 (oE false) (a7 1) (j5 J7 (a9 (a7 0) i4)))))
def sy:g4:=(w5 (HA (Z4 Ms (a9 (a7 1) (a9 (uC (.ty "str")) i4))) (l7 (oE false) (a7 1) (j5 S0 (a9 (a7 0) i4)))))
def kY:g4:=(w5 (RW (j5 M9 (a9 (a7 0) (a9 (a7 1) i4))) (j5 R7 (a9 (a7 0) (a9 (a7 1) i4)))))
def iH(W:Str->Prop):g4:=(Dt W "NoPlace" (a9 (uC (.str "no such place")) i4))
def Jq(W:Str->Prop):g4:=(w5 (j5 cm (a9 (e6 (a7 0) (uC (.int 0))) (a9 (ju (a7 2) (a7 1) (a7 1)) i4))))
def Hg(W:Str->Prop):g4:=(e5 (o3 2 (MV [none] (C8 (e6 (a7 0) (uC (.int 1)))) (g1 0) R6 (e6 (a7 0) (uC (.int 0))) (e6 (a7 0) (uC (.int 1))))) (Jq W))
def JU(W:Str->Prop):g4:=(e5 (dt (tP (Ej (tU (j5 M4 (a9 (a7 0) (a9 (a7 1) i4)))))) (iH W) B7) (Hg W))
def qc:g4:=(w5 (w8 (e6 (a7 2) (uC (.int 0)))))
def oX:g4:=(dt (tP (uT (l7 RU (e6 (a7 1) (e6 (a7 2) (uC (.int 0)))) (e6 (e6 (e6 (a7 2) (uC (.int 2))) (uC (.int 0))) (uC (.int 0)))))) qc B7)
def Ec:g4:=(w5 (uC .l3))
def Bh:g4:=(e5 (P0 (iP (C8 (e6 (a7 0) (uC (.int 0))))) (g1 2) oX) Ec)
def AM:g4:=(e5 (o3 1 (j5 U5 (a9 (a7 0) i4))) Bh)
def vq:g4:=(w5 (U4 i4))
def vf:g4:=(dt (tP (oq (uT (l7 (bR false) (e6 (a7 4) (uC (.int 0))) (a7 1))) (Ej (tU (e6 (a7 4) (uC (.int 4))))))) vq B7)
def wD:g4:=(w5 (nY [none,some 2,some 3] (C8 (e6 (j5 aH (a9 (a7 0) i4)) (a7 1))) (g1 0) R6 (bo (a9 (w8 (e6 (a7 1) (a7 0))) (a9 (w8 (e6 (a7 2) (a7 0))) i4)))))
def Gj:g4:=(e5 (P0 (iP (C8 (e6 (a7 0) (uC (.int 1))))) (g1 4) vf) wD)
def HH:g4:=(e5 (o3 3 (j5 U5 (a9 (a7 0) i4))) Gj)
def JM:g4:=(e5 (o3 2 (Z4 tu (a9 (nY [none] (C8 (e6 (a7 0) (uC (.int 0)))) (g1 0) R6 (bo (a9 (w8 (e6 (a7 0) (uC (.int 0)))) (a9 (w8 (a7 0)) i4)))) i4))) HH)
def yc:g4:=(w5 (l7 o9 (nY [none] (C8 (e6 (a7 0) (uC (.int 0)))) (g1 0) R6 (w8 (e6 (a7 0) (uC (.int 0))))) (nY [none] (C8 (e6 (a7 0) (uC (.int 1)))) (g1 0) R6 (w8 (e6 (a7 0) (uC (.int 0)))))))
def rR:g4:=(bN 2 (mP (uC (.bl true))) (mP (l7 T1 (e6 (a7 5) (uC (.int 0))) (a7 4))))
def qG:g4:=(dt (tP (uT (l7 Af (l7 T1 (e6 (a7 5) (uC (.int 0))) (a7 4)) (a7 1)))) rR B7)
def rK:g4:=(P0 (iP (C8 (e6 (a7 3) (uC (.int 2))))) (g1 5) qG)
def Ci:g4:=(w5 (Z4 Kr (a9 (Z4 Cu (a9 (a7 2) i4)) i4)))
def Bo:g4:=(e5 (P0 (iP (C8 (a7 0))) (gT (u4 (g1 3) (u4 (g1 4) T8))) rK) Ci)
def FE:g4:=(e5 (o3 2 (Be (uC (.int 1)) (uC (.bl true)))) Bo)
def tF:g4:=(w5 (l7 T1 (l7 Iv (uC (.int 10)) (uC (.int 60))) (uC (.int 1))))
def iD:g4:=(Ay (aN o9 (mP (uC (.int 1))) (aN G2 (t9 0 p6 (i8 (mP (uC (.int 60))) x6)) (mP (a7 2)))))
def Ib:g4:=(Ay (Qe (OM λi j=>if j>i then j else i) (i8 (mP (uC (.int 1))) (i8 (aN o9 (mP (l7 T1 (l7 T1 (e6 (a7 6) (uC (.int 0))) (a7 5)) (uC (.int 1)))) (t9 0 p6 (i8 (mP (uC (.int 3))) x6))) x6))))
def GV:g4:=(e5 (G4 6 (vR (jQ (mP (e6 (a7 4) (uC (.int 2)))) (t9 0 p6 (i8 (mP (Z4 cX (a9 (e6 (a7 4) (uC (.int 2))) i4))) x6))))) Ib)
def xQ:g4:=(e5 (KJ (gT (u4 (g1 4) (u4 (g1 5) T8))) (jQ (mP (a7 1)) (t9 0 p6 (i8 (mP (Z4 cX (a9 (a7 1) i4))) x6)))) GV)
def Js:g4:=(e5 (dt (tP (Qb (uT (l7 QP (a7 3) (uC (.int 3)))) (uT (l7 (bR false) (Z4 cX (a9 (a7 1) i4)) (uC (.int 0)))))) iD B7) xQ)
def Ie:g4:=(e5 (dt (tP (uT (l7 (bR false) (a7 3) (uC (.int 0))))) tF B7) Js)
def JR:g4:=(e5 (G4 3 (t9 0 p6 (i8 (mP (uC (.int 8))) x6))) Ie)
def rP:g4:=(w5 (uC .l3))
def Al:g4:=(w5 (w8 (e6 (a7 5) (Ob yk (uC (.int 1))))))
def Bw:g4:=(e5 (dt (tP (uT (l7 (bR false) (Z4 cX (a9 (a7 5) i4)) (uC (.int 0))))) rP B7) Al)
def DI:g4:=(e5 (o3 5 (nY [none,some 4,some 2] (C8 (e6 (a7 3) (uC (.int 2)))) (g1 0) (uT (l7 Af (e6 (a7 0) (uC (.int 0))) (l7 o9 (a7 1) (a7 2)))) (w8 (e6 (a7 0) (uC (.int 1)))))) Bw)
def Fy:g4:=(e5 (Il (gT (u4 (g1 3) (u4 (g1 4) T8))) (e6 (a7 0) (a7 1))) DI)
def fH:g4:=BY
def mz:g4:=(w5 (j5 eU (a9 (a7 0) i4)))
def mq:g4:=(e5 (dt (tP (uT (l7 (S6 true) (a7 1) (uC .l3)))) fH B7) mz)
def iI:g4:=(e5 (o3 1 (j5 bJ (a9 (a7 0) i4))) mq)
def qf:g4:=(w5 (U4 i4))
def CH:g4:=(w5 (nY [none,some 4,some 3] (C8 (a7 2)) (g1 0) R6 (bo (a9 (w8 (e6 (a7 1) (a7 0))) (a9 (w8 (e6 (a7 2) (a7 0))) i4)))))
def AA:g4:=(e5 (o3 4 (MV [none] (C8 (e6 (a7 0) (uC (.int 0)))) (g1 0) R6 (e6 (a7 0) (uC (.int 0))) (a7 0))) CH)
def FC:g4:=(e5 (dt (tP (uT (l7 (oE false) (a7 1) (nY [none] (C8 (e6 (a7 0) (uC (.int 1)))) (g1 0) (Ej (tU (e6 (a7 0) (uC (.int 4))))) (w8 (e6 (a7 0) (uC (.int 0)))))))) qf B7) AA)
def EG:g4:=(e5 (o3 3 (j5 J4 (a9 (a7 0) i4))) FC)
def Cs:g4:=(e5 (o3 2 (j5 (calm fm) (a9 (a7 0) (a9 (a7 1) i4)))) EG)
def G3(ps:List (Gd×Int))(n:Int)(j:Nat):Option Int:=(ps[j]?).bind λr=>ai r.1.cv (r.2+n)
def K9(ps:List (Gd×Int))(i:Nat)(n:Int):Option Int:=match G3 ps n 0,G3 ps n i,ps[i]? with
 | some a,some b,some r=>some (a-(bif (G3 ps n (i-1)).isSome then b+r.1.wa else b)+1)
 | _,_,_=>none
def j4(ps:List (Gd×Int))(i:Nat)(o:Option (Int×Int))(low:Int):Option (Int×Int):=match K9 ps i low with
 | none=>o
 | some k=>match o with
  | none=>some (k,low)
  | some (a,b)=>if a<k then some (k,low) else some (a,b)
open Classical in
def kX(ps:List (Gd×Int))(m:Int):WJ:=if h:∃l,tX ps m l then h.choose else[]
def T4(ps:List (Gd×Int))(i:Nat)(m:Int):Option (Int×Int):=(kX ps m).foldl (j4 ps i) none
def DM:Option (Int×Int)->D
 | none=>.l3
 | some (k,l)=>.tup [.int k,.int l]
def iw:Cp:=λb Q=>∃(a:List (Gd×Int)) (i:Nat) (n:Int),b=[dF a,.int i,.int n]/\jM a/\1<=i/\i<a.length/\Q (S9 (K9 a i n))
def A8:Cp:=λb Q=>∃(a:List (Gd×Int)) (i:Nat) (m:Int),b=[dF a,.int i,.int m]/\jM a/\a.length<=8/\1<=i/\i<a.length/\Q (DM (T4 a i m))
def A5(b:Bd)(x:Str)(o:Option (Int×Int))(i:Nat):List D:=match o,(G6 b x)[i]? with
 | some (k,l),some r=>[.tup [.str x,.str r.1.nm,.int k,.int l]]
 | _,_=>[]
def p5(b:Bd)(m:Int)(x:Str):List D:=(List.range ((G6 b x).length-1)).flatMap λk=>A5 b x (T4 (G6 b x) (1+k) m) (1+k)
def O3:Cp:=λa Q=>∃(b:Bd) (m:Int),a=[bD b,.int m]/\j7 b/\b.gs.length<=8/\L5 b (p7 b)=[]/\Q (.lst ((u3 b).flatMap (p5 b m)))
def Y6:Cp:=λa Q=>∃(b:Bd) (m:Int),a=[bD b,.int m]/\j7 b/\b.gs.length<=8/\Q (.lst ((u3 b).flatMap (p5 b m)))
def cb:Cp:=λa Q=>∃(d:D) (ns:WJ),a=[d]/\Ht d ns/\ns.length<=63/\Q (.bl true)
def bY:g4:=(o3 3 (bo (a9 (w8 (a7 6)) (a9 (w8 (a7 4)) i4))))
def cx:g4:=(dt (tP (Qb (uT (l7 (S6 false) (a7 3) (uC .l3))) (uT (l7 MW (a7 6) (e6 (a7 3) (uC (.int 0))))))) bY B7)
def bL:g4:=(e5 (o3 6 (l7 o9 (l7 T1 (e6 (a7 5) (uC (.int 0))) (e6 (a7 5) (a7 1))) (uC (.int 1)))) cx)
def cu:g4:=(dt (tP (oq (uT (l7 (S6 true) (e6 (a7 5) (uC (.int 0))) (uC .l3))) (uT (l7 (S6 true) (e6 (a7 5) (a7 1)) (uC .l3))))) bL B7)
def bH:g4:=(e5 (o3 5 (j5 Q7 (a9 (a7 0) (a9 (a7 4) i4)))) cu)
def fG:g4:=(w5 (w8 (a7 3)))
def fK:g4:=(e5 (P0 (iP (C8 (j5 Y5 (a9 (a7 0) (a9 (a7 2) i4))))) (g1 4) bH) fG)
def bz:g4:=(e5 (o3 3 (uC .l3)) fK)
def jN:g4:=(W7 (fM 2 (mP (bo (a9 (w8 (a7 3)) (a9 (w8 (e6 (e6 (e6 (a7 4) (a7 5)) (uC (.int 0))) (uC (.int 0)))) (a9 (w8 (e6 (a7 6) (uC (.int 0)))) (a9 (w8 (e6 (a7 6) (uC (.int 1)))) i4))))))))
def jH:g4:=(dt (tP (uT (l7 (S6 true) (a7 6) (uC .l3)))) jN B7)
def jC:g4:=(e5 (o3 6 (j5 A8 (a9 (a7 4) (a9 (a7 5) (a9 (a7 1) i4))))) jH)
def jG:g4:=(P0 (iP (AR (a9 (uC (.int 1)) (a9 (Z4 cX (a9 (a7 4) i4)) i4)))) (g1 5) jC)
def jS:g4:=(e5 (o3 4 (j5 bE (a9 (a7 0) (a9 (a7 3) i4)))) jG)
def vF:g4:=(w5 (a7 2))
def uS:g4:=(e5 (P0 (iP (C8 (j5 J7 (a9 (a7 0) i4)))) (g1 3) jS) vF)
def sA:g4:=(e5 (o3 2 (U4 i4)) uS)
def vw:g4:=(w5 (uC .l3))
def tR:g4:=(o3 4 (l7 o9 (a7 4) (e6 (e6 (e6 (a7 0) (a7 1)) (uC (.int 0))) (uC (.int 4)))))
def GR:g4:=(w5 (l7 o9 (l7 T1 (a7 3) (a7 4)) (uC (.int 1))))
def HE:g4:=(e5 (dt (tP (uT (l7 (S6 true) (j5 Y1 (a9 (a7 0) (a9 (l7 T1 (a7 1) (uC (.int 1))) (a9 (a7 2) i4)))) (uC .l3)))) tR B7) GR)
def Jv:g4:=(e5 (dt (tP (Qb (uT (l7 (S6 false) (a7 3) (uC .l3))) (uT (l7 (S6 false) (a7 4) (uC .l3))))) vw B7) HE)
def Hx:g4:=(e5 (o3 4 (j5 Y1 (a9 (a7 0) (a9 (a7 1) (a9 (a7 2) i4))))) Jv)
def Kk:g4:=(e5 (o3 3 (j5 Y1 (a9 (a7 0) (a9 (uC (.int 0)) (a9 (a7 2) i4))))) Hx)
def pJ:g4:=(o3 4 (nY [none,some 2,some 3] (fh (a7 1)) (g1 0) R6 (l7 G2 (e6 (a7 1) (l7 iA (l7 o9 (a7 2) (a7 0)) (uC (.int 26)))) (l7 o9 (uC (.int 1)) (l7 Jh (a7 0) (uC (.int 26)))))))
def qQ:g4:=(W7 (fM 4 (mP (l7 o9 (Er (uC (.str "")) (nY [none,some 2] (C8 (a7 11)) (g1 0) R6 (w8 (e6 (a7 1) (a7 0))))) (l7 G2 (e6 (a7 2) (a7 3)) (l7 G2 (a7 9) (l7 iA (a7 10) (uC (.int 2)))))))))
def pI:g4:=(e5 (yF 11 (mP (l7 iA (l7 o9 (e6 (a7 6) (a7 8)) (l7 Jh (a7 10) (uC (.int 26)))) (uC (.int 26)))) (mP (a7 8))) qQ)
def pA:g4:=(e5 (yF 11 (mP (l7 iA (l7 o9 (e6 (a7 6) (a7 7)) (a7 10)) (uC (.int 26)))) (mP (a7 7))) pI)
def pL:g4:=(e5 (o3 11 (Z4 JO (a9 (a7 6) i4))) pA)
def pd:g4:=(P0 (iP (fh (a7 1))) (g1 10) pL)
def rg:g4:=(e5 (o3 4 (U4 i4)) pd)
def rb:g4:=(e5 (G4 9 (aN G2 (t9 0 p6 (i8 (mP (uC (.int 2))) x6)) (mP (Z4 rM (a9 (l7 QP (a7 5) (uC (.int 8))) i4))))) rg)
def pP:g4:=(e5 (G4 8 (aN iA (aN o9 (mP (l7 o9 (a7 7) (uC (.int 1)))) (t9 0 p6 (i8 (mP (l7 T1 (a7 5) (uC (.int 1)))) x6))) (mP (a7 5)))) rb)
def ou:g4:=(e5 (G4 7 (t9 0 p6 (i8 (mP (a7 5)) x6))) pP)
def sk:g4:=(e5 (G4 6 (SR 1 0 [none,some 0] (iP (fh (a7 5))) (g1 0) OJ (t9 1 p6 (i8 (mP (uC (.int 26))) x6)))) ou)
def sE:g4:=(e5 (G4 5 (aN o9 (mP (uC (.int 2))) (t9 0 p6 (i8 (mP (uC (.int 7))) x6)))) sk)
def pZ:g4:=(yF 4 (mP (w8 (a7 12))) (t9 0 p6 (i8 (mP (a7 1)) x6)))
def FD:g4:=(w5 (a7 4))
def rT:g4:=(e5 (dt (tP (oq (uT (l7 (bR true) (a7 12) (uC (.str "")))) (uT (l7 (oE true) (a7 12) (a7 4))))) pZ B7) FD)
def su:g4:=(e5 (G4 12 (vR (jQ (mP (U4 (a9 (uC (.str "guard")) (a9 (uC (.str "load")) (a9 (uC (.str "on")) (a9 (uC (.str "off")) (a9 (uC (.str "board")) (a9 (uC (.str "map")) (a9 (uC (.str "least")) (a9 (uC (.str "")) (a9 (uC (.str "")) (a9 (uC (.str "")) (a9 (uC (.str "")) i4))))))))))))) (t9 0 p6 (i8 (mP (uC (.int 11))) x6))))) rT)
def AV:g4:=(e5 (dt (mT (aN (bR false) (t9 0 p6 (i8 (mP (uC (.int 5))) x6)) (mP (uC (.int 0))))) pJ sE) su)
def BC:g4:=(e5 (G4 3 (t9 0 p6 (i8 (mP (uC (.int 26))) x6))) AV)
def Eh:g4:=(e5 (o3 2 (uC (.str "abcdefghijklmnopqrstuvwxyz"))) BC)
def fe:g4:=(bN 1 (mP (NR (l7 FI (U4 (a9 (w8 (e6 (a7 2) (uC (.int 0)))) i4)) (ju (a7 1) (e6 (a7 2) (uC (.int 1))) (NR (U4 i4)))))) (mP (e6 (a7 2) (uC (.int 0)))))
def fu:g4:=(bN 1 (mP (w8 (e6 (a7 1) (e6 (a7 3) (uC (.int 1)))))) (mP (e6 (a7 3) (uC (.int 0)))))
def BK:g4:=(w5 (a7 1))
def pf:g4:=(e5 (P0 (iP (C8 (e6 (a7 0) (uC (.int 1))))) (g1 3) fu) BK)
def BZ:g4:=(e5 (P0 (iP (C8 (e6 (a7 0) (uC (.int 0))))) (g1 2) fe) pf)
def DU:g4:=(e5 (o3 1 (uC (.dic []))) BZ)
def jV:g4:=(W7 (fM 5 (aN o9 (mP (l7 o9 (e6 (a7 5) (Ob yk (uC (.int 1)))) (uC (.int 1)))) (t9 0 p6 (i8 (mP (uC (.int 3))) x6)))))
def jT:g4:=(e5 (W7 (fM 4 (aN o9 (mP (l7 o9 (e6 (a7 4) (Ob yk (uC (.int 1)))) (uC (.int 1)))) (t9 0 p6 (i8 (mP (uC (.int 9))) x6))))) jV)
def gO:g4:=(w5 (Z4 bQ (a9 (nY [none,some 1,some 2,some 4,some 5,some 3] (fh (a7 3)) (g1 0) R6 (bo (a9 (l7 G2 (e6 (a7 3) (a7 0)) (a7 1)) (a9 (l7 G2 (e6 (a7 4) (l7 T1 (l7 T1 (a7 5) (uC (.int 1))) (a7 0))) (a7 2)) i4)))) i4)))
def uj:g4:=(e5 (P0 (iP (fh (l7 T1 (a7 3) (uC (.int 1))))) (g1 6) jT) gO)
def tY:g4:=(e5 (G4 5 (Ig (i8 (aN o9 (mP (uC (.int 1))) (t9 0 p6 (i8 (mP (uC (.int 3))) x6))) x6))) uj)
def vj:g4:=(e5 (G4 4 (Ig (i8 (aN o9 (mP (uC (.int 1))) (t9 0 p6 (i8 (mP (uC (.int 10))) x6))) x6))) tY)
def qD:g4:=(e5 (G4 3 (aN o9 (mP (uC (.int 1))) (t9 0 p6 (i8 (mP (uC (.int 5))) x6)))) vj)
def wW:g4:=(w5 (l7 o9 (l7 o9 (ER (a7 0) rl (cO (uC (.int 2)))) (bo (a9 (Z4 bQ (a9 (nY [none,some 1] (C8 (e6 (a7 0) (uC (.int 2)))) (g1 0) R6 (bo (a9 (l7 o9 (e6 (a7 0) (uC (.int 0))) (a7 1)) (a9 (w8 (e6 (a7 0) (uC (.int 1)))) i4)))) i4)) i4))) (ER (a7 0) (cO (uC (.int 3))) rl)))
def oN:g4:=(bN 2 (mP (l7 o9 (e6 (a7 2) (a7 4)) (l7 G2 (e6 (a7 3) (uC (.int 3))) (Z4 rM (a9 (e6 (a7 3) (uC (.int 4))) i4))))) (mP (a7 4)))
def fA:g4:=(P0 (iP (C8 (e6 (a7 1) (e6 (a7 3) (uC (.int 0)))))) (g1 4) oN)
def AZ:g4:=(w5 (a7 2))
def pz:g4:=(e5 (P0 (iP (C8 (e6 (a7 0) (uC (.int 1))))) (g1 3) fA) AZ)
def DL:g4:=(e5 (o3 2 (Z4 tu (a9 (nY [none] (C8 (e6 (a7 0) (uC (.int 0)))) (g1 0) R6 (bo (a9 (w8 (e6 (a7 0) (uC (.int 0)))) (a9 (uC (.int 0)) i4)))) i4))) pz)
def BI:g4:=(e5 (o3 1 (j5 aH (a9 (a7 0) i4))) DL)
def ib:g4:=(W7 (fM 4 (Hv (i8 (mP (w8 (e6 (a7 1) (a7 5)))) (i8 (mP (e6 (l7 o9 (U4 (a9 (uC .l3) i4)) (a7 1)) (a7 7))) (i8 (mP (w8 (a7 8))) (i8 (mP (w8 (a7 9))) (i8 (aN G2 (t9 6 p6 (i8 (mP (uC (.int 3))) x6)) (mP (a7 3))) x6))))))))
def gH:g4:=(e5 (G4 9 (aN G2 (t9 6 p6 (i8 (mP (uC (.int 4))) x6)) (mP (a7 3)))) ib)
def gK:g4:=(e5 (G4 8 (t9 6 R5 (i8 (mP (a7 2)) (i8 (mP (a7 3)) x6)))) gH)
def jb:g4:=(e5 (G4 7 (vR (jQ (Ig (i8 (t9 6 p6 (i8 (mP (l7 o9 (a7 5) (uC (.int 1)))) x6)) (i8 (mP (w8 (a7 5))) x6))) (Qe rM (i8 (aN MW (t9 6 p6 (i8 (mP (uC (.int 3))) x6)) (mP (uC (.int 0)))) x6))))) gK)
def je:g4:=(e5 (o3 6 (j5 Z9 (a9 (a7 0) (a9 (l7 o9 (uC (.int 2)) (a7 5)) i4)))) jb)
def pU:g4:=(w5 (a7 4))
def rE:g4:=(e5 (P0 (iP (fh (Z4 cX (a9 (a7 1) i4)))) (g1 5) je) pU)
def kE:g4:=(e5 (o3 4 (U4 i4)) rE)
def jE:g4:=(W7 (fM 9 (Hv (i8 (aN G2 (aN o9 (mP (uC (.int 1))) (t9 7 p6 (i8 (mP (uC (.int 3))) x6))) (mP (a7 4))) (i8 (aN G2 (t9 7 p6 (i8 (mP (uC (.int 12))) x6)) (mP (a7 3))) x6)))))
def ka:g4:=(W7 (fM 5 (Hv (i8 (mP (w8 (e6 (a7 1) (a7 6)))) (i8 (mP (w8 (a7 8))) (i8 (mP (Z4 bQ (a9 (a7 9) i4))) (i8 (aN G2 (t9 7 p6 (i8 (mP (uC (.int 4))) x6)) (mP (a7 3))) (i8 (aN MW (t9 7 p6 (i8 (mP (uC (.int 4))) x6)) (mP (uC (.int 0)))) x6))))))))
def jL:g4:=(e5 (P0 (Pg (t9 7 p6 (i8 (mP (uC (.int 5))) x6))) (g1 10) jE) ka)
def jB:g4:=(e5 (o3 9 (U4 i4)) jL)
def jX:g4:=(e5 (G4 8 (vR (jQ (jQ (mP (a7 2)) (t9 7 p6 (i8 (mP (Z4 cX (a9 (a7 2) i4))) x6))) (mP (uC (.int 0)))))) jB)
def jK:g4:=(e5 (o3 7 (j5 Z9 (a9 (a7 0) (a9 (l7 o9 (uC (.int 10)) (a7 6)) i4)))) jX)
def wx:g4:=(w5 (a7 5))
def vz:g4:=(e5 (P0 (iP (fh (Z4 cX (a9 (a7 1) i4)))) (g1 6) jK) wx)
def pX:g4:=(e5 (o3 5 (U4 i4)) vz)
def jD:g4:=(o3 6 (nY [none,some 8] (C8 (a7 6)) (g1 0) R6 (j5 T5 (a9 (a7 0) (a9 (e6 (a7 1) (e6 (a7 0) (uC (.int 0)))) i4)))))
def jv:g4:=(w5 (bo (a9 (Z4 bQ (a9 (a7 6) i4)) (a9 (Z4 bQ (a9 (a7 7) i4)) i4))))
def tV:g4:=(e5 (dt (mT (aN MW (t9 3 p6 (i8 (mP (uC (.int 8))) x6)) (mP (uC (.int 0))))) jD B7) jv)
def uZ:g4:=(e5 (o3 8 (j5 U5 (a9 (bo (a9 (a7 6) (a9 (a7 7) i4))) i4))) tV)
def wg:g4:=(e5 (o3 7 (j5 R8 (a9 (a7 0) (a9 (ER (a7 5) (cO (a7 4)) rl) (a9 (a7 6) (a9 (a7 1) (a9 (a7 2) i4))))))) uZ)
def sQ:g4:=(e5 (o3 6 (j5 M8 (a9 (a7 0) (a9 (ER (a7 5) rl (cO (a7 4))) (a9 (a7 1) (a9 (a7 2) i4)))))) wg)
def vS:g4:=(e5 (G4 5 (Ed bC (mP (j5 Z9 (a9 (a7 0) (a9 (uC (.int 1)) i4)))) (i8 (aN o9 (mP (a7 4)) (t9 3 p6 (i8 (mP (uC (.int 9))) x6))) x6))) sQ)
def uw:g4:=(e5 (G4 4 (aN o9 (mP (uC (.int 1))) (t9 3 p6 (i8 (mP (uC (.int 8))) x6)))) vS)
def qB:g4:=(e5 (o3 3 (j5 Z9 (a9 (a7 0) (a9 (uC (.int 0)) i4)))) uw)
def Fb:g4:=(w5 (bo (a9 (j5 Q4 (a9 (a7 0) (a9 (a7 2) (a9 (a7 3) i4)))) (a9 (w8 (a7 2)) i4))))
def DW:g4:=(e5 (G4 3 (vR (jQ (mP (U4 (a9 (uC (.int 1)) (a9 (uC (.int 1)) (a9 (uC (.int 5)) (a9 (l7 Iv (uC (.int 10)) (uC (.int 40))) i4)))))) (t9 1 p6 (i8 (mP (uC (.int 4))) x6))))) Fb)
def Dv:g4:=(e5 (G4 2 (vR (jQ (mP (U4 (a9 (uC (.int 1)) (a9 (uC (.int 1)) (a9 (uC (.int 7)) (a9 (l7 o9 (l7 Iv (uC (.int 10)) (uC (.int 50))) (uC (.int 3))) i4)))))) (t9 1 p6 (i8 (mP (uC (.int 4))) x6))))) DW)
def Fs:g4:=(e5 (o3 1 (j5 Z9 (a9 (a7 0) (a9 (uC (.int 18)) i4)))) Dv)
def wk(r:Gd×Int):Int:=lo r.1.cv-r.2
def S5:Cp:=λc Q=>∃(b:Bd) (u t:Int),c=[bD b]/\j7 b/\QW b u t/\U3 u t/\∀a:Bd,j7 a->a.gs.length<=8->Q (bD a)
def gS:Cp:=λe Q=>∃(d:D) (ns:WJ),e=[d]/\Ht d ns/\∀(b:Bd) (m c g a:Int),j7 b->b.gs.length<=8->1<=m->m<=10^60->0<=a->a<=10^5->Q (.tup [bD b,.int m,feed c g a])
def jA:g4:=(Bp 2 (mP (Z4 (OM λi j=>if j>i then j else i) (a9 (vo (a7 2) (e6 (a7 4) (uC (.int 1))) (uC (.int 0))) (a9 (a7 6) i4)))) (mP (e6 (a7 4) (uC (.int 1)))))
def jU:g4:=(e5 (W7 (fM 3 (mP (j5 T5 (a9 (a7 4) (a9 (l7 T1 (a7 6) (a7 5)) i4)))))) jA)
def jz:g4:=(e5 (o3 6 (Z4 (OM λi j=>if j>i then j else i) (a9 (vo (a7 2) (e6 (a7 4) (uC (.int 0))) (uC (.int 0))) (a9 (a7 5) i4)))) jU)
def jZ:g4:=(e5 (o3 5 (l7 T1 (e6 (e6 (e6 (a7 4) (uC (.int 2))) (uC (.int 0))) (uC (.int 0))) (e6 (a7 1) (e6 (a7 4) (uC (.int 0)))))) jz)
def uu:g4:=(w5 (bo (a9 (Z4 bQ (a9 (Kq (a7 3) (cO (Ob yk (uC (.int 1))))) i4)) (a9 (w8 (e6 (a7 0) (uC (.int 1)))) i4))))
def uK:g4:=(e5 (P0 (iP (C8 (CG (e6 (a7 0) (uC (.int 0))) (cO (Ob yk (uC (.int 1))))))) (g1 4) jZ) uu)
def sJ:g4:=(e5 (o3 3 (U4 i4)) uK)
def uG:g4:=(e5 (o3 2 (uC (.dn []))) sJ)
def pT:g4:=(e5 (o3 1 (j5 U5 (a9 (a7 0) i4))) uG)
def uQ:g4:=(o3 1 (j5 S5 (a9 (a7 1) i4)))
def IB:g4:=(JK 3 (mP (w8 (a7 1))) (t9 3 ip (i8 (JZ fw (i8 (mP (a7 1)) (i8 (jQ (mP (a7 4)) (t9 3 p6 (i8 (mP (Z4 cX (a9 (a7 4) i4))) x6))) x6))) (i8 (mP (a7 2)) x6))))
def xr:g4:=(e5 (o3 4 (j5 X5 (a9 (a7 1) i4))) IB)
def GO:g4:=(e5 (dt (mT (aN MW (t9 3 p6 (i8 (mP (uC (.int 4))) x6)) (mP (uC (.int 0))))) uQ B7) xr)
def Ho:g4:=(e5 (o3 3 (j5 Z9 (a9 (a7 0) (a9 (uC (.int 19)) i4)))) GO)
def Kj:g4:=(e5 (Il (gT (u4 (g1 1) (u4 (g1 2) T8))) (j5 bM (a9 (a7 0) i4))) Ho)
end My
namespace My
open PySem L2 L3
def nT:g4:=(o3 6 (bo (a9 (w8 (e6 (a7 3) (uC (.int 0)))) (a9 (w8 (e6 (e6 (e6 (a7 4) (a7 5)) (uC (.int 0))) (uC (.int 0)))) (a9 (w8 (a7 8)) (a9 (w8 (a7 7)) i4))))))
def nh:g4:=(dt (tP (oq (uT (l7 (S6 true) (a7 8) (uC .l3))) (Qb (uT (l7 (S6 false) (a7 6) (uC .l3))) (uT (l7 QP (e6 (a7 6) (uC (.int 2))) (a7 8)))))) nT B7)
def oa:g4:=(e5 (o3 8 (j5 iw (a9 (a7 4) (a9 (a7 5) (a9 (a7 7) i4))))) nh)
def nM:g4:=(W7 (fM 2 (mP (w8 (a7 6)))))
def cz:g4:=(dt (tP (uT (l7 (S6 true) (a7 6) (uC .l3)))) nM B7)
def mU:g4:=(e5 (P0 (iP (C8 (j5 bS (a9 (a7 4) (a9 (a7 1) i4))))) (g1 7) oa) cz)
def nJ:g4:=(e5 (o3 6 (uC .l3)) mU)
def lX:g4:=(P0 (iP (AR (a9 (uC (.int 1)) (a9 (Z4 cX (a9 (a7 4) i4)) i4)))) (g1 5) nJ)
def lZ:g4:=(e5 (o3 4 (j5 fw (a9 (a7 0) (a9 (e6 (a7 3) (uC (.int 0))) i4)))) lX)
def yX:g4:=(w5 (a7 2))
def zm:g4:=(e5 (P0 (iP (C8 (e6 (a7 0) (uC (.int 0))))) (g1 3) lZ) yX)
def wI:g4:=(e5 (o3 2 (U4 i4)) zm)
def oz:g4:=(w5 (uC (.bl true)))
def rL:g4:=(w5 (uC (.bl false)))
def EW:g4:=(w5 (l7 (bR false) (Z4 qo (a9 (j5 O3 (a9 (a7 1) (a9 (a7 2) i4))) i4)) (a7 4)))
def Bg:g4:=(e5 (W7 (Qi 5)) EW)
def Ck:g4:=(e5 (dt (tP (uT (l7 (bR true) (Z4 qo (a9 (a7 5) i4)) (a7 4)))) rL B7) Bg)
def BX:g4:=(e5 (o3 5 (j5 O3 (a9 (a7 1) (a9 (a7 2) i4)))) Ck)
def Bq:g4:=(e5 (o3 4 (Z4 qo (a9 (j5 Y6 (a9 (a7 1) (a9 (a7 2) i4))) i4))) BX)
def BL:g4:=(e5 (dt (tP (uT (l7 (S6 true) (j5 bG (a9 (a7 1) i4)) (uC .l3)))) oz B7) Bq)
def Bc:g4:=(e5 (Il (gT (u4 (g1 1) (u4 (g1 2) (u4 (g1 3) T8)))) (j5 gS (a9 (a7 0) i4))) BL)
def top(i:Nat):Stmt:=PySem.Challenge.pw_fuseboard_k48_pairs_reckoned.main.body.getD i (.Pass ⟨0,0,0,0⟩)
abbrev jh:Stmt:=top 1
abbrev Ih:Stmt:=top 2
abbrev ic:Stmt:=top 3
abbrev dg:Stmt:=top 9
abbrev eQ:Stmt:=top 10
abbrev iM:Stmt:=top 11
abbrev eM:Stmt:=top 12
abbrev iE:Stmt:=top 13
abbrev eL:Stmt:=top 14
abbrev mY:Stmt:=top 15
abbrev xq:Stmt:=top 16
abbrev bP:Stmt:=top 18
abbrev aW:Stmt:=top 20
abbrev vM:Stmt:=top 19
abbrev xp:Stmt:=top 21
abbrev oj:Stmt:=top 22
abbrev uo:Stmt:=top 23
abbrev bZ:Stmt:=top 24
abbrev eP:Stmt:=top 26
abbrev dq:Stmt:=top 27
abbrev jf:Stmt:=top 28
abbrev U7:Stmt:=top 31
abbrev gW:Stmt:=top 30
abbrev om:Stmt:=top 33
abbrev Di:Stmt:=top 34
abbrev FG:Stmt:=top 35
abbrev eF:Stmt:=top 36
abbrev uV:Stmt:=top 37
abbrev df:Stmt:=top 38
abbrev fS:Stmt:=top 39
abbrev og:Stmt:=top 40
abbrev dI:Stmt:=top 41
abbrev iJ:Stmt:=top 42
abbrev cE:Stmt:=top 43
abbrev qe:Stmt:=top 44
abbrev sN:Stmt:=top 46
abbrev sV:Stmt:=top 47
abbrev cG:Stmt:=top 48
abbrev tS:Stmt:=top 49
abbrev CB:Stmt:=top 50
abbrev iq:Stmt:=top 51
abbrev DE:Stmt:=top 52
abbrev nD:Stmt:=top 53
abbrev Ff:Stmt:=top 54
abbrev nQ:Stmt:=top 55
abbrev Y8:Stmt:=top 56
abbrev Pe:=HP "met" 1 ["curve","draw"] vI
abbrev iz:=HP "names_of" 1 ["rows"] O5
abbrev dU:=HP "guards_of" 2 ["board"] J7
abbrev rV:=HP "loads_of" 2 ["board"] S0
abbrev lB:=HP "has_guard" 3 ["board","thing"] M9
abbrev qV:=HP "has_load" 3 ["board","thing"] R7
abbrev lu:=HP "has_place" 4 ["board","thing"] M4
abbrev EX:=HP "climb" 1 ["guards","name"] cm
abbrev iT:=HP "fed_guards" 1 ["board","opened"] J3
abbrev kB:=HP "draws_fed" 1 ["board","lit","pulls"] N4
abbrev AX:=HP "draws" 2 ["board","opened","pulls"] bX
abbrev pF:=HP "least_of" 1 ["curve"] Q3
abbrev Fv:=HP "rest" 3 ["board"] eU
abbrev DR:=HP "awake" 2 ["board","found"] cp
abbrev DF:=HP "loud" 4 ["board"] bJ
abbrev hW:=HP "quiet_rest" 5 ["board"] J4
abbrev si:=HP "turns_at" 2 ["curve","draw"] S4
abbrev ya:=HP "lows_of" 1 ["way","most"] Y5
abbrev qM:=HP "spans_of" 3 ["way","greatness"] Q7
abbrev Cr:=HP "way_of" 6 ["board","place"] bE
abbrev bw:=HP "greatest_lack" 4 ["way","at","most"] A8
abbrev xT:=HP "_law_cell_at" 1 ["_law_script","_law_k"] X9
abbrev cW:=HM "_law_take" 1 ["_law_feed_here","_law_many"] p6
abbrev vV:=HP "_law_overs" 1 ["_law_board"] aH
abbrev kT:=HP "_law_feed" 2 ["_law_script","_law_k"] Z9
abbrev oW:=HM "_law_small_curve" 2 ["_law_feed_here","_law_unit","_law_time"] R5
abbrev CA:=HM "_law_names" 2 ["_law_feed_here","_law_many"] bC
abbrev oi:=HP "_law_lifted" 1 ["_law_guard","_law_more"] T5
abbrev hV:=HP "_law_rest" 2 ["_law_board"] U5
abbrev km:=HP "_law_small_guards" 3 ["_law_script","_law_names_here","_law_unit","_law_time"] M8
abbrev qi:=HP "_law_small_loads" 3 ["_law_script","_law_names_here","_law_guards","_law_unit","_law_time"] R8
abbrev rH:=HP "_law_small_board" 4 ["_law_script","_law_unit","_law_time"] Q4
abbrev Fx:=HP "_law_path" 3 ["_law_board","_law_place"] fw
abbrev wC:=HP "_law_places" 1 ["_law_board"] X5
abbrev DX:=HP "_law_sized" 5 ["_law_script"] bM
abbrev Ky:=HM "_law_most" 2 ["_law_feed_here","_law_path_here","_law_unit"] ip
abbrev oF:=HP "_law_sighted" 3 ["_law_board"] S5
abbrev Dg:=HP "_law_turns" 1 ["_law_path_here","_law_at","_law_greatness"] Y1
abbrev CD:=HP "_law_lows" 1 ["_law_path_here","_law_most_here"] bS
abbrev Kp:=HP "_law_lack" 2 ["_law_path_here","_law_at","_law_greatness"] iw
abbrev qX:=HP "pairs_of" 7 ["board","most"] O3
abbrev AE:=HP "_law_loud" 3 ["_law_board"] bG
abbrev Kz:=HP "_law_case" 6 ["_law_script"] gS
abbrev xM:=HP "_law_pairs" 4 ["_law_board","_law_most_here"] Y6
section
variable{P:Program}{w:World}{K:WR}{mg:WM}{base:Heap}
local macro_rules | `(tactic| walk_at "s") => `(tactic| exact ⟨rfl,rfl,rfl,by decide +kernel,rfl,by decide +kernel,by decide +kernel⟩)
theorem yv:i3 ["curve"] ["curve"] (c6 jh):=by walk_at "s"
theorem yK (F:M0 K "least_of" "least_of" jh f c)
  (len:B8 Q3 1) (b:W6 Q3 oP 1):p3 P w K mg base M1 1 f c ["curve"] (Q0 K Q3):=
 W9 (cl:=[.bor]) F yv rfl len (λd A outer e H E a=>(P1 rfl (o8 (PU.u9 (l4 a (l4 a (uv 0 rfl) a6) a6)) rfl))) b
theorem OA:i3 ["curve","draw"] ["curve","draw"] (c6 Ih):=by walk_at "s"
theorem KW:(["step","draw"]:WG).Nodup:=by decide +kernel
theorem Qp (F:M0 K "met" "met" Ih f d) (a:mg "len"=none)
  (len:B8 vI 2) (b:W6 vI Pc 2):p3 P w K mg base M1 1 f d ["curve","draw"] (Q0 K vI):=
 W9 (cl:=[.bor,.bor]) F OA rfl len (λe A outer g H E c=>(P1 rfl (o8 (p8 C6 aa (by rfl) a Fk (a8 (T9 (XN:=["curve","draw"]) (N:=["step","draw"]) (XS:=c6 Ih) (cap:=[none,some 1]) (by decide +kernel) rfl rfl rfl rfl (n9 (uv 0 rfl)) (λ_ _ _ _=>(gn 0 KW)) (λ_ _ _ _=>(dW (mD (l4 c (uv 0 rfl) a6) (uv 1 rfl) (j6 _)))) (λ_ _ _ _=>(PU.u9 (uv 0 rfl)))) c8 rfl)) rfl))) b
theorem kZ:i3 ["curve","draw","many"] ["curve","draw"] (c6 ic):=by walk_at "s"
theorem zU (F:M0 K "turns_at" "turns_at" ic f g) (a:Pe P w K mg base d c)
  (len:B8 S4 2) (e:W6 S4 rJ 3):p3 P w K mg base M1 2 f g ["curve","draw"] (Q0 K S4):=
 W9 (cl:=[.bor,.bor,.bor]) F kZ rfl len (λh A outer i H E b=>(yd rfl (ss 2 kZ.nd (pc a b (a8 (uv 0 rfl) (a8 (uv 1 rfl) c8 rfl) rfl) rfl) rfl)
   (L9 (P5.m (gQ b (uv 2 rfl) a6 (j6 _))) (P1 rfl (o8 x5 rfl)) C1)
   (o8 (PU.u9 (l4 b (l4 b (uv 0 rfl) (D8 (uv 2 rfl) a6)) a6)) rfl))) e
theorem Ah:i3 ["rows"] ["rows"] (c6 dg):=by walk_at "s"
theorem vQ:(["row"]:WG).Nodup:=by decide +kernel
theorem yQ (F:M0 K "names_of" "names_of" dg f c)
  (len:B8 O5 1) (a:W6 O5 oG 1):p3 P w K mg base M1 1 f c ["rows"] (Q0 K O5):=
 W9 (cl:=[.bor]) F Ah rfl len (λd A outer e H E b=>(P1 rfl (o8 (T9 (XN:=["rows"]) (N:=["row"]) (XS:=c6 dg) (cap:=[none]) (by decide +kernel) rfl rfl rfl rfl (n9 (uv 0 rfl)) (λ_ _ _ _=>(gn 0 vQ)) (λ_ _ _ _=>D0) (λ_ _ _ _=>(PU.u9 (l4 b (uv 0 rfl) a6)))) rfl))) a
theorem vC:i3 ["board"] ["board"] (c6 eQ):=by walk_at "s"
theorem sL (F:M0 K "guards_of" "guards_of" eQ f g) (a:iz P w K mg base c b)
  (len:B8 J7 1) (e:W6 J7 lU 1):p3 P w K mg base M1 2 f g ["board"] (Q0 K J7):=
 W9 (cl:=[.bor]) F vC rfl len (λh A outer i H E d=>(P1 rfl (o8 (pc a d (a8 (l4 d (uv 0 rfl) a6) c8 rfl) rfl) rfl))) e
theorem yI:i3 ["board"] ["board"] (c6 iM):=by walk_at "s"
theorem yM (F:M0 K "loads_of" "loads_of" iM f g) (a:iz P w K mg base c b)
  (len:B8 S0 1) (e:W6 S0 pO 1):p3 P w K mg base M1 2 f g ["board"] (Q0 K S0):=
 W9 (cl:=[.bor]) F yI rfl len (λh A outer i H E d=>(P1 rfl (o8 (pc a d (a8 (l4 d (uv 0 rfl) a6) c8 rfl) rfl) rfl))) e
theorem wb:i3 ["board","thing"] ["board","thing"] (c6 eM):=by walk_at "s"
theorem wq (F:M0 K "has_guard" "has_guard" eM f i) (b:dU P w K mg base d c) (a:mg "isinstance"=none) (e:mg "str"=none)
  (len:B8 M9 2) (h:W6 M9 lA 2):p3 P w K mg base M1 3 f i ["board","thing"] (Q0 K M9):=
 W9 (cl:=[.bor,.bor]) F wb rfl len (λj A outer l H E g=>(P1 rfl (o8 (vT (p8 fg JT (by rfl) a VP (a8 (uv 1 rfl) (a8 (JH (xg (v:=.ty "str") rfl e PyProof.Rows.boot_str rfl)) c8 rfl) rfl)) (jo (Dn (B9 g) (uv 1 rfl) (pc b g (a8 (uv 0 rfl) c8 rfl) rfl) rfl))) rfl))) h
theorem yE:i3 ["board","thing"] ["board","thing"] (c6 iE):=by walk_at "s"
theorem Aa (F:M0 K "has_load" "has_load" iE f i) (b:rV P w K mg base d c) (a:mg "isinstance"=none) (e:mg "str"=none)
  (len:B8 R7 2) (h:W6 R7 sy 2):p3 P w K mg base M1 3 f i ["board","thing"] (Q0 K R7):=
 W9 (cl:=[.bor,.bor]) F yE rfl len (λj A outer l H E g=>(P1 rfl (o8 (vT (p8 fg JT (by rfl) a VP (a8 (uv 1 rfl) (a8 (JH (xg (v:=.ty "str") rfl e PyProof.Rows.boot_str rfl)) c8 rfl) rfl)) (jo (Dn (B9 g) (uv 1 rfl) (pc b g (a8 (uv 0 rfl) c8 rfl) rfl) rfl))) rfl))) h
theorem vm:i3 ["board","thing"] ["board","thing"] (c6 eL):=by walk_at "s"
theorem tM (F:M0 K "has_place" "has_place" eL f j) (a:lB P w K mg base e c) (b:qV P w K mg base g d)
  (len:B8 M4 2) (i:W6 M4 kY 2):p3 P w K mg base M1 4 f j ["board","thing"] (Q0 K M4):=
 W9 (cl:=[.bor,.bor]) F vm rfl len (λl A outer o H E h=>(P1 rfl (o8 (JP (pc a h (a8 (uv 0 rfl) (a8 (uv 1 rfl) c8 rfl) rfl) rfl) (jo (pc b h (a8 (uv 0 rfl) (a8 (uv 1 rfl) c8 rfl) rfl) rfl))) rfl))) i
abbrev xk:WG:=["guards","name","unders","guard","found"]
theorem gr:i3 xk ["guards","name"] (c6 mY):=by walk_at "s"
theorem Ep:(["guard"]:WG).Nodup:=by decide +kernel
theorem HU (F:M0 K "climb" "climb" mY f d)
  (len:B8 cm 2) (b:W6 cm BN 5):p3 P w K mg base M1 1 f d ["guards","name"] (Q0 K cm):=
 W9 (cl:=[.bor,.bor,.bor,.bor,.own]) F gr rfl len (λe A outer g H E a=>(FQ rfl (lY (i:=2) (XN:=xk) (N:=["guard"]) (XS:=c6 mY) (cap:=[none]) gr.nd rfl rfl rfl (by decide +kernel) rfl rfl rfl rfl (n9 (uv 0 rfl)) (λ_ _ _ _=>(gn 0 Ep)) (λ_ _ _ _=>D0) (λ_ _ _ _=>(l4 a (uv 0 rfl) a6)) (λ_ _ _ _=>(l4 a (uv 0 rfl) a6)))
   (ss 4 gr.nd (B3 o7 rfl) rfl)
   (Hs vc (P5.m (C5 (uv 1 rfl) x5 (j6 _))) (wM rfl (O7 (PM.n (B4 (r:=E8) 4 (pv 4) rfl (PU.m (PU.u9 (uv 1 rfl))) rfl (λc=>Z3 v8 PySem.F.slot_list_append PySem.F.type_list_append y4 (pv 4) c))))
   (ss 1 gr.nd (l4 a (uv 2 rfl) (uv 1 rfl)) rfl)))
   (R3 4 (pv 4) (by decide) rfl))) b
theorem Dq:i3 ["board","place","ats","load"] ["board","place"] (c6 xq):=by walk_at "s"
theorem IE:(["load"]:WG).Nodup:=by decide +kernel
theorem KY (F:M0 K "over" "over" xq f r) (b:lu P w K mg base h e) (d:EX P w K mg base o l) {c:Addr} (a:PyProof.Rows.OwnCls "NoPlace" c [.type "ValueError",.type "Exception",.type "BaseException",.type "object"] "ValueError.__new__" mg base)
  (len:∀ds Q W,fm ds Q W->ds.length=2) (q:∀ds Q W,fm ds Q W->JU W (EP Q) (g9 4 ds)):p3 P w K mg base (KL P w) 5 f r ["board","place"] (OS K mg fm):=
 fnX (cl:=[.bor,.bor,.bor,.bor]) F Dq rfl len (λW u A outer v H E g p=>(yd rfl (L9 (P5.m (mQ (V3 (pc b g (a8 (uv 0 rfl) (a8 (uv 1 rfl) c8 rfl) rfl) rfl) (λ_=>rfl)))) (P1 rfl (GQ (j:=4) a VZ rfl VZ rfl yU p rfl (by rfl) (a8 J6 c8 rfl) rfl)) C1)
   (lY (i:=2) (XN:=["board","place","ats","load"]) (N:=["load"]) (XS:=c6 xq) (cap:=[none]) Dq.nd rfl rfl rfl (by decide +kernel) rfl rfl rfl rfl (n9 (l4 g (uv 0 rfl) a6)) (λ_ _ _ _=>(gn 0 IE)) (λ_ _ _ _=>D0) (λ_ _ _ _=>(l4 g (uv 0 rfl) a6)) (λ_ _ _ _=>(l4 g (uv 0 rfl) a6)))
   (o8 (pc d g (a8 (l4 g (uv 0 rfl) a6) (a8 (cB (B9 g) (uv 2 rfl) (uv 1 rfl) (uv 1 rfl) ⟨rfl,rfl,rfl,rfl⟩) c8 rfl) rfl) rfl) rfl))) q
theorem O2:i3 ["board","opened","apart","found","guard","name","under"] ["board","opened"] (c6 bP):=by walk_at "s"
theorem pM (F:M0 K "fed_guards" "fed_guards" bP f h) (d:mg "set"=none)
  (len:B8 J3 2) (g:W6 J3 jq 7):p3 P w K mg base M1 1 f h ["board","opened"] (Q0 K J3):=
 W9 (cl:=[.bor,.bor,.bor,.own,.bor,.bor,.bor]) F O2 rfl len (λl A outer o H E e=>(FQ rfl (ss 2 O2.nd (y7 (zx rfl) LO (by rfl) d PyProof.Rows.boot_set (a8 (uv 1 rfl) c8 rfl)) rfl)
   (ss 3 O2.nd xP rfl)
   (D2 (ak.m (n9 (l4 e (uv 0 rfl) a6)) rfl) (gn 4 O2.nd)
    (wM rfl (KI (i:=5) (j:=6) rfl O2.nd rfl rfl (by decide) rfl rfl (a8 (l4 e (uv 4 rfl) a6) (a8 (l4 e (uv 4 rfl) a6) c8 rfl) rfl) rfl rfl rfl)
   (eJ (B9 e) 3 (pv 3) rfl (PM.n (PU.m (PU.u9 (vT (yn (uv 5 rfl) (uv 2 rfl) rfl) (jo (JP (NK (uv 6 rfl) x5 (j6 _)) (jo (l4 e (uv 3 rfl) (uv 6 rfl))))))))) (PU.n (uv 5 rfl) rfl))) (λa b c=>y1 vc rfl a b c))
   (R3 3 (pv 3) (by decide) rfl))) g
abbrev gN:WG:=["board","lit","pulls","found","guard","load","name","under"]
theorem Q2:i3 gN ["board","lit","pulls"] (c6 aW):=by walk_at "s"
theorem oJ:(["guard","pulls"]:WG).Nodup:=by decide +kernel
theorem uz (F:M0 K "draws_fed" "draws_fed" aW f l) (e:mg "reversed"=none)
  (len:B8 N4 3) (g:W6 N4 ko 8):p3 P w K mg base M1 1 f l ["board","lit","pulls"] (Q0 K N4):=
 W9 (cl:=[.bor,.bor,.bor,.own,.bor,.bor,.bor,.bor]) F Q2 rfl len (λo A outer p H E d=>(FQ rfl (lY (i:=3) (XN:=gN) (N:=["guard","pulls"]) (XS:=c6 aW) (cap:=[none,some 2]) Q2.nd rfl rfl rfl (by decide +kernel) rfl rfl rfl rfl (n9 (l4 d (uv 0 rfl) a6)) (λ_ _ _ _=>(gn 0 oJ)) (λ_ _ _ _=>D0) (λ_ _ _ _=>(l4 d (uv 0 rfl) a6)) (λ_ _ _ _=>(cB (B9 d) (uv 1 rfl) (l4 d (uv 0 rfl) a6) a6 ⟨rfl,rfl,rfl,rfl⟩)))
   (D2 (ak.m (n9 (l4 d (uv 0 rfl) a6)) rfl) (gn 5 Q2.nd)
    (P1 rfl (Ap (B9 d) 3 (pv 3) rfl (l4 d (uv 5 rfl) a6) (cB (B9 d) (uv 2 rfl) (l4 d (uv 5 rfl) a6) a6 ⟨rfl,rfl,rfl,rfl⟩))) (λa b c=>y1 vc rfl a b c))
   (D2 (ak.m (Jw (l4 d (uv 0 rfl) a6) rfl (λh=>Fp (by rfl) e h)) rfl) (gn 4 Q2.nd)
    (wM rfl (KI (i:=6) (j:=7) rfl Q2.nd rfl rfl (by decide) rfl rfl (a8 (l4 d (uv 4 rfl) a6) (a8 (l4 d (uv 4 rfl) a6) c8 rfl) rfl) rfl rfl rfl)
   (L9 (P5.m (mQ (V3 (l4 d (uv 1 rfl) (uv 6 rfl)) (λ_=>rfl)))) (P1 rfl (eJ (B9 d) 3 (pv 3) rfl (PU.n a6 rfl) (PU.n (uv 6 rfl) rfl))) (P1 rfl (L9 (P5.m (C5 (uv 7 rfl) x5 (j6 _))) (P1 rfl (Ap (B9 d) 3 (pv 3) rfl (uv 7 rfl) (l4 d (uv 3 rfl) (uv 6 rfl)))) C1)))) (λa b c=>y1 vc rfl a b c))
   (R3 3 (pv 3) (by decide) rfl))) g
theorem Iw:i3 ["board","opened","pulls"] ["board","opened","pulls"] (c6 vM):=by walk_at "s"
theorem Hu (F:M0 K "draws" "draws" vM f j) (a:iT P w K mg base e c) (b:kB P w K mg base g d)
  (len:B8 bX 3) (i:W6 bX DK 3):p3 P w K mg base M1 2 f j ["board","opened","pulls"] (Q0 K bX):=
 W9 (cl:=[.bor,.bor,.bor]) F Iw rfl len (λl A outer o H E h=>(P1 rfl (o8 (pc b h (a8 (uv 0 rfl) (a8 (pc a h (a8 (uv 0 rfl) (a8 (uv 1 rfl) c8 rfl) rfl) rfl) (a8 (uv 2 rfl) c8 rfl) rfl) rfl) rfl) rfl))) i
theorem Mk:i3 ["board","load"] ["board"] (c6 xp):=by walk_at "s"
theorem IY:(["load"]:WG).Nodup:=by decide +kernel
theorem MK (F:M0 K "rest" "rest" xp f g) (a:AX P w K mg base d c)
  (len:B8 eU 1) (e:W6 eU KA 2):p3 P w K mg base M1 3 f g ["board"] (Q0 K eU):=
 W9 (cl:=[.bor,.bor]) F Mk rfl len (λh A outer i H E b=>(P1 rfl (o8 (pc a b (a8 (uv 0 rfl) (a8 (B3 o7 rfl) (a8 (KG (XN:=["board","load"]) (N:=["load"]) (XS:=c6 xp) (cap:=[none]) (by decide +kernel) rfl rfl rfl rfl (n9 (l4 b (uv 0 rfl) a6)) (λ_ _ _ _=>(gn 0 IY)) (λ_ _ _ _=>(dW (V3 (l4 b (uv 0 rfl) a6) (λ_=>rfl)))) (λ_ _ _ _=>(l4 b (uv 0 rfl) a6)) (λ_ _ _ _=>(l4 b (uv 0 rfl) a6))) c8 rfl) rfl) rfl) rfl) rfl))) e
theorem HB:i3 ["board","found"] ["board","found"] (c6 oj):=by walk_at "s"
theorem CI:(["guard","found"]:WG).Nodup:=by decide +kernel
theorem Ia (F:M0 K "awake" "awake" oj f g) (a:pF P w K mg base d b)
  (len:B8 cp 2) (e:W6 cp CJ 2):p3 P w K mg base M1 2 f g ["board","found"] (Q0 K cp):=
 W9 (cl:=[.bor,.bor]) F HB rfl len (λh A outer i H E c=>(P1 rfl (o8 (T9 (XN:=["board","found"]) (N:=["guard","found"]) (XS:=c6 oj) (cap:=[none,some 1]) (by decide +kernel) rfl rfl rfl rfl (n9 (l4 c (uv 0 rfl) a6)) (λ_ _ _ _=>(gn 0 CI)) (λ_ _ _ _=>(dW (BO (l4 c (uv 1 rfl) (l4 c (uv 0 rfl) a6)) (pc a c (a8 (l4 c (uv 0 rfl) a6) c8 rfl) rfl) (j6 _)))) (λ_ _ _ _=>(PU.u9 (l4 c (uv 0 rfl) a6)))) rfl))) e
theorem xo:i3 ["board","names"] ["board"] (c6 uo):=by walk_at "s"
theorem Hb (F:M0 K "loud" "loud" uo f l) (b:Fv P w K mg base i d) (a:DR P w K mg base e c)
  (len:B8 bJ 1) (j:W6 bJ Ba 2):p3 P w K mg base M1 4 f l ["board"] (Q0 K bJ):=
 W9 (cl:=[.bor,.bor]) F xo rfl len (λo A outer p H E h=>(wM rfl (ss 1 xo.nd (pc a h (a8 (uv 0 rfl) (a8 (pc b h (a8 (uv 0 rfl) c8 rfl) rfl) c8 rfl) rfl) rfl) rfl)
   (o8 (PU.u9 (Qv (V3 (uv 1 rfl) (λ_=>rfl)) (l4 h (uv 1 rfl) a6) (PU.weak (g:=.stab) x5 rfl))) rfl))) j
theorem eX:i3 ["board","first"] ["board"] (c6 bZ):=by walk_at "s"
theorem oK (F:M0 K "quiet_rest" "quiet_rest" bZ f j) (b:Fv P w K mg base g d) (a:DF P w K mg base e c)
  (len:B8 J4 1) (i:W6 J4 iI 2):p3 P w K mg base M1 5 f j ["board"] (Q0 K J4):=
 W9 (cl:=[.bor,.bor]) F eX rfl len (λl A outer o H E h=>(yd rfl (ss 1 eX.nd (pc a h (a8 (uv 0 rfl) c8 rfl) rfl) rfl)
   (L9 (P5.m (C5 (uv 1 rfl) x5 (j6 _))) (P1 rfl GP) C1)
   (o8 (pc b h (a8 (uv 0 rfl) c8 rfl) rfl) rfl))) i
abbrev fZ:WG:=["board","place","names","found","guards","guard"]
theorem fV:i3 fZ ["board","place"] (c6 eP):=by walk_at "s"
theorem Ea:(["load"]:WG).Nodup:=by decide +kernel
theorem EL:(["guard"]:WG).Nodup:=by decide +kernel
theorem El:(["name","guards","found"]:WG).Nodup:=by decide +kernel
theorem Gn (F:M0 K "way_of" "way_of" eP f l) {g:Addr} {d:FuncData} (h:Lw P w K mg base "over" 5 ["board","place"] (OS K mg fm) g d) (a:hW P w K mg base e c)
  (len:B8 bE 2) (j:W6 bE Cs 6):p3 P w K mg base M1 6 f l ["board","place"] (Q0 K bE):=
 W9 (cl:=[.bor,.bor,.bor,.bor,.bor,.bor]) F fV rfl len (λo A outer p H E b=>(JL rfl (ss 2 fV.nd (CW h (b.mono (by decide)) (by rfl) (a8 (uv 0 rfl) (a8 (uv 1 rfl) c8 rfl) rfl) rfl) rfl)
   (gU (i:=3) fV.nd rfl (Or.inr rfl) (pc a b (a8 (uv 0 rfl) c8 rfl) rfl) rfl)
   (L9 (P5.m (NL (B9 b) (uv 1 rfl) (T9 (XN:=fZ) (N:=["load"]) (XS:=c6 eP) (cap:=[none]) (by decide +kernel) rfl rfl rfl rfl (n9 (l4 b (uv 0 rfl) a6)) (λ_ _ _ _=>(gn 0 Ea)) (λ_ _ _ _=>(dW (mQ (V3 (l4 b (uv 0 rfl) a6) (λ_=>rfl))))) (λ_ _ _ _=>(PU.u9 (l4 b (uv 0 rfl) a6)))) rfl)) (P1 rfl (o8 (B3 o7 rfl) rfl)) C1)
   (gU (i:=4) fV.nd rfl (Or.inr rfl) (KG (XN:=fZ) (N:=["guard"]) (XS:=c6 eP) (cap:=[none]) (by decide +kernel) rfl rfl rfl rfl (n9 (l4 b (uv 0 rfl) a6)) (λ_ _ _ _=>(gn 0 EL)) (λ_ _ _ _=>D0) (λ_ _ _ _=>(l4 b (uv 0 rfl) a6)) (λ_ _ _ _=>(uv 0 rfl))) rfl)
   (o8 (T9 (XN:=fZ) (N:=["name","guards","found"]) (XS:=c6 eP) (cap:=[none,some 4,some 3]) (by decide +kernel) rfl rfl rfl rfl (n9 (uv 2 rfl)) (λ_ _ _ _=>(gn 0 El)) (λ_ _ _ _=>D0) (λ_ _ _ _=>(M3 (g6 (PU.u9 (l4 b (uv 1 rfl) (uv 0 rfl))) (g6 (PU.u9 (l4 b (uv 2 rfl) (uv 0 rfl))) o7 rfl) rfl) rfl))) rfl))) j
abbrev iB:WG:=["way","most","lows"]
theorem qP:i3 iB ["way","most"] (c6 dq):=by walk_at "s"
theorem dR:(["guard","drawn","step"]:WG).Nodup:=by decide +kernel
theorem zO:(["low","most"]:WG).Nodup:=by decide +kernel
theorem DY (F:M0 K "lows_of" "lows_of" dq f e) (b:mg "set"=none) (a:mg "sorted"=none)
  (len:B8 Y5 2) (d:W6 Y5 xb 3):p3 P w K mg base M1 1 f e ["way","most"] (Q0 K Y5):=
 W9 (cl:=[.bor,.bor,.bor]) F qP rfl len (λg A outer j H E c=>(wM rfl (EA (i:=2) (XN:=iB) (N:=["guard","drawn","step"]) (XS:=c6 dq) (cap:=[none,none,none]) qP.nd rfl rfl rfl (by decide +kernel) rfl rfl rfl rfl (n9 (uv 0 rfl)) (λ_ _ _ _=>(fB (n:=2) (A7 (gn 0 dR) (A7 (gn 1 dR) av)) (λ_ _ _ h=>lK h) (λp=>aF rfl p))) (λ_ _ _ _=>D0) (λ_ _ _ _=>(KS (l4 c (uv 0 rfl) a6))) (λ_ _ _ _=>(gn 2 dR)) (λ_ _ _ _=>D0) (λ_ _ _ _=>(D8 (l4 c (uv 2 rfl) a6) (uv 1 rfl))))
   (o8 (vH rfl (by rfl) a PyProof.Rows.boot_sorted (by rfl) b PyProof.Rows.boot_set (a8 (l9 (B3 (g6 a6 o7 rfl) rfl) (T9 (XN:=iB) (N:=["low","most"]) (XS:=c6 dq) (cap:=[none,some 1]) (by decide +kernel) rfl rfl rfl rfl (n9 (uv 2 rfl)) (λ_ _ _ _=>(gn 0 zO)) (λ_ _ _ _=>(dW (mD (uv 0 rfl) (uv 1 rfl) (j6 _)))) (λ_ _ _ _=>(PU.u9 (uv 0 rfl))))) c8 rfl)) rfl))) d
theorem N5:i3 ["way","greatness","spans","at","guard","drawn","span"] ["way","greatness"] (c6 jf):=by walk_at "s"
theorem zY (F:M0 K "spans_of" "spans_of" jf f x) (e:si P w K mg base o l) (d:mg "enumerate"=none)
  (len:B8 Q7 2) (v:W6 Q7 oB 7):p3 P w K mg base M1 3 f x ["way","greatness"] (Q0 K Q7):=
 W9 (cl:=[.bor,.bor,.own,.bor,.bor,.bor,.bor]) F N5 rfl len (λy A outer z H E q=>(yd rfl (ss 2 N5.nd (B3 o7 rfl) rfl)
   (D2 (ak.m (Lj (uv 0 rfl) rfl (λu=>HJ (by rfl) d u)) rfl) (fB (n:=2) (A7 (gn 3 N5.nd) (A7 (fB (n:=2) (A7 (gn 4 N5.nd) (A7 (gn 5 N5.nd) av)) (λ_ _ _ h=>lK h) (λp=>aF rfl p)) av)) (λ_ _ _ h=>MT h) (λp=>aF rfl p))
    (yd rfl (ss 6 N5.nd (pc e q (a8 (l4 q (uv 4 rfl) a6) (a8 (l9 (uv 5 rfl) (uv 1 rfl)) c8 rfl) rfl) rfl) rfl)
   (L9 (P5.m (oo.pt (bO (C5 (uv 6 rfl) x5 (j6 _)) (bO (AD (uv 3 rfl) a6 (j6 _)) (bc (C5 (l4 q (uv 2 rfl) (D8 (uv 3 rfl) a6)) x5 (j6 _))))))) (P1 rfl (LB (i:=6) (g:=λi j=>i+j) (l4 q (uv 4 rfl) a6) rfl (λp=>Le N5.nd rfl (Or.inl rfl) p Cn))) C1)
   (O7 (PM.n (B4 (r:=E8) 2 (pv 2) rfl (PU.m (PU.u9 (uv 6 rfl))) rfl (λu=>Z3 v8 PySem.F.slot_list_append PySem.F.type_list_append y4 (pv 2) u))))) (λa b c=>y1 vc rfl a b c))
   (R3 2 (pv 2) (by decide) rfl))) v
theorem B6:i3 ["way","at","most","best","low","spans","lack"] ["way","at","most"] (c6 U7):=by walk_at "s"
theorem iW (F:M0 K "greatest_lack" "greatest_lack" U7 f p) (e:ya P w K mg base l i) (d:qM P w K mg base j h)
  (len:B8 A8 3) (o:W6 A8 bz 7):p3 P w K mg base M1 4 f p ["way","at","most"] (Q0 K A8):=
 W9 (cl:=[.bor,.bor,.bor,.bor,.bor,.bor,.bor]) F B6 rfl len (λq A outer r H E g=>(yd rfl (ss 3 B6.nd x5 rfl)
   (D2 (ak.m (n9 (pc e g (a8 (uv 0 rfl) (a8 (uv 2 rfl) c8 rfl) rfl) rfl)) rfl) (gn 4 B6.nd)
    (wM rfl (ss 5 B6.nd (pc d g (a8 (uv 0 rfl) (a8 (uv 4 rfl) c8 rfl) rfl) rfl) rfl)
   (L9 (P5.m (oo.pt (bO (C5 (l4 g (uv 5 rfl) a6) x5 (j6 _)) (bc (C5 (l4 g (uv 5 rfl) (uv 1 rfl)) x5 (j6 _)))))) (wM rfl (ss 6 B6.nd (l9 (D8 (l4 g (uv 5 rfl) a6) (l4 g (uv 5 rfl) (uv 1 rfl))) a6) rfl)
   (L9 (P5.m (oo.pt (wY (nG (uv 3 rfl) x5 (j6 _)) (mG (AD (uv 6 rfl) (l4 g (uv 3 rfl) a6) (j6 _)))))) (P1 rfl (ss 3 B6.nd (M3 (g6 (PU.u9 (uv 6 rfl)) (g6 (PU.u9 (uv 4 rfl)) o7 rfl) rfl) rfl) rfl)) C1)) C1)) (λa b c=>y1 vc rfl a b c))
   (o8 (PU.u9 (uv 3 rfl)) rfl))) o
theorem P6:i3 ["board","most","found","lower","way","at","lack"] ["board","most"] (c6 gW):=by walk_at "s"
theorem yA (F:M0 K "pairs_of" "pairs_of" gW f z) (e:dU P w K mg base p o) (j:Cr P w K mg base v u) (d:bw P w K mg base h g) (q:mg "len"=none) (i:mg "range"=none)
  (len:B8 O3 2) (y:W6 O3 sA 7):p3 P w K mg base M1 7 f z ["board","most"] (Q0 K O3):=
 W9 (cl:=[.bor,.bor,.own,.bor,.bor,.bor,.bor]) F P6 rfl len (λB A outer C H E l=>(yd rfl (ss 2 P6.nd (B3 o7 rfl) rfl)
   (D2 (ak.m (n9 (pc e l (a8 (uv 0 rfl) c8 rfl) rfl)) rfl) (gn 3 P6.nd)
    (wM rfl (ss 4 P6.nd (pc j l (a8 (uv 0 rfl) (a8 (uv 3 rfl) c8 rfl) rfl) rfl) rfl)
   (D2 (ak.m (oO (a8 a6 (a8 (p8 C6 aa (by rfl) q Fk (a8 (uv 4 rfl) c8 rfl)) c8 rfl) rfl) (λx=>lp (by rfl) i x)) rfl) (gn 5 P6.nd)
    (wM rfl (ss 6 P6.nd (pc d l (a8 (uv 4 rfl) (a8 (uv 5 rfl) (a8 (uv 1 rfl) c8 rfl) rfl) rfl) rfl) rfl)
   (L9 (P5.m (C5 (uv 6 rfl) x5 (j6 _))) (P1 rfl (O7 (PM.n (B4 (r:=E8) 2 (pv 2) rfl (PU.m (M3 (g6 (PU.u9 (uv 3 rfl)) (g6 (PU.u9 (l4 l (l4 l (l4 l (uv 4 rfl) (uv 5 rfl)) a6) a6)) (g6 (PU.u9 (l4 l (uv 6 rfl) a6)) (g6 (PU.u9 (l4 l (uv 6 rfl) a6)) o7 rfl) rfl) rfl) rfl) rfl)) rfl (λx=>Z3 v8 PySem.F.slot_list_append PySem.F.type_list_append y4 (pv 2) x))))) C1)) (λa b c=>y1 vc rfl a b c))) (λa b c=>y1 vc rfl a b c))
   (R3 2 (pv 2) (by decide) rfl))) y
theorem AQ:i3 ["_law_script","_law_k"] ["_law_script","_law_k"] (c6 om):=by walk_at "s"
theorem Ak (F:M0 K "_law_cell_at" "_law_cell_at" om f d) (a:mg "len"=none)
  (len:B8 X9 2) (b:W6 X9 xH 2):p3 P w K mg base M1 1 f d ["_law_script","_law_k"] (Q0 K X9):=
 W9 (cl:=[.bor,.bor]) F AQ rfl len (λe A outer g H E c=>(wM rfl (L9 (P5.m (Aq (uv 1 rfl) (p8 C6 aa (by rfl) a Fk (a8 (uv 0 rfl) c8 rfl)) (j6 _))) (P1 rfl (o8 (PU.u9 (l4 c (uv 0 rfl) (uv 1 rfl))) rfl)) C1)
   (o8 a6 rfl))) b
theorem Bl:i3 ["_law_script","_law_k","_law_cell"] ["_law_script","_law_k"] (c6 Di):=by walk_at "s"
theorem Nx (F:M0 K "_law_feed" "_law_feed" Di f g) (a:xT P w K mg base c b)
  (len:B8 Z9 2) (d:W6 Z9 Kb 3):p3 P w K mg base M1 2 f g ["_law_script","_law_k"] (Q0 K Z9):=
 W9 (cl:=[.bor,.bor,.bor]) F Bl rfl len (λh A outer i H E e=>(wM rfl (ss 2 Bl.nd (pc a e (a8 (uv 0 rfl) (a8 (uv 1 rfl) c8 rfl) rfl) rfl) rfl)
   (o8 (B3 (g6 (PU.u9 (uv 2 rfl)) (g6 (PU.u9 (uv 2 rfl)) (g6 (I0 a6 (uv 1 rfl)) o7 rfl) rfl) rfl) rfl) rfl))) d
theorem mH:i3 ["_law_feed_here","_law_many","_law_digit","_law_number"] ["_law_feed_here","_law_many"] (c6 FG):=by walk_at "s"
theorem Mj (F:M0 K "_law_take" "_law_take" FG f d)
  (len:Kd p6 2) (c:QR p6 JJ 4):p3 P w K mg base M1 1 f d ["_law_feed_here","_law_many"] (FP K p6):=
 Rf (cl:=[.bor,.bor,.bor]) F mH rfl len (λe A outer g H E a=>(JL rfl (oD 0 (pv 0) rfl (PU.m (l9 (l4 a (uv 0 rfl) a6) a6)) (PU.n a6 rfl) (λp b=>Z0 p (iF (pv 0) b set_list)))
   (L9 (P5.m (oo.pt (bO (BO (l4 a (uv 0 rfl) a6) (mO a6 a6) (j6 _)) (bc (AD (l4 a (uv 0 rfl) a6) a6 (j6 _)))))) (yd rfl (ss 2 mH.nd (V1 (l4 a (uv 0 rfl) a6) (uv 1 rfl)) rfl)
   (oD 0 (pv 0) rfl (PU.m (fX (l4 a (uv 0 rfl) a6) (uv 1 rfl))) (PU.n a6 rfl) (λp b=>Z0 p (iF (pv 0) b set_list)))
   (o8 (PU.u9 (uv 2 rfl)) rfl)) C1)
   (ss 3 mH.nd (l9 (I0 (V1 (l4 a (uv 0 rfl) a6) a6) a6) (I0 a6 (l4 a (uv 0 rfl) a6))) rfl)
   (ss 3 mH.nd (V1 (l9 (l9 (uv 3 rfl) (I0 (I0 (l4 a (uv 0 rfl) a6) (l4 a (uv 0 rfl) a6)) a6)) a6) a6) rfl)
   (o8 (V1 (fX (V1 (I0 (uv 3 rfl) (l9 (V1 (uv 3 rfl) a6) a6)) a6) a6) (uv 1 rfl)) rfl))) c
abbrev gv:WG:=["_law_feed_here","_law_many","_law_letters","_law_first","_law_names_here","_law_size","_law_base","_law_at","_law_other","_law_longer","_law_k","_law_some","_law_word"]
theorem G0:i3 gv ["_law_feed_here","_law_many"] (c6 eF):=by walk_at "s"
theorem CV:(["_law_k","_law_letters","_law_first"]:WG).Nodup:=by decide +kernel
theorem EY:(["_law_k","_law_feed_here"]:WG).Nodup:=by decide +kernel
theorem Fc:(["_law_one","_law_letters"]:WG).Nodup:=by decide +kernel
theorem Jy (F:M0 K "_law_names" "_law_names" eF f x) (d:cW P w K mg base u q) (o:mg "int"=none) (j:mg "list"=none) (e:mg "range"=none)
  (len:Kd bC 2) (v:QR bC Eh 13):p3 P w K mg base M1 2 f x ["_law_feed_here","_law_many"] (FP K bC):=
 Rf (cl:=[.bor,.bor,.bor,.own,.bor,.bor,.bor,.bor,.bor,.bor,.own,.bor]) F G0 rfl len (λy A outer z H E g=>(SS rfl (gU (i:=2) G0.nd rfl (Or.inr rfl) J6 rfl)
   (C3 (i:=3) G0.nd rfl (Or.inr rfl) (pl 0 d g (i6 (PU.n a6 rfl) j8 rfl)) rfl)
   (L9 (Ni g (PM.n (pl 0 d g (i6 (PU.n a6 rfl) j8 rfl))) (PU.n a6 rfl) (j6 _)) (P1 rfl (nV (i:=4) (XN:=gv) (N:=["_law_k","_law_letters","_law_first"]) (XS:=c6 eF) (cap:=[none,some 2,some 3]) G0.nd rfl rfl rfl (by decide +kernel) rfl rfl rfl rfl (Q8 (by rfl) e (uv 1 rfl) rfl (λh=>J9 (by rfl) e h)) (λ_ _ _ _=>(gn 0 CV)) (λ_ _ _ _=>D0) (λ_ _ _ _=>(I0 (l4 g (uv 1 rfl) (V1 (l9 (uv 2 rfl) (uv 0 rfl)) a6)) (l9 a6 (fX (uv 0 rfl) a6)))))) (Tb rfl (C3 (i:=5) G0.nd rfl (Or.inl rfl) (J0 (PU.n a6 rfl) (PM.n (pl 0 d g (i6 (PU.n a6 rfl) j8 rfl)))) rfl)
   (Et (i:=6) (XN:=gv) (N:=["_law_k","_law_feed_here"]) (XS:=c6 eF) (cap:=[none,some 0]) 1 0 G0.nd rfl rfl rfl rfl rfl rfl (by decide +kernel) rfl rfl rfl rfl (ak.m (Q8 (by rfl) e (uv 5 rfl) rfl (λh=>J9 (by rfl) e h)) rfl) (λ_ _ _ _=>(gn 0 EY)) (λ_ _ _ _=>IA) (λ_ _ _ _=>(pl 1 d g (i6 (PU.n a6 rfl) j8 rfl))))
   (C3 (i:=7) G0.nd rfl (Or.inl rfl) (pl 0 d g (i6 (PU.n (uv 5 rfl) rfl) j8 rfl)) rfl)
   (C3 (i:=8) G0.nd rfl (Or.inl rfl) (Nu (PM.n (J0 (PU.n (l9 (uv 7 rfl) a6) rfl) (PM.n (pl 0 d g (i6 (PU.n (D8 (uv 5 rfl) a6) rfl) j8 rfl))))) (PU.n (uv 5 rfl) rfl)) rfl)
   (C3 (i:=9) G0.nd rfl (Or.inl rfl) (X7 (PM.n (pl 0 d g (i6 (PU.n a6 rfl) j8 rfl))) (PU.n (y7 dP uP (by rfl) o Vl (a8 (PX (uv 5 rfl) a6 (j6 _)) c8 rfl)) rfl)) rfl)
   (ss 4 G0.nd (B3 o7 rfl) rfl)
   (D2 (ak.m (Q8 (by rfl) e (uv 1 rfl) rfl (λh=>J9 (by rfl) e h)) rfl) (gn 10 G0.nd)
    (FQ rfl (ss 11 G0.nd (y7 nP Nn (by rfl) j PyProof.Rows.boot_list (a8 (uv 6 rfl) c8 rfl)) rfl)
   (oD 11 (pv 11) rfl (PU.m (V1 (l9 (l4 g (uv 6 rfl) (uv 7 rfl)) (uv 10 rfl)) a6)) (PU.n (uv 7 rfl) rfl) (λp l=>Z0 p (iF (pv 11) l set_list)))
   (oD 11 (pv 11) rfl (PU.m (V1 (l9 (l4 g (uv 6 rfl) (uv 8 rfl)) (fX (uv 10 rfl) a6)) a6)) (PU.n (uv 8 rfl) rfl) (λp l=>Z0 p (iF (pv 11) l set_list)))
   (O7 (PM.n (B4 (r:=E8) 4 (pv 4) rfl (PU.m (l9 (Iq J6 (T9 (XN:=gv) (N:=["_law_one","_law_letters"]) (XS:=c6 eF) (cap:=[none,some 2]) (by decide +kernel) rfl rfl rfl rfl (n9 (uv 11 rfl)) (λ_ _ _ _=>(gn 0 Fc)) (λ_ _ _ _=>D0) (λ_ _ _ _=>(PU.u9 (l4 g (uv 1 rfl) (uv 0 rfl))))) rfl (λpo h=>Z3 PySem.F.plainAttrs_str PySem.F.slot_str_join PySem.F.type_str_join Gf po h)) (I0 (l4 g (uv 2 rfl) (uv 3 rfl)) (I0 (uv 9 rfl) (V1 (uv 10 rfl) a6))))) rfl (λh=>Z3 v8 PySem.F.slot_list_append PySem.F.type_list_append y4 (pv 4) h))))) (λa b c=>y1 vc rfl a b c))))
   (C3 (i:=12) G0.nd rfl (Or.inl rfl) (PN.u9 (X3 (B9 g) (PU.n (B3 (g6 J6 (g6 J6 (g6 J6 (g6 J6 (g6 J6 (g6 J6 (g6 J6 (g6 J6 (g6 J6 (g6 J6 (g6 J6 o7 rfl) rfl) rfl) rfl) rfl) rfl) rfl) rfl) rfl) rfl) rfl) rfl) rfl) (PM.n (pl 0 d g (i6 (PU.n a6 rfl) j8 rfl))) (λ_ _=>rfl))) rfl)
   (L9 (P5.m (oo.pt (bO (BF g (uv 12 rfl) J6 (j6 _)) (bc (zF (B9 g) (uv 12 rfl) (uv 4 rfl) rfl))))) (P1 rfl (oD 4 (pv 4) rfl (PU.m (PU.u9 (uv 12 rfl))) (PM.n (pl 0 d g (i6 (PU.n (uv 1 rfl) rfl) j8 rfl))) (λp l=>Z0 p (iF (pv 4) l set_list)))) C1)
   (R3 4 (pv 4) (by decide) rfl))) v
theorem fW:i3 ["_law_board","_law_overs_here","_law_guard","_law_load"] ["_law_board"] (c6 uV):=by walk_at "s"
theorem IM (F:M0 K "_law_overs" "_law_overs" uV f g)
  (len:B8 aH 1) (e:W6 aH DU 4):p3 P w K mg base M1 1 f g ["_law_board"] (Q0 K aH):=
 W9 (cl:=[.bor,.own,.bor,.bor]) F fW rfl len (λh A outer i H E d=>(FQ rfl (ss 1 fW.nd xP rfl)
   (D2 (ak.m (n9 (l4 d (uv 0 rfl) a6)) rfl) (gn 2 fW.nd)
    (P1 rfl (eJ (B9 d) 1 (pv 1) rfl (PU.n (CK (Jt (B3 (g6 (PU.u9 (l4 d (uv 2 rfl) a6)) o7 rfl) rfl) (cB (B9 d) (uv 1 rfl) (l4 d (uv 2 rfl) a6) (CK (B3 o7 rfl)) ⟨rfl,rfl,rfl,rfl⟩))) rfl) (PU.n (l4 d (uv 2 rfl) a6) rfl))) (λa b c=>y1 vc rfl a b c))
   (D2 (ak.m (n9 (l4 d (uv 0 rfl) a6)) rfl) (gn 3 fW.nd)
    (P1 rfl (eJ (B9 d) 1 (pv 1) rfl (PM.n (PU.m (PU.u9 (l4 d (uv 1 rfl) (l4 d (uv 3 rfl) a6))))) (PU.n (l4 d (uv 3 rfl) a6) rfl))) (λa b c=>y1 vc rfl a b c))
   (R3 1 (pv 1) (by decide) rfl))) e
abbrev kQ:WG:=["_law_feed_here","_law_unit","_law_time","_law_many","_law_some","_law_times","_law_k"]
theorem W8:i3 kQ ["_law_feed_here","_law_unit","_law_time"] (c6 df):=by walk_at "s"
theorem va:(["_law_k","_law_unit","_law_time","_law_some","_law_times","_law_many"]:WG).Nodup:=by decide +kernel
theorem zr (F:M0 K "_law_small_curve" "_law_small_curve" df f q) (e:cW P w K mg base o l) (d:mg "range"=none) (g:mg "tuple"=none)
  (len:Kd R5 3) (p:QR R5 qD 7):p3 P w K mg base M1 2 f q ["_law_feed_here","_law_unit","_law_time"] (FP K R5):=
 Rf (cl:=[.bor,.bor,.bor,.own,.own,.bor]) F W8 rfl len (λu A outer v H E h=>(JL rfl (C3 (i:=3) W8.nd rfl (Or.inr rfl) (J0 (PU.n a6 rfl) (PM.n (pl 0 e h (i6 (PU.n a6 rfl) j8 rfl)))) rfl)
   (C3 (i:=4) W8.nd rfl (Or.inr rfl) (vb (A6 (J0 (PU.n a6 rfl) (PM.n (pl 0 e h (i6 (PU.n a6 rfl) j8 rfl)))) cq rfl) rfl) rfl)
   (C3 (i:=5) W8.nd rfl (Or.inr rfl) (vb (A6 (J0 (PU.n a6 rfl) (PM.n (pl 0 e h (i6 (PU.n a6 rfl) j8 rfl)))) cq rfl) rfl) rfl)
   (D2 (ak.m (Q8 (by rfl) d (D8 (uv 3 rfl) a6) rfl (λj=>J9 (by rfl) d j)) rfl) (gn 6 W8.nd)
    (wM rfl (O7 (PM.n (B4 (r:=E8) 4 (pv 4) rfl (J0 (PU.n (l9 (l4 h (uv 4 rfl) (gJ a6)) a6) rfl) (PM.n (pl 0 e h (i6 (PU.n a6 rfl) j8 rfl)))) rfl (λj=>Z3 v8 PySem.F.slot_list_append PySem.F.type_list_append y4 (pv 4) j))))
   (O7 (PM.n (B4 (r:=E8) 5 (pv 5) rfl (J0 (PU.n (l9 (l4 h (uv 5 rfl) (gJ a6)) a6) rfl) (PM.n (pl 0 e h (i6 (PU.n a6 rfl) j8 rfl)))) rfl (λj=>Z3 v8 PySem.F.slot_list_append PySem.F.type_list_append y4 (pv 5) j))))) (λa b c=>y1 vc rfl a b c))
   (o8 (y7 C7 aT (by rfl) g Os (a8 (T9 (XN:=kQ) (N:=["_law_k","_law_unit","_law_time","_law_some","_law_times","_law_many"]) (XS:=c6 df) (cap:=[none,some 1,some 2,some 4,some 5,some 3]) (by decide +kernel) rfl rfl rfl rfl (Q8 (by rfl) d (uv 3 rfl) rfl (λj=>J9 (by rfl) d j)) (λ_ _ _ _=>(gn 0 va)) (λ_ _ _ _=>D0) (λ_ _ _ _=>(M3 (g6 (I0 (l4 h (uv 3 rfl) (uv 0 rfl)) (uv 1 rfl)) (g6 (I0 (l4 h (uv 4 rfl) (D8 (D8 (uv 5 rfl) a6) (uv 0 rfl))) (uv 2 rfl)) o7 rfl) rfl) rfl))) c8 rfl)) rfl))) p
theorem Aw:i3 ["_law_guard","_law_more"] ["_law_guard","_law_more"] (c6 fS):=by walk_at "s"
theorem yD:(["_law_step","_law_more"]:WG).Nodup:=by decide +kernel
theorem DJ (F:M0 K "_law_lifted" "_law_lifted" fS f d) (a:mg "tuple"=none)
  (len:B8 T5 2) (c:W6 T5 wW 2):p3 P w K mg base M1 1 f d ["_law_guard","_law_more"] (Q0 K T5):=
 W9 (cl:=[.bor,.bor]) F Aw rfl len (λe A outer g H E b=>(P1 rfl (o8 (l9 (l9 (nz (uv 0 rfl) gz (aS a6)) (M3 (g6 (y7 C7 aT (by rfl) a Os (a8 (T9 (XN:=["_law_guard","_law_more"]) (N:=["_law_step","_law_more"]) (XS:=c6 fS) (cap:=[none,some 1]) (by decide +kernel) rfl rfl rfl rfl (n9 (l4 b (uv 0 rfl) a6)) (λ_ _ _ _=>(gn 0 yD)) (λ_ _ _ _=>D0) (λ_ _ _ _=>(M3 (g6 (l9 (l4 b (uv 0 rfl) a6) (uv 1 rfl)) (g6 (PU.u9 (l4 b (uv 0 rfl) a6)) o7 rfl) rfl) rfl))) c8 rfl)) o7 rfl) rfl)) (nz (uv 0 rfl) (aS a6) gz)) rfl))) c
abbrev xU:WG:=["_law_board","_law_overs_here","_law_found","_law_load","_law_name"]
theorem cH:i3 xU ["_law_board"] (c6 og):=by walk_at "s"
theorem BU:(["_law_guard"]:WG).Nodup:=by decide +kernel
theorem Je (F:M0 K "_law_rest" "_law_rest" og f o) (e:vV P w K mg base j i) (g:mg "dict"=none) (h:mg "int"=none)
  (len:B8 U5 1) (l:W6 U5 BI 5):p3 P w K mg base M1 2 f o ["_law_board"] (Q0 K U5):=
 W9 (cl:=[.bor,.bor,.own,.bor,.bor]) F cH rfl len (λp A outer q H E d=>(FQ rfl (ss 1 cH.nd (pc e d (a8 (uv 0 rfl) c8 rfl) rfl) rfl)
   (ss 2 cH.nd (y7 (jl rfl) wJ (by rfl) g PyProof.Rows.boot_dict (a8 (T9 (XN:=xU) (N:=["_law_guard"]) (XS:=c6 og) (cap:=[none]) (by decide +kernel) rfl rfl rfl rfl (n9 (l4 d (uv 0 rfl) a6)) (λ_ _ _ _=>(gn 0 BU)) (λ_ _ _ _=>D0) (λ_ _ _ _=>(M3 (g6 (PU.u9 (l4 d (uv 0 rfl) a6)) (g6 a6 o7 rfl) rfl) rfl))) c8 rfl)) rfl)
   (D2 (ak.m (n9 (l4 d (uv 0 rfl) a6)) rfl) (gn 3 cH.nd)
    (P1 rfl (D2 (ak.m (n9 (l4 d (uv 1 rfl) (l4 d (uv 3 rfl) a6))) rfl) (gn 4 cH.nd)
    (P1 rfl (eJ (B9 d) 2 (pv 2) rfl (PU.n (l9 (l4 d (uv 2 rfl) (uv 4 rfl)) (I0 (l4 d (uv 3 rfl) a6) (y7 dP uP (by rfl) h Vl (a8 (l4 d (uv 3 rfl) a6) c8 rfl)))) rfl) (PU.n (uv 4 rfl) rfl))) (λa b c=>y1 vc rfl a b c))) (λa b c=>y1 vc rfl a b c))
   (R3 2 (pv 2) (by decide) rfl))) l
theorem J1:i3 ["_law_script","_law_names_here","_law_unit","_law_time","_law_guards","_law_k","_law_feed_here","_law_at","_law_curve","_law_delay"] ["_law_script","_law_names_here","_law_unit","_law_time"] (c6 dI):=by walk_at "s"
theorem tq (F:M0 K "_law_small_guards" "_law_small_guards" dI f C) (l:kT P w K mg base z v) (d:cW P w K mg base y u) (g:oW P w K mg base o j) (q:mg "int"=none) (p:mg "len"=none) (e:mg "range"=none)
  (len:B8 M8 4) (B:W6 M8 kE 10):p3 P w K mg base M1 3 f C ["_law_script","_law_names_here","_law_unit","_law_time"] (Q0 K M8):=
 W9 (cl:=[.bor,.bor,.bor,.bor,.own,.bor,.own,.bor,.bor,.bor]) F J1 rfl len (λG A outer I H E h=>(yd rfl (ss 4 J1.nd (B3 o7 rfl) rfl)
   (D2 (ak.m (Q8 (by rfl) e (p8 C6 aa (by rfl) p Fk (a8 (uv 1 rfl) c8 rfl)) rfl (λx=>J9 (by rfl) e x)) rfl) (gn 5 J1.nd)
    (JL rfl (ss 6 J1.nd (pc l h (a8 (uv 0 rfl) (a8 (l9 a6 (uv 5 rfl)) c8 rfl) rfl) rfl) rfl)
   (C3 (i:=7) J1.nd rfl (Or.inl rfl) (PN.u9 (X3 (B9 h) (PM.n (vb (A6 (pl 6 d h (i6 (PU.n (l9 (uv 5 rfl) a6) rfl) j8 rfl)) (A6 (PU.m (PU.u9 (uv 5 rfl))) cq rfl) rfl) rfl)) (PM.n (yR dP uP (by rfl) q Vl (i6 (PM.n (JS (PM.n (pl 6 d h (i6 (PU.n a6 rfl) j8 rfl))) (PU.n a6 rfl) (j6 _))) j8 rfl))) (λ_ _=>rfl))) rfl)
   (C3 (i:=8) J1.nd rfl (Or.inl rfl) (pl 6 g h (i6 (PU.n (uv 2 rfl) rfl) (i6 (PU.n (uv 3 rfl) rfl) j8 rfl) rfl)) rfl)
   (C3 (i:=9) J1.nd rfl (Or.inl rfl) (X7 (PM.n (pl 6 d h (i6 (PU.n a6 rfl) j8 rfl))) (PU.n (uv 3 rfl) rfl)) rfl)
   (O7 (PM.n (B4 (r:=E8) 4 (pv 4) rfl (tD (A6 (PU.m (PU.u9 (l4 h (uv 1 rfl) (uv 5 rfl)))) (A6 (PU.m (l4 h (l9 (B3 (g6 x5 o7 rfl) rfl) (uv 1 rfl)) (uv 7 rfl))) (A6 (PU.m (PU.u9 (uv 8 rfl))) (A6 (PU.m (PU.u9 (uv 9 rfl))) (A6 (X7 (PM.n (pl 6 d h (i6 (PU.n a6 rfl) j8 rfl))) (PU.n (uv 3 rfl) rfl)) cq rfl) rfl) rfl) rfl) rfl) rfl) rfl (λx=>Z3 v8 PySem.F.slot_list_append PySem.F.type_list_append y4 (pv 4) x))))) (λa b c=>y1 vc rfl a b c))
   (R3 4 (pv 4) (by decide) rfl))) B
theorem M5:i3 ["_law_script","_law_names_here","_law_guards","_law_unit","_law_time","_law_loads","_law_k","_law_feed_here","_law_at","_law_course","_law_j"] ["_law_script","_law_names_here","_law_guards","_law_unit","_law_time"] (c6 iJ):=by walk_at "s"
theorem yi (F:M0 K "_law_small_loads" "_law_small_loads" iJ f y) (o:kT P w K mg base v q) (d:cW P w K mg base u p) (j:mg "len"=none) (e:mg "range"=none) (h:mg "tuple"=none)
  (len:B8 R8 5) (x:W6 R8 pX 11):p3 P w K mg base M1 3 f y ["_law_script","_law_names_here","_law_guards","_law_unit","_law_time"] (Q0 K R8):=
 W9 (cl:=[.bor,.bor,.bor,.bor,.bor,.own,.bor,.own,.bor,.own,.bor]) F M5 rfl len (λz A outer B H E g=>(yd rfl (ss 5 M5.nd (B3 o7 rfl) rfl)
   (D2 (ak.m (Q8 (by rfl) e (p8 C6 aa (by rfl) j Fk (a8 (uv 1 rfl) c8 rfl)) rfl (λl=>J9 (by rfl) e l)) rfl) (gn 6 M5.nd)
    (JL rfl (ss 7 M5.nd (pc o g (a8 (uv 0 rfl) (a8 (l9 a6 (uv 6 rfl)) c8 rfl) rfl) rfl) rfl)
   (C3 (i:=8) M5.nd rfl (Or.inl rfl) (PN.u9 (X3 (B9 g) (X3 (B9 g) (PU.n (uv 2 rfl) rfl) (PM.n (pl 7 d g (i6 (PU.n (p8 C6 aa (by rfl) j Fk (a8 (uv 2 rfl) c8 rfl)) rfl) j8 rfl))) (λ_ _=>rfl)) (PU.n a6 rfl) (λ_ _=>rfl))) rfl)
   (ss 9 M5.nd (B3 o7 rfl) rfl)
   (D2 (yS (by rfl) e (PM.n (pl 7 d g (i6 (PU.n a6 rfl) j8 rfl))) rfl (λl=>J9 (by rfl) e l)) (gn 10 M5.nd)
    (P1 rfl (O7 (PM.n (B4 (r:=E8) 9 (pv 9) rfl (tD (A6 (X7 (PM.n (J0 (PU.n a6 rfl) (PM.n (pl 7 d g (i6 (PU.n a6 rfl) j8 rfl))))) (PU.n (uv 4 rfl) rfl)) (A6 (X7 (PM.n (pl 7 d g (i6 (PU.n a6 rfl) j8 rfl))) (PU.n (uv 3 rfl) rfl)) cq rfl) rfl) rfl) rfl (λl=>Z3 v8 PySem.F.slot_list_append PySem.F.type_list_append y4 (pv 9) l))))) (λa b c=>y1 vc rfl a b c))
   (O7 (PM.n (B4 (r:=E8) 5 (pv 5) rfl (tD (A6 (PU.m (PU.u9 (l4 g (uv 1 rfl) (uv 6 rfl)))) (A6 (PU.m (PU.u9 (uv 8 rfl))) (A6 (PU.m (y7 C7 aT (by rfl) h Os (a8 (uv 9 rfl) c8 rfl))) (A6 (X7 (PM.n (pl 7 d g (i6 (PU.n a6 rfl) j8 rfl))) (PU.n (uv 3 rfl) rfl)) (A6 (JS (PM.n (pl 7 d g (i6 (PU.n a6 rfl) j8 rfl))) (PU.n a6 rfl) (j6 _)) cq rfl) rfl) rfl) rfl) rfl) rfl) rfl (λl=>Z3 v8 PySem.F.slot_list_append PySem.F.type_list_append y4 (pv 5) l))))) (λa b c=>y1 vc rfl a b c))
   (R3 5 (pv 5) (by decide) rfl))) x
abbrev lV:WG:=["_law_script","_law_unit","_law_time","_law_feed_here","_law_many","_law_names_here","_law_guards","_law_loads","_law_found"]
theorem K2:i3 lV ["_law_script","_law_unit","_law_time"] (c6 cE):=by walk_at "s"
theorem vG:(["_law_guard","_law_found"]:WG).Nodup:=by decide +kernel
theorem yJ (F:M0 K "_law_small_board" "_law_small_board" cE f O) (h:kT P w K mg base J B) (a:cW P w K mg base I z) (l:CA P w K mg base G x) (g:oi P w K mg base y r) (j:hV P w K mg base C v) (b:km P w K mg base q o) (d:qi P w K mg base u p) (c:mg "tuple"=none)
  (len:B8 Q4 3) (M:W6 Q4 qB 9):p3 P w K mg base M1 4 f O ["_law_script","_law_unit","_law_time"] (Q0 K Q4):=
 W9 (cl:=[.bor,.bor,.bor,.own,.bor,.bor,.bor,.bor,.bor]) F K2 rfl len (λQ A outer R H E e=>(Tc rfl (ss 3 K2.nd (pc h e (a8 (uv 0 rfl) (a8 a6 c8 rfl) rfl) rfl) rfl)
   (C3 (i:=4) K2.nd rfl (Or.inl rfl) (J0 (PU.n a6 rfl) (PM.n (pl 3 a e (i6 (PU.n a6 rfl) j8 rfl)))) rfl)
   (C3 (i:=5) K2.nd rfl (Or.inl rfl) (FH l (e.mono (by decide)) (by rfl) (PU.m (pc h e (a8 (uv 0 rfl) (a8 a6 c8 rfl) rfl) rfl)) (A6 (J0 (PU.n (uv 4 rfl) rfl) (PM.n (pl 3 a e (i6 (PU.n a6 rfl) j8 rfl)))) cq rfl) rfl) rfl)
   (ss 6 K2.nd (pc b e (a8 (uv 0 rfl) (a8 (nz (uv 5 rfl) gz (aS (uv 4 rfl))) (a8 (uv 1 rfl) (a8 (uv 2 rfl) c8 rfl) rfl) rfl) rfl) rfl) rfl)
   (ss 7 K2.nd (pc d e (a8 (uv 0 rfl) (a8 (nz (uv 5 rfl) (aS (uv 4 rfl)) gz) (a8 (uv 6 rfl) (a8 (uv 1 rfl) (a8 (uv 2 rfl) c8 rfl) rfl) rfl) rfl) rfl) rfl) rfl)
   (gU (i:=8) K2.nd rfl (Or.inr rfl) (pc j e (a8 (Io (xX (uv 6 rfl) (xX (uv 7 rfl) LF rfl rfl) rfl rfl) rfl) c8 rfl) rfl) rfl)
   (L9 (Ko (PM.n (pl 3 a e (i6 (PU.n a6 rfl) j8 rfl))) (PU.n a6 rfl) (j6 _)) (P1 rfl (nV (i:=6) (XN:=lV) (N:=["_law_guard","_law_found"]) (XS:=c6 cE) (cap:=[none,some 8]) K2.nd rfl rfl rfl (by decide +kernel) rfl rfl rfl rfl (n9 (uv 6 rfl)) (λ_ _ _ _=>(gn 0 vG)) (λ_ _ _ _=>D0) (λ_ _ _ _=>(pc g e (a8 (uv 0 rfl) (a8 (l4 e (uv 1 rfl) (l4 e (uv 0 rfl) a6)) c8 rfl) rfl) rfl)))) C1)
   (o8 (M3 (g6 (y7 C7 aT (by rfl) c Os (a8 (uv 6 rfl) c8 rfl)) (g6 (y7 C7 aT (by rfl) c Os (a8 (uv 7 rfl) c8 rfl)) o7 rfl) rfl) rfl) rfl))) M
abbrev vD:WG:=["_law_board","_law_place","_law_known","_law_found","_law_load"]
theorem nH:i3 vD ["_law_board","_law_place"] (c6 qe):=by walk_at "s"
theorem Jf:(["_law_guard"]:WG).Nodup:=by decide +kernel
theorem IZ:(["_law_name","_law_known","_law_found"]:WG).Nodup:=by decide +kernel
theorem Mf (F:M0 K "_law_path" "_law_path" qe f r) (g:vV P w K mg base p l) (e:hV P w K mg base o j) (h:mg "dict"=none)
  (len:B8 fw 2) (q:W6 fw JM 5):p3 P w K mg base M1 3 f r ["_law_board","_law_place"] (Q0 K fw):=
 W9 (cl:=[.bor,.bor,.bor,.bor,.bor]) F nH rfl len (λu A outer v H E d=>(FQ rfl (gU (i:=2) nH.nd rfl (Or.inr rfl) (y7 (jl rfl) wJ (by rfl) h PyProof.Rows.boot_dict (a8 (T9 (XN:=vD) (N:=["_law_guard"]) (XS:=c6 qe) (cap:=[none]) (by decide +kernel) rfl rfl rfl rfl (n9 (l4 d (uv 0 rfl) a6)) (λ_ _ _ _=>(gn 0 Jf)) (λ_ _ _ _=>D0) (λ_ _ _ _=>(M3 (g6 (PU.u9 (l4 d (uv 0 rfl) a6)) (g6 (PU.u9 (uv 0 rfl)) o7 rfl) rfl) rfl))) c8 rfl)) rfl)
   (gU (i:=3) nH.nd rfl (Or.inr rfl) (pc e d (a8 (uv 0 rfl) c8 rfl) rfl) rfl)
   (D2 (ak.m (n9 (l4 d (uv 0 rfl) a6)) rfl) (gn 4 nH.nd)
    (P1 rfl (L9 (P5.m (oo.pt (bO (gQ d (l4 d (uv 4 rfl) a6) (uv 1 rfl) (j6 _)) (bc (mQ (V3 (l4 d (uv 4 rfl) a6) (λ_=>rfl))))))) (P1 rfl (o8 (B3 o7 rfl) rfl)) C1)) (λa b c=>y1 vc rfl a b c))
   (o8 (T9 (XN:=vD) (N:=["_law_name","_law_known","_law_found"]) (XS:=c6 qe) (cap:=[none,some 2,some 3]) (by decide +kernel) rfl rfl rfl rfl (n9 (l4 d (pc g d (a8 (uv 0 rfl) c8 rfl) rfl) (uv 1 rfl))) (λ_ _ _ _=>(gn 0 IZ)) (λ_ _ _ _=>D0) (λ_ _ _ _=>(M3 (g6 (PU.u9 (l4 d (uv 1 rfl) (uv 0 rfl))) (g6 (PU.u9 (l4 d (uv 2 rfl) (uv 0 rfl))) o7 rfl) rfl) rfl))) rfl))) q
theorem cL:i3 ["_law_path_here","_law_most_here","_law_lows_here","_law_guard","_law_one","_law_step"] ["_law_path_here","_law_most_here"] (c6 sN):=by walk_at "s"
theorem JB (F:M0 K "_law_lows" "_law_lows" sN f j) (e:mg "list"=none) (d:mg "sorted"=none)
  (len:B8 bS 2) (i:W6 bS FE 6):p3 P w K mg base M1 1 f j ["_law_path_here","_law_most_here"] (Q0 K bS):=
 W9 (cl:=[.bor,.bor,.own,.bor,.bor,.bor]) F cL rfl len (λl A outer o H E g=>(yd rfl (ss 2 cL.nd (Ct a6 xu) rfl)
   (D2 (ak.m (n9 (uv 0 rfl)) rfl) (fB (n:=2) (A7 (gn 3 cL.nd) (A7 (gn 4 cL.nd) av)) (λ_ _ _ h=>lK h) (λp=>aF rfl p))
    (P1 rfl (D2 (ak.m (n9 (l4 g (uv 3 rfl) a6)) rfl) (gn 5 cL.nd)
    (P1 rfl (L9 (P5.m (mD (D8 (l4 g (uv 5 rfl) a6) (uv 4 rfl)) (uv 1 rfl) (j6 _))) (P1 rfl (eJ (B9 g) 2 (pv 2) rfl (PU.n xu rfl) (PU.n (D8 (l4 g (uv 5 rfl) a6) (uv 4 rfl)) rfl))) C1)) (λa b c=>y1 vc rfl a b c))) (λa b c=>y1 vc rfl a b c))
   (o8 (p8 sW Mg (by rfl) d PyProof.Rows.boot_sorted (a8 (y7 (sP rfl) GW (by rfl) e PyProof.Rows.boot_list (a8 (uv 2 rfl) c8 rfl)) c8 rfl)) rfl))) i
theorem nj:i3 ["_law_board","_law_found","_law_guard"] ["_law_board"] (c6 sV):=by walk_at "s"
theorem Hf (F:M0 K "_law_loud" "_law_loud" sV f j) (d:hV P w K mg base h g)
  (len:B8 bG 1) (i:W6 bG AM 3):p3 P w K mg base M1 3 f j ["_law_board"] (Q0 K bG):=
 W9 (cl:=[.bor,.bor,.bor]) F nj rfl len (λl A outer o H E e=>(yd rfl (ss 1 nj.nd (pc d e (a8 (uv 0 rfl) c8 rfl) rfl) rfl)
   (D2 (ak.m (n9 (l4 e (uv 0 rfl) a6)) rfl) (gn 2 nj.nd)
    (P1 rfl (L9 (P5.m (BO (l4 e (uv 1 rfl) (l4 e (uv 2 rfl) a6)) (l4 e (l4 e (l4 e (uv 2 rfl) a6) a6) a6) (j6 _))) (P1 rfl (o8 (PU.u9 (l4 e (uv 2 rfl) a6)) rfl)) C1)) (λa b c=>y1 vc rfl a b c))
   (o8 x5 rfl))) i
theorem EF:i3 ["_law_board"] ["_law_board"] (c6 cG):=by walk_at "s"
theorem zI:(["_law_guard"]:WG).Nodup:=by decide +kernel
theorem Ac:(["_law_load"]:WG).Nodup:=by decide +kernel
theorem BQ (F:M0 K "_law_places" "_law_places" cG f c)
  (len:B8 X5 1) (b:W6 X5 yc 1):p3 P w K mg base M1 1 f c ["_law_board"] (Q0 K X5):=
 W9 (cl:=[.bor]) F EF rfl len (λd A outer e H E a=>(P1 rfl (o8 (l9 (T9 (XN:=["_law_board"]) (N:=["_law_guard"]) (XS:=c6 cG) (cap:=[none]) (by decide +kernel) rfl rfl rfl rfl (n9 (l4 a (uv 0 rfl) a6)) (λ_ _ _ _=>(gn 0 zI)) (λ_ _ _ _=>D0) (λ_ _ _ _=>(PU.u9 (l4 a (uv 0 rfl) a6)))) (T9 (XN:=["_law_board"]) (N:=["_law_load"]) (XS:=c6 cG) (cap:=[none]) (by decide +kernel) rfl rfl rfl rfl (n9 (l4 a (uv 0 rfl) a6)) (λ_ _ _ _=>(gn 0 Ac)) (λ_ _ _ _=>D0) (λ_ _ _ _=>(PU.u9 (l4 a (uv 0 rfl) a6))))) rfl))) b
theorem gh:i3 ["_law_script","_law_feed_here","_law_unit","_law_time"] ["_law_script"] (c6 tS):=by walk_at "s"
theorem IV (F:M0 K "_law_sized" "_law_sized" tS f q) (d:kT P w K mg base o j) (b:cW P w K mg base l h) (a:rH P w K mg base g c)
  (len:B8 bM 1) (p:W6 bM Fs 4):p3 P w K mg base M1 5 f q ["_law_script"] (Q0 K bM):=
 W9 (cl:=[.bor,.own,.bor,.bor]) F gh rfl len (λr A outer u H E e=>(FQ rfl (ss 1 gh.nd (pc d e (a8 (uv 0 rfl) (a8 a6 c8 rfl) rfl) rfl) rfl)
   (C3 (i:=2) gh.nd rfl (Or.inl rfl) (PN.u9 (X3 (B9 e) (PU.n (B3 (g6 a6 (g6 a6 (g6 a6 (g6 (l9 (mO a6 a6) a6) o7 rfl) rfl) rfl) rfl) rfl) rfl) (PM.n (pl 1 b e (i6 (PU.n a6 rfl) j8 rfl))) (λ_ _=>rfl))) rfl)
   (C3 (i:=3) gh.nd rfl (Or.inl rfl) (PN.u9 (X3 (B9 e) (PU.n (B3 (g6 a6 (g6 a6 (g6 a6 (g6 (mO a6 a6) o7 rfl) rfl) rfl) rfl) rfl) rfl) (PM.n (pl 1 b e (i6 (PU.n a6 rfl) j8 rfl))) (λ_ _=>rfl))) rfl)
   (o8 (M3 (g6 (pc a e (a8 (uv 0 rfl) (a8 (uv 2 rfl) (a8 (uv 3 rfl) c8 rfl) rfl) rfl) rfl) (g6 (PU.u9 (uv 2 rfl)) o7 rfl) rfl) rfl) rfl))) p
theorem hU:i3 ["_law_feed_here","_law_path_here","_law_unit","_law_way","_law_guard","_law_one","_law_step"] ["_law_feed_here","_law_path_here","_law_unit"] (c6 CB):=by walk_at "s"
theorem Nz (F:M0 K "_law_most" "_law_most" CB f o) (a:cW P w K mg base j e) (c:mg "len"=none) (d:mg "max"=none)
  (len:Kd ip 3) (l:QR ip JR 7):p3 P w K mg base M1 2 f o ["_law_feed_here","_law_path_here","_law_unit"] (FP K ip):=
 Rf (cl:=[.bor,.bor,.bor,.bor,.bor,.bor]) F hU rfl len (λq A outer r H E b=>(SS rfl (C3 (i:=3) hU.nd rfl (Or.inl rfl) (pl 0 a b (i6 (PU.n a6 rfl) j8 rfl)) rfl)
   (L9 (P5.m (gQ b (uv 3 rfl) a6 (j6 _))) (P1 rfl (o8 (D8 (mO a6 a6) a6) rfl)) C1)
   (L9 (P5.m (oo.pt (wY (Aq (uv 3 rfl) a6 (j6 _)) (mG (gQ b (p8 C6 aa (by rfl) c Fk (a8 (uv 1 rfl) c8 rfl)) a6 (j6 _)))))) (P1 rfl (Fw (J0 (PU.n a6 rfl) (PM.n (X7 (PM.n (pl 0 a b (i6 (PU.n a6 rfl) j8 rfl))) (PU.n (uv 2 rfl) rfl)))))) C1)
   (Lc (X3 (B9 b) (PU.n (uv 1 rfl) rfl) (PM.n (pl 0 a b (i6 (PU.n (p8 C6 aa (by rfl) c Fk (a8 (uv 1 rfl) c8 rfl)) rfl) j8 rfl))) (λ_ _=>rfl)) (fB (n:=2) (A7 (gn 4 hU.nd) (A7 (gn 5 hU.nd) av)) (λ_ _ _ h=>lK h) (λp=>aF rfl p)) (λp g=>Z0 p g))
   (C3 (i:=6) hU.nd rfl (Or.inl rfl) (PN.u9 (X3 (B9 b) (PU.n (l4 b (uv 4 rfl) a6) rfl) (PM.n (pl 0 a b (i6 (PU.n (p8 C6 aa (by rfl) c Fk (a8 (l4 b (uv 4 rfl) a6) c8 rfl)) rfl) j8 rfl))) (λ_ _=>rfl))) rfl)
   (Fw (Df (eE rfl) Lx (by rfl) d Vk (i6 (PU.n a6 rfl) (i6 (PM.n (J0 (PU.n (D8 (D8 (l4 b (uv 6 rfl) a6) (uv 5 rfl)) a6) rfl) (PM.n (pl 0 a b (i6 (PU.n a6 rfl) j8 rfl))))) j8 rfl) rfl))))) l
theorem N2:i3 ["_law_board","_law_found","_law_lows_here","_law_guards","_law_guard","_law_mine","_law_low"] ["_law_board"] (c6 iq):=by walk_at "s"
theorem yt (F:M0 K "_law_sighted" "_law_sighted" iq f v) (e:oi P w K mg base o j) (h:hV P w K mg base p l) (i:mg "max"=none) (g:mg "tuple"=none)
  (len:B8 S5 1) (q:W6 S5 pT 7):p3 P w K mg base M1 3 f v ["_law_board"] (Q0 K S5):=
 W9 (cl:=[.bor,.bor,.own,.own,.bor,.bor,.bor]) F N2 rfl len (λx A outer y H E d=>(JL rfl (ss 1 N2.nd (pc h d (a8 (uv 0 rfl) c8 rfl) rfl) rfl)
   (ss 2 N2.nd CS rfl)
   (ss 3 N2.nd (B3 o7 rfl) rfl)
   (D2 (ak.m (n9 (DC (l4 d (uv 0 rfl) a6) (gJ a6))) rfl) (gn 4 N2.nd)
    (FQ rfl (ss 5 N2.nd (D8 (l4 d (l4 d (l4 d (uv 4 rfl) a6) a6) a6) (l4 d (uv 1 rfl) (l4 d (uv 4 rfl) a6))) rfl)
   (ss 6 N2.nd (p8 (eE rfl) Lx (by rfl) i Vk (a8 (pE (uv 2 rfl) (l4 d (uv 4 rfl) a6) a6 ⟨rfl,rfl,rfl,rfl⟩) (a8 (uv 5 rfl) c8 rfl) rfl)) rfl)
   (O7 (PM.n (B4 (r:=E8) 3 (pv 3) rfl (PU.m (pc e d (a8 (uv 4 rfl) (a8 (D8 (uv 6 rfl) (uv 5 rfl)) c8 rfl) rfl) rfl)) rfl (λu=>Z3 v8 PySem.F.slot_list_append PySem.F.type_list_append y4 (pv 3) u))))
   (Ge 2 (pv 2) rfl (PU.n (p8 (eE rfl) Lx (by rfl) i Vk (a8 (pE (uv 2 rfl) (l4 d (uv 4 rfl) a6) a6 ⟨rfl,rfl,rfl,rfl⟩) (a8 (uv 6 rfl) c8 rfl) rfl)) rfl) (PU.n (l4 d (uv 4 rfl) a6) rfl))) (λa b c=>y1 vc rfl a b c))
   (o8 (M3 (g6 (y7 C7 aT (by rfl) g Os (a8 (GY (uv 3 rfl) (gJ a6)) c8 rfl)) (g6 (PU.u9 (l4 d (uv 0 rfl) a6)) o7 rfl) rfl) rfl) rfl))) q
theorem dH:i3 ["_law_script","_law_board","_law_unit","_law_feed_here","_law_places_here"] ["_law_script"] (c6 DE):=by walk_at "s"
theorem NQ (F:M0 K "_law_case" "_law_case" DE f S) (q:kT P w K mg base Q G) (b:cW P w K mg base J z) (l:Fx P w K mg base M B) (c:wC P w K mg base y r) (e:DX P w K mg base I x) (o:Ky P w K mg base O C) (a:oF P w K mg base u j) (v:mg "len"=none)
  (len:B8 gS 1) (R:W6 gS Kj 5):p3 P w K mg base M1 6 f S ["_law_script"] (Q0 K gS):=
 W9 (cl:=[.bor,.bor,.bor,.own,.bor]) F dH rfl len (λT A outer U H E d=>(JL rfl (Cy (pc e d (a8 (uv 0 rfl) c8 rfl) rfl) rfl (fB (n:=2) (A7 (gn 1 dH.nd) (A7 (gn 2 dH.nd) av)) (λ_ _ _ h=>lK h) (λp=>aF rfl p)) (λp g=>Z0 p g))
   (ss 3 dH.nd (pc q d (a8 (uv 0 rfl) (a8 a6 c8 rfl) rfl) rfl) rfl)
   (L9 (Ko (PM.n (pl 3 b d (i6 (PU.n a6 rfl) j8 rfl))) (PU.n a6 rfl) (j6 _)) (P1 rfl (ss 1 dH.nd (pc a d (a8 (uv 1 rfl) c8 rfl) rfl) rfl)) C1)
   (ss 4 dH.nd (pc c d (a8 (uv 1 rfl) c8 rfl) rfl) rfl)
   (LS (i:=3) (PU.m (PU.u9 (uv 1 rfl))) rfl (pl 3 o d (i6 (PM.n (Fg l (d.mono (by decide)) (by rfl) (i6 (PU.n (uv 1 rfl) rfl) (i6 (X3 (B9 d) (PU.n (uv 4 rfl) rfl) (PM.n (pl 3 b d (i6 (PU.n (p8 C6 aa (by rfl) v Fk (a8 (uv 4 rfl) c8 rfl)) rfl) j8 rfl))) (λ_ _=>rfl)) j8 rfl) rfl) rfl)) (i6 (PU.n (uv 2 rfl) rfl) j8 rfl) rfl)) rfl (pv 3) (by decide) rfl))) R
abbrev xx:WG:=["_law_path_here","_law_at","_law_greatness","_law_guard","_law_one","_law_times"]
theorem gp:i3 xx ["_law_path_here","_law_at","_law_greatness"] (c6 nD):=by walk_at "s"
theorem Cq:(["_law_step","_law_one","_law_greatness"]:WG).Nodup:=by decide +kernel
theorem Ip (F:M0 K "_law_turns" "_law_turns" nD f d) (b:mg "len"=none)
  (len:B8 Y1 3) (c:W6 Y1 Fy 6):p3 P w K mg base M1 1 f d ["_law_path_here","_law_at","_law_greatness"] (Q0 K Y1):=
 W9 (cl:=[.bor,.bor,.bor,.bor,.bor,.bor]) F gp rfl len (λe A outer j H E a=>(FQ rfl (Cy (l4 a (uv 0 rfl) (uv 1 rfl)) rfl (fB (n:=2) (A7 (gn 3 gp.nd) (A7 (CP (wO (i:=4) gp.nd rfl (Or.inr rfl)) rfl) av)) (λ_ _ _ h=>lK h) (λp=>aF rfl p)) (λp g=>Z0 p g))
   (nV (i:=5) (XN:=xx) (N:=["_law_step","_law_one","_law_greatness"]) (XS:=c6 nD) (cap:=[none,some 4,some 2]) gp.nd rfl rfl rfl (by decide +kernel) rfl rfl rfl rfl (n9 (l4 a (uv 3 rfl) a6)) (λ_ _ _ _=>(gn 0 Cq)) (λ_ _ _ _=>(dW (mD (l4 a (uv 0 rfl) a6) (l9 (uv 1 rfl) (uv 2 rfl)) (j6 _)))) (λ_ _ _ _=>(PU.u9 (l4 a (uv 0 rfl) a6))))
   (L9 (P5.m (gQ a (p8 C6 aa (by rfl) b Fk (a8 (uv 5 rfl) c8 rfl)) a6 (j6 _))) (P1 rfl (o8 x5 rfl)) C1)
   (o8 (PU.u9 (l4 a (uv 5 rfl) (gJ a6))) rfl))) c
theorem nr:i3 ["_law_path_here","_law_at","_law_greatness","_law_low","_law_up"] ["_law_path_here","_law_at","_law_greatness"] (c6 Ff):=by walk_at "s"
theorem MG (F:M0 K "_law_lack" "_law_lack" Ff f g) (a:Dg P w K mg base d c)
  (len:B8 iw 3) (e:W6 iw Kk 5):p3 P w K mg base M1 2 f g ["_law_path_here","_law_at","_law_greatness"] (Q0 K iw):=
 W9 (cl:=[.bor,.bor,.bor,.bor,.bor]) F nr rfl len (λh A outer i H E b=>(JL rfl (ss 3 nr.nd (pc a b (a8 (uv 0 rfl) (a8 a6 (a8 (uv 2 rfl) c8 rfl) rfl) rfl) rfl) rfl)
   (ss 4 nr.nd (pc a b (a8 (uv 0 rfl) (a8 (uv 1 rfl) (a8 (uv 2 rfl) c8 rfl) rfl) rfl) rfl) rfl)
   (L9 (P5.m (oo.pt (wY (nG (uv 3 rfl) x5 (j6 _)) (mG (nG (uv 4 rfl) x5 (j6 _)))))) (P1 rfl (o8 x5 rfl)) C1)
   (L9 (P5.m (C5 (pc a b (a8 (uv 0 rfl) (a8 (D8 (uv 1 rfl) a6) (a8 (uv 2 rfl) c8 rfl) rfl) rfl) rfl) x5 (j6 _))) (P1 rfl (ss 4 nr.nd (l9 (uv 4 rfl) (l4 b (l4 b (l4 b (uv 0 rfl) (uv 1 rfl)) a6) a6)) rfl)) C1)
   (o8 (l9 (D8 (uv 3 rfl) (uv 4 rfl)) a6) rfl))) e
theorem K6:i3 ["_law_board","_law_most_here","_law_rows","_law_guard","_law_path_here","_law_at","_law_best","_law_greatness","_law_more"] ["_law_board","_law_most_here"] (c6 nQ):=by walk_at "s"
theorem Av (F:M0 K "_law_pairs" "_law_pairs" nQ f z) (h:Fx P w K mg base v o) (g:CD P w K mg base q l) (i:Kp P w K mg base x p) (j:mg "len"=none) (e:mg "range"=none)
  (len:B8 Y6 2) (y:W6 Y6 wI 9):p3 P w K mg base M1 4 f z ["_law_board","_law_most_here"] (Q0 K Y6):=
 W9 (cl:=[.bor,.bor,.own,.bor,.bor,.bor,.bor,.bor,.bor]) F K6 rfl len (λB A outer C H E d=>(yd rfl (ss 2 K6.nd (B3 o7 rfl) rfl)
   (D2 (ak.m (n9 (l4 d (uv 0 rfl) a6)) rfl) (gn 3 K6.nd)
    (wM rfl (ss 4 K6.nd (pc h d (a8 (uv 0 rfl) (a8 (l4 d (uv 3 rfl) a6) c8 rfl) rfl) rfl) rfl)
   (D2 (ak.m (oO (a8 a6 (a8 (p8 C6 aa (by rfl) j Fk (a8 (uv 4 rfl) c8 rfl)) c8 rfl) rfl) (λu=>lp (by rfl) e u)) rfl) (gn 5 K6.nd)
    (yd rfl (ss 6 K6.nd x5 rfl)
   (D2 (ak.m (n9 (pc g d (a8 (uv 4 rfl) (a8 (uv 1 rfl) c8 rfl) rfl) rfl)) rfl) (gn 7 K6.nd)
    (wM rfl (ss 8 K6.nd (pc i d (a8 (uv 4 rfl) (a8 (uv 5 rfl) (a8 (uv 7 rfl) c8 rfl) rfl) rfl) rfl) rfl)
   (L9 (P5.m (oo.pt (bO (C5 (uv 8 rfl) x5 (j6 _)) (bc (oo.pt (wY (nG (uv 6 rfl) x5 (j6 _)) (mG (Aq (l4 d (uv 6 rfl) a6) (uv 8 rfl) (j6 _))))))))) (P1 rfl (ss 6 K6.nd (M3 (g6 (PU.u9 (l4 d (uv 3 rfl) a6)) (g6 (PU.u9 (l4 d (l4 d (l4 d (uv 4 rfl) (uv 5 rfl)) a6) a6)) (g6 (PU.u9 (uv 8 rfl)) (g6 (PU.u9 (uv 7 rfl)) o7 rfl) rfl) rfl) rfl) rfl) rfl)) C1)) (λa b c=>y1 vc rfl a b c))
   (L9 (P5.m (C5 (uv 6 rfl) x5 (j6 _))) (P1 rfl (O7 (PM.n (B4 (r:=E8) 2 (pv 2) rfl (PU.m (PU.u9 (uv 6 rfl))) rfl (λu=>Z3 v8 PySem.F.slot_list_append PySem.F.type_list_append y4 (pv 2) u))))) C1)) (λa b c=>y1 vc rfl a b c))) (λa b c=>y1 vc rfl a b c))
   (R3 2 (pv 2) (by decide) rfl))) y
theorem aV:i3 ["_law_script","_law_board","_law_most_here","_law_feed_here","_law_due","_law_found"] ["_law_script"] (c6 Y8):=by walk_at "s"
theorem He (F:M0 K "law" "law" Y8 f z) (a:qX P w K mg base o i) (e:AE P w K mg base v q) (j:Kz P w K mg base x u) (c:xM P w K mg base r l) (b:mg "repr"=none)
  (len:B8 cb 1) (y:W6 cb Bc 6):p3 P w K mg base M1 8 f z ["_law_script"] (Q0 K cb):=
 W9 (cl:=[.bor,.bor,.bor,.bor,.bor,.own]) F aV rfl len (λB A outer C H E d=>(Tb rfl (Cy (pc j d (a8 (uv 0 rfl) c8 rfl) rfl) rfl (fB (n:=3) (A7 (gn 1 aV.nd) (A7 (gn 2 aV.nd) (A7 (gn 3 aV.nd) av))) (λ_ _ _ h=>OG h) (λp=>aF rfl p)) (λp g=>Z0 p g))
   (L9 (P5.m (C5 (pc e d (a8 (uv 1 rfl) c8 rfl) rfl) x5 (j6 _))) (P1 rfl (o8 xu rfl)) C1)
   (ss 4 aV.nd (p8 (eG d) sT (by rfl) b Va (a8 (pc c d (a8 (uv 1 rfl) (a8 (uv 2 rfl) c8 rfl) rfl) rfl) c8 rfl)) rfl)
   (ss 5 aV.nd (pc a d (a8 (uv 1 rfl) (a8 (uv 2 rfl) c8 rfl) rfl) rfl) rfl)
   (L9 (P5.m (BF d (p8 (eG d) sT (by rfl) b Va (a8 (uv 5 rfl) c8 rfl)) (uv 4 rfl) (j6 _))) (P1 rfl (o8 xu rfl)) C1)
   (O7 (PM.n (MX 5 (pv 5) rfl (NJ v8 PySem.F.slot_list_clear PySem.F.type_list_clear Ex (pv 5)))))
   (o8 (LA d (p8 (eG d) sT (by rfl) b Va (a8 (pc a d (a8 (uv 1 rfl) (a8 (uv 2 rfl) c8 rfl) rfl) rfl) c8 rfl)) (uv 4 rfl) (j6 _)) rfl))) y
end
local macro_rules | `(tactic| walk_at "w")=>`(tactic| conv=>whnf)
local macro_rules | `(tactic| walk_at "a")=>`(tactic| first | refine⟨rfl,?_⟩ | refine⟨_,rfl,?_⟩ | refine Br.yes rfl ?_ | refine Br.no rfl ?_ | refine⟨(show(0:Int)<_ from by decide),?_⟩ | refine⟨(show R4 _ _ from⟨by decide,by decide⟩),?_⟩ | refine⟨(show ae _ _ from⟨by decide,by decide,by decide⟩),?_⟩ | refine⟨(show K8 _ _ from .inr ⟨by decide,by decide⟩),?_⟩ | refine⟨(show K8 _ _ from .inl ⟨by decide,by decide⟩),?_⟩ | refine⟨_,_,_,rfl,rfl,rfl,?_⟩ | refine⟨_,N0 _ _,?_⟩ | refine⟨_,ag _ _ _,?_⟩ | refine⟨_,_,rfl,rfl,?_⟩)
local macro_rules | `(tactic| walk_at "r")=>`(tactic| ((repeat ((conv=>whnf);(walk_at "a")));(try (conv=>whnf))))
theorem sz{n:Nat}(h:n<=100000):n<=sizeLine:=by rw[GM];omega
theorem gq(x:Str):∀ys:WG,inD (.str x) (ys.map D.str)=decide (x∈ys)
 | []=>rfl
 | y::ys=>by
  have a:=gq x ys;unfold inD at a ⊢;rw[sw,Tk,a];show(decide (y=x)||decide (x∈ys))=_
  by_cases h:y=x
  ·subst h;simp
  ·have b:¬x=y:=λz=>h z.symm;simp[h,b]
theorem aP:∀ys:WG,(ys.map D.str).all Z6=true
 | []=>rfl
 | y::ys=>by
  rw[sw,TN,aP ys];rfl
theorem zp(ds:List D)(Q:D->Prop)(h:O5 ds Q):oG (EP Q) (g9 1 ds):=by
 obtain⟨d,b,rfl,g,o,i,q⟩:=h
 have body:b.length<sizeLine/\qt (g1 0) R6 (w8 (e6 (a7 0) (uC (.int 0)))) (T3 [none] [some d]) b [] λds=>(EP Q).rt (.lst ds) [some d]:=by
  refine⟨g7 (by omega),?_⟩;have e:b=b.map id:=by simp
  rw[e];refine N1 (F:=id) (f:=λd=>.str (Of d)) b [] (λa j K R c=>?_) ?_
  ·obtain⟨x,r,rfl⟩:=i a j;walk_at "r";exact c
  ·have l:b.map (λd=>D.str (Of d))=(b.map Of).map D.str:=by rw[v9];rfl
   rw[u0,l];exact q
 rcases g with rfl | rfl
 ·exact body
 ·exact body
theorem mw:∀{gs:List Gd} {g:Gd},(gs.map (·.nm)).Nodup->g∈gs->gs.find? (λh=>decide (h.nm=g.nm))=some g
 | [],_,_,h=>by cases h
 | a::i,g,h,b=>by
  rw[sw] at h;obtain⟨d,c⟩:=List.nodup_cons.mp h;rw[x0];rcases List.mem_cons.mp b with e | e
  ·subst e;rw[t6 rfl]
  ·have ne:¬a.nm=g.nm:=λz=>d (z▸List.mem_map.mpr ⟨g,e,rfl⟩);rw[vr ne];exact mw c e
theorem aE{gs:List Gd}{g:Gd}(h:(gs.map (·.nm)).Nodup)(a:g∈gs):sH gs g.nm=g.un:=by
 unfold sH;rw[mw h a]
def qO(gs:List Gd)(dp:Nat->Nat)(n:Nat)(y:Str):Prop:=∃(j:Nat) (g:Gd),gs[j]?=some g/\g.nm=y/\1<=dp j/\dp j<=n
def oS(gs:List Gd)(dp:Nat->Nat):Prop:=∀i g,gs[i]?=some g->1<=dp i/\dp i<=8/\(g.un=none->dp i=1)/\∀y,g.un=some y->∃j a,j<i/\gs[j]?=some a/\a.nm=y/\dp i=dp j+1
theorem qO.next{gs:List Gd}{dp:Nat->Nat}{n:Nat}{y z:Str}(h:oS gs dp)(o:(gs.map (·.nm)).Nodup)(d:qO gs dp (n+1) y)(e:sH gs y=some z):qO gs dp n z:=by
 obtain⟨j,g,c,rfl,r,q⟩:=d;rw[aE o (sg c)] at e;obtain⟨_,_,_,a⟩:=h j g c;obtain⟨b,i,_,l,p,u⟩:=a z e;exact⟨b,i,l,p,(h b i l).1,by omega⟩
theorem Gm(ds:List D)(Q:D->Prop)(h:cm ds Q):BN (EP Q) (g9 5 ds):=by
 obtain⟨d,gs,x,rfl,hs,O,⟨g0,M,e0⟩,q⟩:=h;obtain⟨dp,B⟩:=O.un;have B:oS gs dp:=B;have hl:=O.len;have I:=O.nd
 have l:∀c:List (Key×D),(∀g∈gs,x3 c (.inr g.nm)=some (uD g.un))->pB (EP Q) [some d,some (.str x),some (.dic c),none,none]:=λc hv=>by
  walk_at "r";refine⟨λm T=>∃(b:WG) (a:Option Str) (E:Option D),T=[some d,some (uD a),some (.dic c),E,some (jw b)]/\b++ups gs m a=ups gs 8 (some x)/\b.length<=8-m/\m<=8/\(∀y,a=some y->qO gs dp m y),⟨8,[],some x,none,rfl,rfl,v5 _,oT _,λy hy=>?_⟩,?_⟩
  ·cases hy;obtain⟨j,U⟩:=x4 M;obtain⟨a1,a2,_⟩:=B j g0 U;exact⟨j,g0,U,e0,a1,a2⟩
  ·rintro m T ⟨b,a,E,rfl,i,ha,hm,hd⟩
   cases a with
   | none=>
    walk_at "r";have e:ups gs m none=[]:=by cases m<;>rfl
    rw[e,tz] at i;rw[<-i] at q;exact q
   | some y=>
    have S:=hd y rfl
    have J:∃G,m=G+1:=by
     obtain⟨_,_,_,_,Y,X⟩:=S;exact⟨m-1,by omega⟩
    obtain⟨G,rfl⟩:=J
    have C:∃g∈gs,g.nm=y:=by
     obtain⟨j,g,Y,X,_⟩:=S;exact⟨g,sg Y,X⟩
    obtain⟨g,p,rfl⟩:=C;have o:=aE I p;walk_at "r";refine⟨by rw[dL];exact g7 (by omega),?_⟩;refine⟨_,_,rfl,hv g p,rfl,?_⟩;refine⟨G,Ub _,b++[g.nm],g.un,E,?_,?_,?_,by omega,λz hz=>S.next B I (o.trans hz)⟩
    ·unfold jw;rw[ue];rfl
    ·rw[wh,<-o];exact i
    ·rw[tt,wf];omega
 rcases hs with rfl | rfl
 all_goals
  refine⟨by rw[dL];exact g7 (by omega),?_⟩;refine nO (k:=λg:Gd=>.inr g.nm) (v:=λg:Gd=>uD g.un) gs [] (λg C K R H=>?_) ⟨rfl,?_⟩
  ·obtain⟨n,u,cv,de,wa⟩:=g;have H:K (.inr n) (uD u):=H;have iU:u9 (uD u)=true:=jk u;walk_at "r";exact⟨iU,H⟩
  ·refine l _ λg C=>iy (k:=λg:Gd=>(.inr g.nm:Key)) (v:=λg:Gd=>uD g.un) gs [] ?_ g C;have e:gs.map (λg:Gd=>(.inr g.nm:Key))=(gs.map (·.nm)).map (λy=>(.inr y:Key)):=by rw[v9];rfl
   rw[e,List.Nodup,TX];exact I.imp λh z=>h (Ua z)
theorem Pn(gs:List Gd):(gs.map gD).map Of=gs.map (·.nm):=by rw[v9];rfl
theorem HV(gs:List Gd):∀x∈gs.map gD,LX x:=λx a=>by
 obtain⟨g,_,rfl⟩:=List.mem_map.mp a;exact⟨_,_,rfl⟩
theorem OI(gs:List Ld):(gs.map lD).map Of=gs.map (·.nm):=by rw[v9];rfl
theorem Hj(gs:List Ld):∀x∈gs.map lD,LX x:=λx a=>by
 obtain⟨g,_,rfl⟩:=List.mem_map.mp a;exact⟨_,_,rfl⟩
theorem j7.eh{b:Bd}(h:j7 b):Oi b.gs:=⟨h.g16,(List.nodup_append.mp h.nd).1,h.un⟩
theorem sU(ds:List D)(Q:D->Prop)(h:J7 ds Q):lU (EP Q) (g9 1 ds):=by
 obtain⟨b,rfl,a,q⟩:=h;have:=a.g16;walk_at "r";refine⟨_,_,rfl,.inl rfl,by rw[dL];omega,HV _,?_⟩;rw[Pn];exact q
theorem Ad(ds:List D)(Q:D->Prop)(h:S0 ds Q):pO (EP Q) (g9 1 ds):=by
 obtain⟨b,rfl,a,q⟩:=h;have:=a.l24;walk_at "r";refine⟨_,_,rfl,.inl rfl,by rw[dL];omega,Hj _,?_⟩;rw[OI];exact q
theorem vt(ds:List D)(Q:D->Prop)(h:M9 ds Q):lA (EP Q) (g9 2 ds):=by
 obtain⟨b,d,rfl,g,e,q⟩:=h;obtain⟨a,c⟩:=JQ e;refine⟨d,a,"str",rfl,c,rfl,?_⟩;show Br (HI a "str") _ _;cases d<;>first | (cases c;done) | skip
 case str x=>
  cases c;refine Br.yes rfl ?_;have q:Q (.bl (decide (x∈u3 b))):=q;rw[<-gq] at q;refine⟨b,rfl,g,?_⟩;exact⟨rfl,_,rfl,aP _,q⟩
 all_goals
  cases c;exact Br.no (by decide) q
theorem zM(ds:List D)(Q:D->Prop)(h:R7 ds Q):sy (EP Q) (g9 2 ds):=by
 obtain⟨b,d,rfl,g,e,q⟩:=h;obtain⟨a,c⟩:=JQ e;refine⟨d,a,"str",rfl,c,rfl,?_⟩;show Br (HI a "str") _ _;cases d<;>first | (cases c;done) | skip
 case str x=>
  cases c;refine Br.yes rfl ?_;have q:Q (.bl (decide (x∈K4 b))):=q;rw[<-gq] at q;refine⟨b,rfl,g,?_⟩;exact⟨rfl,_,rfl,aP _,q⟩
 all_goals
  cases c;exact Br.no (by decide) q
theorem uL(ds:List D)(Q:D->Prop)(h:M4 ds Q):kY (EP Q) (g9 2 ds):=by
 obtain⟨b,d,rfl,c,a,q⟩:=h;refine⟨b,d,rfl,c,a,?_⟩;show Br (mR (u3 b) d) _ _;refine⟨λe=>?_,λe=>⟨b,d,rfl,c,a,?_⟩⟩
 ·rw[e] at q;exact q
 ·rw[e] at q;exact q
theorem HF{b:Bd}(a:j7 b):(b.ls.map (·.nm)).Nodup:=(List.nodup_append.mp a.nd).2.1
theorem O1:∀{ls:List Ld} {l:Ld},(ls.map (·.nm)).Nodup->l∈ls->ls.find? (λh=>decide (h.nm=l.nm))=some l
 | [],_,_,h=>by cases h
 | a::i,g,h,b=>by
  rw[sw] at h;obtain⟨d,c⟩:=List.nodup_cons.mp h;rw[x0];rcases List.mem_cons.mp b with e | e
  ·subst e;rw[t6 rfl]
  ·have ne:¬a.nm=g.nm:=λz=>d (z▸List.mem_map.mpr ⟨g,e,rfl⟩);rw[vr ne];exact O1 c e
theorem ax{ls:List Ld}{x:Str}(h:x∉ls.map (·.nm)):ls.find? (λh=>decide (h.nm=x))=none:=by
 rw[List.find?_eq_none];intro l a e;exact h (List.mem_map.mpr ⟨l,a,wP e⟩)
theorem sG{b:Bd}(a:j7 b){x:Str}(d:x∈u3 b++K4 b):∃g∈b.gs,g.nm=X0 b x:=by
 unfold X0;rcases List.mem_append.mp d with h | h
 ·have i:x∉b.ls.map (·.nm):=λz=>(List.nodup_append.mp a.nd).2.2 x h x z rfl;rw[ax i];obtain⟨g,j,e⟩:=List.mem_map.mp h;exact⟨g,j,e⟩
 ·obtain⟨l,c,rfl⟩:=List.mem_map.mp h;rw[O1 (HF a) c];exact a.at_ l c
theorem GU{b:Bd}(g:j7 b)(a:List (Key×D))(d:∀l∈b.ls,x3 a (.inr l.nm)=some (.str l.at_))(e:∀x,x∉K4 b->x3 a (.inr x)=none)(x:Str):(x3 a (.inr x)).getD (.str x)=.str (X0 b x):=by
 unfold X0
 by_cases h:x∈K4 b
 ·obtain⟨l,c,rfl⟩:=List.mem_map.mp h;rw[O1 (HF g) c,d l c];rfl
 ·rw[ax h,e x h];rfl
theorem MZ(ds:List D)(Q:D->Prop)(W:Str->Prop)(h:fm ds Q W):JU W (EP Q) (g9 4 ds):=by
 obtain⟨b,d,rfl,a,p,h⟩:=h;refine⟨b,d,rfl,a,p,?_⟩;show Br (!(mR (u3 b) d||mR (K4 b) d)) (iH W _ _) _;rcases h with⟨x,rfl,j,q⟩ | ⟨G,E,w⟩
 ·refine Br.no ?_ ?_
  ·show(!(decide (x∈u3 b)||decide (x∈K4 b)))=false;rcases List.mem_append.mp j with h | h
   ·rw[t6 h];rfl
   ·rw[t6 h,Bool.or_true];rfl
  have C:=a.l24;refine⟨_,ag _ _ _,by rw[dL];exact g7 (by omega),?_⟩;refine nO (k:=λl:Ld=>.inr l.nm) (v:=λl:Ld=>.str l.at_) b.ls [] (λl c K R i=>?_) ⟨rfl,?_⟩
  ·obtain⟨n,u,cv,de,wa⟩:=l;have i:K (.inr n) (.str u):=i;walk_at "r";exact i
  ·have e:=GU a _ (λl c=>iy (k:=λg:Ld=>(.inr g.nm:Key)) (v:=λg:Ld=>.str g.at_) b.ls [] (by
     have e:b.ls.map (λg:Ld=>(.inr g.nm:Key))=(b.ls.map (·.nm)).map (λy=>(.inr y:Key)):=by rw[v9];rfl
     rw[e,List.Nodup,TX];exact(HF a).imp λh z=>h (Ua z)) l c)
    (λy o=>dZ (k:=λg:Ld=>(.inr g.nm:Key)) (v:=λg:Ld=>.str g.at_) (.inr y) b.ls [] λl c z=>o (List.mem_map.mpr ⟨l,c,Ua z⟩)) x
   obtain⟨g,B,H⟩:=sG a j;walk_at "r";rw[e];exact⟨rfl,_,b.gs,X0 b x,rfl,.inl rfl,a.eh,⟨g,B,H⟩,q⟩
 ·refine Br.yes (by rw[G,E];rfl) ?_;exact⟨rfl,w⟩
theorem sum_add{a:Type}(f g:a->Int):∀l:List a,(l.map λx=>f x+g x).sum=(l.map f).sum+(l.map g).sum
 | []=>rfl
 | x::l=>by
  rw[sw,sw,sw,On,On,On,sum_add f g l];omega
theorem O6{a:Type}(l:List a)(f:a->Int)(h:∀x∈l,f x=0):(l.map f).sum=0:=by
 induction l with
 | nil=>rfl
 | cons x l b=>rw[sw,On,h x re,b λy c=>h y (hQ _ c)];rfl
theorem K1{a:Type}{l:List a}{f g:a->Int}(h:∀x∈l,f x=g x):(l.map f).sum=(l.map g).sum:=by
 rw[PP h]
theorem qY{b a:Type}(f:b->a->Int)(m:List a):∀l:List b,(l.map λx=>(m.map λy=>f x y).sum).sum=(m.map λy=>(l.map λx=>f x y).sum).sum
 | []=>(O6 m (λ_=>0) λ_ _=>rfl).symm
 | x::l=>by
  rw[sw,On,qY f m l,<-sum_add];rfl
theorem xC{a:Type}(f:a->Int)(c:Int):∀l:List a,(l.map f).sum*c=(l.map λx=>f x*c).sum
 | []=>UH c
 | x::l=>by rw[sw,sw,On,On,VM,xC f c l]
theorem mf{b:Type}{nm:b->Str}(f:b->Int):∀{l:List b} {a:b},(l.map nm).Nodup->a∈l->(l.map λx=>if nm x=nm a then f x else 0).sum=f a
 | [],_,_,h=>by cases h
 | x::l,a,nd,h=>by
  rw[sw] at nd;obtain⟨c,g⟩:=List.nodup_cons.mp nd;rw[sw,On];rcases List.mem_cons.mp h with e | e
  ·subst e;rw[ry rfl,O6 l _ λy d=>ro λz:nm y=nm a=>c (z▸List.mem_map.mpr ⟨y,d,rfl⟩)];omega
  ·have ne:¬nm x=nm a:=λz=>c (z▸List.mem_map.mpr ⟨a,e,rfl⟩);rw[ro ne,mf f g e];omega
theorem eZ(y x:Str)(l:WG):(((x::l).count y:Nat):Int)=(if x=y then 1 else 0)+((l.count y:Nat):Int):=by
 rw[List.count_cons]
 by_cases h:x=y
 ·subst h;simp;omega
 ·simp[h]
theorem xj{gs:List Gd}{dp:Nat->Nat}(b:oS gs dp)(nd:(gs.map (·.nm)).Nodup)(y:Str):∀(n:Nat) (x:Str),qO gs dp n x ->
  (((ups gs n (some x)).count y:Nat):Int)=(if x=y then 1 else 0)+(gs.map λh=>if h.un=some y then(((ups gs n (some x)).count h.nm:Nat):Int) else 0).sum
 | 0,x,d=>by
  obtain⟨_,_,_,_,p,o⟩:=d;omega
 | n+1,x,d=>by
  obtain⟨j,g,l,rfl,p,o⟩:=id d;have c:=sg l;have a:=aE nd c
  have C:ups gs (n+1) (some g.nm)=g.nm::ups gs n g.un:=by
   show g.nm::ups gs n (sH gs g.nm)=_;rw[a]
  rw[C,eZ]
  have B:(gs.map λh=>if h.un=some y then(((g.nm::ups gs n g.un).count h.nm:Nat):Int) else 0).sum=(if g.un=some y then 1 else 0)+(gs.map λh=>if h.un=some y then(((ups gs n g.un).count h.nm:Nat):Int) else 0).sum:=by
   have v:=mf (nm:=λh:Gd=>h.nm) (λh:Gd=>if h.un=some y then 1 else 0) nd c;rw[<-v,<-sum_add];refine K1 λh _=>?_;rw[eZ]
   by_cases z:h.un=some y
   ·rw[ry z,ry z,ry z]
    by_cases z2:g.nm=h.nm
    ·rw[ry z2,ry z2.symm]
    ·rw[ro z2,ro λw=>z2 w.symm]
   ·rw[ro z,ro z,ro z];split<;>rfl
  rw[B]
  cases i:g.un with
  | none=>
   have u:ups gs n none=[]:=by cases n<;>rfl
   rw[u,O6 gs _ λh _=>by split<;>rfl];rw[show(if (none:Option Str)=some y then(1:Int) else 0)=0 from ro (by intro z;cases z)];simp
  | some z=>
   have E:=d.next b nd (a.trans i)
   have e:=xj b nd y n z E;rw[e]
   have r:(if (some z:Option Str)=some y then(1:Int) else 0)=if z=y then 1 else 0:=by
    by_cases w:z=y
    ·rw[ry w,ry (by rw[w])]
    ·rw[ro w,ro λq=>w (v7 q)]
   rw[r]
theorem T6{b:Bd}(d:j7 b){x:Str}(a:x∈u3 b):X0 b x=x:=by
 have c:x∉b.ls.map (·.nm):=λz=>(List.nodup_append.mp d.nd).2.2 x a x z rfl;unfold X0;rw[ax c]
theorem xF{b:Bd}(c:j7 b){l:Ld}(a:l∈b.ls):X0 b l.nm=l.at_:=by
 unfold X0;rw[O1 (HF c) a]
theorem xA{b:Bd}(h:j7 b):∃dp,oS b.gs dp/\∀x∈u3 b,qO b.gs dp 8 x:=by
 obtain⟨dp,a⟩:=h.eh.un;refine⟨dp,a,λx d=>?_⟩;obtain⟨g,e,rfl⟩:=List.mem_map.mp d;obtain⟨j,c⟩:=x4 e;obtain⟨l,i,_⟩:=a j g c;exact⟨j,g,c,rfl,l,i⟩
theorem qh{b:Bd}(d:j7 b){x:Str}(a:x∈u3 b++K4 b):X0 b x∈u3 b:=by
 obtain⟨g,c,e⟩:=sG d a;rw[<-e];exact List.mem_map.mpr ⟨g,c,rfl⟩
theorem Az{b:Bd}(a:j7 b){x:Str}(d:x∈u3 b++K4 b)(y:Str) :
  (((i9 b x).count y:Nat):Int)=(if X0 b x=y then 1 else 0)+(b.gs.map λh=>if h.un=some y then(((i9 b x).count h.nm:Nat):Int) else 0).sum:=by
 obtain⟨dp,c,e⟩:=xA a;exact xj c a.eh.nd y 8 _ (e _ (qh a d))
theorem dA{gs:List Gd}{dp:Nat->Nat}(a:oS gs dp)(nd:(gs.map (·.nm)).Nodup):∀(n m:Nat) (x:Str),qO gs dp n x->n<=m->ups gs m (some x)=ups gs n (some x)
 | 0,_,_,d,_=>by
  obtain⟨_,_,_,_,e,c⟩:=d;omega
 | n+1,0,_,_,h=>by omega
 | n+1,m+1,x,d,h=>by
  show x::ups gs m (sH gs x)=x::ups gs n (sH gs x)
  cases b:sH gs x with
  | none=>cases m<;>cases n<;>rfl
  | some z=>rw[dA a nd n m z (d.next a nd b) (by omega)]
theorem xK{gs:List Gd}{dp:Nat->Nat}(b:oS gs dp)(nd:(gs.map (·.nm)).Nodup):∀(n:Nat) (x y:Str),n<=8->qO gs dp n x->y∈ups gs n (some x)->∀z∈ups gs 8 (some y),z∈ups gs n (some x)
 | 0,_,_,_,d,_=>by
  obtain⟨_,_,_,_,j,i⟩:=d;omega
 | n+1,x,y,h,d,g=>by
  have g:y∈x::ups gs n (sH gs x):=g;rcases List.mem_cons.mp g with e | e
  ·subst e;rw[dA b nd (n+1) 8 y d h];exactλz c=>c
  ·cases a:sH gs x with
   | none=>
    rw[a] at e;cases n<;>cases e
   | some w=>
    rw[a] at e;intro z c;show z∈x::ups gs n (sH gs x);rw[a];exact hQ _ (xK b nd n w y (by omega) (d.next b nd a) e z c)
theorem GG{b:Bd}(a:j7 b){x y:Str}(e:x∈u3 b++K4 b)(d:y∈u3 b)(h:y∈i9 b x):∀z∈i9 b y,z∈i9 b x:=by
 obtain⟨dp,c,g⟩:=xA a;unfold i9;rw[T6 a d];exact xK c a.eh.nd 8 _ y (oT _) (g _ (qh a e)) h
theorem DQ{b:Bd}(g:j7 b){a:WG}{x y:Str}(e:x∈u3 b++K4 b)(d:y∈u3 b)(h:y∈i9 b x)(f:F0 b a x=true):F0 b a y=true:=by
 unfold F0 at f ⊢;rw[Ue] at f ⊢;exactλz c=>f z (GG g e d h z c)
theorem Li{b:Bd}(c:j7 b){a:WG}{x:Str}(d:x∈u3 b++K4 b):F0 b a x=F0 b a (X0 b x):=by
 unfold F0 i9;rw[T6 c (qh c d)]
def ur(b:Bd)(P:Str->Int)(y:Str):Int:=P y+(b.ls.map λl=>if l.at_=y then P l.nm else 0).sum
theorem Gk{b:Bd}(c:j7 b)(P:Str->Int){y:Str}(d:y∈u3 b):((u3 b++K4 b).map λx=>if X0 b x=y then P x else 0).sum=ur b P y:=by
 rw[ue,UC]
 have i:((u3 b).map λx=>if X0 b x=y then P x else 0).sum=P y:=by
  have:=mf (nm:=λx:Str=>x) P (l:=u3 b) (a:=y) (by rw[List.map_id'];exact c.eh.nd) d;rw[<-this];exact K1 λx e=>by rw[T6 c e]
 have h:((K4 b).map λx=>if X0 b x=y then P x else 0).sum=(b.ls.map λl=>if l.at_=y then P l.nm else 0).sum:=by
  unfold K4;rw[v9]
  exact K1 λl g=>by
   show(if X0 b l.nm=y then P l.nm else 0)=_;rw[xF c g]
 rw[i,h];rfl
theorem EV{b:Bd}(e:j7 b)(c:WG)(P:Str->Int){y:Str}(g:y∈u3 b) :
  O4 b c P y=if F0 b c y then ur b P y+(b.gs.map λh=>if h.un=some y then O4 b c P h.nm else 0).sum else 0:=by
 by_cases f:F0 b c y=true
 ·rw[ry f,<-Gk e P g]
  have l:(b.gs.map λh=>if h.un=some y then O4 b c P h.nm else 0).sum=((u3 b++K4 b).map λx=>(b.gs.map λh=>if h.un=some y then(if F0 b c x then(((i9 b x).count h.nm:Nat):Int)*P x else 0) else 0).sum).sum:=by
   rw[qY];refine K1 λh _=>?_
   by_cases z:h.un=some y
   ·rw[ry z];unfold O4;exact K1 λx _=>by rw[ry z]
   ·rw[ro z];exact(O6 _ _ λx _=>ro z).symm
  rw[l,<-sum_add];unfold O4;refine K1 λx d=>?_;rw[Az e d y,VM,xC]
  by_cases a:F0 b c x=true
  ·rw[ry a];have j:(if X0 b x=y then(1:Int) else 0)*P x=if X0 b x=y then P x else 0:=by split<;>simp
   rw[j];congr 1;refine K1 λh _=>?_
   by_cases z:h.un=some y
   ·rw[ry z,ry z,ry a]
   ·rw[ro z,ro z];simp
  ·rw[ro a];have i:¬X0 b x=y:=λz=>a (by rw[Li e d,z];exact f);rw[ro i,O6 b.gs _ λh _=>by rw[ro a];split<;>rfl];rfl
 ·rw[ro f];unfold O4;refine O6 _ _ λx d=>?_
  by_cases a:F0 b c x=true
  ·rw[ry a];have:y∉i9 b x:=λz=>f (DQ e d g z a);rw[List.count_eq_zero.mpr this];simp
  ·rw[ro a]
theorem Cz{o:D}{a:WG}(h:MC o a):pY o=some (a.map D.str):=by
 rcases h with rfl | rfl<;>rfl
theorem eD{b:Type}(k:b->Str)(v:b->D):∀as:List b,bF (as.map λa=>.tup [.str (k a),v a])=some (as.map λa=>((.inr (k a):Key),v a))
 | []=>rfl
 | a::as=>by
  rw[sw];unfold bF;rw[eD k v as];rfl
theorem lR{b:Type}(k:b->Str)(v:b->D)(as:List b):iO (as.map λa=>((.inr (k a):Key),v a))=as.foldl (λacc a=>putD acc (.inr (k a)) (v a)) []:=by
 unfold iO;rw[List.foldl_map]
theorem P9{b:Type}{k:b->Str}{v:b->D}{as:List b}(nd:(as.map k).Nodup){a:b}(c:a∈as):x3 (as.map λa=>((.inr (k a):Key),v a)) (.inr (k a))=some (v a):=by
 induction as with
 | nil=>cases c
 | cons x as d=>
  rw[sw] at nd;obtain⟨h,g⟩:=List.nodup_cons.mp nd;unfold x3;rw[sw,x0];rcases List.mem_cons.mp c with e | e
  ·subst e;rw[t6 rfl];rfl
  ·have ne:¬(Sum.inr (k x):Key)=Sum.inr (k a):=λz=>h (Ua z▸List.mem_map.mpr ⟨a,e,rfl⟩);rw[vr ne];exact d g e
theorem ir{b:Type}{k:b->Str}{v:b->D}{as:List b}{x:Str}(h:x∉as.map k):x3 (as.map λa=>((.inr (k a):Key),v a)) (.inr x)=none:=by
 unfold x3;rw[Option.map_eq_none_iff,List.find?_eq_none];intro g c e;obtain⟨a,d,rfl⟩:=List.mem_map.mp c;exact h (List.mem_map.mpr ⟨a,d,Ua (wP e)⟩)
theorem kP{b:Type}{k:b->Str}{v:b->D}(as:List b)(x:Str):((as.map λa=>((.inr (k a):Key),v a)).any λg=>decide (g.1=Sum.inr x))=decide (x∈as.map k):=by
 by_cases h:x∈as.map k
 ·rw[t6 h,UZ];obtain⟨a,d,rfl⟩:=List.mem_map.mp h;exact⟨_,List.mem_map.mpr ⟨a,d,rfl⟩,t6 rfl⟩
 ·rw[vr h,TZ];intro g c e;obtain⟨a,d,rfl⟩:=List.mem_map.mp c;exact h (List.mem_map.mpr ⟨a,d,Ua (wP e)⟩)
theorem dM{b:Type}{k:b->Str}{v:b->D}{as:List b}{x:Str}{d:D}(h:x∉as.map k):putD (as.map λa=>((.inr (k a):Key),v a)) (.inr x) d=(as.map λa=>((.inr (k a):Key),v a))++[(.inr x,d)]:=by
 unfold putD;rw[kP,vr h];rfl
theorem cT{b:Bd}{v:Str->Int}{x:Str}{n:Int}(a:x∈u3 b):putD (j9 b v) (.inr x) (.int n)=j9 b (λy=>if y=x then n else v y):=by
 unfold j9 putD;rw[kP (k:=λg:Gd=>g.nm) (v:=λg:Gd=>.int (v g.nm)),t6 (show x∈b.gs.map (λg:Gd=>g.nm) from a),ry rfl,v9];refine PP λg _=>?_;show(if (Sum.inr g.nm:Key)=Sum.inr x then _ else _)=_
 by_cases e:g.nm=x
 ·rw[ry (by rw[e])];show(_,D.int n)=(_,D.int (if g.nm=x then n else v g.nm));rw[ry e]
 ·rw[ro λz=>e (Ua z)];show(_,D.int (v g.nm))=(_,D.int (if g.nm=x then n else v g.nm));rw[ro e]
theorem G8{b:Bd}(d:j7 b){v:Str->Int}{x:Str}(a:x∈u3 b):x3 (j9 b v) (.inr x)=some (.int (v x)):=by
 obtain⟨g,c,rfl⟩:=List.mem_map.mp a;exact P9 (k:=λg:Gd=>g.nm) (v:=λg:Gd=>.int (v g.nm)) d.eh.nd c
theorem y9{b:Bd}{v w:Str->Int}(h:∀x∈u3 b,v x=w x):j9 b v=j9 b w:=
 PP λg a=>by rw[h g.nm (List.mem_map.mpr ⟨g,a,rfl⟩)]
theorem cR(b:Bd)(v:Str->Int):(j9 b v).length=b.gs.length:=dL _
theorem S1{b:Type}{k:b->Str}{v:b->D}:∀{as bs:List b},((bs++as).map k).Nodup->as.foldl (λacc a=>putD acc (.inr (k a)) (v a)) (bs.map λa=>((.inr (k a):Key),v a))=(bs++as).map λa=>((.inr (k a):Key),v a)
 | [],bs,_=>by rw[tz];rfl
 | a::as,bs,nd=>by
  have e:bs++a::as=(bs++[a])++as:=by rw[wh];rfl
  rw[TK,e]
  have c:k a∉bs.map k:=λz=>by
   rw[ue,sw] at nd;exact(List.nodup_append.mp nd).2.2 _ z _ re rfl
  rw[dM c];have d:(bs.map λa=>((.inr (k a):Key),v a))++[(.inr (k a),v a)]=(bs++[a]).map λa=>((.inr (k a):Key),v a):=by rw[ue];rfl
  rw[d];exact S1 (by rw[<-e];exact nd)
theorem aY{j:Type}{g:af}{tc:aj}{tk te:TU}{i:Ev}{F v:j->D}{k:j->Key}{Q:List (Key×D)->Prop}(p:j->Bool):∀(as:List j) (acc:List (Key×D)),(∀a∈as,∀(K:Key->D->Prop) (R:Prop),(p a=true->K (k a) (v a))->(p a=false->R)->g (F a) i λc=>tc c λb=>Br b (tk c λy=>te c λd=>∃k,V0 y=some k/\u9 d=true/\K k d) R) ->
  Q ((as.filter p).foldl (λacc a=>putD acc (k a) (v a)) acc)->nX g tc tk te i (as.map F) acc Q
 | [],acc,_,q=>q
 | a::as,acc,h,q=>by
  rw[sw];refine h a re (λk d=>nX g tc tk te i (as.map F) (putD acc k d) Q) _ (λe=>aY p as _ (λb l=>h b (hQ _ l)) ?_) λe=>aY p as acc (λb l=>h b (hQ _ l)) ?_
  ·rw[Rl,ry e] at q;exact q
  ·rw[Rl,ro (by rw[e];exact rm)] at q;exact q
theorem oU{kvs:List (Key×D)}(h:tE kvs)(x:Str):(x3 kvs (.inr x)).getD (.int 0)=.int (Pd kvs x):=by
 unfold Pd
 cases e:x3 kvs (.inr x) with
 | none=>rfl
 | some d=>
  unfold x3 at e;obtain⟨b,a,rfl⟩:=Option.map_eq_some_iff.mp e;obtain⟨n,c⟩:=h b (List.mem_of_find?_eq_some a);show b.2=_;rw[c]
theorem DN(a:WG)(x:Str):AJ (a.map Sum.inr) (.inr x)=decide (x∈a):=by
 unfold AJ;rw[List.any_map]
 by_cases h:x∈a
 ·rw[t6 h,UZ];exact⟨x,h,t6 rfl⟩
 ·rw[vr h,TZ];intro y b e;have:y=x:=Ua (wP e);exact h (this▸b)
theorem BP{b:Bd}(a:j7 b)(d:WG){g:Gd}(l:g∈b.gs):F0 b d g.nm=(decide (g.nm∉d)&&match g.un with | none=>true | some y=>F0 b d y):=by
 have i:g.nm∈u3 b:=List.mem_map.mpr ⟨g,l,rfl⟩;obtain⟨dp,e,x⟩:=xA a;have c:=aE a.eh.nd l
 have v:i9 b g.nm=g.nm::ups b.gs 7 g.un:=by
  unfold i9;rw[T6 a i];show g.nm::ups b.gs 7 (sH b.gs g.nm)=_;rw[c]
 unfold F0;rw[v,TN]
 cases p:g.un with
 | none=>rfl
 | some y=>
  have d7:=(x _ i).next e a.eh.nd (c.trans p)
  have o:y∈u3 b:=by
   obtain⟨j,h,r,q,_⟩:=d7;exact List.mem_map.mpr ⟨h,sg r,q⟩
  have u:i9 b y=ups b.gs 7 (some y):=by
   unfold i9;rw[T6 a o];exact dA e a.eh.nd 7 8 y d7 (by decide)
  show(_&&_)=(_&&(i9 b y).all _);rw[u]
theorem zC(ds:List D)(Q:D->Prop)(h:Q3 ds Q):oP (EP Q) (g9 1 ds):=by
 obtain⟨cv,rfl,a,q⟩:=h
 cases cv with
 | nil=>exact absurd a.1 (by decide)
 | cons p b=>
  walk_at "r";exact q
theorem Te{T:W0}{b:Bd}{o:D}{a:WG}{i:Nat}{g:Gd}{x:Option D}(r:j7 b)(q:b.gs[i]?=some g)
  (J:T.nx [some (bD b),some o,some (.st (a.map Sum.inr)),some (.dic ((b.gs.take (i+1)).map λg=>(.inr g.nm,.bl (F0 b a g.nm)))),x,some (.str g.nm),some (uD g.un)]) :
  Z2 T [some (bD b),some o,some (.st (a.map Sum.inr)),some (.dic ((b.gs.take i).map λg=>(.inr g.nm,.bl (F0 b a g.nm)))),x,some (.str g.nm),some (uD g.un)]:=by
 have U:=r.g16;have H:=sg q;have X:=(List.getElem?_eq_some_iff.mp q).1
 have d:g.nm∉(b.gs.take i).map (λg:Gd=>g.nm):=λz=>by
  obtain⟨h,S,e⟩:=List.mem_map.mp z;obtain⟨j,p⟩:=x4 S;have G:=(List.getElem?_eq_some_iff.mp p).1;rw[vy] at G;rw[FM (by omega)] at p;have:=(UQ (i:=j) (j:=i) (l:=b.gs.map (·.nm)) (by rw[dL];omega) r.eh.nd).mp (by rw[rx,rx,p,q];show some h.nm=some g.nm;rw[e]);omega
 have c:∀k:Bool,k=F0 b a g.nm->∃j,V0 (.str g.nm)=some j/\((b.gs.take i).map λg:Gd=>((.inr g.nm:Key),D.bl (F0 b a g.nm))).length<sizeLine/\T.nx [some (bD b),some o,some (.st (a.map Sum.inr)),some (.dic (putD ((b.gs.take i).map λg=>(.inr g.nm,.bl (F0 b a g.nm))) j (.bl k))),x,some (.str g.nm),some (uD g.un)]:=λk R=>by
  refine⟨.inr g.nm,rfl,by rw[dL,vy];exact g7 (by omega),?_⟩;rw[dM (k:=λg:Gd=>g.nm) (v:=λg:Gd=>.bl (F0 b a g.nm)) d,R];rw[v2,q,ue] at J;exact J
 have st:=BP r a H;refine⟨_,rfl,?_⟩;show Br (!AJ (a.map Sum.inr) (.inr g.nm)) _ _;rw[DN]
 by_cases u:g.nm∈a
 ·refine Br.no (by rw[t6 u];rfl) ?_;rw[show decide (g.nm∉a)=false from vr λz=>z u] at st;exact⟨rfl,rfl,c false st.symm⟩
 ·refine Br.yes (by rw[vr u];rfl) ?_;rw[show decide (g.nm∉a)=true from t6 u,Bool.true_and] at st
  cases C:g.un with
  | none=>
   rw[C] at st c;exact Br.yes rfl ⟨rfl,rfl,c true st.symm⟩
  | some y=>
   rw[C] at st c;obtain⟨dp,O⟩:=r.un;obtain⟨_,_,_,up⟩:=O i g q;obtain⟨j,M,p,I,rfl,_⟩:=up y C
   have E:M∈b.gs.take i:=by
    refine sg (i:=j) ?_;rw[FM p];exact I
   have B:((b.gs.take i).map λg:Gd=>g.nm).Nodup:=by
    rw[List.map_take];exact r.eh.nd.sublist (TW _ _)
   have Q:=P9 (k:=λg:Gd=>g.nm) (v:=λg:Gd=>.bl (F0 b a g.nm)) B E;refine Br.no rfl ?_;exact⟨_,_,rfl,Q,rfl,rfl,c (F0 b a M.nm) st.symm⟩
theorem oH(ds:List D)(Q:D->Prop)(h:J3 ds Q):jq (EP Q) (g9 7 ds):=by
 obtain⟨b,o,a,rfl,u,v,x,q⟩:=h;have B:=u.g16;have C:a.map D.str=(a.map (Sum.inr:Str->Key)).map kD:=by rw[v9];rfl
 refine⟨o,a.map Sum.inr,rfl,by rw[<-C];exact Cz v,by rw[dL];exact x,rfl,rfl,?_⟩;refine⟨_,N0 _ _,?_⟩;refine .of ⟨λi c=>∃l j d:Option D,c=[some (bD b),some o,some (.st (a.map Sum.inr)),some (.dic ((b.gs.take i).map λg=>(.inr g.nm,.bl (F0 b a g.nm)))),l,j,d],⟨none,none,none,rfl⟩,?_,?_⟩
 ·rintro i e c z ⟨l,j,d,rfl⟩;obtain⟨g,p,rfl⟩:=get_map z;have y:=sg p;have E:=(List.getElem?_eq_some_iff.mp p).1;refine⟨rfl,?_⟩;walk_at "r";refine⟨jk g.un,rfl,rfl,?_⟩;exact Te u p ⟨_,_,_,rfl⟩
 ·rintro c ⟨l,j,d,rfl⟩;rw[dL,wE];exact q
def wv(b:Bd)(a:WG)(P:Str->Int)(pr:List Gd)(y:Str):Int:=if y∈pr.map (·.nm) then O4 b a P y else ur b P y+(pr.map λh=>if h.un=some y then O4 b a P h.nm else 0).sum
theorem uE{b:Bd}(d:j7 b){i j:Nat}{g h:Gd}(a:b.gs[i]?=some g)(c:b.gs[j]?=some h)(e:g.nm=h.nm):i=j:=
 (UQ (i:=i) (j:=j) (l:=b.gs.map (·.nm)) (by rw[dL];exact(List.getElem?_eq_some_iff.mp a).1) d.eh.nd).mp (by rw[rx,rx,a,c];show some g.nm=some h.nm;rw[e])
theorem xh{b:Bd}(o:j7 b){i j:Nat}{g:Gd}(d:b.gs[i]?=some g)(c:i<j):g.nm∉(b.gs.drop j).map (·.nm):=λz=>by
 obtain⟨h,l,e⟩:=List.mem_map.mp z;obtain⟨k,a⟩:=x4 l;rw[List.getElem?_drop] at a;have:=uE o a d e;omega
theorem HX{b:Bd}(l:j7 b)(o:WG)(P:Str->Int){j:Nat}{g:Gd}(p:b.gs[j]?=some g):wv b o P (b.gs.drop (j+1)) g.nm=ur b P g.nm+(b.gs.map λh=>if h.un=some g.nm then O4 b o P h.nm else 0).sum:=by
 unfold wv;rw[ro (xh l p (Ub _))];congr 1
 conv=>rhs;rw[<-Vm (j+1) b.gs,ue,UC]
 rw[O6 (b.gs.take (j+1)) _ λh r=>ro λz=>?_]
 ·omega
 ·obtain⟨i,c⟩:=x4 r;have a:=(List.getElem?_eq_some_iff.mp c).1;rw[vy] at a;rw[FM (by omega)] at c;obtain⟨dp,q⟩:=l.un;obtain⟨_,_,_,up⟩:=q i h c;obtain⟨k,v,u,d,e,_⟩:=up _ z;have:=uE l d p e;omega
theorem nE{b:Bd}(o:j7 b)(c:WG)(P:Str->Int){j:Nat}{g:Gd}(h:b.gs[j]?=some g){y:Str}:wv b c P (b.gs.drop j) y=if y=g.nm then O4 b c P g.nm else wv b c P (b.gs.drop (j+1)) y+if g.un=some y then O4 b c P g.nm else 0:=by
 have d:=(List.getElem?_eq_some_iff.mp h).1
 have e:b.gs.drop j=g::b.gs.drop (j+1):=by
  rw[Db d];have:=(List.getElem?_eq_some_iff.mp h).2;rw[this]
 rw[e];unfold wv;rw[sw]
 by_cases l:y=g.nm
 ·subst l;rw[ry re,ry rfl]
 ·rw[ro l]
  by_cases a:y∈(b.gs.drop (j+1)).map (·.nm)
  ·rw[ry (hQ _ a),ry a,ro,Vb];intro z;obtain⟨dp,p⟩:=o.un;obtain⟨_,_,_,up⟩:=p j g h;obtain⟨k,u,r,i,q,_⟩:=up y z;exact xh o i (show k<j+1 by omega) (q▸a)
  ·rw[ro λz=>(List.mem_cons.mp z).elim l a,ro a,sw,On];omega
theorem Ql{T:W0}{b:Bd}{a:WG}{P:Str->Int}{d2:D}{I C B:Option D}{j m:Nat}{g:Gd}(d:j7 b)(e:b.gs[j]?=some g)(Q:m=j+1)
  (i:∀C B:Option D,T.nx [some (bD b),some (.dic (qr b a)),some d2,some (.dic (j9 b (wv b a P (b.gs.drop j)))),some (gD g),I,C,B]) :
  az T [some (bD b),some (.dic (qr b a)),some d2,some (.dic (j9 b (wv b a P (b.gs.drop m)))),some (gD g),I,C,B]:=by
 subst Q;have R:=d.g16;have p:=sg e;have H:g.nm∈u3 b:=List.mem_map.mpr ⟨g,p,rfl⟩;have u:=HX d a P e;have c:=EV d a P H;have G:x3 (qr b a) (.inr g.nm)=some (.bl (F0 b a g.nm)):=P9 (k:=λg:Gd=>g.nm) (v:=λg:Gd=>.bl (F0 b a g.nm)) d.eh.nd p;walk_at "r";refine⟨jk g.un,rfl,rfl,?_⟩;have i:=i (some (.str g.nm)) (some (uD g.un));refine⟨_,_,rfl,G,?_⟩;show Br (!F0 b a g.nm) _ _
 by_cases f:F0 b a g.nm=true
 ·refine Br.no (by rw[f];rfl) ?_;rw[ry f,<-u] at c
  cases o:g.un with
  | none=>
   refine Br.no rfl ?_
   have:j9 b (wv b a P (b.gs.drop j))=j9 b (wv b a P (b.gs.drop (j+1))):=y9 λx _=>by
    rw[nE d a P e,o,ro (show ¬(none:Option Str)=some x fromλz=>by cases z),Vb]
    by_cases z:x=g.nm
    ·rw[ry z,z];exact c
    ·rw[ro z]
   rw[this,o] at i;exact i
  | some y=>
   have J:y∈u3 b:=by
    obtain⟨dp,E⟩:=d.un;obtain⟨_,_,_,up⟩:=E j g e;obtain⟨k,M,_,l,rfl,_⟩:=up y o;exact List.mem_map.mpr ⟨M,sg l,rfl⟩
   refine Br.yes rfl ?_;refine⟨_,_,rfl,G8 d J,by rw[cR];exact g7 (by omega),?_⟩;refine⟨_,_,rfl,G8 d H,_,rfl,?_⟩;rw[cT J]
   have:j9 b (wv b a P (b.gs.drop j))=j9 b (λz=>if z=y then wv b a P (b.gs.drop (j+1)) y+wv b a P (b.gs.drop (j+1)) g.nm else wv b a P (b.gs.drop (j+1)) z):=y9 λx _=>by
    rw[nE d a P e,o]
    by_cases z:x=g.nm
    ·rw[ry z]
     have O:¬x=y:=λw=>by
      obtain⟨dp,E⟩:=d.un;obtain⟨_,_,_,up⟩:=E j g e;obtain⟨k,M,X,l,U,_⟩:=up y o;have:=uE d l e (by rw[U,<-w,z]);omega
     show _=if x=y then _ else _
     rw[ro O,z];exact c
    ·rw[ro z];show _=if x=y then _ else _
     by_cases w:x=y
     ·subst w;rw[ry rfl,ry rfl,c]
     ·rw[ro w,ro λq=>w (v7 q).symm,Vb]
   rw[this,o] at i;exact i
 ·have S:F0 b a g.nm=false:=by cases h:F0 b a g.nm<;>simp_all
  refine Br.yes (by rw[S];rfl) ?_;rw[ro f] at c;refine⟨rfl,.inr g.nm,rfl,by rw[cR];exact g7 (by omega),?_⟩;rw[cT H]
  have:j9 b (wv b a P (b.gs.drop j))=j9 b (λz=>if z=g.nm then 0 else wv b a P (b.gs.drop (j+1)) z):=y9 λx _=>by
   rw[nE d a P e,c];show _=if x=g.nm then _ else _
   by_cases z:x=g.nm
   ·rw[ry z,ry z]
   ·rw[ro z,ro z];split<;>omega
  rw[this] at i;exact i
theorem Tu{Q:D->Prop}{b:Bd}{h:WG}{P:Str->Int}{d2:D}{j d c a:Option D}(r:j7 b)(q:Q (.dic (j9 b (O4 b h P)))) :
  ff (EP Q) [some (bD b),some (.dic (qr b h)),some d2,some (.dic (j9 b (ur b P))),j,d,c,a]:=by
 have B:=r.g16;refine⟨_,N0 _ _,by rw[dL];exact g7 (by omega),?_⟩;refine .of ⟨λi l=>∃j d c a:Option D,l=[some (bD b),some (.dic (qr b h)),some d2,some (.dic (j9 b (wv b h P (b.gs.drop (b.gs.length-i))))),j,d,c,a],⟨j,d,c,a,?_⟩,?_,?_⟩
 ·rw[Nat.sub_zero,Ud]
  have:j9 b (wv b h P [])=j9 b (ur b P):=y9 λx _=>by
   unfold wv;rw[ro (by intro z;cases z)];show ur b P x+0=_;omega
  rw[this]
 ·rintro i e l o ⟨j,d,c,a,rfl⟩
  have v:i<b.gs.length:=by
   have:=(List.getElem?_eq_some_iff.mp o).1;rw[KF,dL] at this;exact this
  rw[List.getElem?_reverse (by rw[dL];exact v),dL] at o;obtain⟨g,y,rfl⟩:=get_map o;have C:b.gs.length-i=b.gs.length-1-i+1:=by omega
  have p:b.gs.length-(i+1)=b.gs.length-1-i:=by omega
  refine⟨rfl,Ql r y C λc a=>⟨some (gD g),d,c,a,?_⟩⟩;rw[p]
 ·rintro l ⟨j,d,c,a,rfl⟩;rw[KF,dL,Uo];have:j9 b (wv b h P (b.gs.drop 0))=j9 b (O4 b h P):=y9 λx u=>ry u;rw[this];exact q
theorem sM(ds:List D)(Q:D->Prop)(h:N4 ds Q):ko (EP Q) (g9 8 ds):=by
 obtain⟨b,I,c,rfl,d,C,q⟩:=h;have S:=d.g16;have O:=d.l24;refine⟨_,N0 _ _,by rw[dL];exact g7 (by omega),?_⟩;refine nO (k:=λg:Gd=>.inr g.nm) (v:=λg:Gd=>.int (Pd c g.nm)) b.gs [] (λg G K R J=>?_) ⟨rfl,?_⟩
 ·walk_at "r";rw[oU C];exact⟨rfl,_,rfl,rfl,J⟩
 have H:=S1 (k:=λg:Gd=>g.nm) (v:=λg:Gd=>.int (Pd c g.nm)) (as:=b.gs) (bs:=[]) d.eh.nd;rw[u0] at H;rw[show b.gs.foldl (λB a=>putD B (Sum.inr a.nm) (.int (Pd c a.nm))) []=j9 b (Pd c) from H];refine⟨_,ag _ _ _,?_⟩;refine .of ⟨λi o=>∃p:Option D,o=[some (bD b),some (.dic (qr b I)),some (.dic c),some (.dic (j9 b λy=>Pd c y+((b.ls.take i).map λl=>if l.at_=y then Pd c l.nm else 0).sum)),none,p,none,none],⟨none,?_⟩,?_,?_⟩
 ·have:j9 b (λy=>Pd c y+((b.ls.take 0).map λl=>if l.at_=y then Pd c l.nm else 0).sum)=j9 b (Pd c):=y9 λx _=>by
   show Pd c x+0=_;omega
  rw[this];rfl
 ·rintro i e o M ⟨p,rfl⟩;obtain⟨l,E,rfl⟩:=get_map M;have u:=sg E
  have j:l.at_∈u3 b:=by
   obtain⟨g,G,e⟩:=d.at_ l u;rw[<-e];exact List.mem_map.mpr ⟨g,G,rfl⟩
  refine⟨rfl,?_⟩;walk_at "r";refine⟨.inr l.at_,_,rfl,G8 d j,by rw[cR];exact g7 (by omega),?_⟩;walk_at "r";rw[oU C];refine⟨rfl,_,rfl,?_⟩;rw[cT j];refine⟨some (lD l),?_⟩
  have:j9 b (λy=>Pd c y+((b.ls.take (i+1)).map λl=>if l.at_=y then Pd c l.nm else 0).sum)=j9 b (λy=>if y=l.at_ then Pd c l.at_+((b.ls.take i).map λm=>if m.at_=l.at_ then Pd c m.nm else 0).sum+Pd c l.nm else Pd c y+((b.ls.take i).map λl=>if l.at_=y then Pd c l.nm else 0).sum):=y9 λx _=>by
   rw[v2,E,ue,UC];show _+(_+((if l.at_=x then Pd c l.nm else 0)+0))=if x=l.at_ then _ else _
   by_cases z:x=l.at_
   ·subst z;rw[ry rfl,ry rfl];omega
   ·rw[ro z,ro λw=>z w.symm];omega
  rw[this];rfl
 ·rintro o ⟨p,rfl⟩;rw[dL,wE];exact Tu (P:=Pd c) d q
theorem HZ(ds:List D)(Q:D->Prop)(h:bX ds Q):DK (EP Q) (g9 3 ds):=by
 obtain⟨b,o,c,a,rfl,d,e,i,g,q⟩:=h;exact⟨b,o,c,rfl,d,e,i,b,c,a,rfl,d,g,q⟩
theorem qH{b:Bd}(a:j7 b):((b.ls.filter λl=>l.on).map λl:Ld=>l.nm).Nodup:=(HF a).sublist (List.Sublist.map _ List.filter_sublist)
theorem JC{b:Bd}(c:j7 b):Pd ((b.ls.filter λl=>l.on).map λl:Ld=>((.inr l.nm:Key),D.int l.la))=rW b:=by
 funext x
 unfold Pd rW
 by_cases h:x∈b.ls.map (·.nm)
 ·obtain⟨l,i,rfl⟩:=List.mem_map.mp h;rw[O1 (HF c) i]
  by_cases o:l.on=true
  ·have a:l∈b.ls.filter λl=>l.on:=List.mem_filter.mpr ⟨i,o⟩;rw[P9 (k:=λl:Ld=>l.nm) (v:=λl:Ld=>.int l.la) (qH c) a];show l.la=if l.on=true then _ else _
   rw[ry o]
  ·rw[ir (k:=λl:Ld=>l.nm) (v:=λl:Ld=>.int l.la)]
   ·show(0:Int)=if l.on=true then _ else _
    rw[ro o]
   ·intro z;obtain⟨m,a,e⟩:=List.mem_map.mp z;obtain⟨g,d⟩:=List.mem_filter.mp a;have p:=O1 (HF c) i;have j:=O1 (HF c) g;rw[show m.nm=l.nm from e,p] at j;cases j;exact o d
 ·rw[ax h,ir (k:=λl:Ld=>l.nm) (v:=λl:Ld=>.int l.la)];intro z;obtain⟨m,a,e⟩:=List.mem_map.mp z;exact h (List.mem_map.mpr ⟨m,(List.mem_filter.mp a).1,e⟩)
theorem NT(ds:List D)(Q:D->Prop)(h:eU ds Q):KA (EP Q) (g9 2 ds):=by
 obtain⟨b,rfl,c,q⟩:=h;have p:=c.l24;refine⟨_,ag _ _ _,by rw[dL];exact g7 (by omega),?_⟩;refine aY (k:=λl:Ld=>.inr l.nm) (v:=λl:Ld=>.int l.la) (λl:Ld=>l.on) b.ls [] (λl y K R o j=>?_) ?_
 ·obtain⟨n,u,cv,de,on⟩:=l
  cases on with
  | true=>
   have i:K (.inr n) (.int de):=o rfl;walk_at "r";exact i
  | false=>
   walk_at "r";exact j rfl
 ·have g:=S1 (k:=λl:Ld=>l.nm) (v:=λl:Ld=>.int l.la) (as:=b.ls.filter λl=>l.on) (bs:=[]) (qH c);rw[u0] at g;rw[show(b.ls.filter λl=>l.on).foldl (λe (a:Ld)=>putD e (Sum.inr a.nm) (.int a.la)) []=_ from g];refine⟨b,_,[],_,rfl,c,.inl rfl,by decide,λx d=>?_,?_⟩
  ·obtain⟨l,_,rfl⟩:=List.mem_map.mp d;exact⟨_,rfl⟩
  ·rw[JC c];exact q
theorem Ha(ds:List D)(Q:D->Prop)(h:cp ds Q):CJ (EP Q) (g9 2 ds):=by
 obtain⟨b,v,rfl,a,q⟩:=h;have l:=a.g16;refine⟨_,N0 _ _,by rw[dL];exact g7 (by omega),?_⟩;refine N3 (f:=λg:Gd=>.str g.nm) (λg:Gd=>decide (lo g.cv<=v g.nm)) b.gs [] (λg c K R i d=>?_) ?_
 ·have j:g.nm∈u3 b:=List.mem_map.mpr ⟨g,c,rfl⟩;refine⟨rfl,?_⟩;walk_at "r";refine⟨_,_,rfl,G8 a j,?_⟩;walk_at "r";refine⟨a.cv g c,?_⟩;show Br (decide (v g.nm ≥ lo g.cv)) _ _;refine⟨λe=>?_,λe=>d e⟩;walk_at "r";exact i e
 ·have e:(b.gs.filter λg=>decide (lo g.cv<=v g.nm)).map (λg:Gd=>D.str g.nm)=(L5 b v).map D.str:=by unfold L5;rw[v9];rfl
  rw[u0,e];exact q
theorem Ir(ds:List D)(Q:D->Prop)(h:bJ ds Q):Ba (EP Q) (g9 2 ds):=by
 obtain⟨b,rfl,a,q⟩:=h;refine⟨b,rfl,a,b,p7 b,rfl,a,rfl,?_⟩
 cases e:L5 b (p7 b) with
 | nil=>
  rw[e] at q;refine Br.no rfl ?_;exact⟨rfl,q⟩
 | cons x c=>
  rw[e] at q;refine Br.yes rfl ?_;exact⟨_,N0 _ _,rfl,q⟩
end My
namespace My
open PySem L2 L3
local macro_rules | `(tactic| walk_at "w")=>`(tactic| conv=>whnf)
local macro_rules | `(tactic| walk_at "a")=>`(tactic| first | refine⟨rfl,?_⟩ | refine⟨_,rfl,?_⟩ | refine⟨(show(0:Int)<_ from by decide),?_⟩ | refine⟨(show R4 _ _ from⟨by decide,by decide⟩),?_⟩ | refine⟨(show ae _ _ from⟨by decide,by decide,by decide⟩),?_⟩ | refine⟨(show K8 _ _ from .inr ⟨by decide,by decide⟩),?_⟩ | refine⟨(show K8 _ _ from .inl ⟨by decide,by decide⟩),?_⟩ | refine⟨_,_,_,rfl,rfl,rfl,?_⟩ | refine⟨_,N0 _ _,?_⟩ | refine⟨_,_,rfl,rfl,?_⟩)
local macro_rules | `(tactic| walk_at "r")=>`(tactic| ((repeat ((conv=>whnf);(walk_at "a")));(try (conv=>whnf))))
def Up(b:Int)(xs:WJ):Prop:=xs.Pairwise (·<·)/\∀x∈xs,1<=x/\x<=b
theorem wA{xs:WJ}{b:Int}(h:Up b xs)(o:0<xs.length):∃l,l∈xs/\(∀x∈xs,x<=l)/\N8 (xs.map D.int) (-1)=some (.int l):=by
 refine⟨xs[xs.length-1],TD (by omega),λx a=>?_,?_⟩
 ·obtain⟨i,c,rfl⟩:=UD a
  by_cases e:i=xs.length-1
  ·subst e;exact UA _
  ·exact Int.le_of_lt (List.pairwise_iff_getElem.mp h.1 i (xs.length-1) c (by omega) (by omega))
 ·unfold N8 kS;have j:¬(0:Int)<=-1:=by decide
  have g:-((xs.map D.int).length:Int)<=-1:=by rw[dL];omega
  have d:((-1:Int)+((xs.map D.int).length:Int)).toNat=xs.length-1:=by rw[dL];omega
  rw[ro j,ry g,d];show(xs.map D.int)[xs.length-1]?=_;rw[rx,nA (by omega)];rfl
theorem Up.mono{xs:WJ}{b c:Int}(h:Up b xs)(d:b<=c):Up c xs:=⟨h.1,λx a=>⟨(h.2 x a).1,by have:=(h.2 x a).2;omega⟩⟩
theorem Up.snoc{xs:WJ}{b l u:Int}(h:Up b xs)(d:l∈xs)(e:∀x∈xs,x<=l)(i:1<=u)(g:u<10^59):Up (b+10^59) (xs++[l+u]):=by
 refine⟨List.pairwise_append.mpr ⟨h.1,Ch _ _,λx a y c=>?_⟩,λx a=>?_⟩
 ·rw[List.mem_singleton.mp c];have:=e x a;omega
 ·have:=h.2 l d;rcases List.mem_append.mp a with w | w
  ·have:=h.2 x w;omega
  ·rw[List.mem_singleton.mp w];omega
def steps(m:Nat)(xs ys:WJ):List Pr:=(List.range m).map λ(k:Nat)=>(xs.getD k 0,ys.getD (m-1-k) 0)
theorem Dy{m:Nat}{xs ys:WJ}(B:xs.length=m)(z:ys.length=m)(v:1<=m)(u:m<=5)(h:Up (10^60-1) xs)(g:Up (10^60-1) ys):S7 (steps m xs ys):=by
 have y:∀k,k<m->xs.getD k 0∈xs:=λk d=>by rw[t5,nA (by omega)];exact TD _
 have x:∀k,k<m->ys.getD k 0∈ys:=λk d=>by rw[t5,nA (by omega)];exact TD _
 have q:∀i j,i<j->j<m->xs.getD i 0<xs.getD j 0:=λi j c e=>by
  rw[t5,t5,nA (by omega),nA (by omega)];exact List.pairwise_iff_getElem.mp h.1 i j (by omega) (by omega) c
 have o:∀i j,i<j->j<m->ys.getD i 0<ys.getD j 0:=λi j c e=>by
  rw[t5,t5,nA (by omega),nA (by omega)];exact List.pairwise_iff_getElem.mp g.1 i j (by omega) (by omega) c
 unfold steps;refine⟨by rw[dL,tL];exact v,by rw[dL,tL];exact u,λp r=>?_,?_⟩
 ·obtain⟨k,d,rfl⟩:=List.mem_map.mp r;have d:=List.mem_range.mp d;have a:=h.2 _ (y k d);have b:=g.2 _ (x (m-1-k) (by omega));exact⟨a.1,by have:=a.2;omega,b.1,by have:=b.2;omega⟩
 ·rw[TX];refine List.Pairwise.imp_of_mem ?_ (List.pairwise_lt_range (n:=m));intro i j l e c;have l:=List.mem_range.mp l;have e:=List.mem_range.mp e;exact⟨q i j c e,o _ _ (by omega) (by omega)⟩
theorem uI{i:Int}(d:0<=i)(e:i<26):∃c,N8 mr.cps.toList i=some c:=by
 have a:mr.cps.toList.length=26:=by decide +kernel
 have b:i.toNat<mr.cps.toList.length:=by omega
 refine⟨mr.cps.toList[i.toNat],?_⟩;unfold N8 kS;rw[ry d,a,ry (by omega)];exact nA b
theorem mV:mr.length<=sizeLine:=by decide +kernel
theorem ES{z:Str}{n:Int}(hz:z.length=1)(b:0<=n)(a:n<=4):MulOk z n:=by
 have h:n=0\/n=1\/n=2\/n=3\/n=4:=by omega
 unfold MulOk;rw[hz];rcases h with rfl | rfl | rfl | rfl | rfl
 all_goals decide
theorem Qc{z:Str}{n:Int}(hz:z.length=1)(b:0<=n)(a:n<=1):(Txt.mul z n).length<=1:=by
 have h:n=0\/n=1:=by omega
 rcases h with rfl | rfl
 ·exact v5 _
 ·have e:Txt.mul z 1=z:=by
   unfold Txt.mul;rw[ro (by decide),ry (by rfl)]
  rw[e,hz];exact oT _
theorem Lp{x:Str}{xs:WG}(h:inD (.str x) (xs.map D.str)=false):x∉xs:=λa=>by
 unfold inD at h;rw[TZ] at h;have:=h (.str x) (List.mem_map.mpr ⟨x,a,rfl⟩);exact this (beq_self_eq_true x)
theorem names5 {Q:D->D->Prop} {c d k m:Int} {xs:WG} {x:Str} {G E C B v u p h g:Option D} (hw:x="" \/ nm 8 x) (j:(xs.length:Int)=m) (S:1<=m) (R:m<=100) (k0:0<=k) (k1:k<=10^8) (b:xs.Nodup) (a:∀x∈xs,nm 8 x) (q:∀(xs:WG) (d' I:Int),xs.length=m->xs.Nodup->(∀x∈xs,nm 8 x)->Q (jw xs) (feed c d' I)):rT (EM Q) [some (feed c d k),some (.int m),G,E,some (jw xs),C,B,v,u,p,h,g,some (.str x)]:=by
 have M:(xs.map D.str).all Z6=true:=by
  rw[Ue];intro y i;obtain⟨z,_,rfl⟩:=List.mem_map.mp i;rfl
 walk_at "r";refine⟨λo=>?_,λo=>Br.no rfl (q xs d k j b a)⟩;walk_at "r";refine⟨M,?_⟩;walk_at "r";refine⟨λl=>?_,λl=>q xs d k j b a⟩;walk_at "r";refine⟨c,d,k,m,rfl,k0,by omega,by omega,by omega,λr d1 H O=>?_⟩;walk_at "r";refine⟨r.toNat,?_,?_⟩
 ·unfold kS;rw[ry H,dL,ry (by omega)]
 ·have e:(xs.map D.str).set r.toNat (.str x)=(xs.set r.toNat x).map D.str:=by rw[List.map_set]
  walk_at "r";rw[e];refine q _ _ _ (by rw[OV];exact j) (lL _ b (Lp ?_)) λy i=>?_
  ·cases J:inD (D.str x) (List.map D.str xs) with
   | false=>rfl
   | true=>rw[J] at l;exact absurd l (by decide)
  ·rcases No i with w | w
   ·exact a y w
   ·rw[w];rcases hw with hw | hw
    ·rw[hw] at o;exact absurd o (by decide)
    ·exact hw
theorem EB:∀x∈(["guard","load","on","off","board","map","least","","","",""]:WG),x="" \/ nm 8 x:=by decide +kernel
theorem names4{Q:D->D->Prop}{c d k m:Int}{xs:WG}{B z y v u p o e b a:Option D}(H:(xs.length:Int)=m)(J:1<=m)(I:m<=100)(k0:0<=k)(k1:k<=10^7)(l:xs.Nodup)(j:∀x∈xs,nm 8 x)(q:∀(xs:WG) (d' G:Int),xs.length=m->xs.Nodup->(∀x∈xs,nm 8 x)->Q (jw xs) (feed c d' G)):su (EM Q) [some (feed c d k),some (.int m),B,z,some (jw xs),y,v,u,p,o,e,b,a]:=by
 walk_at "r";refine⟨c,d,k,11,rfl,k0,by omega,by decide,by decide,λr d1 E C=>?_⟩;obtain⟨x,g,_,h⟩:=E9 (f:=D.str) (xs:=["guard","load","on","off","board","map","least","","","",""]) (i:=r) E C;refine⟨_,h,rfl,rfl,?_⟩;refine names5 ?_ H J I (by omega) (by omega) l j q;exact EB x g
theorem Ju(ds:List D)(Q:D->D->Prop)(h:bC ds Q):Eh (EM Q) (g9 13 ds):=by
 obtain⟨c,d,k,m,rfl,h0,h1,a5,a4,q⟩:=h;walk_at "r";refine⟨c,d,k,26,rfl,h0,by omega,by decide,by decide,λf d1 f0 f1=>?_⟩;walk_at "r";refine⟨c,d1,k+1,5,rfl,by omega,by omega,by decide,by decide,λr d2 r0 r1=>?_⟩;walk_at "r";refine⟨λe=>?_,λe=>?_⟩
 ·walk_at "r";refine⟨⟨by omega,by omega⟩,?_⟩;refine⟨by rw[x9,dL,tL];exact g7 (by omega),?_⟩;refine N1 (f:=λ(i:Nat)=>.str (Txt.mul ⟨#[(N8 mr.cps.toList ((f+(0+(i:Int)))%26)).getD 0]⟩ (1+(0+(i:Int))/26))) (List.range m.toNat) [] (λi v K R kk=>?_) ?_
  ·have v:=List.mem_range.mp v;obtain⟨H,o⟩:=uI (i:=(f+(0+(i:Int)))%26) (Bi _ (by decide)) (xi _ (by decide));rw[o] at kk;walk_at "r";refine Br.yes rfl ?_;walk_at "r";refine⟨mV,H,o,?_⟩;walk_at "r";refine⟨ES rfl (by omega) (by omega),?_⟩;exact kk
  ·have e:(List.range m.toNat).map (λ(i:Nat)=>D.str (Txt.mul ⟨#[(N8 mr.cps.toList ((f+(0+(i:Int)))%26)).getD 0]⟩ (1+(0+(i:Int))/26)))=((List.range m.toNat).map λ(i:Nat)=>Txt.mul ⟨#[(N8 mr.cps.toList ((f+(0+(i:Int)))%26)).getD 0]⟩ (1+(0+(i:Int))/26)).map D.str:=by rw[v9];rfl
   rw[u0,e];refine⟨rfl,?_⟩;refine names4 (by rw[dL,tL];omega) a5 a4 (by omega) (by omega) (Z7 (nameA f) _ λi j v hj=>zR (by omega) (by omega)) (λx hx=>?_) q;obtain⟨i,v,rfl⟩:=List.mem_map.mp hx;have v:=List.mem_range.mp v;exact DD (i:=i) (by omega) (by omega)
 ·walk_at "r";refine⟨c,d2,k+1+1,7,rfl,by omega,by omega,by decide,by decide,λsz d3 s0 s1=>?_⟩;walk_at "r";refine⟨⟨by omega,by omega⟩,?_⟩;refine⟨by rw[x9,dL,tL];exact g7 (by omega),?_⟩;walk_at "r";refine .of ⟨λn a3 M=>∃(d':Int) (bs:WJ),M=[some (feed c d' (k+1+1+1+n)),some (.int m),some (.str mr),some (.int f),none,some (.int (2+sz)),none,none,none,none,none,none,none]/\a3=bs.map D.int/\bs.length=n/\∀b∈bs,0<=b/\b<26,⟨d3,[],?_,rfl,rfl,λb hb=>(by cases hb)⟩,?_,?_⟩
  ·have:k+1+1+1+((0:Nat):Int)=k+1+1+1:=by omega
   rw[this];rfl
  ·rintro n y a3 M hy ⟨d',bs,rfl,rfl,C,hb⟩
   have hn:n<8:=by
    have:=(List.getElem?_eq_some_iff.mp hy).1;rw[x9,dL,tL] at this;omega
   walk_at "r";refine Br.yes rfl ?_;walk_at "r";refine⟨c,d',_,26,rfl,by omega,by omega,by decide,by decide,λb d4 b0 I=>?_⟩;walk_at "r";refine⟨d4,bs++[b],?_,by rw[ue];rfl,by simp[C],λz hz=>?_⟩
   ·have:k+1+1+1+((n+1:Nat):Int)=k+1+1+1+(n:Int)+1:=by omega
    rw[this];rfl
   ·rcases List.mem_append.mp hz with w | w
    ·exact hb z w
    ·rw[List.mem_singleton.mp w];exact⟨b0,I⟩
  ·rintro a3 M ⟨d',bs,rfl,rfl,C,hb⟩;rw[x9,dL,tL] at C ⊢;have C:(bs.length:Int)=2+sz:=by omega
   walk_at "r";refine⟨c,d',_,_,rfl,by omega,by omega,by omega,by omega,λa d5 a0 a1=>?_⟩;walk_at "r";refine⟨c,d5,_,_,rfl,by omega,by omega,by omega,by omega,λa2 d6 an b5=>?_⟩;walk_at "r";refine⟨show(0:Int)<2+sz by omega,?_⟩;have o0:=Bi (a+1+a2) (show 2+sz≠0 by omega);have o1:=xi (a+1+a2) (show 0<2+sz by omega);walk_at "r";refine⟨c,d6,_,2,rfl,by omega,by omega,by decide,by decide,λlo d7 b3 lo1=>?_⟩;walk_at "r";refine⟨.inl ⟨by omega,by omega⟩,?_⟩;have lg:∀b:Bool,0<=lo*(if b then 1 else 0)/\lo*(if b then 1 else 0)<=1:=λb=>by cases b<;>simp<;>omega
   obtain⟨Y,X⟩:=lg (decide (2+sz<8));obtain⟨I,_,_,al⟩:=E9 (f:=D.int) (xs:=bs) (i:=a) a0 (by omega);obtain⟨b2,_,_,ab⟩:=E9 (f:=D.int) (xs:=bs) (i:=(a+1+a2)%(2+sz)) o0 (by omega);have ao:=De (n:=2+sz) a0 (by omega) an (by omega)
   have b4:2+sz+lo*(if decide (2+sz<8)=true then 1 else 0)<=8:=by
    by_cases h8:2+sz<8
    ·omega
    ·rw[vr h8];show 2+sz+lo*0<=8;omega
   walk_at "r";refine⟨⟨by omega,by omega⟩,?_⟩;walk_at "w";refine .of ⟨λi M=>∃(S:WG) (U T:Option D),M=[some (feed c d7 (k+1+1+1+((2+sz).toNat:Int)+1+1+1)),some (.int m),some (.str mr),some (.int f),some (jw S),some (.int (2+sz)),some (nums bs),some (.int a),some (.int ((a+1+a2)%(2+sz))),some (.int (lo*(if decide (2+sz<8)=true then 1 else 0))),U,T,none]/\S=(List.range i).map (fq bs a ((a+1+a2)%(2+sz)) I b2 f (lo*(if decide (2+sz<8)=true then 1 else 0))),⟨[],none,none,rfl,rfl⟩,?_,?_⟩
   ·rintro i y M hy ⟨S,U,T,rfl,l⟩;have ad:S.length=i:=by rw[l,dL,tL]
    have v:i<100:=by
     have:=(List.getElem?_eq_some_iff.mp hy).1;rw[x9,dL,tL] at this;omega
    rw[x9] at hy;obtain⟨g,am,rfl⟩:=get_map hy
    have ei:g=i:=by
     have:=(List.getElem?_eq_some_iff.mp am).2;rw[Uh] at this;exact this.symm
    subst ei;generalize (a+1+a2)%(2+sz)=O at o0 o1 ab l;generalize lo*(if decide (2+sz<8)=true then 1 else 0)=L at Y X l;walk_at "r";refine⟨Fi bs,?_⟩;walk_at "r";refine⟨_,al,?_⟩;walk_at "r";refine⟨a.toNat,by unfold kS;rw[ry a0,dL,ry (by omega)],?_⟩;walk_at "r";refine⟨_,ab,?_⟩;walk_at "r";refine⟨O.toNat,by unfold kS;rw[ry o0,OV,dL,ry (by omega)],?_⟩;have e1:((bs.map D.int).set a.toNat (.int ((I+(0+(g:Int)))%26))).set O.toNat (.int ((b2+(0+(g:Int))/26)%26))=((bs.set a.toNat ((I+(0+(g:Int)))%26)).set O.toNat ((b2+(0+(g:Int))/26)%26)).map D.int:=by rw[List.map_set,List.map_set]
    have E:∀b∈(bs.set a.toNat ((I+(0+(g:Int)))%26)).set O.toNat ((b2+(0+(g:Int))/26)%26),0<=b/\b<26:=λb G=>by
     rcases No G with w | w
     ·rcases No w with w | w
      ·exact hb b w
      ·rw[w];exact⟨Bi _ (by decide),xi _ (by decide)⟩
     ·rw[w];exact⟨Bi _ (by decide),xi _ (by decide)⟩
    have u:((bs.set a.toNat ((I+(0+(g:Int)))%26)).set O.toNat ((b2+(0+(g:Int))/26)%26)).length=bs.length:=by rw[OV,OV]
    walk_at "r";dsimp only;rw[e1];generalize ac:(bs.set a.toNat ((I+(0+(g:Int)))%26)).set O.toNat ((b2+(0+(g:Int))/26)%26)=p at E u;refine⟨by rw[dL,u];exact g7 (by omega),?_⟩;refine N1 (f:=λ(b:Int)=>.str ⟨#[(N8 mr.cps.toList b).getD 0]⟩) p [] (λb G K R kk=>?_) ?_
    ·obtain⟨H,o⟩:=uI (E b G).1 (E b G).2;rw[o] at kk;walk_at "r";refine Br.yes rfl ?_;walk_at "r";refine⟨mV,H,o,rfl,kk⟩
    ·have e2:p.map (λ(b:Int)=>D.str ⟨#[(N8 mr.cps.toList b).getD 0]⟩)=(p.map λ(b:Int)=>(⟨#[(N8 mr.cps.toList b).getD 0]⟩:Str)).map D.str:=by rw[v9];rfl
     have e3:((p.map λ(b:Int)=>(⟨#[(N8 mr.cps.toList b).getD 0]⟩:Str)).map (·.length)).sum=p.length:=by
      clear ac e1 E u e2
      induction p with
      | nil=>rfl
      | cons b B ih=>rw[sw,sw,On,ih,vu];show 1+B.length=_;omega
     rw[u0];refine⟨"",_,p.map λ(b:Int)=>(⟨#[(N8 mr.cps.toList b).getD 0]⟩:Str),rfl,rfl,e2,?_,?_⟩
     ·rw[e3,dL];show p.length+p.length*0<=_;omega
     ·have e4:(Txt.join "" (p.map λ(b:Int)=>(⟨#[(N8 mr.cps.toList b).getD 0]⟩:Str))).length<=8:=by
       have:=size_glued "" (p.map λ(b:Int)=>(⟨#[(N8 mr.cps.toList b).getD 0]⟩:Str));unfold Txt.join;rw[this,e3];show p.length+_*0<=8;omega
      generalize hJ:Txt.join "" (p.map λ(b:Int)=>(⟨#[(N8 mr.cps.toList b).getD 0]⟩:Str))=J at e4;obtain⟨H,o⟩:=uI f0 f1;walk_at "r";refine⟨mV,H,o,?_⟩;walk_at "r";refine⟨.inl ⟨by omega,by omega⟩,?_⟩;have p0:=Bi (0+(g:Int)) (show(2:Int)≠0 by decide);have p1:=xi (0+(g:Int)) (show(0:Int)<2 by decide);have ap:L=0\/L=1:=by omega
      have n0:0<=L*((0+(g:Int))%2)/\L*((0+(g:Int))%2)<=1:=by rcases ap with rfl | rfl<;>omega
      walk_at "r";refine⟨ES rfl n0.1 (by omega),?_⟩;have ml:=Qc (z:=⟨#[H]⟩) rfl n0.1 n0.2;walk_at "r";refine⟨by rw[GM];omega,?_⟩;walk_at "r";refine⟨by rw[dL];exact g7 (by omega),?_⟩;refine⟨S++[J++Txt.mul ⟨#[H]⟩ (L*((0+(g:Int))%2))],some (.int (0+(g:Int))),some (.lst (p.map D.int)),?_,?_⟩
      ·unfold jw;rw[ue];rfl
      ·have en:fq bs a O I b2 f L g=J++Txt.mul ⟨#[H]⟩ (L*((0+(g:Int))%2)):=by
        unfold fq fQ;rw[ac];have ef:jy f=H:=by unfold jy;rw[o];rfl
        rw[ef];exact Fa (·++_) hJ
       rw[Vg,ue,<-l,List.map_singleton,en]
   ·rintro M ⟨S,U,T,rfl,l⟩;rw[x9,dL,tL] at l;have ad:S.length=m.toNat:=by rw[l,dL,tL]
    refine names4 (by omega) a5 a4 (by omega) (by omega) ?_ (λx hx=>?_) q
    ·rw[l];exact Z7 _ _ λi j v hj=>yC (by omega) (by omega) Y X a0 (by omega) o0 (by omega) ao hb
    ·rw[l] at hx;obtain⟨i,v,rfl⟩:=List.mem_map.mp hx;exact Cv Y X f0 f1 hb (by omega) (by omega)
end My
namespace My
open PySem L2 L3
local macro_rules | `(tactic| walk_at "w")=>`(tactic| conv=>whnf)
local macro_rules | `(tactic| walk_at "a")=>`(tactic| first | refine⟨rfl,?_⟩ | refine⟨_,rfl,?_⟩ | refine Br.yes rfl ?_ | refine Br.no rfl ?_ | refine⟨(show(0:Int)<_ from by decide),?_⟩ | refine⟨(show R4 _ _ from⟨by decide,by decide⟩),?_⟩ | refine⟨(show ae _ _ from⟨by decide,by decide,by decide⟩),?_⟩ | refine⟨(show K8 _ _ from .inr ⟨by decide,by decide⟩),?_⟩ | refine⟨(show K8 _ _ from .inl ⟨by decide,by decide⟩),?_⟩ | refine⟨_,_,_,rfl,rfl,rfl,?_⟩ | refine⟨_,N0 _ _,?_⟩ | refine⟨_,ag _ _ _,?_⟩ | refine⟨_,_,rfl,rfl,?_⟩)
local macro_rules | `(tactic| walk_at "r")=>`(tactic| ((repeat ((conv=>whnf);(walk_at "a")));(try (conv=>whnf))))
open PySem.Builtin PySem.Builtin.Str in
structure NW(xs:WG)(gs:List Gd)(es:WK):Prop where
 len:es.length=gs.length
 nms:gs.map (·.nm)=xs.take gs.length
 all:∀(j:Nat) (g:Gd),gs[j]?=some g->∃e:Nat,es[j]?=some e/\1<=e/\e<=8/\(g.un=none->e=1)/\∀y,g.un=some y->∃(j':Nat) (gj:Gd) (e':Nat),j'<j/\gs[j']?=some gj/\gj.nm=y/\es[j']?=some e'/\e=e'+1
 cv:∀g∈gs,S7 g.cv
 de:∀g∈gs,0<=g.de/\g.de<10^60
 wa:∀g∈gs,0<=g.wa/\g.wa<10^60
theorem NW.snoc{xs:WG}{gs:List Gd}{o:WK}{g:Gd}{e:Nat}(h:NW xs gs o)(C:xs[gs.length]?=some g.nm)(X:1<=e)(U:e<=8)(x:g.un=none->e=1)(v:∀y,g.un=some y->∃(j:Nat) (d:Nat),j<gs.length/\xs[j]?=some y/\o[j]?=some d/\e=d+1)(H:S7 g.cv)(hd:0<=g.de/\g.de<10^60)(hw:0<=g.wa/\g.wa<10^60):NW xs (gs++[g]) (o++[e]):=by
 have mem:∀{P:Gd->Prop},(∀g∈gs,P g)->P g->∀z∈gs++[g],P z:=λJ I z a=>by
  rcases List.mem_append.mp a with w | w
  ·exact J z w
  ·rw[List.mem_singleton.mp w];exact I
 refine⟨by rw[tt,tt,h.len];rfl,?_,λj z a=>?_,mem h.cv H,mem h.de hd,mem h.wa hw⟩
 ·rw[ue,h.nms,tt,wf,v2,C];rfl
 ·by_cases u:j<gs.length
  ·rw[ud u] at a;obtain⟨f,S,R,Q,O,M⟩:=h.all j z a;refine⟨f,by rw[ud (by rw[h.len];exact u)];exact S,R,Q,O,λy l=>?_⟩;obtain⟨B,b,d,c,r,q,p,Y⟩:=M y l;exact⟨B,b,d,c,by rw[ud (by omega)];exact r,q,by rw[ud (by rw[h.len];omega)];exact p,Y⟩
  ·have G:=(List.getElem?_eq_some_iff.mp a).1;rw[tt,wf] at G;have T:j=gs.length:=by omega
   subst T;rw[wT (oT _),Uo] at a;cases a;refine⟨e,by rw[<-h.len,wT (oT _),Uo];rfl,X,U,x,λy l=>?_⟩;obtain⟨j,d,c,r,q,p⟩:=v y l;obtain⟨b,i⟩:∃b,gs[j]?=some b:=⟨_,nA c⟩
   have E:b.nm=y:=by
    have z1:(gs.map (·.nm))[j]?=some b.nm:=by rw[rx,i];rfl
    rw[h.nms,FM c,r] at z1;exact(v7 z1).symm
   exact⟨j,b,d,c,by rw[ud c];exact i,E,by rw[ud (by rw[h.len];exact c)];exact q,p⟩
theorem NW.un{xs:WG}{gs:List Gd}{a:WK}(h:NW xs gs a):Jr gs:=by
 refine⟨λi=>a.getD i 0,λi g d=>?_⟩;obtain⟨e,G,E,C,B,z⟩:=h.all i g d;have o:a.getD i 0=e:=by rw[t5,G];rfl
 simp only[o];refine⟨E,C,B,λy c=>?_⟩;obtain⟨b,j,p,x,v,u,r,q⟩:=z y c;have l:a.getD b 0=p:=by rw[t5,r];rfl
 exact⟨b,j,x,v,u,by rw[l];exact q⟩
theorem PJ(x y:Int){t:Int}(b:0<=t)(a:t<2):∃p:Int,N8 [D.int x,.int y] t=some (.int p)/\(p=x\/p=y):=by
 have h:t=0\/t=1:=by omega
 rcases h with rfl | rfl
 ·exact⟨x,rfl,.inl rfl⟩
 ·exact⟨y,rfl,.inr rfl⟩
structure RG(gs:List Gd)(ls:List Ld):Prop where
 c4:∀l∈ls,l.cs.length<=4
 cs:∀l∈ls,∀p∈l.cs,1<=p.1/\p.1<10^60/\0<=p.2/\p.2<10^60
 la:∀l∈ls,0<=l.la/\l.la<10^60
 at_:∀l∈ls,∃g∈gs,g.nm=l.at_
theorem RG.snoc{gs:List Gd}{ls:List Ld}{l:Ld}(h:RG gs ls)(b:l.cs.length<=4)(a:∀p∈l.cs,1<=p.1/\p.1<10^60/\0<=p.2/\p.2<10^60)(e:0<=l.la/\l.la<10^60)(d:∃g∈gs,g.nm=l.at_):RG gs (ls++[l]):=by
 have mem:∀{P:Ld->Prop},(∀g∈ls,P g)->P l->∀z∈ls++[l],P z:=λb a z c=>by
  rcases List.mem_append.mp c with w | w
  ·exact b z w
  ·rw[List.mem_singleton.mp w];exact a
 exact⟨mem h.c4 b,mem h.cs a,mem h.la e,mem h.at_ d⟩
theorem II(xs:List D)(n:Nat):cutD xs none (some (n:Int))=xs.take n:=by
 unfold cutD;have b:HT.D3 xs.length 0 none=0:=rfl
 have a:HT.D3 xs.length xs.length (some (n:Int))=min n xs.length:=by
  show(if ((n:Int))<0 then((n:Int)+(xs.length:Int)).toNat else min (n:Int).toNat xs.length)=_;rw[ro (by omega)];rfl
 rw[b,a];show List.take (min n xs.length-0) xs=_;rw[Nat.sub_zero,List.take_eq_take_iff];omega
theorem Ai(xs:List D)(n:Nat)(h:n<=xs.length):cutD xs (some (n:Int)) none=xs.drop n:=by
 unfold cutD
 have b:HT.D3 xs.length 0 (some (n:Int))=n:=by
  show(if ((n:Int))<0 then((n:Int)+(xs.length:Int)).toNat else min (n:Int).toNat xs.length)=_;rw[ro (by omega)];show min n xs.length=n;omega
 have a:HT.D3 xs.length xs.length none=xs.length:=rfl;rw[b,a];rw[P3 (by rw[Re];omega)]
theorem oV(gs:List Gd):∀(n:Nat) (o:Option Str),(ups gs n o).length<=n
 | 0,o=>by cases o<;>exact oT _
 | n+1,none=>v5 _
 | n+1,some y=>by
  show(ups gs n _).length+1<=n+1;have:=oV gs n (sH gs y);omega
theorem cI{b:Bd}(l:j7 b){x:Str}(q:x∈u3 b++K4 b):∀y∈i9 b x,y∈u3 b:=by
 have go:∀(n:Nat) (g:Gd),g∈b.gs->∀y∈ups b.gs n (some g.nm),y∈u3 b:=by
  intro n
  induction n with
  | zero=>intro g c y d;cases d
  | succ n p=>
   intro g c y d;have d:y∈g.nm::ups b.gs n (sH b.gs g.nm):=d;rcases List.mem_cons.mp d with e | e
   ·rw[e];exact List.mem_map.mpr ⟨g,c,rfl⟩
   ·rw[aE l.eh.nd c] at e
    cases h:g.un with
    | none=>
     rw[h] at e;cases n<;>cases e
    | some z=>
     rw[h] at e;obtain⟨dp,o⟩:=l.eh.un;obtain⟨j,r⟩:=x4 c;obtain⟨_,_,_,a⟩:=o j g r;obtain⟨k,u,_,i,rfl,_⟩:=a z h;exact p u (sg i) y e
 obtain⟨g,c,e⟩:=List.mem_map.mp (qh l q);unfold i9;rw[<-e];exact go 8 g c
theorem yp{b:Bd}(a:j7 b):iO (b.gs.map λg:Gd=>((.inr g.nm:Key),D.int 0))=j9 b λ_=>0:=by
 rw[lR];have:=S1 (k:=λg:Gd=>g.nm) (v:=λ_:Gd=>D.int 0) (as:=b.gs) (bs:=[]) (by rw[u0];exact a.eh.nd);exact this
local macro_rules | `(tactic| walk_at "n")=>`(tactic| (try dsimp only[g9,List.length,List.replicate,List.map,List.set,List.append,List.cons_append,List.nil_append,Nat.reduceAdd,Nat.reduceSub]))
theorem gf{b:Bd}{a:WG}{x:Str}(c:x∈a)(nd:a.Nodup):x3 (jx b a) (.inr x)=some (.fz ((i9 b x).map D.str)):=by
 have:=P9 (k:=λx:Str=>x) (v:=λx:Str=>D.fz ((i9 b x).map D.str)) (as:=a) (by rw[List.map_id'];exact nd) c;exact this
theorem wN{b:Bd}{a:WG}{x:Str}(c:x∉a):putD (jx b a) (.inr x) (.fz ((i9 b x).map D.str))=jx b (a++[x]):=by
 have:=dM (k:=λx:Str=>x) (v:=λx:Str=>D.fz ((i9 b x).map D.str)) (as:=a) (x:=x) (d:=.fz ((i9 b x).map D.str)) (by rw[List.map_id'];exact c);unfold jx;rw[this,ue];rfl
theorem Fj(gs:List Gd)(n:Nat):ups gs n none=[]:=by cases n<;>rfl
theorem tj{b:Bd}(a:j7 b){g:Gd}(i:g∈b.gs):i9 b g.nm=g.nm::(match g.un with | none=>[] | some y=>i9 b y):=by
 have e:g.nm∈u3 b:=List.mem_map.mpr ⟨g,i,rfl⟩;obtain⟨dp,d,v⟩:=xA a;have c:=aE a.eh.nd i
 have u:i9 b g.nm=g.nm::ups b.gs 7 g.un:=by
  unfold i9;rw[T6 a e];show g.nm::ups b.gs 7 (sH b.gs g.nm)=_;rw[c]
 rw[u]
 cases o:g.un with
 | none=>rw[Fj]
 | some y=>
  have d7:=(v _ e).next d a.eh.nd (c.trans o)
  have l:y∈u3 b:=by
   obtain⟨j,h,q,p,_⟩:=d7;exact List.mem_map.mpr ⟨h,sg q,p⟩
  have r:i9 b y=ups b.gs 7 (some y):=by
   unfold i9;rw[T6 a l];exact dA d a.eh.nd 7 8 y d7 (by decide)
  show _=g.nm::i9 b y;rw[r]
theorem yH{b:Bd}(a:j7 b){l:Ld}(c:l∈b.ls):i9 b l.nm=i9 b l.at_:=by
 obtain⟨g,d,e⟩:=a.at_ l c;have h:l.at_∈u3 b:=List.mem_map.mpr ⟨g,d,e⟩;unfold i9;rw[xF a c,T6 a h]
theorem DB{b:Bd}(l:j7 b){i:Nat}{g:Gd}(h:b.gs[i]?=some g){y:Str}(d:g.un=some y):y∈(u3 b).take i:=by
 obtain⟨dp,c⟩:=l.un;obtain⟨_,_,_,up⟩:=c i g h;obtain⟨j,o,e,a,rfl,_⟩:=up y d;refine sg (i:=j) ?_;unfold u3;rw[FM e,rx,a];rfl
theorem ia{c:Type}{xs:List c}(nd:xs.Nodup){i:Nat}{x:c}(h:xs[i]?=some x):x∉xs.take i:=λz=>by
 obtain⟨j,b⟩:=x4 z;have a:=(List.getElem?_eq_some_iff.mp b).1;rw[vy] at a;rw[FM (by omega)] at b;have:=(UQ (i:=j) (j:=i) (by omega) nd).mp (by rw[b,h]);omega
theorem take_snoc{a:Type}{xs:List a}{i:Nat}{x:a}(h:xs[i]?=some x):xs.take (i+1)=xs.take i++[x]:=by rw[v2,h];rfl
theorem di{b:Bd}(x:Str):(i9 b x).length<=8:=oV _ 8 _
theorem Eg{T:W0}{b:Bd}{q:D}{i:Nat}{g:Gd}{e:Option D}(d:j7 b)(o:b.gs[i]?=some g)
  (z:T.nx [some q,some (.dic (jx b ((u3 b).take (i+1)))),some (gD g),e]):fe T [some q,some (.dic (jx b ((u3 b).take i))),some (gD g),e]:=by
 have l:=sg o;have B:=d.g16;have v:(u3 b)[i]?=some g.nm:=by unfold u3;rw[rx,o];rfl
 have nd:(u3 b).Nodup:=d.eh.nd;have h:((u3 b).take i).Nodup:=nd.sublist (TW _ _);have c:=tj d l
 have a:∃k,V0 (.str g.nm)=some k/\(jx b ((u3 b).take i)).length<sizeLine/\T.nx [some q,some (.dic (putD (jx b ((u3 b).take i)) k (.fz ((i9 b g.nm).map D.str)))),some (gD g),e]:=by
  refine⟨.inr g.nm,rfl,?_,?_⟩
  ·unfold jx u3;rw[dL,vy,dL];exact g7 (by omega)
  ·rw[wN (ia nd v),<-take_snoc v];exact z
 walk_at "r"
 cases j:g.un with
 | none=>
  rw[j] at c;have c:i9 b g.nm=[g.nm]:=c;rw[c] at a;exact⟨rfl,[.str g.nm],[],rfl,rfl,rfl,rfl,g7 (by decide),_,rfl,rfl,rfl,_,rfl,a⟩
 | some y=>
  rw[j] at c;have c:i9 b g.nm=g.nm::i9 b y:=c;rw[c] at a;have x:=gf (b:=b) (DB d o j) h;refine⟨.inr y,rfl,?_⟩;rw[x];have u:=aw (i9 b y);have p:=aw (g.nm::i9 b y);have:=di (b:=b) y;exact⟨u,[.str g.nm],(i9 b y).map D.str,rfl,rfl,rfl,u,by rw[dL];exact IN (g7 (by show 1+_<=_;omega)),_,rfl,p,p,_,rfl,a⟩
theorem Ez{T:W0}{b:Bd}{q:D}{i:Nat}{l:Ld}{p:Option D}(d:j7 b)(u:b.ls[i]?=some l)
  (B:T.nx [some q,some (.dic (jx b (u3 b++(K4 b).take (i+1)))),p,some (lD l)]):fu T [some q,some (.dic (jx b (u3 b++(K4 b).take i))),p,some (lD l)]:=by
 have c:=sg u;have E:=d.g16;have C:=d.l24;have j:(K4 b)[i]?=some l.nm:=by unfold K4;rw[rx,u];rfl
 have nd:=d.nd;have nd:(u3 b++K4 b).Nodup:=nd;obtain⟨n1,n2,v⟩:=List.nodup_append.mp nd;have h:(u3 b++(K4 b).take i).Nodup:=nd.sublist (List.Sublist.append_left (TW _ _) _);obtain⟨g,y,e⟩:=d.at_ l c;have o:l.at_∈u3 b++(K4 b).take i:=t7 _ (List.mem_map.mpr ⟨g,y,e⟩);have x:=gf (b:=b) o h
 have a:l.nm∉u3 b++(K4 b).take i:=λz=>by
  rcases List.mem_append.mp z with z | z
  ·exact v l.nm z l.nm (sg j) rfl
  ·exact ia n2 j z
 have r:=aw (i9 b l.at_);refine⟨_,rfl,.inr l.at_,_,rfl,x,r,r,_,rfl,.inr l.nm,rfl,?_,?_⟩
 ·unfold jx u3 K4;rw[dL,tt,vy,dL,dL];exact g7 (by omega)
 ·rw[<-yH d c,wN a,wh,<-take_snoc j];exact B
theorem GL{Q:D->Prop}{b:Bd}{x y:D}{d a:Option D}(o:j7 b)(g:zq y (b.ls.map lD))(q:Q (.dic (jx b (u3 b++K4 b)))):pf (EP Q) [some (.tup [x,y]),some (.dic (jx b (u3 b))),d,a]:=by
 rcases g with rfl | rfl
 all_goals
  refine⟨_,ag _ _ _,?_⟩;refine .of ⟨λi c=>∃a:Option D,c=[some (.tup [x,_]),some (.dic (jx b (u3 b++(K4 b).take i))),d,a],⟨a,by rw[List.take_zero,tz]⟩,?_,?_⟩
  ·rintro i e c j ⟨a,rfl⟩;obtain⟨l,h,rfl⟩:=get_map j;exact⟨rfl,Ez o h ⟨_,rfl⟩⟩
  ·rintro c ⟨a,rfl⟩;rw[dL,P3 (by unfold K4;rw[dL];exact oT _)];exact q
theorem Jx(ds:List D)(Q:D->Prop)(h:aH ds Q):DU (EP Q) (g9 4 ds):=by
 obtain⟨_,b,rfl,⟨x,y,rfl,l,j⟩,d,q⟩:=h;refine⟨rfl,?_⟩;rcases l with rfl | rfl
 all_goals
  refine⟨_,N0 _ _,?_⟩;refine .of ⟨λi a=>∃c:Option D,a=[some (.tup [_,y]),some (.dic (jx b ((u3 b).take i))),c,none],⟨none,rfl⟩,?_,?_⟩
  ·rintro i e a p ⟨c,rfl⟩;obtain⟨g,o,rfl⟩:=get_map p;exact⟨rfl,Eg d o ⟨_,rfl⟩⟩
  ·rintro a ⟨c,rfl⟩;rw[dL,P3 (by unfold u3;rw[dL];exact oT _)];exact GL d j q
def rv(b:Bd)(ls:List Ld)(y:Str):Int:=(ls.map λl=>(((i9 b l.nm).count y:Nat):Int)*(if l.on then l.la else 0)).sum
theorem sx{b:Bd}(d:j7 b)(y:Str):p7 b y=rv b b.ls y:=by
 have c:∀x,F0 b [] x=true:=λx=>by
  unfold F0;rw[Ue];exactλg _=>t6 (λz=>nomatch z)
 unfold p7 O4 rv;rw[ue,UC,O6 (u3 b) _ λx e=>?_,Int.zero_add]
 ·unfold K4;rw[v9];refine K1 λl h=>?_;show(if F0 b [] l.nm=true then _ else _)=_;rw[ry (c _)];unfold rW;rw[O1 (HF d) h]
 ·have a:x∉b.ls.map (·.nm):=λz=>(List.nodup_append.mp d.nd).2.2 x e x z rfl;rw[ry (c _)];unfold rW;rw[ax a,Int.mul_zero]
theorem Ey{T:W0}{b:Bd}{q:D}{l:Ld}{f:Str->Int}{a:Option D}(d:j7 b)(B:l∈b.ls)
  (C:∀a,T.nx [some q,some (.dic (jx b (u3 b++K4 b))),some (.dic (j9 b λy=>f y+(((i9 b l.nm).count y:Nat):Int)*(if l.on then l.la else 0))),some (lD l),a]) :
  fA T [some q,some (.dic (jx b (u3 b++K4 b))),some (.dic (j9 b f)),some (lD l),a]:=by
 have G:=d.g16;have o:l.nm∈u3 b++K4 b:=rj _ (List.mem_map.mpr ⟨l,B,rfl⟩);have j:=cI d o;refine⟨_,rfl,.inr l.nm,_,rfl,gf o d.nd,?_⟩;generalize i9 b l.nm=c at *;generalize E:jx b (u3 b++K4 b)=I;refine .of ⟨λn i=>∃a,i=[some q,some (.dic I),some (.dic (j9 b λy=>f y+(((c.take n).count y:Nat):Int)*(if l.on then l.la else 0))),some (lD l),a],⟨a,?_⟩,?_,?_⟩
 ·have e:(j9 b λy=>f y+((((c.take 0).count y:Nat):Int))*(if l.on then l.la else 0))=j9 b f:=y9 λx _=>by
   rw[List.take_zero,List.count_nil];show f x+0*_=f x;rw[UH,Vb]
  rw[e]
 ·rintro n y i v ⟨a,rfl⟩;obtain⟨g,r,rfl⟩:=get_map v;have p:=j g (sg r);refine⟨rfl,?_⟩;refine⟨_,_,rfl,G8 d p,?_⟩;have H:(l.la*if l.on=true then 1 else 0)=if l.on then l.la else 0:=by split<;>omega
  have e:(j9 b λz=>if z=g then f g+(((c.take n).count g:Nat):Int)*(if l.on then l.la else 0)+(if l.on then l.la else 0) else f z+(((c.take n).count z:Nat):Int)*(if l.on then l.la else 0))=j9 b λz=>f z+(((c.take (n+1)).count z:Nat):Int)*(if l.on then l.la else 0):=y9 λz _=>by
   rw[List.take_succ,r,show(some g).toList=[g] from rfl,List.count_append,List.count_singleton]
   by_cases h:z=g
   ·subst h;rw[ry rfl];simp[VM];omega
   ·rw[ro h];have:(g == z)=false:=by rw[beq_eq_false_iff_ne];exactλw=>h w.symm
    simp[this]
  have u:T.nx=T.nx:=rfl;refine⟨_,rfl,_,rfl,?_⟩;refine⟨.inr ⟨?_,?_⟩,?_⟩
  ·split<;>decide
  ·split<;>decide
  rw[H];refine⟨rfl,_,rfl,by rw[cR];exact g7 (by omega),some (.str g),?_⟩;rw[cT p,e];rfl
 ·rintro i ⟨a,rfl⟩;rw[dL,wE,<-E];exact C a
theorem HW{Q:D->Prop}{b:Bd}{x y:D}{c a:Option D}(h:j7 b)(j:zq y (b.ls.map lD))(q:Q (.dic (j9 b (p7 b)))):pz (EP Q) [some (.tup [x,y]),some (.dic (jx b (u3 b++K4 b))),some (.dic (j9 b λ_=>0)),c,a]:=by
 rcases j with rfl | rfl
 all_goals
  refine⟨_,ag _ _ _,?_⟩;refine .of ⟨λi d=>∃c a:Option D,d=[some (.tup [x,_]),some (.dic (jx b (u3 b++K4 b))),some (.dic (j9 b (rv b (b.ls.take i)))),c,a],⟨c,a,rfl⟩,?_,?_⟩
  ·rintro i e d o ⟨c,a,rfl⟩;obtain⟨l,g,rfl⟩:=get_map o;refine⟨rfl,Ey h (sg g) λa=>⟨some (lD l),a,?_⟩⟩
   have e:(j9 b λy=>rv b (b.ls.take i) y+(((i9 b l.nm).count y:Nat):Int)*(if l.on then l.la else 0))=j9 b (rv b (b.ls.take (i+1))):=y9 λz _=>by
    unfold rv;rw[v2,g,ue,UC];show _=_+(_+0);rw[Vb]
   rw[e]
  ·rintro d ⟨c,a,rfl⟩;have e:j9 b (rv b b.ls)=j9 b (p7 b):=y9 λz _=>(sx h z).symm;rw[dL,wE,e];exact q
theorem JA(ds:List D)(Q:D->Prop)(h:U5 ds Q):BI (EP Q) (g9 5 ds):=by
 obtain⟨_,b,rfl,⟨x,y,rfl,d,c⟩,a,q⟩:=h;have i:=a.g16;refine⟨_,b,rfl,⟨x,y,rfl,d,c⟩,a,rfl,?_⟩;rcases d with rfl | rfl
 all_goals
  refine⟨_,N0 _ _,by rw[dL];exact g7 (by omega),?_⟩;refine N1 (f:=λg:Gd=>.tup [.str g.nm,.int 0]) b.gs [] (λg j K R e=>?_) ?_
  ·walk_at "r";exact e
  rw[u0];refine .inl ⟨_,_,_,rfl,rfl,S2 (f:=λg:Gd=>.tup [.str g.nm,.int 0]) (λg=>rfl) b.gs,eD (λg:Gd=>g.nm) (λ_:Gd=>.int 0) b.gs,by rw[dL];exact g7 (by omega),?_⟩;rw[yp a];exact⟨rfl,HW a c q⟩
theorem DZ(ds:List D)(Q:D->Prop)(h:T5 ds Q):wW (EP Q) (g9 2 ds):=by
 obtain⟨g,n,rfl,v,q⟩:=h;have o:=V7 g.cv;have l:=V7 (g.cv.map λp=>(p.1+n,p.2));have a:=jk g.un;have b:u6 [.str g.nm,uD g.un,kd g.cv,.int g.de,.int g.wa]=true:=Y9 g;refine⟨b,?_⟩;refine⟨_,rfl,by rw[dL];exact g7 (by omega),?_⟩;refine N1 (f:=λp:Pr=>pr (p.1+n,p.2)) g.cv [] (λp u K R c=>?_) ?_
 ·walk_at "r";exact c
 have e:([]++g.cv.map λp:Pr=>pr (p.1+n,p.2))=(g.cv.map λp=>(p.1+n,p.2)).map pr:=by rw[u0,v9];rfl
 rw[e];refine⟨_,_,rfl,rfl,l,?_⟩
 have j:u6 [.str g.nm,uD g.un]=true:=by
  show(true&&(u9 (uD g.un)&&true))=true;rw[a];rfl
 have i:u6 [kd (g.cv.map λp=>(p.1+n,p.2))]=true:=by
  show(u9 (kd (g.cv.map λp=>(p.1+n,p.2)))&&true)=true;rw[bf];rfl
 have d:u6 [.str g.nm,uD g.un,kd (g.cv.map λp=>(p.1+n,p.2))]=true:=by
  show(true&&(u9 (uD g.un)&&(u9 (kd (g.cv.map λp=>(p.1+n,p.2)))&&true)))=true;rw[a,bf];rfl
 exact⟨j,i,IN (g7 (show 2+1<=100000 by decide)),b,d,rfl,IN (g7 (show 3+2<=100000 by decide)),q⟩
theorem Up.more{xs:WJ}{b w l u:Int}(h:Up b xs)(d:l∈xs)(e:∀x∈xs,x<=l)(i:1<=u)(g:u<=w):Up (b+w) (xs++[l+u]):=by
 refine⟨List.pairwise_append.mpr ⟨h.1,Ch _ _,λx a y c=>?_⟩,λx a=>?_⟩
 ·rw[List.mem_singleton.mp c];have:=e x a;omega
 ·have:=h.2 l d;rcases List.mem_append.mp a with z | z
  ·have:=h.2 x z;omega
  ·rw[List.mem_singleton.mp z];omega
theorem Up.scale{xs:WJ}{b B u:Int}(h:Up b xs)(c:1<=u)(i:b*u<=B):Up B (xs.map (·*u)):=by
 refine⟨List.pairwise_map.mpr (h.1.imp λh=>Int.mul_lt_mul_of_pos_right h (by omega)),λy d=>?_⟩;obtain⟨x,e,rfl⟩:=List.mem_map.mp d;have a:=h.2 x e;have g:1*1<=x*u:=Int.mul_le_mul a.1 c (by decide) (by omega);have j:x*u<=b*u:=u8 a.2 (by omega);exact⟨g,by omega⟩
theorem X4(xs:WJ)(u:Int)(k:Nat):(xs.map (·*u)).getD k 0=xs.getD k 0*u:=by
 rw[t5,t5,rx]
 cases xs[k]? with
 | none=>exact(UH u).symm
 | some x=>rfl
theorem getD_mem{xs:WJ}{k:Nat}(h:k<xs.length):xs.getD k 0∈xs:=by
 rw[t5,nA h];exact TD h
theorem mm{u t:Int}(h:U3 u t):46*u<=10^60-1/\15*t<=10^60-1:=by
 obtain⟨d,c,b,a⟩:=h;omega
theorem yr{Q:D->D->Prop}{c d k u t m:Int}{xs ys:WJ}{v:Option D}(b:U3 u t)(B:(xs.length:Int)=m)(T:(ys.length:Int)=m)(X:1<=m)(U:m<=5)(j:Up 46 xs)(h:Up 15 ys)
  (q:∀cv:List Pr,S7 cv->(∀p∈cv,p.1<=46*u)->(∀p∈cv,p.2<=15*t)->Q (kd cv) (feed c d k)):gO (EM Q) [some (feed c d k),some (.int u),some (.int t),some (.int m),some (nums xs),some (nums ys),v]:=by
 obtain⟨I,H⟩:=mm b;have E:=j.scale b.1 I;have C:=h.scale b.2.2.1 H;refine⟨⟨by omega,by omega⟩,by rw[x9,dL,tL];exact g7 (by omega),?_⟩;refine N1 (f:=λ(k:Nat)=>pr ((xs.map (·*u)).getD k 0,(ys.map (·*t)).getD (m.toNat-1-k) 0)) (List.range m.toNat) [] (λk a K R z=>?_) ?_
 ·have a:=List.mem_range.mp a
  have M:N8 (xs.map D.int) (0+(k:Int))=some (.int (xs.getD k 0)):=by
   obtain⟨x,_,g,y⟩:=E9 (f:=D.int) (xs:=xs) (i:=0+(k:Int)) (by omega) (by omega);rw[y];have r:(0+(k:Int)).toNat=k:=by omega
   rw[r] at g;rw[t5,g];rfl
  have J:N8 (ys.map D.int) (m-1-(0+(k:Int)))=some (.int (ys.getD (m.toNat-1-k) 0)):=by
   obtain⟨x,_,g,y⟩:=E9 (f:=D.int) (xs:=ys) (i:=m-1-(0+(k:Int))) (by omega) (by omega);rw[y];have r:(m-1-(0+(k:Int))).toNat=m.toNat-1-k:=by omega
   rw[r] at g;rw[t5,g];rfl
  have S:=j.2 _ (getD_mem (xs:=xs) (k:=k) (by omega));have O:=h.2 _ (getD_mem (xs:=ys) (k:=m.toNat-1-k) (by omega));rw[X4,X4] at z;refine⟨rfl,Br.yes rfl ?_⟩;refine⟨_,M,.inl ⟨by omega,by omega⟩,_,J,.inl ⟨by omega,by omega⟩,z⟩
 ·have G:∀l:WK,u6 (l.map λ(k:Nat)=>pr ((xs.map (·*u)).getD k 0,(ys.map (·*t)).getD (m.toNat-1-k) 0))=true:=λl=>qI λx B=>by
   obtain⟨k,_,rfl⟩:=List.mem_map.mp B;rfl
  refine⟨_,_,rfl,rfl,G _,?_⟩;have e:(List.range m.toNat).map (λ(k:Nat)=>pr ((xs.map (·*u)).getD k 0,(ys.map (·*t)).getD (m.toNat-1-k) 0))=(steps m.toNat (xs.map (·*u)) (ys.map (·*t))).map pr:=by unfold steps;rw[v9];rfl
  rw[u0,e];refine q _ (Dy (by rw[dL];omega) (by rw[dL];omega) (by omega) (by omega) E C) (λp o=>?_) λp o=>?_
  ·obtain⟨k,a,rfl⟩:=List.mem_map.mp o;have a:=List.mem_range.mp a;show(xs.map (·*u)).getD k 0<=46*u;rw[X4];exact u8 (j.2 _ (getD_mem (by omega))).2 (by have:=b.1;omega)
  ·obtain⟨k,a,rfl⟩:=List.mem_map.mp o;have a:=List.mem_range.mp a;show(ys.map (·*t)).getD (m.toNat-1-k) 0<=15*t;rw[X4];exact u8 (h.2 _ (getD_mem (by omega))).2 (by have:=b.2.2.1;omega)
theorem zS(ds:List D)(Q:D->D->Prop)(h:R5 ds Q):qD (EM Q) (g9 7 ds):=by
 obtain⟨c,d,k,u,t,rfl,k0,k1,X,q⟩:=h;refine⟨c,d,k,5,rfl,k0,by omega,by decide,by decide,λm d1 m0 m1=>⟨rfl,?_⟩⟩;refine⟨c,d1,k+1,10,rfl,by omega,by omega,by decide,by decide,λr d2 r0 r1=>⟨rfl,?_⟩⟩;refine⟨c,d2,k+1+1,3,rfl,by omega,by omega,by decide,by decide,λr' d3 a0 Y=>⟨rfl,?_⟩⟩;refine⟨⟨by omega,by omega⟩,?_⟩
 refine .of ⟨λi E=>∃(B a:Int) (g b:WJ) (G:Option D),E=[some (feed c B a),some (.int u),some (.int t),some (.int (1+m)),some (nums g),some (nums b),G]/\g.length=i+1/\b.length=i+1/\Up (10+9*i) g/\Up (3+3*i) b/\k<=a/\a<=k+3+2*i,
  ⟨d3,k+1+1+1,[1+r],[1+r'],none,rfl,rfl,rfl,⟨Ch _ _,λx o=>by rw[List.mem_singleton.mp o];omega⟩,⟨Ch _ _,λx o=>by rw[List.mem_singleton.mp o];omega⟩,by omega,by omega⟩,?_,?_⟩
 ·rintro i e E R ⟨B,a,g,b,G,rfl,o,J,y,v,k2,O⟩;rw[x9] at R;obtain⟨j,hj,rfl⟩:=get_map R;have hi:i<(1+m-1).toNat:=by have:=(List.getElem?_eq_some_iff.mp hj).1;rwa [tL] at this
  obtain⟨l,lm,lx,hl⟩:=wA y (by omega);obtain⟨C,I,H,M⟩:=wA v (by omega);refine⟨rfl,rfl,_,hl,?_⟩;refine⟨c,B,a,9,rfl,by omega,by omega,by decide,by decide,λw d4 w0 w1=>?_⟩;refine⟨by rw[dL];exact g7 (by omega),?_⟩;refine⟨rfl,_,M,?_⟩;refine⟨c,d4,a+1,3,rfl,by omega,by omega,by decide,by decide,λp d5 U T=>?_⟩;refine⟨by rw[dL];exact g7 (by omega),?_⟩;have z:=y.more (w:=9) (u:=1+w) lm lx (by omega) (by omega);have S:=v.more (w:=3) (u:=1+p) I H (by omega) (by omega);refine⟨d5,a+1+1,g++[l+(1+w)],b++[C+(1+p)],some (.int (0+(j:Int))),?_,by simp[o],by simp[J],z.mono (by omega),S.mono (by omega),by omega,by omega⟩;unfold nums;rw[ue,ue];show _=[some (feed c d5 (a+1+1)),_,_,_,some (.lst (g.map D.int++[.int (l+(1+w))])),some (.lst (b.map D.int++[.int (C+(1+p))])),_];rw[show l+(1+w)=l+1+w from by omega,show C+(1+p)=C+1+p from by omega];rfl
 ·rintro E ⟨B,a,g,b,G,rfl,o,J,y,v,k2,O⟩;rw[x9,dL,tL] at o J O y v;exact yr X (by omega) (by omega) (by omega) (by omega) (y.mono (by omega)) (v.mono (by omega)) λcv c1 c2 c3=>q cv B a c1 c2 c3 (by omega) (by omega)
theorem LY{a:List D}{p:Int}(c:0<=p)(b:p<a.length):N8 a p=a[p.toNat]?:=by
 unfold N8 kS;rw[ry c,ry b];rfl
theorem FT(xs:WG){p:Int}(b:0<=p)(g:p<=xs.length):∃un:Option Str,N8 ([D.l3]++xs.map D.str) p=some (uD un)/\(∀y,un=some y->∃j:Nat,(j:Int)+1=p/\xs[j]?=some y):=by
 rw[LY b (by rw[tt,dL];show p<((1+xs.length:Nat):Int);omega)]
 by_cases h:p=0
 ·subst h;exact⟨none,rfl,λy z=>nomatch z⟩
 ·obtain⟨n,e⟩:∃n,p.toNat=n+1:=⟨p.toNat-1,by omega⟩
  have d:n<xs.length:=by omega
  have a:=nA d;refine⟨some xs[n],?_,λz c=>by cases c;exact⟨n,by omega,a⟩⟩;rw[e];show(xs.map D.str)[n]?=_;rw[rx,a];rfl
structure QT(xs:WG)(gs:List Gd)(es:WK)(u t:Int):Prop where
 k:NW xs gs es
 lo:∀(j e:Nat),es[j]?=some e->e<=j+1
 sm:Rq gs u t
theorem QT.snoc{xs:WG}{gs:List Gd}{c:WK}{g:Gd}{u t:Int}(r:U3 u t)(h:QT xs gs c u t)(Q:gs.length<8)(v:xs[gs.length]?=some g.nm)(un:∀y,g.un=some y->∃j:Nat,j<gs.length/\xs[j]?=some y)(x:S7 g.cv)(hd:0<=g.de)(hw:0<=g.wa)
  (c1:∀p∈g.cv,p.1<=46*u) (c2:∀p∈g.cv,p.2<=15*t) (d2:g.de<=3*t) (B:g.wa<=2*t):∃q,QT xs (gs++[g]) q u t:=by
 have mem:∀{P:Gd->Prop},(∀g∈gs,P g)->P g->∀z∈gs++[g],P z:=λI H z C=>by
  rcases List.mem_append.mp C with w | w
  ·exact I z w
  ·rw[List.mem_singleton.mp w];exact H
 have b:=mm r;have O:=r.2.2.1;have sm:Rq (gs++[g]) u t:=⟨mem h.sm.c1 c1,mem h.sm.c2 c2,mem h.sm.de d2,mem h.sm.wa B⟩
 have lo:∀e:Nat,e<=gs.length+1->∀(j l:Nat),(c++[e])[j]?=some l->l<=j+1:=λe i j l a=>by
  by_cases G:j<c.length
  ·rw[ud G] at a;exact h.lo j l a
  ·have o:=(List.getElem?_eq_some_iff.mp a).1;rw[tt,wf] at o;have J:j=c.length:=by omega
   subst J;rw[wT (oT _),Uo] at a;cases a;rw[h.k.len];exact i
 cases d:g.un with
 | none=>exact⟨c++[1],h.k.snoc (e:=1) v (oT _) (by decide) (λ_=>rfl) (λy z=>by rw[d] at z;cases z) x ⟨hd,by omega⟩ ⟨hw,by omega⟩,lo 1 (by omega),sm⟩
 | some y=>
  obtain⟨j,a,E⟩:=un y d;obtain⟨e,i⟩:∃e,c[j]?=some e:=⟨_,nA (by rw[h.k.len];exact a)⟩
  have:=h.lo j e i;exact⟨c++[e+1],h.k.snoc (e:=e+1) v (by omega) (by omega) (λz=>by rw[d] at z;cases z) (λM z=>by rw[d] at z;cases z;exact⟨j,e,a,E,i,rfl⟩) x ⟨hd,by omega⟩ ⟨hw,by omega⟩,lo (e+1) (by omega),sm⟩
theorem vW(ds:List D)(Q:D->Prop)(h:M8 ds Q):kE (EP Q) (g9 10 ds):=by
 obtain⟨d,ns,v,u,t,rfl,hs,x1,x8,xn,B,q⟩:=h;have b:=mm B;have t1:=B.2.2.1;refine⟨rfl,?_⟩;refine⟨⟨by rw[dL];omega,by rw[dL];omega⟩,?_⟩
 refine .of ⟨λi H=>∃(gs:List Gd) (es:WK) (R O M J I:Option D),H=[some d,some (jw v),some (.int u),some (.int t),some (.lst (gs.map gD)),R,O,M,J,I]/\gs.length=i/\QT v gs es u t,
  ⟨[],[],none,none,none,none,none,rfl,rfl,⟨⟨rfl,rfl,λj g l=>(by simp at l),(λg l=>nomatch l),(λg l=>nomatch l),(λg l=>nomatch l)⟩,λj e E=>(by simp at E),⟨(λg l=>nomatch l),(λg l=>nomatch l),(λg l=>nomatch l),(λg l=>nomatch l)⟩⟩⟩,?_,?_⟩
 ·rintro i e H E ⟨gs,es,R,O,M,J,I,rfl,C,o⟩;rw[x9] at E;obtain⟨j,hj,rfl⟩:=get_map E
  have hi:i<v.length/\j=i:=by
   obtain⟨z1,z2⟩:=List.getElem?_eq_some_iff.mp hj;rw[tL,dL] at z1;rw[Uh] at z2;exact⟨by omega,by omega⟩
  obtain⟨hi,rfl⟩:=hi;obtain⟨x,_,z,T⟩:=E9 (f:=D.str) (xs:=v) (i:=0+(j:Int)) (by omega) (by omega);have e0:(0+(j:Int)).toNat=j:=by omega
  rw[e0] at z;refine⟨rfl,?_⟩;refine⟨d,ns,2+(0+(j:Int)),rfl,hs,by omega,by omega,λc=>⟨rfl,?_⟩⟩;walk_at "n";refine⟨c,c,_,0+(j:Int)+1,rfl,by omega,by omega,by omega,by omega,λr d1 r0 r1=>?_⟩;refine⟨rfl,c,d1,_,3,rfl,by omega,by omega,by decide,by decide,λw d2 w0 w1=>?_⟩;walk_at "n";obtain⟨p,hp,ab⟩:=PJ r (0+(j:Int)) (t:=if decide (0<w)=true then 1 else 0) (by split<;>decide) (by split<;>decide);refine⟨_,hp,rfl,rfl,?_⟩;walk_at "n";refine⟨c,d2,_,u,t,rfl,by omega,by omega,B,λcv d3 S hc c1 c2 a5 a4=>⟨rfl,?_⟩⟩;walk_at "n";refine⟨c,d3,S,4,rfl,by omega,by omega,by decide,by decide,λa d4 a0 a1=>⟨.inl ⟨by omega,by omega⟩,rfl,?_⟩⟩;walk_at "n";obtain⟨un,X,U⟩:=FT v (p:=p) (by omega) (by omega);refine⟨rfl,_,T,rfl,?_⟩;refine⟨rfl,aw v,?_,_,X,?_⟩
  ·rw[dL];exact IN (g7 (by show 1+_<=_;omega))
  refine⟨bf cv,rfl,c,d4,S+1,3,rfl,by omega,by omega,by decide,by decide,λG d5 a3 ac=>⟨.inl ⟨by omega,by omega⟩,?_⟩⟩;refine⟨by rw[dL];exact g7 (by omega),?_⟩;have m1:a*t<=3*t:=u8 (by omega) (by omega);have m2:G*t<=2*t:=u8 (by omega) (by omega);have m3:0<=a*t:=UK a0 (by omega);have m4:0<=G*t:=UK a3 (by omega);obtain⟨a2,Y⟩:=o.snoc B (g:=⟨x,un,cv,a*t,G*t⟩) (by omega) (by rw[C];exact z) (λy hy=>by obtain⟨n,h1,h2⟩:=U y hy;exact⟨n,by omega,h2⟩) hc m3 m4 c1 c2 m1 m2;refine⟨gs++[⟨x,un,cv,a*t,G*t⟩],a2,some (.int (0+(j:Int))),some (feed c d5 (S+1+1)),some (.int p),some (kd cv),some (.int (a*t)),?_,by simp[C],Y⟩;rw[ue];rfl
 ·rintro H ⟨gs,es,R,O,M,J,I,rfl,C,o⟩;rw[x9,dL,tL,dL] at C;refine q gs ?_ o.k.un o.k.cv (λg l=>(o.k.de g l).1) (λg l=>(o.k.wa g l).1) o.sm;have:=o.k.nms;rw[this,P3 (by omega)]
structure Ri(gs:List Gd)(ls:List Ld)(u t:Int):Prop where
 c4:∀l∈ls,l.cs.length<=4
 cs:∀l∈ls,∀p∈l.cs,1<=p.1/\0<=p.2
 la:∀l∈ls,0<=l.la
 at_:∀l∈ls,∃g∈gs,g.nm=l.at_
 sm:RQ ls u t
theorem Ri.snoc{gs:List Gd}{ls:List Ld}{l:Ld}{u t:Int}(h:Ri gs ls u t)(c:l.cs.length<=4)(a:∀p∈l.cs,1<=p.1/\p.1<=3*t/\0<=p.2/\p.2<=11*u)(j:0<=l.la)(i:l.la<=3*u)(e:∃g∈gs,g.nm=l.at_):Ri gs (ls++[l]) u t:=by
 have mem:∀{P:Ld->Prop},(∀g∈ls,P g)->P l->∀z∈ls++[l],P z:=λc a z d=>by
  rcases List.mem_append.mp d with w | w
  ·exact c z w
  ·rw[List.mem_singleton.mp w];exact a
 exact⟨mem h.c4 c,mem h.cs λp b=>⟨(a p b).1,(a p b).2.2.1⟩,mem h.la j,mem h.at_ e,mem h.sm.la i,mem h.sm.cs λp b=>⟨(a p b).2.1,(a p b).2.2.2⟩⟩
theorem zd(ds:List D)(Q:D->Prop)(h:R8 ds Q):pX (EP Q) (g9 11 ds):=by
 obtain⟨d,ns,H,gs,u,t,rfl,hs,g1,g8,x8,ut,q⟩:=h;have u1:=ut.1;have t1:=ut.2.2.1;refine⟨rfl,?_⟩;refine⟨⟨by rw[dL];omega,by rw[dL];omega⟩,?_⟩
 refine .of ⟨λi B=>∃(ls:List Ld) (X U T S b:Option D),B=[some d,some (jw H),some (.lst (gs.map gD)),some (.int u),some (.int t),some (.lst (ls.map lD)),X,U,T,S,b]/\ls.length=i/\ls.map (·.nm)=H.take i/\Ri gs ls u t,
  ⟨[],none,none,none,none,none,rfl,rfl,rfl,⟨(λg l=>nomatch l),(λg l=>nomatch l),(λg l=>nomatch l),(λg l=>nomatch l),(λg l=>nomatch l),(λg l=>nomatch l)⟩⟩,?_,?_⟩
 ·rintro i e B he ⟨ls,X,U,T,S,b,rfl,hl,R,C⟩;rw[x9] at he;obtain⟨j,hj,rfl⟩:=get_map he
  have hi:i<H.length/\j=i:=by
   obtain⟨z1,z2⟩:=List.getElem?_eq_some_iff.mp hj;rw[tL,dL] at z1;rw[Uh] at z2;exact⟨by omega,by omega⟩
  obtain⟨hi,rfl⟩:=hi;obtain⟨x,_,I,a2⟩:=E9 (f:=D.str) (xs:=H) (i:=0+(j:Int)) (by omega) (by omega);have e0:(0+(j:Int)).toNat=j:=by omega
  rw[e0] at I;refine⟨rfl,?_⟩;refine⟨d,ns,10+(0+(j:Int)),rfl,hs,by omega,by omega,λc=>⟨rfl,?_⟩⟩;refine⟨c,c,_,_,rfl,by omega,by omega,by rw[dL];omega,by rw[dL];omega,λr d1 r0 r1=>?_⟩;rw[dL] at r1;obtain⟨g,l,_,a3⟩:=E9 (f:=gD) (xs:=gs) (i:=r) r0 r1;refine⟨_,a3,_,rfl,rfl,rfl,rfl,?_⟩;refine⟨c,d1,_,5,rfl,by omega,by omega,by decide,by decide,λr2 d2 ab a5=>?_⟩;generalize hK:100*(10+(0+(j:Int)))+1+1=K0;refine⟨⟨by omega,by omega⟩,?_⟩;refine .of ⟨λn B=>∃(J o:Int) (v:List Pr) (b:Option D),B=[some d,some (jw H),some (.lst (gs.map gD)),some (.int u),some (.int t),some (.lst (ls.map lD)),some (.int (0+(j:Int))),some (feed c J o),some (.str g.nm),some (.lst (v.map pr)),b]/\v.length=n/\(∀p∈v,1<=p.1/\p.1<=3*t/\0<=p.2/\p.2<=11*u)/\0<=o/\o<=10000+2*n,⟨d2,K0,[],b,rfl,rfl,(λp hp=>nomatch hp),by omega,by omega⟩,?_,?_⟩
  ·rintro n y B hy ⟨J,o,v,b,rfl,G,E,k0,k1⟩;have hn:n<r2.toNat:=by have:=(List.getElem?_eq_some_iff.mp hy).1;rwa [x9,dL,tL] at this
   refine⟨rfl,?_⟩;refine⟨rfl,c,J,o,3,rfl,by omega,by omega,by decide,by decide,λa d3 a0 a1=>⟨.inl ⟨by omega,by omega⟩,?_⟩⟩;refine⟨c,d3,o+1,12,rfl,by omega,by omega,by decide,by decide,λO d4 M a4=>⟨.inl ⟨by omega,by omega⟩,?_⟩⟩;refine⟨by rw[dL];exact g7 (by omega),?_⟩;have m1:(1+a)*t<=3*t:=u8 (by omega) (by omega);have m2:O*u<=11*u:=u8 (by omega) (by omega);have Y:1*1<=(1+a)*t:=Int.mul_le_mul (by omega) t1 (by decide) (by omega);have m4:0<=O*u:=UK M (by omega);refine⟨d4,o+1+1,v++[((1+a)*t,O*u)],some y,?_,by simp[G],λp hp=>?_,by omega,by omega⟩
   ·rw[ue];rfl
   ·rcases List.mem_append.mp hp with z | z
    ·exact E p z
    ·rw[List.mem_singleton.mp z];exact⟨Y,m1,m4,m2⟩
  ·rintro B ⟨J,o,v,b,rfl,G,E,k0,k1⟩;rw[x9,dL,tL] at G k1;refine⟨rfl,_,a2,rfl,rfl,_,_,rfl,rfl,V7 v,?_⟩;refine⟨c,J,o,4,rfl,by omega,by omega,by decide,by decide,λa d5 a0 a1=>⟨.inl ⟨by omega,by omega⟩,?_⟩⟩;refine⟨c,d5,o+1,4,rfl,by omega,by omega,by decide,by decide,λO d6 M a4=>?_⟩;refine⟨by rw[dL];exact g7 (by omega),?_⟩;have m1:a*u<=3*u:=u8 (by omega) (by omega);have Y:0<=a*u:=UK a0 (by omega);refine⟨ls++[⟨x,g.nm,v,a*u,decide (0<O)⟩],some (.int (0+(j:Int))),some (feed c d6 (o+1+1)),some (.str g.nm),some (.lst (v.map pr)),b,?_,by simp[hl],?_,C.snoc (by show v.length<=4;omega) E Y m1 ⟨g,l,rfl⟩⟩
   ·rw[ue];rfl
   ·rw[ue,R,v2,I];rfl
 ·rintro B ⟨ls,X,U,T,S,b,rfl,hl,R,C⟩;rw[x9,dL,tL,dL] at R;exact q ls (by rw[R,P3 (by omega)]) C.c4 C.cs C.la C.at_ C.sm
theorem CT{gs:List Gd}{dp:Nat->Nat}(l:oS gs dp)(nd:(gs.map (·.nm)).Nodup):∀(n j:Nat) (g:Gd),gs[j]?=some g->∀y∈ups gs n (some g.nm),∃k h,k<=j/\gs[k]?=some h/\h.nm=y
 | 0,_,_,_,y,b=>by cases b
 | n+1,j,g,d,y,b=>by
  have b:y∈g.nm::ups gs n (sH gs g.nm):=b;rcases List.mem_cons.mp b with e | e
  ·exact⟨j,g,oT _,d,e.symm⟩
  ·rw[aE nd (sg d)] at e
   cases c:g.un with
   | none=>
    rw[c] at e;cases n<;>cases e
   | some z=>
    rw[c] at e;obtain⟨_,_,_,a⟩:=l j g d;obtain⟨k,r,u,i,rfl,_⟩:=a z c;obtain⟨o,h,v,q,p⟩:=CT l nd n k r i y e;exact⟨o,h,by omega,q,p⟩
theorem Mm{gs:List Gd}(nd:(gs.map (·.nm)).Nodup){i j:Nat}{g h:Gd}(d:gs[i]?=some g)(c:gs[j]?=some h)(e:g.nm=h.nm):i=j:=by
 have a:(gs.map (·.nm))[i]?=some g.nm:=by rw[rx,d];rfl
 have l:(gs.map (·.nm))[j]?=some g.nm:=by rw[rx,c,e];rfl
 have b:i<(gs.map (·.nm)).length:=(List.getElem?_eq_some_iff.mp a).1;exact(UQ b nd).mp (a.trans l.symm)
theorem kM{gs:List Gd}{dp:Nat->Nat}(c:oS gs dp)(nd:(gs.map (·.nm)).Nodup):∀(n j:Nat) (g:Gd),gs[j]?=some g->(ups gs n (some g.nm)).Nodup
 | 0,_,_,_=>sd
 | n+1,j,g,d=>by
  show(g.nm::ups gs n (sH gs g.nm)).Nodup;rw[aE nd (sg d)]
  cases i:g.un with
  | none=>
   have p:ups gs n none=[]:=by cases n<;>rfl
   rw[p];exact List.nodup_cons.mpr ⟨(λz=>nomatch z),sd⟩
  | some z=>
   obtain⟨_,_,_,a⟩:=c j g d;obtain⟨k,e,r,b,rfl,_⟩:=a z i;refine List.nodup_cons.mpr ⟨λy=>?_,kM c nd n k e b⟩;obtain⟨q,h,u,o,l⟩:=CT c nd n k e b _ y;have:=Mm nd o d l;omega
theorem tm{b:Bd}(a:j7 b){x:Str}(d:x∈u3 b++K4 b):(i9 b x).Nodup:=by
 obtain⟨dp,c⟩:=a.eh.un;obtain⟨g,i,e⟩:=List.mem_map.mp (qh a d);obtain⟨j,h⟩:=x4 i;unfold i9;rw[<-e];exact kM c a.eh.nd 8 j g h
theorem uJ{b:Bd}(c:j7 b){x:Str}(a:x∈u3 b++K4 b)(y:Str):(((i9 b x).count y:Nat):Int)=if y∈i9 b x then 1 else 0:=by
 by_cases h:y∈i9 b x
 ·rw[ry h,List.Nodup.count (tm c a),ry h];rfl
 ·rw[ro h,List.count_eq_zero.mpr h];rfl
theorem eY{d:Type}{f:d->Int}{c:Int}:∀{l:List d},(∀x∈l,0<=f x/\f x<=c)->0<=(l.map f).sum/\(l.map f).sum<=l.length*c
 | [],_=>⟨UA _,by show(0:Int)<=((0:Nat):Int)*c;rw[Int.natCast_zero,UH];exact UA _⟩
 | x::l,h=>by
  have a:=h x re;have b:=eY (l:=l) λy g=>h y (hQ _ g);rw[sw,On,vu];have e:((l.length+1:Nat):Int)*c=(l.length:Int)*c+c:=by rw[Int.natCast_add,VM];simp
  rw[e];omega
theorem X8{b:Bd}(d:j7 b){c:Int}(j:0<=c)(g:∀l∈b.ls,l.la<=c)(y:Str):0<=p7 b y/\p7 b y<=b.ls.length*c:=by
 rw[sx d];refine eY λl a=>?_;have i:=d.la l a;have h:=g l a;have e:0<=(if l.on=true then l.la else 0)/\(if l.on=true then l.la else 0)<=c:=by split<;>omega
 rw[uJ d (rj _ (List.mem_map.mpr ⟨l,a,rfl⟩))];split
 ·rw[Int.one_mul];exact e
 ·rw[UH];omega
theorem S7.lift{cv:List Pr}(h:S7 cv){n B:Int}(l:0<=n)(i:∀p∈cv,p.1<=B)(j:B+n<10^60):S7 (cv.map λp=>(p.1+n,p.2)):=by
 obtain⟨a,b,c,d⟩:=h;refine⟨by rw[dL];exact a,by rw[dL];exact b,λq g=>?_,?_⟩
 ·obtain⟨p,e,rfl⟩:=List.mem_map.mp g;have z:=c p e;have w:=i p e;exact⟨by show 1<=p.1+n;omega,by show p.1+n<_;omega,z.2.2.1,z.2.2.2⟩
 ·rw[TX];exact d.imp λz=>⟨by show _+n<_+n;omega,z.2⟩
theorem j7.guards{b:Bd}(a:j7 b)(f:Gd->Gd)(d:∀g,(f g).nm=g.nm)(p:∀g,(f g).un=g.un)(B:∀g∈b.gs,S7 (f g).cv)(x:∀g∈b.gs,0<=(f g).de/\(f g).de<QO)(v:∀g∈b.gs,0<=(f g).wa/\(f g).wa<10^60):j7 ⟨b.gs.map f,b.ls⟩:=by
 have E:(b.gs.map f).map (·.nm)=b.gs.map (·.nm):=by rw[v9];exact PP λg _=>d g
 have all:∀{P:Gd->Prop},(∀g∈b.gs,P (f g))->∀g∈b.gs.map f,P g:=λh g c=>by
  obtain⟨z,o,rfl⟩:=List.mem_map.mp c;exact h z o
 refine⟨by show 1<=(b.gs.map f).length;rw[dL];exact a.g1,by show(b.gs.map f).length<=16;rw[dL];exact a.g16,a.l24,by show((b.gs.map f).map (·.nm)++_).Nodup;rw[E];exact a.nd,all λg c=>by rw[d];exact a.nmg g c,a.nml,all B,all x,all v,?_,a.cs4,a.cs,a.la,λl u=>?_⟩
 ·obtain⟨dp,q⟩:=a.un;refine⟨dp,λi g c=>?_⟩;have c:(b.gs.map f)[i]?=some g:=c;rw[rx] at c;obtain⟨z,o,rfl⟩:=Option.map_eq_some_iff.mp c;obtain⟨R,Q,O,M⟩:=q i z o;refine⟨R,Q,λw=>O (by rw[<-p];exact w),λy r=>?_⟩;obtain⟨j,C,J,I,H,G⟩:=M y (by rw[<-p];exact r);exact⟨j,f C,J,by show(b.gs.map f)[j]?=_;rw[rx,I];rfl,by rw[d];exact H,G⟩
 ·obtain⟨g,c,e⟩:=a.at_ l u;exact⟨f g,List.mem_map.mpr ⟨g,c,rfl⟩,by rw[d];exact e⟩
theorem yN(ds:List D)(Q:D->Prop)(h:Q4 ds Q):qB (EP Q) (g9 9 ds):=by
 obtain⟨d,ns,u,t,rfl,O,z,q⟩:=h;have ub:=mm z;have u1:=z.1;have u2:=z.2.1;have t1:=z.2.2.1;have t2:=z.2.2.2;refine⟨d,ns,0,rfl,O,by decide,by decide,λc=>⟨rfl,?_⟩⟩;walk_at "n";refine⟨c,c,_,8,rfl,by decide,by decide,by decide,by decide,λr d1 r0 r1=>⟨rfl,?_⟩⟩;walk_at "n";refine⟨d,ns,1,rfl,O,by decide,by decide,λc'=>?_⟩;walk_at "n";refine⟨c,d1,_,9,rfl,by decide,by decide,by decide,by decide,λr' d2 a1 a0=>?_⟩;walk_at "n";refine⟨c',c',_,_,rfl,by decide,by decide,by omega,by omega,λo _ _ xl xn xm=>⟨rfl,?_⟩⟩;walk_at "n";obtain⟨n,en⟩:∃n:Nat,1+r=(n:Int):=⟨(1+r).toNat,by omega⟩
 have n1:1<=n:=by omega
 have n8:n<=8:=by omega
 have nl:n<=o.length:=by omega
 have im:=aw o;have z1:cutD (o.map D.str) none (some (1+r))=(o.take n).map D.str:=by rw[en,II,List.map_take]
 have z2:cutD (o.map D.str) (some (1+r)) none=(o.drop n).map D.str:=by rw[en,Ai _ _ (by rw[dL];exact nl),List.map_drop]
 refine⟨im,?_⟩;rw[z1];refine⟨d,ns,o.take n,u,t,rfl,O,by rw[vy];omega,by rw[vy];omega,xn.sublist (TW _ _),z,λgs gn gu Y gd gw j=>⟨rfl,?_⟩⟩;walk_at "n"
 have gl:gs.length=n:=by
  have:=Fa List.length gn;rw[dL,vy] at this;omega
 refine⟨im,?_⟩;rw[z2];refine⟨d,ns,o.drop n,gs,u,t,rfl,O,by omega,by omega,by rw[Re];omega,z,λls S lc U T X I=>⟨rfl,?_⟩⟩;walk_at "n"
 have ll:ls.length<=8:=by
  have:=Fa List.length S;rw[dL,Re] at this;omega
 have E:j7 ⟨gs,ls⟩:=by
  refine⟨by show 1<=gs.length;omega,by show gs.length<=16;omega,by show ls.length<=24;omega,?_,λg i=>?_,λl C=>?_,Y,λg i=>⟨gd g i,by have:=j.de g i;show g.de<QO;unfold QO;omega⟩,λg i=>⟨gw g i,by have:=j.wa g i;show g.wa<_;omega⟩,gu,lc,λl C p x=>?_,λl C=>⟨T l C,by have:=I.la l C;show l.la<_;omega⟩,X⟩
  ·show(gs.map (·.nm)++ls.map (·.nm)).Nodup;rw[gn,S,Vm];exact xn
  ·exact xm _ (Vo (gn▸List.mem_map.mpr ⟨g,i,rfl⟩))
  ·exact xm _ (List.mem_of_mem_drop (S▸List.mem_map.mpr ⟨l,C,rfl⟩))
  ·have a:=U l C p x;have b:=I.cs l C p x;exact⟨a.1,by omega,a.2,by omega⟩
 have J:∀(d3:D) (G:List Gd) (v:List (Option D)),j7 ⟨G,ls⟩->QW ⟨G,ls⟩ u t->jv (EP Q) [some d,some (.int u),some (.int t),some d3,some (.int (1+r)),some (jw o),some (.lst (G.map gD)),some (.lst (ls.map lD)),some (.dic (j9 ⟨gs,ls⟩ (p7 ⟨gs,ls⟩)))]:=λd3 G _ h1 h2=>
  ⟨_,_,rfl,rfl,cF G,_,_,rfl,rfl,nK ls,q ⟨G,ls⟩ h1 h2⟩
 refine⟨_,⟨gs,ls⟩,rfl,⟨_,_,rfl,.inr rfl,.inr rfl⟩,E,rfl,?_⟩;walk_at "n";refine⟨c,d2,_,8,rfl,by decide,by decide,by decide,by decide,λw d3 w0 w1=>?_⟩;refine⟨λe=>?_,λe=>J _ gs [] E ⟨by show gs.length<=8;omega,ll,λg i p x=>by have:=j.c1 g i p x;omega,j.c2,j.de,j.wa,I⟩⟩;have H:=X8 E (c:=3*u) (by omega) I.la;have l24:(ls.length:Int)*(3*u)<=8*(3*u):=u8 (by omega) (by omega);have H:∀y,0<=p7 ⟨gs,ls⟩ y/\p7 ⟨gs,ls⟩ y<=24*u:=λy=>⟨(H y).1,by have h:=(H y).2;have h:p7 ⟨gs,ls⟩ y<=(ls.length:Int)*(3*u):=h;omega⟩
 refine⟨by rw[dL];exact g7 (by omega),?_⟩;refine N1 (f:=λg:Gd=>gD (Q6 g (p7 ⟨gs,ls⟩ g.nm))) gs [] (λg i K R kk=>?_) ?_
 ·refine⟨rfl,Br.yes rfl ?_⟩;refine⟨_,rfl,.inr g.nm,_,rfl,G8 E (List.mem_map.mpr ⟨g,i,rfl⟩),?_⟩;exact⟨g,_,rfl,(Y g i).2.1,kk⟩
 ·refine⟨rfl,?_⟩;have e2:([]++gs.map λg:Gd=>gD (Q6 g (p7 ⟨gs,ls⟩ g.nm)))=(gs.map λg=>Q6 g (p7 ⟨gs,ls⟩ g.nm)).map gD:=by rw[u0,v9];rfl
  rw[e2];refine J _ _ [] (E.guards (λg=>Q6 g (p7 ⟨gs,ls⟩ g.nm)) (λg=>rfl) (λg=>rfl) (λg i=>(Y g i).lift (H g.nm).1 (j.c1 g i) (by have:=(H g.nm).2;omega)) E.de E.wa) ⟨by show(gs.map _).length<=8;rw[dL];omega,ll,λg i p x=>?_,λg i p x=>?_,λg i=>?_,λg i=>?_,I⟩
  all_goals
   obtain⟨g,M,rfl⟩:=List.mem_map.mp i
  ·obtain⟨p,B,rfl⟩:=List.mem_map.mp x;have a:=j.c1 g M p B;have b:=(H g.nm).2;show p.1+_<=_;omega
  ·obtain⟨p,B,rfl⟩:=List.mem_map.mp x;exact j.c2 g M p B
  ·exact j.de g M
  ·exact j.wa g M
theorem JY(a b c e:Int){t:Int}(g:0<=t)(d:t<4):∃p:Int,N8 [D.int a,.int b,.int c,.int e] t=some (.int p)/\(p=a\/p=b\/p=c\/p=e):=by
 have h:t=0\/t=1\/t=2\/t=3:=by omega
 rcases h with rfl | rfl | rfl | rfl
 ·exact⟨a,rfl,.inl rfl⟩
 ·exact⟨b,rfl,.inr (.inl rfl)⟩
 ·exact⟨c,rfl,.inr (.inr (.inl rfl))⟩
 ·exact⟨e,rfl,.inr (.inr (.inr rfl))⟩
theorem HN(ds:List D)(Q:D->Prop)(h:bM ds Q):Fs (EP Q) (g9 4 ds):=by
 obtain⟨d,ns,rfl,y,q⟩:=h;refine⟨d,ns,18,rfl,y,by decide,by decide,λc=>⟨rfl,?_⟩⟩;have u:ae 10 50:=⟨by decide,by decide,by decide⟩
 have v:ae 10 40:=⟨by decide,by decide,by decide⟩
 refine⟨u,?_⟩;refine⟨c,c,_,4,rfl,by decide,by decide,by decide,by decide,λr d1 B z=>?_⟩;obtain⟨p,E,C⟩:=JY 1 1 7 ((10:Int)^(50:Int).toNat+3) B z;refine⟨_,E,rfl,rfl,v,?_⟩;refine⟨c,d1,_,4,rfl,by decide,by decide,by decide,by decide,λI d2 e a=>?_⟩;obtain⟨i,j,g⟩:=JY 1 1 5 ((10:Int)^(40:Int).toNat) e a;refine⟨_,j,rfl,rfl,?_⟩;have l:(10:Int)^(50:Int).toNat=10^50:=rfl;have o:(10:Int)^(40:Int).toNat=10^40:=rfl;rw[l] at C;rw[o] at g;have x:U3 p i:=⟨by omega,by omega,by omega,by omega⟩
 exact⟨d,ns,p,i,rfl,y,x,λb H G=>⟨rfl,q b p i H G x⟩⟩
theorem rG{b:Bd}{v:Str->Int}{i:Nat}{g:Gd}(a:b.gs[i]?=some g)(h:∀z∈b.gs.take i,¬lo z.cv<=v z.nm)(d:lo g.cv<=v g.nm):wm (L5 b v)=.str g.nm:=by
 have e:b.gs=b.gs.take i++g::b.gs.drop (i+1):=by
  have j:=(List.getElem?_eq_some_iff.mp a).1;have o:=List.getElem?_eq_some_iff.mp a;obtain⟨_,l⟩:=o;rw[<-l,<-Db j,Vm]
 unfold L5;rw[e,List.filter_append,List.filter_eq_nil_iff.mpr λz c=>by rw[EQ];exact h z c,Rl,ry (t6 d)];rfl
theorem vn{b:Bd}{v:Str->Int}(h:∀z∈b.gs,¬lo z.cv<=v z.nm):L5 b v=[]:=by
 unfold L5;rw[List.filter_eq_nil_iff.mpr λz a=>by rw[EQ];exact h z a];rfl
theorem FY(ds:List D)(Q:D->Prop)(h:bG ds Q):AM (EP Q) (g9 3 ds):=by
 obtain⟨b,rfl,x,q⟩:=h;refine⟨bD b,b,rfl,⟨_,_,rfl,.inl rfl,.inl rfl⟩,x,rfl,?_⟩;refine⟨_,N0 _ _,?_⟩;refine .of ⟨λi r=>∃u:Option D,r=[some (bD b),some (.dic (j9 b (p7 b))),u]/\∀z∈b.gs.take i,¬lo z.cv<=p7 b z.nm,⟨none,rfl,λz o=>nomatch o⟩,?_,?_⟩
 ·rintro i e r C ⟨u,rfl,a⟩;obtain⟨g,v,rfl⟩:=get_map C;have c:=sg v;have y:=x.cv g c
  obtain⟨p,l,B⟩:∃p l,g.cv=p::l:=by
   cases e:g.cv with
   | nil=>rw[e] at y;exact absurd y.1 (by decide)
   | cons p l=>exact⟨p,l,rfl⟩
  have j:lo g.cv=p.1:=by rw[B];rfl
  refine⟨rfl,?_⟩;refine⟨_,rfl,.inr g.nm,_,rfl,G8 x (List.mem_map.mpr ⟨g,c,rfl⟩),?_⟩;refine⟨_,rfl,?_⟩;show ∃d,N8 (g.cv.map pr) 0=some d/\_;rw[B];refine⟨pr p,N0 _ _,?_⟩;refine⟨_,rfl,?_⟩;refine⟨λe=>?_,λe=>?_⟩
  ·have e:p.1<=p7 b g.nm:=wP e;rw[rG v a (by rw[j];exact e)] at q;exact⟨_,rfl,rfl,q⟩
  ·have e:¬p.1<=p7 b g.nm:=Rs e;refine⟨_,rfl,λz o=>?_⟩;rw[v2,v] at o;rcases List.mem_append.mp o with w | w
   ·exact a z w
   ·rw[List.mem_singleton.mp w,j];exact e
 ·rintro r ⟨u,rfl,a⟩;rw[dL,wE] at a;rw[vn a] at q;exact q
theorem Ds(ds:List D)(Q:D->Prop)(h:X5 ds Q):yc (EP Q) (g9 1 ds):=by
 obtain⟨b,rfl,c,q⟩:=h;have j:=c.g16;have i:=c.l24;refine⟨_,N0 _ _,by rw[dL];exact g7 (by omega),?_⟩;refine N1 (f:=λg:Gd=>.str g.nm) b.gs [] (λg d K R a=>⟨rfl,Br.yes rfl ⟨_,rfl,rfl,a⟩⟩) ?_;refine⟨_,ag _ _ _,by rw[dL];exact g7 (by omega),?_⟩;refine N1 (f:=λg:Ld=>.str g.nm) b.ls [] (λg d K R a=>⟨rfl,Br.yes rfl ⟨_,rfl,rfl,a⟩⟩) ?_;refine⟨S2 (f:=λg:Gd=>.str g.nm) (λg=>rfl) _,S2 (f:=λg:Ld=>.str g.nm) (λg=>rfl) _,?_,?_⟩
 ·rw[u0,u0,dL,dL];exact IN (g7 (by omega))
 ·have e:([]++b.gs.map λg:Gd=>D.str g.nm)++([]++b.ls.map λg:Ld=>D.str g.nm)=(u3 b++K4 b).map D.str:=by
   unfold u3 K4;rw[u0,u0,ue,v9,v9];rfl
  rw[e];exact q
theorem sO{b:Bd}(c:j7 b){g:Gd}(a:g∈b.gs):FR b g.nm=g:=by
 unfold FR;rw[mw c.eh.nd a];rfl
theorem kz{b:Bd}(c:j7 b){x:Str}(d:x∈u3 b):x3 (b.gs.map λg:Gd=>((.inr g.nm:Key),gD g)) (.inr x)=some (gD (FR b x)):=by
 obtain⟨g,a,rfl⟩:=List.mem_map.mp d;show x3 _ (.inr g.nm)=_;rw[sO c a];exact P9 (k:=λg:Gd=>g.nm) (v:=gD) c.eh.nd a
theorem kK{b:Bd}(a:j7 b):b.gs.foldl (λacc g=>putD acc (.inr g.nm) (gD g)) []=b.gs.map λg:Gd=>((.inr g.nm:Key),gD g):=
 S1 (k:=λg:Gd=>g.nm) (v:=gD) (as:=b.gs) (bs:=[]) (by rw[u0];exact a.eh.nd)
theorem Mt{Q:D->Prop}{b:Bd}{x:Str}{h:Option D}(c:j7 b)(e:x∈u3 b++K4 b)(q:Q (.lst ((i9 b x).map λy=>.tup [gD (FR b y),.int (p7 b y)]))) :
  wD (EP Q) [some (bD b),some (.str x),some (.dic (b.gs.map λg:Gd=>(.inr g.nm,gD g))),some (.dic (j9 b (p7 b))),h]:=by
 have a:=cI c e;have j:=di (b:=b) x;refine⟨bD b,b,rfl,⟨_,_,rfl,.inl rfl,.inl rfl⟩,c,?_⟩;refine⟨.inr x,_,rfl,gf e c.nd,by rw[dL];exact g7 (by omega),?_⟩;refine N1 (f:=λy:Str=>.tup [gD (FR b y),.int (p7 b y)]) (i9 b x) [] (λy d K R i=>?_) ?_
 ·refine⟨rfl,Br.yes rfl ?_⟩;exact⟨.inr y,_,rfl,kz c (a y d),Y9 _,.inr y,_,rfl,G8 c (a y d),rfl,i⟩
 ·exact q
theorem rq{b:Bd}{i:Nat}{l:Ld}(c:b.ls[i]?=some l){x:Str}(h:∀z∈b.ls.take i,¬(z.nm=x/\z.on=false))(d:¬(l.nm=x/\l.on=false)):∀z∈b.ls.take (i+1),¬(z.nm=x/\z.on=false):=λz a=>by
 rw[v2,c] at a;rcases List.mem_append.mp a with w | w
 ·exact h z w
 ·rw[List.mem_singleton.mp w];exact d
theorem HG{b:Bd}{l:Ld}(c:l∈b.ls){x:Str}(h:l.nm=x)(a:l.on=false):cV b x=true:=by
 unfold cV;rw[UZ];exact⟨l,c,by rw[t6 h,a];rfl⟩
theorem NI{b:Bd}{x:Str}(h:∀z∈b.ls,¬(z.nm=x/\z.on=false)):cV b x=false:=by
 unfold cV;rw[TZ];intro z a e;rw[uk,EQ] at e;exact h z a ⟨e.1,by cases a:z.on;rfl;rw[a] at e;exact nomatch e.2⟩
theorem Dk{b:Bd}{x:Str}(h:cV b x=false):dF (G6 b x)=.lst ((i9 b x).map λy=>.tup [gD (FR b y),.int (p7 b y)]):=by
 unfold dF G6;rw[h];exact Fa D.lst (v9 ..)
theorem yb{b:Bd}{x:Str}(h:cV b x=true):dF (G6 b x)=.lst []:=by
 unfold dF G6;rw[h];rfl
theorem Na(ds:List D)(Q:D->Prop)(h:fw ds Q):JM (EP Q) (g9 5 ds):=by
 obtain⟨b,x,rfl,c,B,q⟩:=h;have E:=c.g16;refine⟨_,N0 _ _,by rw[dL];exact g7 (by omega),?_⟩;refine N1 (f:=λg:Gd=>.tup [.str g.nm,gD g]) b.gs [] (λg G K R u=>?_) ?_
 ·exact⟨rfl,Br.yes rfl ⟨_,rfl,rfl,Y9 g,u⟩⟩
 rw[u0]
 have v:∀g:Gd,u9 (.tup [.str g.nm,gD g])=true:=λg=>by
  show(true&&(u9 (gD g)&&true))=true;rw[Y9];rfl
 refine .inl ⟨_,_,_,rfl,rfl,S2 v b.gs,eD (λg:Gd=>g.nm) gD b.gs,by rw[dL];exact g7 (by omega),?_⟩;rw[lR,kK c];refine⟨rfl,?_⟩;walk_at "n";refine⟨bD b,b,rfl,⟨_,_,rfl,.inl rfl,.inl rfl⟩,c,rfl,?_⟩;walk_at "n";refine⟨_,ag _ _ _,?_⟩;refine .of ⟨λi d=>∃j:Option D,d=[some (bD b),some (.str x),some (.dic (b.gs.map λg:Gd=>(.inr g.nm,gD g))),some (.dic (j9 b (p7 b))),j]/\∀z∈b.ls.take i,¬(z.nm=x/\z.on=false),⟨none,rfl,λz y=>nomatch y⟩,?_,?_⟩
 ·rintro i e d C ⟨j,rfl,a⟩;obtain⟨l,p,rfl⟩:=get_map C;have o:=sg p;refine⟨rfl,?_⟩;refine⟨_,rfl,?_⟩;walk_at "w";refine⟨λe=>?_,λe=>Br.no rfl ⟨_,rfl,rq p a λz=>?_⟩⟩
  ·have e:l.nm=x:=wP e;refine⟨_,rfl,?_⟩;show Br (!(l.on)) _ _
   cases r:l.on with
   | true=>exact Br.no rfl ⟨_,rfl,rq p a λz=>by rw[r] at z;exact nomatch z.2⟩
   | false=>
    rw[yb (HG o e r)] at q;exact Br.yes rfl q
  ·exact Rs e z.1
 ·rintro d ⟨j,rfl,a⟩;rw[dL,wE] at a;rw[Dk (NI a)] at q;exact Mt c B q
theorem se(ds:List D)(Q:D->Prop)(h:J4 ds Q):iI (EP Q) (g9 2 ds):=by
 obtain⟨b,rfl,a,c,q⟩:=h;refine⟨b,rfl,a,?_⟩;rw[c];exact⟨rfl,Br.no rfl ⟨b,rfl,a,q⟩⟩
theorem Dz{b:Bd}(c:j7 b){x:Str}(d:x∈u3 b++K4 b):kn (.str x)=true:=by
 have h:nm 8 x:=by
  rcases List.mem_append.mp d with z | z
  ·obtain⟨g,a,rfl⟩:=List.mem_map.mp z;exact c.nmg g a
  ·obtain⟨g,a,rfl⟩:=List.mem_map.mp z;exact c.nml g a
 have h:=h.2.1;rw[t4] at h;exact t6 (show x.cps.size<=100000 by omega)
theorem IT(ds:List D)(Q:D->Prop)(h:bE ds Q):Cs (EP Q) (g9 6 ds):=by
 obtain⟨b,x,rfl,a,j,u,q⟩:=h;have E:=a.g16;have B:=a.l24;refine⟨b,.str x,rfl,a,Dz a j,.inl ⟨x,rfl,j,rfl,?_⟩⟩;refine⟨b,rfl,a,u,rfl,?_⟩;walk_at "n";refine⟨_,ag _ _ _,by rw[dL];exact g7 (by omega),?_⟩;refine N3 (f:=λl:Ld=>.str l.nm) (λl=>!l.on) b.ls [] (λl c K R i o=>?_) ?_
 ·refine⟨rfl,?_⟩;refine⟨_,rfl,?_⟩;show Br (!(l.on)) _ _;exact⟨λe=>⟨_,rfl,rfl,i e⟩,λe=>o e⟩
 have I:([]++(b.ls.filter λl=>!l.on).map λl:Ld=>D.str l.nm)=((b.ls.filter λl=>!l.on).map (·.nm)).map D.str:=by rw[u0,v9];rfl
 rw[I];refine⟨rfl,_,rfl,aP _,?_⟩;rw[gq]
 have H:decide (x∈(b.ls.filter λl=>!l.on).map (·.nm))=cV b x:=by
  by_cases h:cV b x=true
  ·rw[h];unfold cV at h;obtain⟨l,c,e⟩:=List.any_eq_true.mp h;rw[uk,EQ] at e;exact t6 (List.mem_map.mpr ⟨l,List.mem_filter.mpr ⟨c,e.2⟩,e.1⟩)
  ·rw[Bool.not_eq_true] at h;rw[h];refine vr λz=>?_;obtain⟨l,c,e⟩:=List.mem_map.mp z;obtain⟨G,C⟩:=List.mem_filter.mp c;unfold cV at h;have:=List.any_eq_false.mp h l G;exact this (by rw[uk,EQ];exact⟨e,C⟩)
 show Br (decide (x∈(b.ls.filter λl=>!l.on).map (·.nm))) _ _;rw[H];refine⟨λe=>?_,λe=>?_⟩
 ·rw[yb e] at q;exact q
 ·rw[Dk e] at q;have d:=cI a j;have c:=di (b:=b) x;refine⟨_,N0 _ _,by rw[dL];exact g7 (by omega),?_⟩;refine aY (v:=gD) (k:=λg:Gd=>.inr g.nm) (λ_=>true) b.gs [] (λg J K R i o=>?_) ?_
  ·exact⟨rfl,Br.yes rfl ⟨_,rfl,.inr g.nm,rfl,Y9 g,i rfl⟩⟩
  rw[List.filter_eq_self.mpr λ_ _=>rfl,kK a];refine⟨rfl,?_⟩;refine⟨by rw[dL];exact g7 (by omega),?_⟩;refine N1 (f:=λy:Str=>.tup [gD (FR b y),.int (p7 b y)]) (i9 b x) [] (λy p K R r=>?_) ?_
  ·refine⟨rfl,Br.yes rfl ?_⟩;exact⟨.inr y,_,rfl,kz a (d y p),Y9 _,.inr y,_,rfl,G8 a (d y p),rfl,r⟩
  ·exact q
theorem HY{a:Type}{f:a->D}{xs:List a}(h:0<xs.length):N8 (xs.map f) (-1)=some (f (xs.getLast (by intro e;rw[e] at h;exact absurd h (TL 0)))):=by
 unfold N8 kS;have d:¬(0:Int)<=-1:=by decide
 have c:-((xs.map f).length:Int)<=-1:=by rw[dL];omega
 have b:((-1:Int)+((xs.map f).length:Int)).toNat=xs.length-1:=by rw[dL];omega
 rw[ro d,ry c,b];show(xs.map f)[xs.length-1]?=_;rw[rx,List.getLast_eq_getElem,nA (by omega)];rfl
theorem jM.at{ps:List (Gd×Int)}(h:jM ps){i:Int}(c:0<=i)(b:i<ps.length):∃r,ps[i.toNat]?=some r/\S7 r.1.cv/\N8 (ps.map λr:Gd×Int=>D.tup [gD r.1,.int r.2]) i=some (.tup [gD r.1,.int r.2]):=by
 obtain⟨r,a,e,d⟩:=E9 (f:=λr:Gd×Int=>D.tup [gD r.1,.int r.2]) (xs:=ps) (i:=i) c b;exact⟨r,e,h.cv r a,d⟩
theorem Gw(ds:List D)(Q:D->Prop)(h:Y1 ds Q):Fy (EP Q) (g9 6 ds):=by
 obtain⟨u,i,n,rfl,a,j,g,q⟩:=h;obtain⟨r,o,b,l⟩:=a.at j g;have q:=q r o;refine⟨_,l,?_⟩;refine⟨rfl,rfl,?_⟩;walk_at "n";refine⟨_,rfl,by rw[dL];exact g7 (by have:=b.2.1;omega),?_⟩;refine N3 (f:=λp:Pr=>.int p.2) (λp=>decide (p.1<=r.2+n)) r.1.cv [] (λp a K R d c=>?_) ?_
 ·exact⟨rfl,_,rfl,λe=>⟨_,rfl,rfl,d e⟩,λe=>c e⟩
 unfold ai at q;have x:=b.2.1;have v:=Uy (λp:Pr=>decide (p.1<=r.2+n)) r.1.cv;generalize r.1.cv.filter (λp:Pr=>decide (p.1<=r.2+n))=fs at *;refine⟨rfl,?_⟩;walk_at "n"
 cases fs with
 | nil=>exact Br.yes rfl q
 | cons p fs=>
  refine Br.no ?_ ?_
  ·show decide (((List.length (([]:List D)++(p::fs).map λp:Pr=>D.int p.2):Nat):Int)=0)=false;refine vr λz=>?_;rw[u0,dL,vu] at z;omega
  ·have z:=HY (f:=λp:Pr=>D.int p.2) (xs:=p::fs) (by show 0<fs.length+1;omega);refine⟨_,z,rfl,?_⟩;rw[List.getLast?_eq_some_getLast (by intro z;cases z)] at q;exact q
def qj(a:WJ):List (Key×D):=a.map λk=>(.inl k,.bl true)
theorem Jc(a:WJ)(k:Int):putD (qj a) (.inl k) (.bl true)=qj (if k∈a then a else a++[k]):=by
 unfold putD qj
 by_cases h:k∈a
 ·have e:((a.map λk=>((.inl k:Key),D.bl true)).any λb=>decide (b.1=Sum.inl k))=true:=by
   rw[UZ];exact⟨_,List.mem_map.mpr ⟨k,h,rfl⟩,t6 rfl⟩
  rw[ry h,ry e,v9];refine PP λx _=>?_;exact ite_self _
 ·have e:((a.map λk=>((.inl k:Key),D.bl true)).any λb=>decide (b.1=Sum.inl k))=false:=by
   rw[TZ];intro b c z;obtain⟨x,d,rfl⟩:=List.mem_map.mp c;exact h (Sum.inl.inj (wP z)▸d)
  rw[ro h,e,ue];rfl
structure fD(rs:List (Gd×Int))(cv:List Pr)(n m:Int)(ks:WJ):Prop where
 nd:ks.Nodup
 mem:∀x,x∈ks ↔ x=1\/(∃r∈rs,∃s∈r.1.cv,x=s.1-r.2/\x<=m)\/∃s∈cv,x=s.1-n/\x<=m
 len:ks.length<=1+5*rs.length+cv.length
theorem fD.skip{b:List (Gd×Int)}{cv:List Pr}{n m:Int}{c:WJ}{s:Pr}(h:fD b cv n m c)(d:¬s.1-n<=m):fD b (cv++[s]) n m c:=by
 refine⟨h.nd,λx=>?_,by have:=h.len;rw[tt,wf];omega⟩;rw[h.mem];refine Vz Vq (Vz Vq ⟨λ⟨z,a,e⟩=>⟨z,t7 _ a,e⟩,λ⟨z,a,e⟩=>?_⟩);rcases List.mem_append.mp a with w | w
 ·exact⟨z,w,e⟩
 ·rw[List.mem_singleton.mp w] at e;exact absurd (e.1▸e.2) d
theorem fD.put{g:List (Gd×Int)}{cv:List Pr}{n m:Int}{c:WJ}{s:Pr}(h:fD g cv n m c)(i:s.1-n<=m):fD g (cv++[s]) n m (if s.1-n∈c then c else c++[s.1-n]):=by
 have mem:∀x,x∈(if s.1-n∈c then c else c++[s.1-n]) ↔ x∈c\/x=s.1-n:=λx=>by
  split
  ·exact⟨.inl,λz=>z.elim id λz=>by rw[z];assumption⟩
  ·rw[Vh,List.mem_singleton]
 refine⟨?_,λx=>?_,?_⟩
 ·split
  ·exact h.nd
  ·refine List.nodup_append.mpr ⟨h.nd,Ch _ _,λa l b j=>?_⟩;rw[List.mem_singleton.mp j];intro e;rw[e] at l
   contradiction
 ·rw[mem,h.mem];constructor
  ·rintro((e | e | ⟨z,d,e⟩) | e)
   ·exact .inl e
   ·exact .inr (.inl e)
   ·exact .inr (.inr ⟨z,t7 _ d,e⟩)
   ·exact .inr (.inr ⟨s,rj _ (List.mem_singleton.mpr rfl),e,by rw[e];exact i⟩)
  ·rintro(e | e | ⟨z,d,e⟩)
   ·exact .inl (.inl e)
   ·exact .inl (.inr (.inl e))
   ·rcases List.mem_append.mp d with w | w
    ·exact .inl (.inr (.inr ⟨z,w,e⟩))
    ·rw[List.mem_singleton.mp w] at e;exact .inr e.1
 ·have:=h.len;rw[tt,wf];split
  ·omega
  ·rw[tt,wf];omega
theorem fD.next{b:List (Gd×Int)}{r:Gd×Int}{m n:Int}{c:WJ}(h:fD b r.1.cv r.2 m c)(d:r.1.cv.length<=5):fD (b++[r]) [] n m c:=by
 refine⟨h.nd,λx=>?_,by have:=h.len;rw[tt,wf,Ug];omega⟩;rw[h.mem];refine Vz Vq ⟨?_,?_⟩
 ·rintro(⟨z,a,e⟩ | ⟨z,a,e⟩)
  ·exact .inl ⟨z,t7 _ a,e⟩
  ·exact .inl ⟨r,rj _ (List.mem_singleton.mpr rfl),z,a,e⟩
 ·rintro(⟨z,a,e⟩ | ⟨z,a,_⟩)
  ·rcases List.mem_append.mp a with w | w
   ·exact .inl ⟨z,w,e⟩
   ·rw[List.mem_singleton.mp w] at e;exact .inr e
  ·cases a
theorem nc{c:WJ}(nd:c.Nodup)(up:c.Pairwise (·<=·)):c.Pairwise (·<·):=by
 refine List.Pairwise.imp₂ (λa b e d=>?_) nd up;have e:a≠b:=e;have d:a<=b:=d;omega
theorem IP(ds:List D)(Q:D->Prop)(h:bS ds Q):FE (EP Q) (g9 6 ds):=by
 obtain⟨g,m,rfl,o,O,q⟩:=h;refine⟨rfl,rfl,?_⟩;walk_at "n";refine .of ⟨λi d=>∃(a:WJ) (u p c:Option D),d=[some (dF g),some (.int m),some (.dic (qj a)),u,p,c]/\fD (g.take i) [] 0 m a,⟨[1],none,none,none,rfl,by simp,λx=>by simp,by simp⟩,?_,?_⟩
 ·rintro i e d B ⟨a,u,p,c,rfl,b⟩;obtain⟨r,v,rfl⟩:=get_map B;have M:=(List.getElem?_eq_some_iff.mp v).1;have C:=o.cv r (sg v);have lt:(g.take i).length<=8:=by rw[vy];omega
  refine⟨rfl,rfl,?_⟩;walk_at "n";refine⟨_,rfl,?_⟩;have y:fD (g.take i) (r.1.cv.take 0) r.2 m a:=⟨b.nd,λx=>by rw[b.mem];simp,by have:=b.len;rw[Ug] at this;omega⟩
  refine .of ⟨λj d=>∃(a:WJ) (c:Option D),d=[some (dF g),some (.int m),some (.dic (qj a)),some (gD r.1),some (.int r.2),c]/\fD (g.take i) (r.1.cv.take j) r.2 m a,⟨a,c,rfl,y⟩,?_,?_⟩
  ·rintro j e d B ⟨a,c,rfl,b⟩;obtain⟨s,l,rfl⟩:=get_map B;have I:=List.length_take_le' j r.1.cv;have J:=C.2.1;have lk:=b.len;have H:a.length<=100:=by omega
   refine⟨rfl,?_⟩;walk_at "n";refine⟨_,rfl,?_⟩;refine⟨λe=>?_,λe=>⟨a,_,rfl,?_⟩⟩
   ·have e:s.1-r.2<=m:=wP e;refine⟨rfl,_,rfl,_,rfl,by unfold qj;rw[dL];exact g7 (by omega),?_⟩;rw[Jc];refine⟨_,_,rfl,?_⟩;rw[v2,l];exact b.put e
   ·rw[v2,l];exact b.skip (Rs e)
  ·rintro d ⟨a,c,rfl,b⟩;rw[dL,wE] at b;refine⟨a,_,_,_,rfl,?_⟩;rw[v2,v];exact b.next C.2.1
 ·rintro d ⟨a,u,p,c,rfl,b⟩;rw[dL,wE] at b;have lk:=b.len;rw[Ug] at lk;have e:(qj a).map (λE=>kD E.1)=a.map D.int:=by unfold qj;rw[v9];rfl
  refine⟨_,rfl,?_⟩;rw[e];refine⟨_,a,rfl,rfl,by omega,λls o l=>q ls ⟨nc (o.nodup_iff.mpr b.nd) l,λx=>?_⟩⟩;rw[o.mem_iff,b.mem];refine Vz Vq ⟨λz=>z.elim id (λ⟨_,G,_⟩=>(by cases G)),.inl⟩
theorem ND(ds:List D)(Q:D->D->Prop)(h:ip ds Q):JR (EM Q) (g9 7 ds):=by
 obtain⟨c,d,k,u,v,rfl,T,k1,u1,u2,J,q⟩:=h;have S:=J.len;have C:ae 10 60:=⟨by decide,by decide,by decide⟩
 refine⟨c,d,k,8,rfl,T,by omega,by decide,by decide,λw d1 w0 Y=>⟨rfl,?_⟩⟩;walk_at "n"
 have low:∀{H G E:Option D},iD { nx:=xQ (EM Q),rt:=(EM Q).rt } [some (feed c d1 (k+1)),some (dF v),some (.int u),some (.int w),H,G,E]:=by
  intro H G E;refine⟨c,d1,k+1,60,rfl,by omega,by omega,by decide,by decide,λr d2 p l=>⟨.inl ⟨by omega,by omega⟩,?_⟩⟩;have m1:r*u<=59*u:=u8 (by omega) (by omega);have m2:0<=r*u:=UK p (by omega);exact q (1+r*u) d2 (k+1+1) (by omega) (.inl (by omega)) (by omega) (by omega)
 refine⟨λe=>?_,λe=>?_⟩
 ·refine⟨C,?_⟩;exact q _ d1 (k+1) (by decide) (.inl (by decide)) (by omega) (by omega)
 ·refine⟨λB=>Br.yes rfl low,λB=>?_⟩;refine⟨λb=>low,λb=>?_⟩
  have hn:v.length≠0:=λz=>by
   have b:decide ((((v.map λr:Gd×Int=>D.tup [gD r.1,.int r.2]).length:Nat):Int)=0)=false:=b;have:=Rs b;rw[dL] at this;omega
  refine⟨c,d1,k+1,_,rfl,by omega,by omega,by rw[dL];omega,by rw[dL];omega,λr d2 p l=>?_⟩;rw[dL] at l;obtain⟨g,X,y,B⟩:=J.at p l;have x:=sg X;refine⟨_,B,rfl,rfl,?_⟩;walk_at "n";have l1:=y.1;have l5:=y.2.1;refine⟨_,rfl,?_⟩;refine⟨_,rfl,c,d2,k+1+1,_,rfl,by omega,by omega,by rw[dL];omega,by rw[dL];omega,λR d3 o a=>?_⟩;rw[dL] at a;obtain⟨s,I,_,U⟩:=E9 (f:=pr) (xs:=g.1.cv) (i:=R) o a;refine⟨_,U,rfl,rfl,?_⟩;walk_at "n";refine⟨_,rfl,c,d3,k+1+1+1,3,rfl,by omega,by omega,by decide,by decide,λj d4 O M=>?_⟩;have h1:=y.2.2.1 s I;show Q (.int (if s.1-g.2-1+j>1 then s.1-g.2-1+j else 1)) _;refine q _ d4 (k+1+1+1+1) (by split<;>omega) ?_ (by omega) (by omega)
  by_cases z:s.1-g.2-1+j>1
  ·rw[ry z];exact .inr ⟨g,x,s,I,by omega⟩
  ·rw[ro z];exact .inl (by decide)
theorem wy:∀cv:List Pr,u6 (cv.map pr)=true
 | []=>rfl
 | p::cv=>by show(u9 (pr p)&&u6 (cv.map pr))=true;rw[wy cv];rfl
theorem Pp(ds:List D)(Q:D->Prop)(h:vI ds Q):Pc (EP Q) (g9 2 ds):=by
 obtain⟨cv,n,rfl,c,q⟩:=h;have d:=c.2.1;refine⟨by rw[dL];exact g7 (by omega),?_⟩;refine N3 (f:=pr) (λp=>decide (p.1<=n)) cv [] (λp g K R b a=>?_) ?_
 ·refine⟨rfl,?_⟩;walk_at "r";exact⟨λe=>⟨rfl,b e⟩,λe=>a e⟩
 walk_at "r";unfold fR at q;rw[u0,dL];exact q
theorem qx{n:Int}:∀{cv:List Pr},(cv.Pairwise λp q=>p.1<q.1/\q.2<p.2)->cv.filter (λp=>decide (p.1<=n))=cv.take (cv.filter λp=>decide (p.1<=n)).length
 | [],_=>rfl
 | p::cv,h=>by
  cases h with
  | cons d b=>
   by_cases c:p.1<=n
   ·rw[Rl,ry (t6 c),vu,List.take_succ_cons,<-qx b]
   ·have e:(p::cv).filter (λp=>decide (p.1<=n))=[]:=List.filter_eq_nil_iff.mpr λz a=>by
     rw[EQ];rcases List.mem_cons.mp a with w | w
     ·rw[w];exact c
     ·have:=(d z w).1;omega
    rw[e];rfl
theorem Ao{cv:List Pr}(h:S7 cv)(n:Int):ai cv n=if fR cv n=0 then none else(cv[(fR cv n-1).toNat]?).map (·.2):=by
 unfold ai fR;have e:=qx (n:=n) h.2.2.2;have l:=Uy (λp:Pr=>decide (p.1<=n)) cv;generalize (cv.filter λp=>decide (p.1<=n)).length=k at *;rw[e,List.getLast?_eq_getElem?,vy,Nat.min_eq_left l,List.getElem?_take]
 by_cases c:k=0
 ·subst c;rfl
 ·rw[ry (by omega),ro (by omega),show((k:Int)-1).toNat=k-1 by omega]
theorem yu(ds:List D)(Q:D->Prop)(h:S4 ds Q):rJ (EP Q) (g9 3 ds):=by
 obtain⟨cv,n,rfl,a,q⟩:=h;refine⟨cv,n,rfl,a,rfl,?_⟩;rw[Ao a] at q;have l:fR cv n<=cv.length:=by unfold fR;exact Int.ofNat_le.mpr (Uy _ _)
 have d:0<=fR cv n:=by unfold fR;exact Int.natCast_nonneg _
 walk_at "n";refine⟨λe=>?_,λe=>?_⟩
 ·have e:fR cv n=0:=wP e;rw[ry e] at q;exact q
 ·have e:¬fR cv n=0:=Rs e;obtain⟨p,_,c,b⟩:=E9 (f:=pr) (xs:=cv) (i:=fR cv n-1) (by omega) (by omega);rw[ro e,c] at q;exact⟨_,b,_,rfl,rfl,q⟩
def L6(ps:List (Gd×Int)):WJ:=ps.flatMap λr=>r.1.cv.map λs=>s.1-r.2
theorem eT:∀{ps:List (Gd×Int)},(∀r∈ps,S7 r.1.cv)->(L6 ps).length<=5*ps.length
 | [],_=>v5 _
 | r::ps,h=>by
  have:=eT (ps:=ps) λr a=>h r (hQ _ a);have:=(h r re).2.1;unfold L6 at *;rw[VB,tt,dL,vu];omega
theorem CQ(ds:List D)(Q:D->Prop)(h:Y5 ds Q):xb (EP Q) (g9 3 ds):=by
 obtain⟨g,m,rfl,o,O,q⟩:=h
 suffices I:∀(b:List (Gd×Int)) (a:WJ),(∀r∈b,S7 r.1.cv)->a.length+5*b.length<=1000->∀K:List D->Prop,K ((a++L6 b).map D.int) ->
   gM (gT (u4 (g1 0) (u4 (g1 1) T8))) R6 (tupI (e6 (a7 0) (uC (D.int 2)))) (g1 2) R6 (l7 L3.T1 (e6 (a7 2) (uC (D.int 0))) (a7 1)) [none,none,none] (b.map λr=>D.tup [gD r.1,.int r.2]) (a.map D.int) K by
  refine I g [] o.cv (by rw[Ug];omega) _ ?_;refine⟨rfl,?_⟩;rw[u0];walk_at "n";have y:=eT o.cv;refine⟨by rw[dL];exact g7 (by omega),?_⟩;refine N3 (F:=D.int) (f:=D.int) (λz=>decide (z<=m)) (L6 g) [] (λp o K R E C=>?_) ?_
  ·refine⟨rfl,?_⟩;walk_at "r";exact⟨λe=>⟨rfl,E e⟩,λe=>C e⟩
  walk_at "r";have M:=Uy (λz:Int=>decide (z<=m)) (L6 g);refine⟨S2 (f:=D.int) (λ_=>rfl) _,?_,?_⟩
  ·show 1+(List.map D.int _).length<=_;rw[dL];exact IN (g7 (by omega))
  refine⟨_,1::(L6 g).filter (λz=>decide (z<=m)),rfl,rfl,by rw[vu];omega,λj up mem=>q j ⟨up,λx=>?_⟩⟩;rw[mem,SZ,List.mem_filter,EQ];unfold L6;rw[List.mem_flatMap];refine Vz Vq ⟨λ⟨⟨r,c,J⟩,v⟩=>?_,λ⟨r,c,z,i,e,v⟩=>⟨⟨r,c,List.mem_map.mpr ⟨z,i,e.symm⟩⟩,v⟩⟩;obtain⟨z,i,e⟩:=List.mem_map.mp J;exact⟨r,c,z,i,e.symm,v⟩
 intro b
 induction b with
 | nil=>intro a _ _ K k;unfold L6 at k;rw[VG,tz] at k;exact k
 | cons r b G=>
  intro a B y K k;rw[vu] at y;have S:=(B r re).2.1
  suffices H:∀(ss:List Pr) (a:WJ) (z:Option D),(match z with | some d=>u9 d | none=>true)=true->a.length+ss.length<=1000->∀K:List D->Prop,K ((a++ss.map λs=>s.1-r.2).map D.int) ->
    Dl (g1 2) R6 (l7 L3.T1 (e6 (a7 2) (uC (D.int 0))) (a7 1)) (ss.map pr) [some (gD r.1),some (.int r.2),z] (a.map D.int) K by
   refine⟨rfl,rfl,Br.yes rfl ⟨?_,?_⟩⟩
   ·show(u9 (gD r.1)&&(true&&(true&&true)))=true;rw[Y9];rfl
   ·refine⟨_,rfl,wy _,?_⟩;refine H r.1.cv a none rfl (by omega) _ ?_;refine G _ (λr c=>B r (hQ _ c)) ?_ K ?_
    ·rw[tt,dL];omega
    ·unfold L6 at k ⊢;rw[VB,<-wh] at k;exact k
  intro ss
  induction ss with
  | nil=>intro a z _ _ K k;rw[UG,tz] at k;exact k
  | cons s ss l=>
   intro a z i u K k;rw[vu] at u;refine⟨rfl,?_,?_⟩
   ·show(u9 (gD r.1)&&(true&&(u9 (pr s)&&true)))=true;rw[Y9];rfl
   ·refine Br.yes rfl ⟨by rw[dL];exact g7 (by omega),?_⟩;have z:=l (a++[s.1-r.2]) (some (pr s)) rfl (by rw[tt,wf];omega) K (by rw[wh];exact k);rw[ue] at z;exact⟨_,rfl,rfl,z⟩
def zh(ps:List (Gd×Int))(n:Int)(j:Nat):Bool:=match ps[j]? with
 | some r=>(ai r.1.cv (r.2+n)).isSome
 | none=>false
def FL(ps:List (Gd×Int))(n:Int)(a:Bool):Nat->Bool
 | 0=>a
 | j+1=>zh ps n j
theorem qC(r:Gd×Int)(n:Int)(a:Bool):(D6 r n a).isSome=(ai r.1.cv (r.2+n)).isSome:=by
 unfold D6;rw[UN]
theorem eK(n:Int):∀(ps:List (Gd×Int)) (a:Bool),(u5 n a ps).length=ps.length
 | [],_=>rfl
 | r::ps,a=>by unfold u5;rw[vu,vu,eK n ps]
theorem P7{n:Int}:∀{ps:List (Gd×Int)} {a:Bool} {i:Nat} {r:Gd×Int},ps[i]?=some r->(u5 n a ps)[i]?=some (D6 r n (FL ps n a i))
 | [],_,i,_,h=>by cases h
 | b::ps,a,0,r,h=>by cases h;rfl
 | b::ps,a,1,r,h=>by
  show(u5 n _ ps)[0]?=_;rw[P7 (i:=0) (r:=r) h];rfl
 | b::ps,a,i+2,r,h=>by
  show(u5 n _ ps)[i+1]?=_;rw[P7 (i:=i+1) (r:=r) h];rfl
theorem zP(ds:List D)(Q:D->Prop)(h:Q7 ds Q):oB (EP Q) (g9 7 ds):=by
 obtain⟨g,n,rfl,M,q⟩:=h;have a0:=M.len;refine⟨rfl,?_⟩;refine .of ⟨λi B=>∃u o l C:Option D,B=[some (dF g),some (.int n),some (.lst (((u5 n false g).take i).map S9)),u,o,l,C],⟨none,none,none,none,rfl⟩,?_,?_⟩
 ·rintro i e B he ⟨u,o,l,C,rfl⟩;obtain⟨x,hx,rfl⟩:=L3.cY he;obtain⟨r,I,rfl⟩:=get_map hx;have hi:=(List.getElem?_eq_some_iff.mp I).1;have hc:=M.cv r (sg I);refine⟨rfl,rfl,rfl,?_⟩;walk_at "n";refine⟨_,rfl,?_⟩;refine⟨r.1.cv,r.2+n,rfl,hc,rfl,?_⟩;walk_at "n";have Y:=P7 (n:=n) (a:=false) I;have tk:(u5 n false g).take (i+1)=(u5 n false g).take i++[D6 r n (FL g n false i)]:=by rw[v2,Y];rfl
  rw[tk];generalize X:(u5 n false g).take i=S;have a1:S.length=i:=by rw[<-X,vy,eK];omega
  have v:∀(u o l:Option D) (sp:Option Int) (T:W0),D6 r n (FL g n false i)=sp->(T.nx=λB=>∃u o l C:Option D,B=[some (dF g),some (.int n),some (.lst ((S++[sp]).map S9)),u,o,l,C]) ->
    U9 T [some (dF g),some (.int n),some (.lst (S.map S9)),u,o,l,some (S9 sp)]:=by
   intro u o l sp T _ U;have main:∃a b c d:Option D,[some (dF g),some (D.int n),some (D.lst (S.map S9++[S9 sp])),u,o,l,some (S9 sp)]=[some (dF g),some (.int n),some (.lst ((S++[sp]).map S9)),a,b,c,d]:=⟨u,o,l,_,by rw[ue];rfl⟩
   have H:U9 T [some (dF g),some (D.int n),some (D.lst (S.map S9)),u,o,l,some (S9 sp)]:=by
    have O:(S.map S9).length<sizeLine:=by rw[dL];exact g7 (by omega)
    cases sp with
    | none=>
     refine⟨rfl,rfl,?_⟩;refine⟨O,?_⟩;show T.nx _;rw[U];exact main
    | some t=>
     refine⟨rfl,rfl,?_⟩;refine⟨O,?_⟩;show T.nx _;rw[U];exact main
   exact H
  cases e:ai r.1.cv (r.2+n) with
  | none=>
   have y:D6 r n (FL g n false i)=none:=by unfold D6;rw[e];rfl
   rw[y];exact⟨λz=>(by cases z),λ_=>Br.no rfl (v _ _ _ none _ y rfl)⟩
  | some t=>
   refine⟨λ_=>?_,λz=>(by cases z)⟩
   cases i with
   | zero=>
    have y:D6 r n (FL g n false 0)=some t:=by unfold D6;rw[e];rfl
    rw[y];exact⟨λz=>(by cases z),λ_=>Br.no rfl (v _ _ _ (some t) _ y rfl)⟩
   | succ j=>
    obtain⟨E,G⟩:∃E,g[j]?=some E:=⟨g[j],nA (by omega)⟩
    have J:S[j]?=some (D6 E n (FL g n false j)):=by rw[<-X,List.getElem?_take,ry (Ub j),P7 G]
    have R:(D6 E n (FL g n false j)).isSome=zh g n j:=by rw[qC];unfold zh;rw[G]
    generalize D6 E n (FL g n false j)=pv at J R
    have ix:N8 (S.map S9) ((((0+(j+1):Nat):Int))-1)=some (S9 pv):=by
     rw[show(((0+(j+1):Nat):Int))-1=((j:Nat):Int) by omega];exact mF (by rw[rx,J];rfl)
    have y:D6 r n (FL g n false (j+1))=some (bif pv.isSome then t+r.1.wa else t):=by unfold D6;rw[e,R];rfl
    rw[y];refine⟨λ_=>⟨_,ix,?_⟩,λz=>absurd (show decide ((((0+(j+1):Nat):Int))>0)=false from z) (by rw[t6 (by omega)];decide)⟩
    cases pv with
    | none=>exact Br.no rfl (v _ _ _ (some t) _ y rfl)
    | some p=>
     refine Br.yes rfl ?_;exact⟨_,rfl,rfl,v _ _ _ (some (t+r.1.wa)) _ y rfl⟩
 ·rintro B ⟨u,o,l,C,rfl⟩;rw[cN,dL,<-eK n g false,wE];exact q
theorem qb:∀{l k:WJ},l.Pairwise (·<·)->k.Pairwise (·<·)->(∀x,x∈l ↔ x∈k)->l=k
 | [],[],_,_,_=>rfl
 | [],y::k,_,_,h=>absurd ((h y).mpr re) (by simp)
 | x::l,[],_,_,h=>absurd ((h x).mp re) (by simp)
 | x::l,y::k,g,d,h=>by
  cases g with
  | cons c j=>cases d with
   | cons b i=>
    have e:x=y:=by
     rcases List.mem_cons.mp ((h x).mp re) with z | z
     ·exact z
     ·rcases List.mem_cons.mp ((h y).mpr re) with w | w
      ·exact w.symm
      ·have:=c y w;have:=b x z;omega
    subst e;rw[qb j i λz=>⟨λa=>?_,λa=>?_⟩]
    ·rcases List.mem_cons.mp ((h z).mp (hQ _ a)) with w | w
     ·have:=c z a;omega
     ·exact w
    ·rcases List.mem_cons.mp ((h z).mpr (hQ _ a)) with w | w
     ·have:=b z a;omega
     ·exact w
theorem gF{ps:List (Gd×Int)}{m:Int}{ls:WJ}(h:tX ps m ls):ls=kX ps m:=by
 have a:∃l,tX ps m l:=⟨ls,h⟩
 unfold kX;rw[dif_pos a];exact qb h.up a.choose_spec.up λx=>by rw[h.mem,a.choose_spec.mem]
theorem V8{ps:List (Gd×Int)}{n:Int}{j:Nat}{r:Gd×Int}(h:ps[j]?=some r):G3 ps n j=ai r.1.cv (r.2+n):=by unfold G3;rw[h];rfl
theorem GD{ps:List (Gd×Int)}{n:Int}(h:0<ps.length):(u5 n false ps)[0]?=some (G3 ps n 0):=by
 obtain⟨r,a⟩:∃r,ps[0]?=some r:=⟨ps[0],nA h⟩
 rw[P7 a,V8 a];unfold D6 FL;cases ai r.1.cv (r.2+n)<;>rfl
theorem Ij{ps:List (Gd×Int)}{n:Int}{i:Nat}(g:1<=i)(h:i<ps.length):∃b:Option Int,(u5 n false ps)[i]?=some b/\K9 ps i n=match G3 ps n 0,b with
  | some x,some y=>some (x-y+1)
  | _,_=>none:=by
 obtain⟨r,c⟩:∃r,ps[i]?=some r:=⟨ps[i],nA h⟩
 obtain⟨k,rfl⟩:∃k,i=k+1:=⟨i-1,by omega⟩
 obtain⟨e,a⟩:∃r,ps[k]?=some r:=⟨ps[k],nA (by omega)⟩
 refine⟨_,P7 c,?_⟩
 have d:zh ps n k=(G3 ps n (k+1-1)).isSome:=by
  rw[Nat.add_sub_cancel,V8 a];unfold zh;rw[a]
 unfold K9 D6;rw[V8 c,c]
 show _=match G3 ps n 0,Option.map (λt=>bif zh ps n k then t+r.1.wa else t) (ai r.1.cv (r.2+n)) with
  | some x,some y=>some (x-y+1)
  | _,_=>none
 rw[d];cases G3 ps n 0<;>cases ai r.1.cv (r.2+n)<;>rfl
theorem jc(ds:List D)(Q:D->Prop)(h:A8 ds Q):bz (EP Q) (g9 7 ds):=by
 obtain⟨c,i,m,rfl,G,O,H,J,q⟩:=h;refine⟨rfl,?_⟩;refine⟨c,m,rfl,G,O,λls B=>?_⟩;have q:Q (DM (ls.foldl (j4 c i) none)):=by rw[gF B];exact q
 walk_at "n";refine .of ⟨λj l=>∃v u r:Option D,l=[some (dF c),some (.int i),some (.int m),some (DM ((ls.take j).foldl (j4 c i) none)),v,u,r],⟨none,none,none,rfl⟩,?_,?_⟩
 ·rintro j e l M ⟨v,u,r,rfl⟩;obtain⟨low,I,rfl⟩:=get_map M
  have R:(ls.take (j+1)).foldl (j4 c i) none=j4 c i ((ls.take j).foldl (j4 c i) none) low:=by
   rw[v2,I];rw[show ls.take j++(some low).toList=ls.take j++[low] from rfl,UR];rfl
  refine⟨rfl,?_⟩;walk_at "n";rw[R];generalize (ls.take j).foldl (j4 c i) none=o;refine⟨c,low,rfl,G,rfl,?_⟩;walk_at "n";obtain⟨b,T,el⟩:=Ij (n:=low) H J;have U:=GD (n:=low) (show 0<c.length by omega);have g:N8 ((u5 low false c).map S9) 0=some (S9 (G3 c low 0)):=mF (j:=0) (by rw[rx,U];rfl);have p:N8 ((u5 low false c).map S9) (i:Int)=some (S9 b):=mF (by rw[rx,T];rfl);generalize G3 c low 0=a at g el;generalize (u5 low false c).map S9=S at g p;refine⟨_,g,?_⟩
  cases a with
  | none=>
   have e:j4 c i o low=o:=by unfold j4;rw[el]
   rw[e];exact⟨λz=>(by cases z),λ_=>Br.no rfl ⟨_,_,_,rfl⟩⟩
  | some x=>
   refine⟨λ_=>⟨_,p,?_⟩,λz=>(by cases z)⟩
   cases b with
   | none=>
    have e:j4 c i o low=o:=by unfold j4;rw[el]
    rw[e];exact Br.no rfl ⟨_,_,_,rfl⟩
   | some y=>
    refine Br.yes rfl ?_;refine⟨_,g,_,p,rfl,?_⟩;walk_at "n"
    cases o with
    | none=>
     have e:j4 c i none low=some (x-y+1,low):=by unfold j4;rw[el]
     rw[e];exact⟨λ_=>Br.yes rfl ⟨rfl,rfl,rfl,_,_,_,rfl⟩,λz=>(by cases z)⟩
    | some E=>
     obtain⟨d,C⟩:=E;have e:j4 c i (some (d,C)) low=if d<x-y+1 then some (x-y+1,low) else some (d,C):=by unfold j4;rw[el]
     rw[e];refine⟨λz=>(by cases z),λ_=>⟨_,rfl,λz=>?_,λz=>?_⟩⟩
     ·have z:x-y+1>d:=wP z;rw[ry z];exact⟨rfl,rfl,rfl,_,_,_,rfl⟩
     ·have z:¬x-y+1>d:=Rs z;rw[ro z];exact⟨_,_,_,rfl⟩
 ·rintro l ⟨v,u,r,rfl⟩;rw[dL,wE];generalize ls.foldl (j4 c i) none=o at *
  cases o with
  | none=>exact⟨rfl,q⟩
  | some E=>exact⟨rfl,q⟩
theorem Ly(ds:List D)(Q:D->Prop)(h:iw ds Q):Kk (EP Q) (g9 5 ds):=by
 obtain⟨d,i,n,rfl,l,E,G,q⟩:=h;obtain⟨k,rfl⟩:∃k,i=k+1:=⟨i-1,by omega⟩
 refine⟨d,0,n,rfl,l,by decide,by omega,λB p=>?_⟩;rw[<-V8 (n:=n) (j:=0) p];refine⟨rfl,?_⟩;walk_at "n";refine⟨d,((k+1:Nat):Int),n,rfl,l,by omega,by omega,λr g=>?_⟩;rw[wS] at g;rw[<-V8 (n:=n) g];unfold K9 at q;rw[g] at q;rw[Nat.add_sub_cancel] at q;refine⟨rfl,?_⟩;walk_at "n";generalize G3 d n 0=a at q ⊢;generalize G3 d n (k+1)=b at q ⊢
 cases a with
 | none=>exact⟨λ_=>Br.yes rfl q,λz=>(by cases z)⟩
 | some x=>
  cases b with
  | none=>exact⟨λz=>(by cases z),λ_=>Br.yes rfl q⟩
  | some y=>
   refine⟨λz=>(by cases z),λ_=>Br.no rfl ?_⟩;have q:Q (.int (x-(bif (G3 d n k).isSome then y+r.1.wa else y)+1)):=q;refine⟨d,((k:Nat):Int),n,(by show[dF d,D.int (((k+1:Nat):Int)-1),D.int n]=_;rw[show((k+1:Nat):Int)-1=((k:Nat):Int) by omega]),l,by omega,by omega,λv e=>?_⟩;rw[wS] at e;rw[<-V8 (n:=n) e];generalize G3 d n k=c at q ⊢
   cases c with
   | none=>exact Br.no rfl q
   | some z=>
    obtain⟨C,o,_,u⟩:=l.at (i:=((k+1:Nat):Int)) (by omega) (by omega);rw[wS,g] at o;cases o;exact Br.yes rfl ⟨_,u,_,rfl,_,rfl,rfl,q⟩
theorem dO{b:Bd}(d:j7 b){x:Str}(i:x∈u3 b++K4 b):jM (G6 b x)/\(G6 b x).length<=8:=by
 have c:=cI d i;have j:=di (b:=b) x;unfold G6
 cases cV b x with
 | true=>exact⟨⟨v5 _,λr a=>nomatch a⟩,v5 _⟩
 | false=>
  refine⟨⟨?_,λr a=>?_⟩,?_⟩
  ·show((i9 b x).map _).length<=16;rw[dL];omega
  ·obtain⟨y,h,rfl⟩:=List.mem_map.mp a;obtain⟨g,e,rfl⟩:=List.mem_map.mp (c y h);show S7 (FR b g.nm).cv;rw[sO d e];exact d.cv g e
  ·show((i9 b x).map _).length<=8;rw[dL];exact j
theorem Q9{a b:Type}{f:a->List b}{k:Nat}:∀{l:List a},(∀x∈l,(f x).length<=k)->(l.flatMap f).length<=k*l.length
 | [],_=>v5 _
 | x::l,h=>by
  have e:=Q9 (l:=l) λy c=>h y (hQ _ c);have d:=h x re;rw[VB,tt,vu,Nat.mul_succ];omega
theorem mM(b:Bd)(x:Str)(o:Option (Int×Int))(i:Nat):(A5 b x o i).length<=1:=by
 unfold A5;split
 ·exact oT _
 ·exact v5 _
theorem jt{b:Bd}{m:Int}{x:Str}(h:(G6 b x).length<=8):(p5 b m x).length<=8:=by
 have:=Q9 (f:=λk=>A5 b x (T4 (G6 b x) (1+k) m) (1+k)) (k:=1) (l:=List.range ((G6 b x).length-1)) λz _=>mM _ _ _ _;rw[tL] at this;unfold p5;omega
theorem zE(ds:List D)(Q:D->Prop)(h:O3 ds Q):sA (EP Q) (g9 7 ds):=by
 obtain⟨b,m,rfl,y,h8,X,q⟩:=h;refine⟨rfl,?_⟩;refine⟨b,rfl,y,?_⟩;refine .of ⟨λj g=>∃C B d c:Option D,g=[some (bD b),some (.int m),some (.lst (((u3 b).take j).flatMap (p5 b m))),C,B,d,c],⟨none,none,none,none,rfl⟩,?_,?_⟩
 ·rintro j e g H ⟨C,B,d,c,rfl⟩;obtain⟨x,M,rfl⟩:=get_map H;have E:=sg M;have p:x∈u3 b++K4 b:=t7 _ E;obtain⟨po,pl⟩:=dO y p
  have et:((u3 b).take (j+1)).flatMap (p5 b m)=((u3 b).take j).flatMap (p5 b m)++p5 b m x:=by
   rw[v2,M];rw[show(u3 b).take j++(some x).toList=(u3 b).take j++[x] from rfl,UE,Ur]
  refine⟨rfl,?_⟩;walk_at "n";rw[et]
  have u:(((u3 b).take j).flatMap (p5 b m)).length<=64:=by
   have:=Q9 (f:=p5 b m) (k:=8) (l:=(u3 b).take j) λz U=>jt (dO y (t7 _ (Vo U))).2;have e:(u3 b).length=b.gs.length:=dL _;rw[vy] at this;omega
  generalize ((u3 b).take j).flatMap (p5 b m)=v at u;refine⟨b,x,rfl,y,p,X,rfl,?_⟩;walk_at "n";refine⟨1,((G6 b x).length:Int),by show[D.int 1,D.int ((((G6 b x).map λr:Gd×Int=>D.tup [gD r.1,.int r.2]).length:Nat):Int)]=_;rw[dL],⟨by decide,by decide,by omega,by omega⟩,?_⟩;rw[show(((G6 b x).length:Int)-1).toNat=(G6 b x).length-1 by omega,show jd 1 ((G6 b x).length-1)=(List.range ((G6 b x).length-1)).map (λk:Nat=>D.int (1+(k:Int))) from rfl];refine .of ⟨λk g=>∃d c:Option D,g=[some (bD b),some (.int m),some (.lst (v++(List.range k).flatMap λk=>A5 b x (T4 (G6 b x) (1+k) m) (1+k))),some (.str x),some (dF (G6 b x)),d,c],⟨d,c,by rw[List.range_zero,VG,tz]⟩,?_,?_⟩
  ·rintro k e g H ⟨d,c,rfl⟩;obtain⟨a,hk,rfl⟩:=get_map H
   obtain⟨Y,rfl⟩:k<(G6 b x).length-1/\a=k:=by
    obtain⟨S,R⟩:=List.getElem?_eq_some_iff.mp hk;rw[tL] at S;rw[Uh] at R;exact⟨S,R.symm⟩
   have G:=Q9 (f:=λk=>A5 b x (T4 (G6 b x) (1+k) m) (1+k)) (k:=1) (l:=List.range a) λz _=>mM _ _ _ _;rw[tL] at G;refine⟨rfl,?_⟩;walk_at "n";rw[Vg,UE,Ur,<-wh];generalize hA:v++(List.range a).flatMap (λk=>A5 b x (T4 (G6 b x) (1+k) m) (1+k))=A;have a0:A.length<=100:=by rw[<-hA,tt];omega
   refine⟨G6 b x,1+a,m,by rw[show((1+a:Nat):Int)=1+(a:Int) by omega],po,pl,by omega,by omega,?_⟩;obtain⟨r,O,_,e2⟩:=po.at (i:=1+(a:Int)) (by omega) (by omega);rw[show(1+(a:Int)).toNat=1+a by omega] at O;generalize T4 (G6 b x) (1+a) m=o;refine⟨rfl,?_⟩;walk_at "n"
   cases o with
   | none=>
    refine Br.no rfl ?_;rw[show A5 b x none (1+a)=[] from rfl,tz];exact⟨_,_,rfl⟩
   | some T=>
    obtain⟨J,I⟩:=T;refine Br.yes rfl ?_;rw[show A5 b x (some (J,I)) (1+a)=[.tup [.str x,.str r.1.nm,.int J,.int I]] by unfold A5;rw[O]];refine⟨rfl,?_⟩;walk_at "n";exact⟨rfl,_,e2,_,rfl,_,rfl,rfl,_,rfl,rfl,_,rfl,rfl,g7 (by omega),_,_,rfl⟩
  ·rintro g ⟨d,c,rfl⟩;rw[dL,tL];exact⟨_,_,_,_,rfl⟩
 ·rintro g ⟨C,B,d,c,rfl⟩;rw[dL,wE];exact q
end My
namespace My
open PySem L2 L3
local macro_rules | `(tactic| walk_at "w")=>`(tactic| conv=>whnf)
local macro_rules | `(tactic| walk_at "a")=>`(tactic| first | refine⟨rfl,?_⟩ | refine⟨_,rfl,?_⟩ | refine⟨(show(0:Int)<_ from by decide),?_⟩ | refine⟨(show R4 _ _ from⟨by decide,by decide⟩),?_⟩ | refine⟨(show ae _ _ from⟨by decide,by decide,by decide⟩),?_⟩ | refine⟨(show K8 _ _ from .inr ⟨by decide,by decide⟩),?_⟩ | refine⟨(show K8 _ _ from .inl ⟨by decide,by decide⟩),?_⟩ | refine⟨_,_,_,rfl,rfl,rfl,?_⟩ | refine⟨_,N0 _ _,?_⟩ | refine⟨_,_,rfl,rfl,?_⟩)
local macro_rules | `(tactic| walk_at "r")=>`(tactic| ((repeat ((conv=>whnf);(walk_at "a")));(try (conv=>whnf))))
theorem Cj(ds:List D)(Q:D->Prop)(h:X9 ds Q):xH { nx:=λ_=>Q .l3,rt:=λd _=>Q d } (g9 2 ds):=by
 obtain⟨d,ns,k,rfl,b,c,q⟩:=h;rcases b with rfl | rfl
 all_goals
  walk_at "r";refine⟨λe=>?_,λe=>q 0⟩;have g:=wP e;obtain⟨x,_,_,a⟩:=E9 (f:=D.int) c (by simpa using g);exact⟨_,a,rfl,q x⟩
theorem Lh(ds:List D)(Q:D->Prop)(h:Z9 ds Q):Kb { nx:=λ_=>Q .l3,rt:=λd _=>Q d } (g9 3 ds):=by
 obtain⟨d,ns,k,rfl,a,b,e,q⟩:=h;refine⟨d,ns,k,rfl,a,b,λc=>?_⟩;walk_at "r";exact q c
theorem NU(ds:List D)(Q:D->D->Prop)(h:p6 ds Q):JJ { nx:=λg=>a7 0 g λl=>Q .l3 l,rt:=λd g=>a7 0 g λl=>Q d l } (g9 4 ds):=by
 obtain⟨c,d,k,n,rfl,v,u,e,i,q⟩:=h;walk_at "r";refine⟨λo=>?a,λo=>Br.no rfl ?c⟩
 case' a=>
  walk_at "r";refine⟨λj=>?t,λj=>?b⟩
 case t=>
  walk_at "r";refine⟨e,?_⟩;walk_at "r";refine⟨⟨e,Oy i e⟩,?_⟩;walk_at "r";exact q _ _ (Bi _ (by omega)) (xi _ e)
 all_goals
  walk_at "r";refine⟨.inl ⟨by omega,by omega⟩,?_⟩;walk_at "r";have p:=Bi ((c%2147483629*48271+7919*(k+1)+(k+1)*(k+1)*69621+11)%2147483647) (show(65521:Int)≠0 by decide);have z1:=xi ((c%2147483629*48271+7919*(k+1)+(k+1)*(k+1)*69621+11)%2147483647) (show(0:Int)<65521 by decide);refine⟨.inr ⟨by omega,by omega⟩,?_⟩;walk_at "r";refine⟨e,?_⟩;walk_at "r";exact q _ _ (Bi _ (by omega)) (xi _ e)
end My
namespace My
open PySem L2 L3
local macro_rules | `(tactic| walk_at "w")=>`(tactic| conv=>whnf)
local macro_rules | `(tactic| walk_at "a")=>`(tactic| first | refine⟨rfl,?_⟩ | refine⟨_,rfl,?_⟩ | refine Br.yes rfl ?_ | refine Br.no rfl ?_ | refine⟨(show(0:Int)<_ from by decide),?_⟩ | refine⟨(show R4 _ _ from⟨by decide,by decide⟩),?_⟩ | refine⟨(show ae _ _ from⟨by decide,by decide,by decide⟩),?_⟩ | refine⟨(show K8 _ _ from .inr ⟨by decide,by decide⟩),?_⟩ | refine⟨(show K8 _ _ from .inl ⟨by decide,by decide⟩),?_⟩ | refine⟨_,_,_,rfl,rfl,rfl,?_⟩ | refine⟨_,N0 _ _,?_⟩ | refine⟨_,ag _ _ _,?_⟩ | refine⟨_,_,rfl,rfl,?_⟩)
local macro_rules | `(tactic| walk_at "r")=>`(tactic| ((repeat ((conv=>whnf);(walk_at "a")));(try (conv=>whnf))))
local macro_rules | `(tactic| walk_at "n")=>`(tactic| (try dsimp only[g9,List.length,List.replicate,List.map,List.set,List.append,List.cons_append,List.nil_append,Nat.reduceAdd,Nat.reduceSub]))
def hit(p r:Gd×Int)(n:Int):Prop:=wk r<=n/\¬wk p<=n
theorem NN(ds:List D)(Q:D->Prop)(h:gS ds Q):Kj (EP Q) (g9 5 ds):=by
 obtain⟨d,ns,rfl,J,q⟩:=h;refine⟨d,ns,rfl,J,λb u t O E p=>?_⟩;refine⟨rfl,rfl,?_⟩;walk_at "n";refine⟨d,ns,19,rfl,J,by decide,by decide,λc=>⟨rfl,?_⟩⟩;walk_at "n";refine⟨c,c,_,4,rfl,by decide,by decide,by decide,by decide,λw d1 w0 w1=>?_⟩;walk_at "n";have R:=p.1;have u2:=p.2.1
 have o:∀g:Bd,j7 g->g.gs.length<=8->∀C,xr (EP Q) [some d,some (bD g),some (.int u),some (feed c d1 (100*19+1)),C]:=by
  intro g a g8 C;have a0:=a.l24;have h1:=a.g1;have e:((u3 g++K4 g).length:Int)=g.gs.length+g.ls.length:=by unfold u3 K4;rw[tt,dL,dL];omega
  refine⟨g,rfl,a,rfl,?_⟩;walk_at "n";refine⟨AK g,AK g,?_⟩;refine⟨c,d1,_,_,rfl,by decide,by decide,by rw[dL];omega,by rw[dL];omega,λr d2 H G=>?_⟩;rw[dL] at G;obtain⟨x,I,_,v⟩:=E9 (f:=D.str) (xs:=u3 g++K4 g) (i:=r) H G;obtain⟨po,pl⟩:=dO a I;refine⟨_,v,?_⟩;refine⟨g,x,rfl,a,I,?_⟩;refine⟨c,d2,_,u,G6 g x,rfl,by decide,by decide,R,u2,po,λm d3 Y T S X U=>?_⟩;refine⟨rfl,q g m c d3 Y a g8 T ?_ (by omega) (by omega)⟩;rcases S with z | ⟨r,j,s,B,z⟩
  ·omega
  ·have c1:=(po.cv r j).2.2.1 s B
   have H:0<=r.2:=by
    unfold G6 at j
    cases M:cV g x with
    | true=>rw[M] at j;cases j
    | false=>
     rw[M] at j;obtain⟨y,_,rfl⟩:=List.mem_map.mp j;exact(X8 a (c:=10^60) (by decide) (λl hl=>Int.le_of_lt (a.la l hl).2) y).1
   omega
 refine⟨λe=>?_,λe=>o b O E.g8 _⟩;refine⟨b,u,t,rfl,O,E,p,λg a g8=>⟨rfl,?_⟩⟩;exact o g a g8 _
theorem qm(u:Option Str):kO (uD u)=some (u.map Sum.inr):=by cases u<;>rfl
theorem Ag(kvs:List (K3×Int))(k:K3)(n:Int):(bt kvs k n).length<=kvs.length+1:=by
 unfold bt;split
 ·rw[dL];omega
 ·rw[tt];exact oT _
theorem zi(kvs:List (K3×Int))(k j:K3)(n:Int){v:Int}(h:G1 (bt kvs k n) j=some v):v=n\/G1 kvs j=some v:=by
 unfold bt G1 at h;obtain⟨q,b,rfl⟩:=Option.map_eq_some_iff.mp h;split at b
 ·rw[List.find?_map] at b;obtain⟨z,c,rfl⟩:=Option.map_eq_some_iff.mp b
  by_cases e:z.1=k
  ·left;simp only[ry e]
  ·right
   simp only[ro e];unfold G1
   have:(λa:K3×Int=>decide (a.1=j))∘(λa:K3×Int=>if a.1=k then(a.1,n) else a)=λa=>decide (a.1=j):=by
    funext a
    show decide ((if a.1=k then(a.1,n) else a).1=j)=_;split<;>rfl
   rw[this] at c;rw[c];rfl
 ·rw[List.find?_append] at b
  cases e:kvs.find? λa=>decide (a.1=j) with
  | some z=>
   rw[e] at b
   right
   unfold G1;rw[e];cases b;rfl
  | none=>
   rw[e] at b
   left
   have b:[(k,n)].find? (λa=>decide (a.1=j))=some q:=b;have:=List.mem_of_find?_eq_some b;rw[List.mem_singleton.mp this]
theorem zQ(ds:List D)(Q:D->Prop)(h:S5 ds Q):pT (EP Q) (g9 7 ds):=by
 obtain⟨b,u,t,rfl,l,C,ut,q⟩:=h;have u1:=ut.1;have u2:=ut.2.1;have g8:=C.g8;have H:=X8 l (c:=3*u) (by omega) C.ls.la;have l24:(b.ls.length:Int)*(3*u)<=8*(3*u):=u8 (by have:=C.l8;omega) (by omega);have H:∀y,0<=p7 b y/\p7 b y<=24*u:=λy=>⟨(H y).1,by have h:=(H y).2;omega⟩
 have ef:(b.gs.map gD).reverse=b.gs.reverse.map gD:=(UY ..).symm;refine⟨bD b,b,rfl,⟨_,_,rfl,.inl rfl,.inl rfl⟩,l,rfl,?_⟩;refine⟨rfl,rfl,?_⟩;walk_at "n";refine⟨_,N0 _ _,rfl,cF b.gs,?_⟩;show PD _ _ (b.gs.map gD).reverse _ _;rw[ef];have T:(b.gs.reverse.map (·.nm)).Nodup:=by rw[UY];exact List.pairwise_reverse.mpr (l.eh.nd.imp λh=>h.symm)
 refine .of ⟨λi M=>∃(a:List (K3×Int)) (f:Str->Int) (S R O:Option D),M=[some (bD b),some (.dic (j9 b (p7 b))),some (.dn a),some (.lst (((b.gs.reverse.take i).map λg=>Q6 g (f g.nm)).map gD)),S,R,O]/\(∀x,0<=f x/\f x<=94*u)/\a.length<=i/\(∀j v,G1 a j=some v->v<=70*u),⟨[],λ_=>0,none,none,none,rfl,λ_=>⟨UA _,by show(0:Int)<=94*u;omega⟩,oT _,λj v h=>(by cases h)⟩,?_,?_⟩
 ·rintro i e M he ⟨a,f,S,R,O,rfl,I,hk,U⟩;obtain⟨g,B,rfl⟩:=get_map he;have hi:=(List.getElem?_eq_some_iff.mp B).1;rw[KF] at hi;have r:g∈b.gs:=List.mem_reverse.mp (sg B);have J:=l.cv g r
  obtain⟨p,G,Y⟩:∃p G,g.cv=p::G:=by
   cases e:g.cv with
   | nil=>rw[e] at J;exact absurd J.1 (by decide)
   | cons p G=>exact⟨p,G,rfl⟩
  have pb:=C.c1 g r p (by rw[Y];exact re);have p1:=(J.2.2.1 p (by rw[Y];exact re)).1;have lr:=H g.nm;refine⟨rfl,?_⟩;walk_at "n";refine⟨_,rfl,?_⟩;refine⟨pr p,?_,?_⟩
  ·show N8 (g.cv.map pr) 0=_;rw[Y];exact N0 _ _
  refine⟨_,rfl,_,rfl,.inr g.nm,_,rfl,G8 l (List.mem_map.mpr ⟨g,r,rfl⟩),rfl,?_⟩;walk_at "n";refine⟨a,rfl,_,rfl,some (.inr g.nm),rfl,0,rfl,rfl,?_⟩;walk_at "n";generalize X:p.1-p7 b g.nm=d
  have gb:∀j,(G1 a j).getD 0<=70*u:=λj=>by
   cases e:G1 a j with
   | none=>show 0<=70*u;omega
   | some v=>exact U j v e
  have E:∃low,(if d>(G1 a (some (.inr g.nm))).getD 0 then d else(G1 a (some (.inr g.nm))).getD 0)=low/\d<=low/\low<=70*u:=by
   have:=gb (some (.inr g.nm));exact⟨_,rfl,by split<;>omega,by split<;>omega⟩
  obtain⟨low,el,l1,l2⟩:=E;rw[el];refine⟨rfl,g,low-d,rfl,J.2.1,?_⟩;refine⟨by rw[dL,dL,vy];exact g7 (by omega),?_⟩;walk_at "n";refine⟨a,rfl,_,rfl,g.un.map Sum.inr,qm g.un,0,rfl,?_⟩;refine⟨_,rfl,_,rfl,g.un.map Sum.inr,qm g.un,g7 (by omega),?_⟩
  have o:(if low>(G1 a (g.un.map Sum.inr)).getD 0 then low else(G1 a (g.un.map Sum.inr)).getD 0)<=70*u:=by
   have:=gb (g.un.map Sum.inr);split<;>omega
  have pl:=Ag a (g.un.map Sum.inr) (if low>(G1 a (g.un.map Sum.inr)).getD 0 then low else(G1 a (g.un.map Sum.inr)).getD 0);refine⟨bt a (g.un.map Sum.inr) (if low>(G1 a (g.un.map Sum.inr)).getD 0 then low else(G1 a (g.un.map Sum.inr)).getD 0),λx=>if x=g.nm then low-d else f x,some (gD g),some (.int d),some (.int low),?_,λx=>?_,by omega,λj v h=>?_⟩
  ·have hn:(b.gs.reverse.map (·.nm))[i]?=some g.nm:=by rw[rx,B];rfl
   have e2:(b.gs.reverse.take (i+1)).map (λz=>Q6 z (if z.nm=g.nm then low-d else f z.nm))=(b.gs.reverse.take i).map (λz=>Q6 z (f z.nm))++[Q6 g (low-d)]:=by
    rw[take_snoc B,ue];congr 1
    ·refine PP λz hz=>?_;have:z.nm≠g.nm:=λe=>ia T hn (by rw[<-List.map_take,<-e];exact List.mem_map.mpr ⟨z,hz,rfl⟩);rw[ro this]
    ·show[Q6 g (if g.nm=g.nm then _ else _)]=_;rw[ry rfl]
   rw[e2,ue];rfl
  ·show 0<=(if x=g.nm then low-d else f x)/\(if x=g.nm then low-d else f x)<=94*u;split
   ·omega
   ·exact I x
  ·rcases zi _ _ _ _ h with z | z
   ·rw[z];exact o
   ·exact U j v z
 ·rintro M ⟨a,f,S,R,O,rfl,I,hk,U⟩;have el:(b.gs.reverse.map gD).length=b.gs.reverse.length:=dL _;rw[el,wE]
  have er:(((b.gs.reverse.map λg=>Q6 g (f g.nm)).map gD).reverse)=(b.gs.map λg=>Q6 g (f g.nm)).map gD:=by
   rw[<-UY,<-UY,List.reverse_reverse]
  walk_at "n";have im:=cF (b.gs.map λg=>Q6 g (f g.nm));refine⟨rfl,cF _,_,_,rfl,rfl,?_,?_⟩
  ·rw[er];exact im
  rw[er];refine⟨_,ag _ _ _,nK b.ls,?_⟩;refine q ⟨b.gs.map λg=>Q6 g (f g.nm),b.ls⟩ (l.guards (λg=>Q6 g (f g.nm)) (λg=>rfl) (λg=>rfl) (λg B=>(l.cv g B).lift (I g.nm).1 (C.c1 g B) (by have:=(I g.nm).2;omega)) l.de l.wa) ?_;show(b.gs.map _).length<=8;rw[dL];exact g8
theorem qL(x:Int):∀l:WJ,l.Pairwise (·<·)->∃k:WJ,k.Pairwise (·<·)/\∀y,y∈k ↔ y=x\/y∈l
 | [],_=>⟨[x],Ch _ _,λy=>by simp⟩
 | z::l,h=>by
  cases h with
  | cons a b=>
   by_cases g:x<z
   ·refine⟨x::z::l,.cons (λy c=>?_) (.cons a b),λy=>by simp⟩;rcases List.mem_cons.mp c with w | w
    ·rw[w];exact g
    ·exact Int.lt_trans g (a y w)
   ·by_cases j:x=z
    ·refine⟨z::l,.cons a b,λy=>?_⟩;rw[j];simp
    ·obtain⟨k,i,d⟩:=qL x l b;refine⟨z::k,.cons (λy c=>?_) i,λy=>?_⟩
     ·rcases(d y).mp c with w | w
      ·rw[w];omega
      ·exact a y w
     ·rw[SZ,d,SZ];constructor
      ·rintro(e | e | e)
       ·exact .inr (.inl e)
       ·exact .inl e
       ·exact .inr (.inr e)
      ·rintro(e | e | e)
       ·exact .inr (.inl e)
       ·exact .inl e
       ·exact .inr (.inr e)
theorem wB:∀l:WJ,∃k:WJ,k.Pairwise (·<·)/\∀y,y∈k ↔ y∈l
 | []=>⟨[],.nil,λy=>Vq⟩
 | x::l=>by
  obtain⟨k,c,b⟩:=wB l;obtain⟨a,d,m2⟩:=qL x k c;exact⟨a,d,λy=>by rw[m2,b,SZ]⟩
theorem xE(ps:List (Gd×Int))(m:Int):tX ps m (kX ps m):=by
 obtain⟨k,g,d⟩:=wB (1::(L6 ps).filter λz=>decide (z<=m))
 have h:tX ps m k:=⟨g,λx=>by
  rw[d,SZ,List.mem_filter,EQ];unfold L6;rw[List.mem_flatMap];refine Vz Vq ⟨λ⟨⟨r,b,i⟩,c⟩=>?_,λ⟨r,b,z,a,e,c⟩=>⟨⟨r,b,List.mem_map.mpr ⟨z,a,e.symm⟩⟩,c⟩⟩;obtain⟨z,a,e⟩:=List.mem_map.mp i;exact⟨r,b,z,a,e.symm,c⟩⟩
 rw[<-gF h];exact h
def eI(f:Int->Option Int)(done:WJ):Option (Int×Int)->Prop
 | none=>∀n∈done,f n=none
 | some (k,l)=>l∈done/\f l=some k/\∀n∈done,∀j,f n=some j->j<k\/j=k/\l<=n
theorem zW{ps:List (Gd×Int)}{i:Nat}{done:WJ}{o:Option (Int×Int)}{x:Int}(h:eI (K9 ps i) done o)(up:∀n∈done,n<x):eI (K9 ps i) (done++[x]) (j4 ps i o x):=by
 unfold j4
 cases e:K9 ps i x with
 | none=>
  cases o with
  | none=>
   intro n b;rcases List.mem_append.mp b with z | z
   ·exact h n z
   ·rw[List.mem_singleton.mp z];exact e
  | some g=>
   obtain⟨k,l⟩:=g;obtain⟨d,p,c⟩:=h;refine⟨t7 _ d,p,λn b j a=>?_⟩;rcases List.mem_append.mp b with z | z
   ·exact c n z j a
   ·rw[List.mem_singleton.mp z,e] at a;cases a
 | some k=>
  cases o with
  | none=>
   refine⟨rj _ (List.mem_singleton.mpr rfl),e,λn b j a=>?_⟩;rcases List.mem_append.mp b with z | z
   ·rw[show K9 ps i n=none from h n z] at a;cases a
   ·rw[List.mem_singleton.mp z] at a ⊢;rw[e] at a;cases a;exact .inr ⟨rfl,UA _⟩
  | some g=>
   obtain⟨r,q⟩:=g;obtain⟨d,p,c⟩:=h;show eI _ _ (if r<k then some (k,x) else some (r,q));split
   ·refine⟨rj _ (List.mem_singleton.mpr rfl),e,λn b j a=>?_⟩;rcases List.mem_append.mp b with z | z
    ·have:=c n z j a;omega
    ·rw[List.mem_singleton.mp z] at a ⊢;rw[e] at a;cases a;exact .inr ⟨rfl,UA _⟩
   ·refine⟨t7 _ d,p,λn b j a=>?_⟩;rcases List.mem_append.mp b with z | z
    ·exact c n z j a
    ·have:=up q d;rw[List.mem_singleton.mp z] at a ⊢;rw[e] at a;cases a;omega
theorem kR{ps:List (Gd×Int)}{i:Nat}:∀{rest done:WJ} {o:Option (Int×Int)},eI (K9 ps i) done o->(done++rest).Pairwise (·<·)->eI (K9 ps i) (done++rest) (rest.foldl (j4 ps i) o)
 | [],done,o,h,_=>by rw[tz];exact h
 | x::rest,done,o,h,up=>by
  have b:=zW (x:=x) h λn a=>(List.pairwise_append.mp up).2.2 n a x re;have:=kR (rest:=rest) b (by rw[wh];exact up);rw[wh] at this;exact this
theorem IX(ps:List (Gd×Int))(i:Nat)(m:Int):eI (K9 ps i) (kX ps m) (T4 ps i m):=by
 have:=kR (ps:=ps) (i:=i) (rest:=kX ps m) (done:=[]) (o:=none) (λn a=>by cases a) (xE ps m).up;exact this
theorem fY{b:Bd}(d:j7 b){x:Str}(j:x∈u3 b++K4 b){r:Gd×Int}(a:r∈G6 b x):r.1∈b.gs/\0<=r.2/\r.2<=24*10^60:=by
 unfold G6 at a
 cases e:cV b x with
 | true=>rw[e] at a;cases a
 | false=>
  rw[e] at a;obtain⟨y,i,rfl⟩:=List.mem_map.mp a;obtain⟨g,h,rfl⟩:=List.mem_map.mp (cI d j y i);have z:=X8 d (c:=10^60) (by decide) (λl o=>Int.le_of_lt (d.la l o).2) g.nm;have l24:=d.l24;have z2:(b.ls.length:Int)*10^60<=24*10^60:=u8 (by omega) (by decide);refine⟨?_,z.1,by have:=z.2;show p7 b g.nm<=_;omega⟩;show FR b g.nm∈b.gs;rw[sO d h];exact h
theorem AF{n:Nat}{x:Str}(h:nm n x):O9 (.str x)=true:=by
 show(x.cps.toList.all λc=>decide (c<16^8))=true;rw[Ue];intro c a;have:=h.2.2 c a;exact t6 (by omega)
theorem OO{B:Nat}:∀{xs:List D},(∀x∈xs,(pyd x).weight<=B)->PyData.weightAll (L7 xs)<=xs.length*(B+1)
 | [],_=>by simp[L7,PyData.weightAll]
 | x::xs,h=>by
  have c:=h x re;have b:=OO λy a=>h y (hQ x a);simp only[L7,PyData.weightAll,vu];rw[Nat.add_mul];omega
theorem Lo{B:Nat}:∀{xs:List D},(∀x∈xs,(pyd x).depth<=B)->PyData.depthAll (L7 xs)<=B
 | [],_=>by simp[L7,PyData.depthAll]
 | x::xs,h=>by
  have c:=h x re;have b:=Lo λy a=>h y (hQ x a);simp only[L7,PyData.depthAll];omega
theorem OQ:∀{xs:List D},(∀x∈xs,O9 x=true)->fE xs=true
 | [],_=>rfl
 | x::xs,h=>by
  simp only[fE,uk];exact⟨h x re,OQ λy a=>h y (hQ x a)⟩
structure P2(d:D)(w n:Nat):Prop where
 s:O9 d=true
 w:(pyd d).weight<=w
 n:(pyd d).depth<=n
theorem P2.ok{d:D}{w n:Nat}(h:P2 d w n)(hw:w<=100000)(a:n<=50):rY d:=⟨h.s,AC h.w hw,AC h.n a⟩
theorem P2.mono{d:D}{w n a b:Nat}(h:P2 d w n)(hw:w<=a)(c:n<=b):P2 d a b:=⟨h.s,AC h.w hw,AC h.n c⟩
theorem P2.tup{xs:List D}{w n m:Nat}(h:∀x∈xs,P2 x w n)(b:xs.length<=m):P2 (.tup xs) (m*(w+1)) (n+1):=
 ⟨OQ λx a=>(h x a).s,AC (OO λx a=>(h x a).w) (Nat.mul_le_mul_right _ b),Nat.succ_le_succ (Lo λx a=>(h x a).n)⟩
theorem P2.int{n:Int}(h:num n):P2 (.int n) 201 0:=by
 refine⟨?_,?_,oT _⟩
 ·show decide _=true;refine t6 (uy (m:=10^60) ?_ (by decide +kernel));have:=h.1;have:=h.2;omega
 ·show(if n == 0 then 0 else n.natAbs.log2+1)<=201;split
  ·omega
  ·rename_i e
   have e:n.natAbs≠0:=by simpa using e
   have:n.natAbs.log2<200:=(VL e).mpr (uy (m:=10^60) (by have:=h.1;have:=h.2;omega) (by decide +kernel));omega
theorem P2.str{x:Str}{k:Nat}(h:x.length<=k)(b:∀c∈cs x,c<1000):P2 (.str x) k 0:=by
 refine⟨?_,h,oT _⟩;show(x.cps.toList.all λc=>decide (c<16^8))=true;rw[Ue];exactλc a=>t6 (uy (b c a) (by decide +kernel))
theorem P2.nm{x:Str}(h:nm 8 x):P2 (.str x) 8 0:=P2.str (MU h) λc a=>by have:=h.2.2 c a;omega
theorem P2.l3:P2 .l3 8 0:=⟨rfl,v5 _,oT _⟩
theorem P2.bl{b:Bool}:P2 (.bl b) 8 0:=⟨rfl,v5 _,oT _⟩
theorem P2.kd{ps:List Pr}(h:AY ps):P2 (kd ps) 2025 2:=by
 refine P2.mono (P2.tup (w:=404) (n:=1) (m:=5) (λx a=>?_) (by rw[dL];exact h.1)) (by decide) (by decide);obtain⟨p,b,rfl⟩:=List.mem_map.mp a;refine P2.mono (P2.tup (w:=201) (n:=0) (m:=2) (λx a=>?_) (oT _)) (by decide) (by decide);rcases List.mem_cons.mp a with rfl | a
 ·exact P2.int (h.2 p b).1
 ·cases List.mem_singleton.mp a;exact P2.int (h.2 p b).2
theorem Sx{a b c d e:D}{w n k:Nat}(l:P2 a 8 0)(j:P2 b 8 0)(i:P2 c w n)(h:P2 d 201 0)(g:P2 e k 0):P2 (.tup [a,b,c,d,e]) (w+k+222) (n+1):=by
 refine⟨?_,?_,?_⟩
 ·show(O9 a&&(O9 b&&(O9 c&&(O9 d&&(O9 e&&true)))))=true;rw[l.s,j.s,i.s,h.s,g.s];rfl
 ·show(pyd a).weight+1+((pyd b).weight+1+((pyd c).weight+1+((pyd d).weight+1+((pyd e).weight+1+0))))<=_;have:=l.w;have:=j.w;have:=i.w;have:=h.w;have:=g.w;omega
 ·show max (pyd a).depth (max (pyd b).depth (max (pyd c).depth (max (pyd d).depth (max (pyd e).depth 0))))+1<=_;have:=l.n;have:=j.n;have:=i.n;have:=h.n;have:=g.n;omega
theorem GT.O9{g:Gd}(h:GT g):P2 (gD g) 2448 3:=by
 refine Sx (P2.nm h.nm) ?_ (P2.kd h.cv) (P2.int h.de) (P2.int h.wa)
 cases e:g.un with
 | none=>exact P2.l3
 | some y=>exact P2.nm (h.un y e)
theorem LT.O9{l:Ld}(h:LT l):P2 (lD l) 2255 3:=Sx (P2.nm h.nm) (P2.nm h.at_) (P2.kd h.cs) (P2.int h.la) P2.bl
theorem j7.show{b:Bd}(h:j7 b):rY (bD b):=by
 have e:P2 (.tup (b.gs.map gD)) (16*2449) 4:=P2.tup (λx a=>by obtain⟨g,c,rfl⟩:=List.mem_map.mp a;exact(h.gt g c).O9) (by rw[dL];exact h.g16);have d:P2 (.tup (b.ls.map lD)) (24*2256) 4:=P2.tup (λx a=>by obtain⟨g,c,rfl⟩:=List.mem_map.mp a;exact(h.lt g c).O9) (by rw[dL];exact h.l24);refine⟨?_,?_,?_⟩
 ·show(O9 (.tup (b.gs.map gD))&&(O9 (.tup (b.ls.map lD))&&true))=true;rw[e.s,d.s];rfl
 ·show(pyd (.tup (b.gs.map gD))).weight+1+((pyd (.tup (b.ls.map lD))).weight+1+0)<=_;have:=e.w;have:=d.w;omega
 ·show max (pyd (.tup (b.gs.map gD))).depth (max (pyd (.tup (b.ls.map lD))).depth 0)+1<=_;have:=e.n;have:=d.n;omega
def Kt(x y:Str):Option (Int×Int)->D
 | none=>.l3
 | some (k,l)=>.tup [.str x,.str y,.int k,.int l]
theorem Cb(ds:List D)(Q:D->Prop)(h:Y6 ds Q):wI (EP Q) (g9 9 ds):=by
 obtain⟨b,m,rfl,T,h8,q⟩:=h;refine⟨rfl,?_⟩;walk_at "n";refine⟨_,N0 _ _,?_⟩;refine .of ⟨λj p=>∃J I v u d c:Option D,p=[some (bD b),some (.int m),some (.lst (((u3 b).take j).flatMap (p5 b m))),J,I,v,u,d,c],⟨none,none,none,none,none,none,rfl⟩,?_,?_⟩
 ·rintro j e p E ⟨J,I,v,u,d,c,rfl⟩;obtain⟨g,hg,rfl⟩:=get_map E;have S:=sg hg;have hx:(u3 b)[j]?=some g.nm:=by unfold u3;rw[rx,hg];rfl
  have C:g.nm∈u3 b++K4 b:=t7 _ (List.mem_map.mpr ⟨g,S,rfl⟩);obtain⟨po,pl⟩:=dO T C
  have U:((u3 b).take (j+1)).flatMap (p5 b m)=((u3 b).take j).flatMap (p5 b m)++p5 b m g.nm:=by
   rw[v2,hx];rw[show(u3 b).take j++(some g.nm).toList=(u3 b).take j++[g.nm] from rfl,UE,Ur]
  refine⟨rfl,?_⟩;walk_at "n";rw[U]
  have G:(((u3 b).take j).flatMap (p5 b m)).length<=64:=by
   have:=Q9 (f:=p5 b m) (k:=8) (l:=(u3 b).take j) λz hz=>jt (dO T (t7 _ (Vo hz))).2;have e:(u3 b).length=b.gs.length:=dL _;rw[vy] at this;omega
  generalize ((u3 b).take j).flatMap (p5 b m)=H at G;refine⟨_,rfl,?_⟩;refine⟨b,g.nm,rfl,T,C,rfl,?_⟩;walk_at "n";refine⟨1,((G6 b g.nm).length:Int),by show[D.int 1,D.int ((((G6 b g.nm).map λr:Gd×Int=>D.tup [gD r.1,.int r.2]).length:Nat):Int)]=_;rw[dL],⟨by decide,by decide,by omega,by omega⟩,?_⟩;rw[show(((G6 b g.nm).length:Int)-1).toNat=(G6 b g.nm).length-1 by omega,show jd 1 ((G6 b g.nm).length-1)=(List.range ((G6 b g.nm).length-1)).map (λk:Nat=>D.int (1+(k:Int))) from rfl];refine .of ⟨λk p=>∃v u d c:Option D,p=[some (bD b),some (.int m),some (.lst (H++(List.range k).flatMap λk=>A5 b g.nm (T4 (G6 b g.nm) (1+k) m) (1+k))),some (gD g),some (dF (G6 b g.nm)),v,u,d,c],⟨v,u,d,c,by rw[List.range_zero,VG,tz]⟩,?_,?_⟩
  ·rintro k e p E ⟨v,u,d,c,rfl⟩;obtain⟨a,hk,rfl⟩:=get_map E
   obtain⟨a0,rfl⟩:k<(G6 b g.nm).length-1/\a=k:=by
    obtain⟨h1,h2⟩:=List.getElem?_eq_some_iff.mp hk;rw[tL] at h1;rw[Uh] at h2;exact⟨h1,h2.symm⟩
   have R:=Q9 (f:=λk=>A5 b g.nm (T4 (G6 b g.nm) (1+k) m) (1+k)) (k:=1) (l:=List.range a) λz _=>mM _ _ _ _;rw[tL] at R;refine⟨rfl,rfl,?_⟩;walk_at "n";rw[Vg,UE,Ur,<-wh];generalize hA:H++(List.range a).flatMap (λk=>A5 b g.nm (T4 (G6 b g.nm) (1+k) m) (1+k))=A;have a1:A.length<=100:=by rw[<-hA,tt];omega
   obtain⟨r,Y,_,e2⟩:=po.at (i:=1+(a:Int)) (by omega) (by omega);rw[show(1+(a:Int)).toNat=1+a by omega] at Y;refine⟨G6 b g.nm,m,rfl,po,pl,λls O=>?_⟩;have el:=gF O;refine .of ⟨λj p=>∃d c:Option D,p=[some (bD b),some (.int m),some (.lst A),some (gD g),some (dF (G6 b g.nm)),some (.int (1+(a:Int))),some (Kt g.nm r.1.nm ((ls.take j).foldl (j4 (G6 b g.nm) (1+a)) none)),d,c],⟨d,c,rfl⟩,?_,?_⟩
   ·rintro j e p E ⟨d,c,rfl⟩;obtain⟨low,hl,rfl⟩:=get_map E
    have U:(ls.take (j+1)).foldl (j4 (G6 b g.nm) (1+a)) none=j4 (G6 b g.nm) (1+a) ((ls.take j).foldl (j4 (G6 b g.nm) (1+a)) none) low:=by
     rw[v2,hl];rw[show ls.take j++(some low).toList=ls.take j++[low] from rfl,UR];rfl
    refine⟨rfl,?_⟩;walk_at "n";rw[U];generalize (ls.take j).foldl (j4 (G6 b g.nm) (1+a)) none=o;refine⟨G6 b g.nm,1+a,low,by rw[show((1+a:Nat):Int)=1+(a:Int) by omega],po,by omega,by omega,?_⟩;refine⟨rfl,?_⟩;walk_at "n"
    cases X:K9 (G6 b g.nm) (1+a) low with
    | none=>
     have e:j4 (G6 b g.nm) (1+a) o low=o:=by unfold j4;rw[X]
     rw[e];exact⟨λz=>(by cases z),λ_=>Br.no rfl ⟨_,_,rfl⟩⟩
    | some x=>
     refine⟨λ_=>?_,λz=>(by cases z)⟩
     cases o with
     | none=>
      have e:j4 (G6 b g.nm) (1+a) none low=some (x,low):=by unfold j4;rw[X]
      rw[e];refine⟨λ_=>Br.yes rfl ?_,λz=>(by cases z)⟩;exact⟨_,rfl,rfl,_,e2,_,rfl,_,rfl,rfl,rfl,rfl,rfl,_,_,rfl⟩
     | some M=>
      obtain⟨y,B⟩:=M;have e:j4 (G6 b g.nm) (1+a) (some (y,B)) low=if y<x then some (x,low) else some (y,B):=by unfold j4;rw[X]
      rw[e];refine⟨λz=>(by cases z),λ_=>⟨_,rfl,λz=>?_,λz=>?_⟩⟩
      ·have z:y<x:=wP z;rw[ry z];exact⟨_,rfl,rfl,_,e2,_,rfl,_,rfl,rfl,rfl,rfl,rfl,_,_,rfl⟩
      ·have z:¬y<x:=Rs z;rw[ro z];exact⟨_,_,rfl⟩
   ·rintro p ⟨d,c,rfl⟩;rw[dL,wE,el];show cz _ [some (bD b),some (.int m),some (.lst A),some (gD g),some (dF (G6 b g.nm)),some (.int (1+(a:Int))),some (Kt g.nm r.1.nm (T4 (G6 b g.nm) (1+a) m)),d,c];generalize T4 (G6 b g.nm) (1+a) m=o
    cases o with
    | none=>
     refine Br.no rfl ?_;rw[show A5 b g.nm none (1+a)=[] from rfl,tz];exact⟨_,_,_,_,rfl⟩
    | some M=>
     obtain⟨y,B⟩:=M;refine Br.yes rfl ?_;rw[show A5 b g.nm (some (y,B)) (1+a)=[.tup [.str g.nm,.str r.1.nm,.int y,.int B]] by unfold A5;rw[Y]];exact⟨rfl,rfl,g7 (by omega),_,_,_,_,rfl⟩
  ·rintro p ⟨v,u,d,c,rfl⟩;rw[dL,tL];exact⟨_,_,_,_,_,_,rfl⟩
 ·rintro p ⟨J,I,v,u,d,c,rfl⟩;rw[dL] ;rw[show(u3 b).take b.gs.length=u3 b from P3 (by unfold u3;rw[dL];exact oT _)];exact q
theorem Hy{cv:List Pr}{n t:Int}(h:ai cv n=some t):∃p∈cv,t=p.2:=by
 unfold ai at h;obtain⟨p,a,rfl⟩:=Option.map_eq_some_iff.mp h;exact⟨p,(List.mem_filter.mp (List.mem_of_getLast? a)).1,rfl⟩
theorem ql{b:Bd}(a:j7 b){x:Str}(c:x∈u3 b++K4 b){n t:Int}{j:Nat}(h:G3 (G6 b x) n j=some t):1<=t/\t<10^60:=by
 unfold G3 at h
 cases e:(G6 b x)[j]? with
 | none=>rw[e] at h;cases h
 | some r=>
  rw[e] at h;obtain⟨p,d,rfl⟩:=Hy (show ai r.1.cv (r.2+n)=some t from h);have:=(a.cv r.1 (fY a c (sg e)).1).2.2.1 p d;exact⟨this.2.2.1,this.2.2.2⟩
theorem um{b:Bd}(g:j7 b){x:Str}(p:x∈u3 b++K4 b){i:Nat}{m k l:Int}(h:T4 (G6 b x) i m=some (k,l)):k.natAbs<2^210/\l.natAbs<2^210:=by
 have B:=IX (G6 b x) i m;rw[h] at B;obtain⟨C,d,_⟩:=B;have big:(100*10^60:Nat)<2^210:=by decide
 refine⟨?_,?_⟩
 ·unfold K9 at d
  cases o:G3 (G6 b x) l 0 with
  | none=>rw[o] at d;cases d
  | some a=>
   cases q:G3 (G6 b x) l i with
   | none=>rw[o,q] at d;cases d
   | some c=>
    cases u:(G6 b x)[i]? with
    | none=>rw[o,q,u] at d;cases d
    | some r=>
     rw[o,q,u] at d;have j:a-(bif (G3 (G6 b x) l (i-1)).isSome then c+r.1.wa else c)+1=k:=v7 d;have H:=ql g p o;have G:=ql g p q;have E:=g.wa r.1 (fY g p (sg u)).1;generalize (G3 (G6 b x) l (i-1)).isSome=z at j;cases z
     ·have j:a-c+1=k:=j;omega
     ·have j:a-(c+r.1.wa)+1=k:=j;omega
 ·rcases((xE _ m).mem l).mp C with e | ⟨r,y,s,v,e,_⟩
  ·omega
  ·obtain⟨g1,J,I⟩:=fY g p y;have:=(g.cv r.1 g1).2.2.1 s v;omega
theorem iN{i:Int}(h:i.natAbs<2^210):(PyData.int i).weight<=210:=by
 simp only[PyData.weight];split
 ·omega
 ·have:i.natAbs.log2<210:=by
   by_cases e:i.natAbs=0
   ·rw[e];decide
   ·exact(VL e).mpr h
  omega
theorem GX{a:List D}(h:∀d∈a,∃(x y:Str) (k l:Int),d=.tup [.str x,.str y,.int k,.int l]/\nm 8 x/\nm 8 y/\k.natAbs<2^210/\l.natAbs<2^210)(c:a.length<=64):rY (.lst a):=by
 have b:∀{i:Int},i.natAbs<2^210->O9 (.int i)=true:=λ{i} h=>t6 (uy h (by decide));refine⟨?_,?_,?_⟩
 ·show fE a=true;clear c
  induction a with
  | nil=>rfl
  | cons d a g=>
   obtain⟨x,y,k,l,rfl,o,j,p,c⟩:=h d re;show(O9 (.tup [.str x,.str y,.int k,.int l])&&fE a)=true;rw[g λd hd=>h d (hQ _ hd)];show((O9 (.str x)&&(O9 (.str y)&&(O9 (.int k)&&(O9 (.int l)&&true))))&&true)=true;rw[AF o,AF j,b p,b c];rfl
 ·have:PyData.weightAll (L7 a)<=500*a.length:=by
   clear c
   induction a with
   | nil=>simp[L7,PyData.weightAll]
   | cons d a g=>
    have g:=g λd hd=>h d (hQ _ hd);obtain⟨x,y,k,l,rfl,o,j,p,c⟩:=h d re;have r:=o.2.1;have q:=j.2.1;rw[t4] at r q;have v:=iN p;have u:=iN c
    have e:(pyd (.tup [.str x,.str y,.int k,.int l])).weight=x.cps.size+1+(y.cps.size+1+((PyData.int k).weight+1+((PyData.int l).weight+1+0))):=by
     simp only[pyd,L7,PyData.weight,PyData.weightAll]
    show PyData.weightAll (pyd (.tup [.str x,.str y,.int k,.int l])::L7 a)<=_;simp only[PyData.weightAll];rw[e,vu];omega
  have e:(pyd (.lst a)).weight=PyData.weightAll (L7 a):=by simp only[pyd,PyData.weight]
  rw[e];omega
 ·refine AC (Nat.succ_le_succ (Lo (B:=1) λd hd=>?_)) (by decide);obtain⟨x,y,k,l,rfl,_⟩:=h d hd;simp[pyd,L7,PyData.depth,PyData.depthAll]
theorem Hi(ds:List D)(Q:D->Prop)(h:cb ds Q):Bc (EP Q) (g9 6 ds):=by
 obtain⟨d,ns,rfl,E,U,q⟩:=h;refine⟨d,ns,rfl,E,λb m c X T a g8 M m2 S O=>?_⟩;refine⟨rfl,rfl,rfl,?_⟩;walk_at "n";refine⟨b,rfl,a,?_⟩
 cases v:L5 b (p7 b) with
 | cons x J=>exact Br.yes rfl q
 | nil=>
  refine Br.no rfl ?_;refine⟨b,m,rfl,a,g8,?_⟩
  have o:rY (.lst ((u3 b).flatMap (p5 b m))):=by
   refine GX (λd hd=>?_) ?_
   ·obtain⟨x,u,hd⟩:=List.mem_flatMap.mp hd;have i:x∈u3 b++K4 b:=t7 _ u;obtain⟨j,_,p⟩:=List.mem_flatMap.mp hd;unfold A5 at p;split at p
    ·rename_i k l r H G
     have B:=um a i H;obtain⟨g,I,rfl⟩:=List.mem_map.mp u;exact⟨_,_,_,_,List.mem_singleton.mp p,a.nmg g I,a.nmg _ (fY a i (sg G)).1,B.1,B.2⟩
    ·cases p
   ·have:=Q9 (f:=p5 b m) (k:=8) (l:=u3 b) λz C=>jt (dO a (t7 _ C)).2;have e:(u3 b).length=b.gs.length:=dL _;omega
  generalize y:(u3 b).flatMap (p5 b m)=R at o;refine⟨o,rfl,?_⟩;walk_at "n";refine⟨b,m,rfl,a,g8,v,?_⟩;rw[y];refine⟨rfl,o,?_⟩;have no:∀s:Str,ng true (decide (s=s))=false:=λs=>by rw[t6 rfl];rfl
  have yes:∀s:Str,D.bl (ng false (decide (s=s)))=.bl true:=λs=>by rw[t6 rfl];rfl
  refine Br.no (no _) ?_;refine⟨b,m,rfl,a,g8,v,?_⟩;rw[y];refine⟨o,?_⟩;show Q (.bl (ng false (decide ((pyd (D.lst R)).shown=(pyd (D.lst R)).shown))));rw[yes];exact q
local macro_rules | `(tactic| walk_at "l")=>`(tactic| (intro _ _ h;repeat (first | exact Fa List.length h.1 | obtain⟨_,h⟩:=h)))
local macro_rules | `(tactic| walk_at "b")=>`(tactic| (intro _ _ _ _ _ _ us hl;rcases us with _ | ⟨_,_ | ⟨_,_ | ⟨_,_ | ⟨_,_ | ⟨_,_ | ⟨_,us⟩⟩⟩⟩⟩⟩<;>first | rfl | simp at hl))
def ye(K:WR):Sp:=λvs H Q _=>∃(a:Addr) (ns:WJ),vs=[.ref a]/\G7 K H a (ns.map V.int)/\ns.length<=63/\∀b,Q (.bl true) b
theorem J8{K:WR}{H:Hp}:∀ns:WJ,i5 K H (ns.map V.int) (ns.map D.int) []
 | []=>.nil
 | n::ns=>i5.cons (A:=[]) (B:=[]) .int (J8 ns)
theorem Ml{K:WR}(vs:List V)(H:Hp)(Q:VK)(E:XK)(h:ye K vs H Q E):Q0 K cb vs H Q E:=by
 obtain⟨a,ns,rfl,g,c,k⟩:=h
 have b:∀(d:D) (A:WE),Ht d ns->Rep K H (.ref a) d A->Q0 K cb [.ref a] H Q E:=λd A hd r=>
  ⟨[d],A++[],λr=>r=.bl true,.cons r .nil,⟨d,ns,rfl,hd,c,rfl⟩,λr v i B e _ rv _ _=>by
   subst e;cases Z1 rv;exact k i⟩
 rcases g with(h | ⟨o,h⟩) | h
 ·exact b _ _ (.inr rfl) (.lst h (J8 ns))
 ·exact b _ _ (.inl rfl) (.frz (.inl ⟨o,h⟩) (J8 ns))
 ·exact b _ _ (.inl rfl) (.frz (.inr h) (J8 ns))
theorem uM:B8 Q3 1:=by walk_at "l"
theorem Mw:B8 vI 2:=by walk_at "l"
theorem vi:B8 S4 2:=by walk_at "l"
theorem tI:B8 O5 1:=by walk_at "l"
theorem pR:B8 J7 1:=by walk_at "l"
theorem sZ:B8 S0 1:=by walk_at "l"
theorem rZ:B8 M9 2:=by walk_at "l"
theorem wj:B8 R7 2:=by walk_at "l"
theorem sr:B8 M4 2:=by walk_at "l"
theorem DS:B8 cm 2:=by walk_at "l"
theorem ID:∀ds Q W,fm ds Q W->ds.length=2:=λ_ _ _ ⟨_,_,e,_⟩=>Fa List.length e
theorem nW:B8 J3 2:=by walk_at "l"
theorem rO:B8 N4 3:=by walk_at "l"
theorem BS:B8 bX 3:=by walk_at "l"
theorem HL:B8 eU 1:=by walk_at "l"
theorem Dw:B8 cp 2:=by walk_at "l"
theorem Bj:B8 bJ 1:=by walk_at "l"
theorem mX:B8 J4 1:=by walk_at "l"
theorem BV:B8 bE 2:=by walk_at "l"
theorem yT:B8 Y5 2:=by walk_at "l"
theorem ug:B8 Q7 2:=by walk_at "l"
theorem fF:B8 A8 3:=by walk_at "l"
theorem vh:B8 O3 2:=by walk_at "l"
theorem zB:B8 X9 2:=by walk_at "l"
theorem Jk:B8 Z9 2:=by walk_at "l"
theorem Jj:Kd p6 2:=by walk_at "l"
theorem Fz:Kd bC 2:=by walk_at "l"
theorem AB:B8 aH 1:=by walk_at "l"
theorem uN:Kd R5 3:=by walk_at "l"
theorem zA:B8 T5 2:=by walk_at "l"
theorem Bb:B8 U5 1:=by walk_at "l"
theorem rN:B8 M8 4:=by walk_at "l"
theorem uF:B8 R8 5:=by walk_at "l"
theorem tH:B8 Q4 3:=by walk_at "l"
theorem Gy:B8 fw 2:=by walk_at "l"
theorem Dj:B8 bS 2:=by walk_at "l"
theorem BD:B8 bG 1:=by walk_at "l"
theorem zG:B8 X5 1:=by walk_at "l"
theorem Eb:B8 bM 1:=by walk_at "l"
theorem Gp:Kd ip 3:=by walk_at "l"
theorem tJ:B8 S5 1:=by walk_at "l"
theorem Iu:B8 gS 1:=by walk_at "l"
theorem AU:B8 Y1 3:=by walk_at "l"
theorem Jb:B8 iw 3:=by walk_at "l"
theorem yq:B8 Y6 2:=by walk_at "l"
theorem Du:B8 cb 1:=by walk_at "l"
theorem all_mk {l:PySem.W.OpenLaw} {w:World} {K:WR} {h:Heap} {mg:WM} {fa f1 f2 f3 f4 f5 f6 f7 f8 f9 ep eo en em ek ej ei eg ef ee ed ec eb ea e8 e4 e3 e2 e1 e0 dz dy dx dv ds dr dl dk dd dc db da d0 cr cn ck c0:Addr} (X:K.In h) (G:h.Ns mainGlobals mg) (lg:mg "law"=some (.ref fa))
  {ci bn:Option Addr} {cd:Array (WS)} {cj bg bi bb U bm:Value}
  (d1:Q5 K f1 "least_of" jh)
  (d2:Q5 K f2 "met" Ih)
  (d3:Q5 K f3 "turns_at" ic)
  (d4:Q5 K f4 "names_of" dg)
  (d5:Q5 K f5 "guards_of" eQ)
  (d6:Q5 K f6 "loads_of" iM)
  (d7:Q5 K f7 "has_guard" eM)
  (d8:Q5 K f8 "has_load" iE)
  (d9:Q5 K f9 "has_place" eL)
  (d10:Q5 K ep "climb" mY)
  (d11:Q5 K eo "over" xq)
  (d12:Q5 K en "fed_guards" bP)
  (d13:Q5 K em "draws_fed" aW)
  (d14:Q5 K ek "draws" vM)
  (d15:Q5 K ej "rest" xp)
  (d16:Q5 K ei "awake" oj)
  (d17:Q5 K eg "loud" uo)
  (d18:Q5 K ef "quiet_rest" bZ)
  (d19:Q5 K ee "way_of" eP)
  (d20:Q5 K ed "lows_of" dq)
  (d21:Q5 K ec "spans_of" jf)
  (d22:Q5 K eb "greatest_lack" U7)
  (d23:Q5 K ea "pairs_of" gW)
  (d24:Q5 K e8 "_law_cell_at" om)
  (d25:Q5 K e4 "_law_feed" Di)
  (d26:Q5 K e3 "_law_take" FG)
  (d27:Q5 K e2 "_law_names" eF)
  (d28:Q5 K e1 "_law_overs" uV)
  (d29:Q5 K e0 "_law_small_curve" df)
  (d30:Q5 K dz "_law_lifted" fS)
  (d31:Q5 K dy "_law_rest" og)
  (d32:Q5 K dx "_law_small_guards" dI)
  (d33:Q5 K dv "_law_small_loads" iJ)
  (d34:Q5 K ds "_law_small_board" cE)
  (d35:Q5 K dr "_law_path" qe)
  (d36:Q5 K dl "_law_lows" sN)
  (d37:Q5 K dk "_law_loud" sV)
  (d38:Q5 K dd "_law_places" cG)
  (d39:Q5 K dc "_law_sized" tS)
  (d40:Q5 K db "_law_most" CB)
  (d41:Q5 K da "_law_sighted" iq)
  (d42:Q5 K d0 "_law_case" DE)
  (d43:Q5 K cr "_law_turns" nD)
  (d44:Q5 K cn "_law_lack" Ff)
  (d45:Q5 K ck "_law_pairs" nQ)
  (a46:PySem.W.nsIn K mainGlobals "law"=some (some (.ref c0)))
  (l46:K.lookup c0=some ⟨cj,ci,.func (PySem.W.fnOf "law" "law" (X6 Y8) (G9 Y8) (c6 Y8) .none bg bi bb bn U bm),cd⟩) (c46:PySem.W.codeIn K U "law"=true) (k46:PySem.W.keepIn K (.ref c0)=true)
  {j:Addr}
  (xaNoPlace:PySem.W.nsIn K mainGlobals "NoPlace"=some (some (.ref j)))
  (xeNoPlace:PySem.W.excIn K j [.type "ValueError",.type "Exception",.type "BaseException",.type "object"] "ValueError.__new__"=true)
  (z1:PySem.W.nsIn K mainGlobals "len"=some none)
  (z2:PySem.W.nsIn K mainGlobals "isinstance"=some none)
  (z3:PySem.W.nsIn K mainGlobals "str"=some none)
  (z4:PySem.W.nsIn K mainGlobals "set"=some none)
  (z5:PySem.W.nsIn K mainGlobals "reversed"=some none)
  (z6:PySem.W.nsIn K mainGlobals "sorted"=some none)
  (z7:PySem.W.nsIn K mainGlobals "enumerate"=some none)
  (z8:PySem.W.nsIn K mainGlobals "range"=some none)
  (z9:PySem.W.nsIn K mainGlobals "int"=some none)
  (z10:PySem.W.nsIn K mainGlobals "list"=some none)
  (z11:PySem.W.nsIn K mainGlobals "tuple"=some none)
  (z12:PySem.W.nsIn K mainGlobals "dict"=some none)
  (z13:PySem.W.nsIn K mainGlobals "max"=some none)
  (z14:PySem.W.nsIn K mainGlobals "repr"=some none) :
  ∃fd:FuncData,(∀(s:Shared) (v:Value),BindsTo s fd ⟨[v],[]⟩ [("_law_script",v)])/\∀base:Heap,K.In base->base.Ns mainGlobals mg->p3 l.prog w K mg base M1 8 fa fd ["_law_script"] (ye K):=by
 have e:=lg.symm.trans (PySem.W.mg_of X G a46);cases e;obtain⟨rd,F1,m1,k1⟩:=d1.mk X G;have b1:=F1.binds (ps:=["curve"]) (by walk_at "b");obtain⟨rc,F2,m2,k2⟩:=d2.mk X G;have b2:=F2.binds (ps:=["curve","draw"]) (by walk_at "b");obtain⟨r9,F3,m3,k3⟩:=d3.mk X G;have b3:=F3.binds (ps:=["curve","draw"]) (by walk_at "b");obtain⟨r7,F4,m4,k4⟩:=d4.mk X G;have b4:=F4.binds (ps:=["rows"]) (by walk_at "b");obtain⟨r6,F5,m5,k5⟩:=d5.mk X G;have b5:=F5.binds (ps:=["board"]) (by walk_at "b");obtain⟨r5,F6,m6,k6⟩:=d6.mk X G;have b6:=F6.binds (ps:=["board"]) (by walk_at "b");obtain⟨r4,F7,m7,k7⟩:=d7.mk X G;have b7:=F7.binds (ps:=["board","thing"]) (by walk_at "b");obtain⟨r3,F8,m8,k8⟩:=d8.mk X G;have b8:=F8.binds (ps:=["board","thing"]) (by walk_at "b");obtain⟨r2,F9,m9,k9⟩:=d9.mk X G;have b9:=F9.binds (ps:=["board","thing"]) (by walk_at "b");obtain⟨r1,gx,i1,lf⟩:=d10.mk X G;have nl:=gx.binds (ps:=["guards","name"]) (by walk_at "b");obtain⟨r0,gw,i0,ld⟩:=d11.mk X G;have nk:=gw.binds (ps:=["board","place"]) (by walk_at "b");obtain⟨qz,gu,hz,lc⟩:=d12.mk X G;have nf:=gu.binds (ps:=["board","opened"]) (by walk_at "b");obtain⟨qy,gm,hy,lb⟩:=d13.mk X G;have nb:=gm.binds (ps:=["board","lit","pulls"]) (by walk_at "b");obtain⟨qs,gl,hx,l5⟩:=d14.mk X G;have na:=gl.binds (ps:=["board","opened","pulls"]) (by walk_at "b");obtain⟨qq,gk,hw,l2⟩:=d15.mk X G;have n8:=gk.binds (ps:=["board"]) (by walk_at "b");obtain⟨qn,gj,hv,l1⟩:=d16.mk X G;have n7:=gj.binds (ps:=["board","found"]) (by walk_at "b");obtain⟨qd,gi,hu,l0⟩:=d17.mk X G;have n6:=gi.binds (ps:=["board"]) (by walk_at "b");obtain⟨q0,gc,ht,kx⟩:=d18.mk X G;have n5:=gc.binds (ps:=["board"]) (by walk_at "b");obtain⟨py,gb,hs,kw⟩:=d19.mk X G;have n4:=gb.binds (ps:=["board","place"]) (by walk_at "b");obtain⟨px,g5,hr,kv⟩:=d20.mk X G;have n3:=g5.binds (ps:=["way","most"]) (by walk_at "b");obtain⟨pu,g3,hq,kt⟩:=d21.mk X G;have n0:=g3.binds (ps:=["way","greatness"]) (by walk_at "b");obtain⟨pp,g2,hp,ks⟩:=d22.mk X G;have my:=g2.binds (ps:=["way","at","most"]) (by walk_at "b");obtain⟨pm,g0,ho,kr⟩:=d23.mk X G;have mx:=g0.binds (ps:=["board","most"]) (by walk_at "b");obtain⟨pk,fy,hn,kl⟩:=d24.mk X G;have mv:=fy.binds (ps:=["_law_script","_law_k"]) (by walk_at "b");obtain⟨pi,fx,hm,kk⟩:=d25.mk X G;have mu:=fx.binds (ps:=["_law_script","_law_k"]) (by walk_at "b");obtain⟨ph,fv,hl,k0⟩:=d26.mk X G;have mt:=fv.binds (ps:=["_law_feed_here","_law_many"]) (by walk_at "b");obtain⟨pb,ft,hk,js⟩:=d27.mk X G;have ms:=ft.binds (ps:=["_law_feed_here","_law_many"]) (by walk_at "b");obtain⟨pa,fr,hj,jp⟩:=d28.mk X G;have mo:=fr.binds (ps:=["_law_board"]) (by walk_at "b");obtain⟨p2,fp,hi,j3⟩:=d29.mk X G;have ml:=fp.binds (ps:=["_law_feed_here","_law_unit","_law_time"]) (by walk_at "b");obtain⟨p1,fo,hh,j2⟩:=d30.mk X G;have me:=fo.binds (ps:=["_law_guard","_law_more"]) (by walk_at "b");obtain⟨p0,fl,hg,j1⟩:=d31.mk X G;have md:=fl.binds (ps:=["_law_board"]) (by walk_at "b");obtain⟨ox,fk,hf,j0⟩:=d32.mk X G;have mc:=fk.binds (ps:=["_law_script","_law_names_here","_law_unit","_law_time"]) (by walk_at "b");obtain⟨ov,fj,he,ix⟩:=d33.mk X G;have mb:=fj.binds (ps:=["_law_script","_law_names_here","_law_guards","_law_unit","_law_time"]) (by walk_at "b");obtain⟨op,fi,hc,iv⟩:=d34.mk X G;have ma:=fi.binds (ps:=["_law_script","_law_unit","_law_time"]) (by walk_at "b");obtain⟨ol,fc,hb,iu⟩:=d35.mk X G;have m0:=fc.binds (ps:=["_law_board","_law_place"]) (by walk_at "b");obtain⟨oe,fb,ha,it⟩:=d36.mk X G;have ly:=fb.binds (ps:=["_law_path_here","_law_most_here"]) (by walk_at "b");obtain⟨od,f0,h9,io⟩:=d37.mk X G;have lx:=f0.binds (ps:=["_law_board"]) (by walk_at "b");obtain⟨oc,ez,h8,im⟩:=d38.mk X G;have lw:=ez.binds (ps:=["_law_board"]) (by walk_at "b");obtain⟨o2,ey,h7,il⟩:=d39.mk X G;have lv:=ey.binds (ps:=["_law_script"]) (by walk_at "b");obtain⟨o1,ew,h6,ik⟩:=d40.mk X G;have lr:=ew.binds (ps:=["_law_feed_here","_law_path_here","_law_unit"]) (by walk_at "b");obtain⟨o0,ev,h5,ii⟩:=d41.mk X G;have ln:=ev.binds (ps:=["_law_board"]) (by walk_at "b");obtain⟨ny,et,h4,ih⟩:=d42.mk X G;have lm:=et.binds (ps:=["_law_script"]) (by walk_at "b");obtain⟨nw,es,h3,ig⟩:=d43.mk X G;have ll:=es.binds (ps:=["_law_path_here","_law_at","_law_greatness"]) (by walk_at "b");obtain⟨nv,er,h2,id⟩:=d44.mk X G;have lj:=er.binds (ps:=["_law_path_here","_law_at","_law_greatness"]) (by walk_at "b");obtain⟨np,eq,h1,i2⟩:=d45.mk X G;have li:=eq.binds (ps:=["_law_board","_law_most_here"]) (by walk_at "b");have nn:=Ce (st:=Y8) l46 c46 k46;have q1:=wr X G z1;have q2:=wr X G z2;have q3:=wr X G z3;have q4:=wr X G z4;have q5:=wr X G z5;have q6:=wr X G z6;have q7:=wr X G z7;have q8:=wr X G z8;have q9:=wr X G z9;have ch:=wr X G z10;have T:=wr X G z11;have cf:=wr X G z12;have ce:=wr X G z13;have h0:=wr X G z14;have bv:=PySem.W.mg_of X G xaNoPlace;refine⟨PySem.W.fnOf "law" "law" (X6 Y8) (G9 Y8) (c6 Y8) .none bg bi bb bn U bm,λs v=>.of_eq rfl,λbase KB GB=>?_⟩;have R:pF l.prog w K mg base f1 _:=⟨yK F1 uM zC,m1,k1,b1⟩
 have gy:Pe l.prog w K mg base f2 _:=⟨Qp F2 q1 Mw Pp,m2,k2,b2⟩
 have C:si l.prog w K mg base f3 _:=⟨zU F3 gy vi yu,m3,k3,b3⟩
 have o:iz l.prog w K mg base f4 _:=⟨yQ F4 tI zp,m4,k4,b4⟩
 have d:dU l.prog w K mg base f5 _:=⟨sL F5 o pR sU,m5,k5,b5⟩
 have Q:rV l.prog w K mg base f6 _:=⟨yM F6 o sZ Ad,m6,k6,b6⟩
 have y:lB l.prog w K mg base f7 _:=⟨wq F7 d q2 q3 rZ vt,m7,k7,b7⟩
 have S:qV l.prog w K mg base f8 _:=⟨Aa F8 Q q2 q3 wj zM,m8,k8,b8⟩
 have x:lu l.prog w K mg base f9 _:=⟨tM F9 y S sr uL,m9,k9,b9⟩
 have ap:EX l.prog w K mg base ep _:=⟨HU gx DS Gm,i1,lf,nl⟩
 have c3:Lw l.prog w K mg base "over" 5 ["board","place"] (OS K mg fm) eo _:=⟨KY gw x ap (PySem.W.Oz KB GB xaNoPlace xeNoPlace) ID MZ,i0,ld,nk⟩
 have r:iT l.prog w K mg base en _:=⟨pM gu q4 nW oH,hz,lc,nf⟩
 have z:kB l.prog w K mg base em _:=⟨uz gm q5 rO sM,hy,lb,nb⟩
 have ao:AX l.prog w K mg base ek _:=⟨Hu gl r z BS HZ,hx,l5,na⟩
 have Y:Fv l.prog w K mg base ej _:=⟨MK gk ao HL NT,hw,l2,n8⟩
 have b0:DR l.prog w K mg base ei _:=⟨Ia gj R Dw Ha,hv,l1,n7⟩
 have an:DF l.prog w K mg base eg _:=⟨Hb gi Y b0 Bj Ir,hu,l0,n6⟩
 have p:hW l.prog w K mg base ef _:=⟨oK gc Y an mX se,ht,kx,n5⟩
 have a5:Cr l.prog w K mg base ee _:=⟨Gn gb c3 p BV IT,hs,kw,n4⟩
 have a3:ya l.prog w K mg base ed _:=⟨DY g5 q4 q6 yT CQ,hr,kv,n3⟩
 have E:qM l.prog w K mg base ec _:=⟨zY g3 C q7 ug zP,hq,kt,n0⟩
 have g:bw l.prog w K mg base eb _:=⟨iW g2 a3 E fF jc,hp,ks,my⟩
 have O:qX l.prog w K mg base ea _:=⟨yA g0 d a5 g q1 q8 vh zE,ho,kr,mx⟩
 have a4:xT l.prog w K mg base e8 _:=⟨Ak fy q1 zB Cj,hn,kl,mv⟩
 have i:kT l.prog w K mg base e4 _:=⟨Nx fx a4 Jk Lh,hm,kk,mu⟩
 have a:cW l.prog w K mg base e3 _:=⟨Mj fv Jj NU,hl,k0,mt⟩
 have ad:CA l.prog w K mg base e2 _:=⟨Jy ft a q9 ch q8 Fz Ju,hk,js,ms⟩
 have B:vV l.prog w K mg base e1 _:=⟨IM fr AB Jx,hj,jp,mo⟩
 have I:oW l.prog w K mg base e0 _:=⟨zr fp a q8 T uN zS,hi,j3,ml⟩
 have q:oi l.prog w K mg base dz _:=⟨DJ fo T zA DZ,hh,j2,me⟩
 have c:hV l.prog w K mg base dy _:=⟨Je fl B cf q9 Bb JA,hg,j1,md⟩
 have u:km l.prog w K mg base dx _:=⟨tq fk i a I q9 q1 q8 rN vW,hf,j0,mc⟩
 have H:qi l.prog w K mg base dv _:=⟨yi fj i a q1 q8 T uF zd,he,ix,mb⟩
 have J:rH l.prog w K mg base ds _:=⟨yJ fi i a ad q c u H T tH yN,hc,iv,ma⟩
 have a1:Fx l.prog w K mg base dr _:=⟨Mf fc B c cf Gy Na,hb,iu,m0⟩
 have al:CD l.prog w K mg base dl _:=⟨JB fb ch q6 Dj IP,ha,it,ly⟩
 have am:AE l.prog w K mg base dk _:=⟨Hf f0 c BD FY,h9,io,lx⟩
 have a0:wC l.prog w K mg base dd _:=⟨BQ ez zG Ds,h8,im,lw⟩
 have ac:DX l.prog w K mg base dc _:=⟨IV ey i a J Eb HN,h7,il,lv⟩
 have c5:Ky l.prog w K mg base db _:=⟨Nz ew a q1 ce Gp ND,h6,ik,lr⟩
 have M:oF l.prog w K mg base da _:=⟨yt ev q c ce T tJ zQ,h5,ii,ln⟩
 have cc:Kz l.prog w K mg base d0 _:=⟨NQ et i a a1 a0 ac c5 M q1 Iu NN,h4,ih,lm⟩
 have ab:Dg l.prog w K mg base cr _:=⟨Ip es q1 AU Gw,h3,ig,ll⟩
 have ca:Kp l.prog w K mg base cn _:=⟨MG er ab Jb Ly,h2,id,lj⟩
 have a2:xM l.prog w K mg base ck _:=⟨Av eq a1 al ca q1 q8 yq Cb,h1,i2,li⟩
 exact(He nn O am cc a2 h0 Du Hi).imp Ml
theorem walk{l:PySem.W.OpenLaw}{q:Program}{loose:WG}{XP:(WM)->Heap->Prop}{YP:World->Heap->Prop}{d:DefRec}{K:Params->WR}(hn:l.most=some 63)(hdf:d.params.defaults=[])
  (hY:∀(w:World) (h:Heap),YP w h->(K w.params).In h)
  (F:∀(w:World) (mg:WM) (fa:Addr) (h:Heap),(K w.params).In h->h.Ns mainGlobals mg->mg d.name=some (.ref fa) ->
   ∃fd:FuncData,(∀(s:Shared) (u:Value),BindsTo s fd ⟨[u],[]⟩ [("_law_script",u)])/\∀base:Heap,(K w.params).In base->base.Ns mainGlobals mg->p3 l.prog w (K w.params) mg base M1 8 fa fd ["_law_script"] (ye (K w.params))) :
  PySem.W.WalkO q loose XP YP l.row.toRowW d [] (λf vs=>PySem.call f vs):=
 L2.IC (n:=63) (k:=8) (x:="_law_script") (CX:=λ_=>M1) (sp:=λw=>ye (K w.params)) hn (by decide) hdf ⟨rfl,by decide,by decide,rfl⟩ hY F (λ_ _ a ns hl _ hS=>⟨a,ns,rfl,hS,hl,λ_=>rfl⟩) λ_ _ _ _ _ z=>z
end My
end
open PySem PySem.W PyProof.Rows
local macro_rules | `(tactic| walk_at "d")=>`(tactic| exact⟨by k_is,_,_,_,_,_,_,_,_,_,by k_is,by k_is,by k_is⟩)
set_option maxRecDepth 100000 in
set_option maxHeartbeats 0 in
theorem PySem.Challenge.cw_fuseboard_k48_pairs_reckoned_holds : PySem.Challenge.rw_fuseboard_k48_pairs_reckoned.Holds := by
 w_on;o_law;k_head;(case hw=>w_witness2)
 k_fill
 refine My.walk (l:=PySem.Challenge.rw_fuseboard_k48_pairs_reckoned) rfl rfl (λw h Y=>PySem.W.kIn_of Y) ?F
 case F=>
  intro w mg fa h KX G hmg
  refine' My.all_mk KX G hmg ?d1 ?d2 ?d3 ?d4 ?d5 ?d6 ?d7 ?d8 ?d9 ?d10 ?d11 ?d12 ?d13 ?d14 ?d15 ?d16 ?d17 ?d18 ?d19 ?d20 ?d21 ?d22 ?d23 ?d24 ?d25 ?d26 ?d27 ?d28 ?d29 ?d30 ?d31 ?d32 ?d33 ?d34 ?d35 ?d36 ?d37 ?d38 ?d39 ?d40 ?d41 ?d42 ?d43 ?d44 ?d45 ?a46 ?l46 ?c46 ?k46 ?xaNoPlace ?xeNoPlace ?z1 ?z2 ?z3 ?z4 ?z5 ?z6 ?z7 ?z8 ?z9 ?z10 ?z11 ?z12 ?z13 ?z14
  (case d1=>walk_at "d")
  (case d2=>walk_at "d")
  (case d3=>walk_at "d")
  (case d4=>walk_at "d")
  (case d5=>walk_at "d")
  (case d6=>walk_at "d")
  (case d7=>walk_at "d")
  (case d8=>walk_at "d")
  (case d9=>walk_at "d")
  (case d10=>walk_at "d")
  (case d11=>walk_at "d")
  (case d12=>walk_at "d")
  (case d13=>walk_at "d")
  (case d14=>walk_at "d")
  (case d15=>walk_at "d")
  (case d16=>walk_at "d")
  (case d17=>walk_at "d")
  (case d18=>walk_at "d")
  (case d19=>walk_at "d")
  (case d20=>walk_at "d")
  (case d21=>walk_at "d")
  (case d22=>walk_at "d")
  (case d23=>walk_at "d")
  (case d24=>walk_at "d")
  (case d25=>walk_at "d")
  (case d26=>walk_at "d")
  (case d27=>walk_at "d")
  (case d28=>walk_at "d")
  (case d29=>walk_at "d")
  (case d30=>walk_at "d")
  (case d31=>walk_at "d")
  (case d32=>walk_at "d")
  (case d33=>walk_at "d")
  (case d34=>walk_at "d")
  (case d35=>walk_at "d")
  (case d36=>walk_at "d")
  (case d37=>walk_at "d")
  (case d38=>walk_at "d")
  (case d39=>walk_at "d")
  (case d40=>walk_at "d")
  (case d41=>walk_at "d")
  (case d42=>walk_at "d")
  (case d43=>walk_at "d")
  (case d44=>walk_at "d")
  (case d45=>walk_at "d")
  (case a46|l46|c46|k46|xaNoPlace=>k_is)
  (case xeNoPlace=>first | kernel_rfl | k_qdec | decide +kernel)
  (case z1|z2|z3|z4|z5|z6|z7|z8|z9|z10|z11|z12|z13|z14=>k_is)
#print axioms PySem.Challenge.cw_fuseboard_k48_pairs_reckoned_holds
