import PyProof.Rows.All
import Wide.All
import OpenK.AllK
import Wide.FinOn
import Lean
import PyProof.EqAt
import PyProof.EqKinds
import PyProof.TupleCall
import PyProof.NeKinds
import PyProof.WalksEnum
import PyProof.EnumMake
import PyProof.ZipIter
import PyProof.Draws
import PyProof.DictIter
import PyProof.DictWalks
import PyProof.Rows.DictUnroll
import PyProof.DictCompW
import PyProof.ReprRoads
import PyProof.ReprLen
import PyProof.P3Eq
import PyProof.Rows.FStr
import PyProof.Rows.StrSplitAre
import PyProof.Rows.StrItems
import PyProof.Rows.FStrParts
import KE.KIntText
import PyProof.StrWalks
import PyProof.MeetsStr
import PyProof.StationsW
import PyProof.Rows.TopTwo
import PyProof.RulesAs
import PyProof.RulesDel
import PyProof.ExcArgs
import OpenK.KOwn
import KE.KRevIter
import PyProof.Rows.StrLen
import PyProof.SliceStr2
import PyProof.StrBlockI
import KE.KDictOf
import PyProof.AttrMissSeq
import KE.KRevSl
import PyProof.Rows.SetFrom
import PyProof.WalksMore
import PyProof.SetRoads
import KE.KEqDict
import PyProof.Rows.SumAny
import PyProof.InstStore
import PyProof.InstStoreFacts
import KE.KDictList
import PyProof.Rows.SortWalk
import PyProof.SetKind
import PyProof.MinMaxWalk
import PyProof.Rows.ReprOcc
import PyProof.StrLawsTight
import PySem.Challenge.RW_fuseboard_k14_things_of_any_kind
set_option Elab.async false
set_option linter.all false
set_option genSizeOf false
set_option genSizeOfSpec false
set_option maxRecDepth 100000
abbrev GA:=List (PySem.Addr×PySem.Obj)
abbrev GC:=List (Option Nat)
abbrev GD:=List (PySem.Str×PySem.Addr)
abbrev GF:=List (PySem.Str×PySem.Value)
abbrev GG:=List PySem.Addr
abbrev GH:=List PySem.Str
abbrev GI:=List PySem.Value
abbrev GJ:=List PySem.Expr
abbrev GK:=List Int
abbrev GL:=List Nat
abbrev GM:=Array PySem.Value
abbrev GN:=PySem.Str->Option PySem.Value
abbrev GO:=List PySem.Stmt
abbrev GP:=PySem.Value->PySem.Shared->Prop
abbrev GQ:=Nat->List PySem.Addr
abbrev GR:=PySem.W.Frag
abbrev GS:=Option PySem.Value
abbrev GU:=Option Nat
abbrev cB:=@PySem.wpAny_bind
abbrev cC:=@PySem.Heap.get?_push_of_some
abbrev dL:=@PySem.wpAny_pure
abbrev eH:=@Bool.and_eq_true
abbrev hD:=@decide_eq_true
abbrev hH:=@List.mem_append_right
abbrev hI:=@Nat.le_refl
abbrev hL:=@decide_eq_false
abbrev hW:=@PySem.Heap.lt_size
abbrev kt:=@Bool.false_ne_true
abbrev kv:=@PyProof.Rows.boot_isinstance
abbrev lc:=@List.nodup_nil
abbrev lf:=@List.mem_cons_of_mem
abbrev lm:=@List.mem_cons_self
abbrev ln:=@if_neg
abbrev lv:=@Nat.lt_of_lt_of_le
abbrev lw:=@List.size_toArray
abbrev l7:=@if_pos
abbrev me:=@PySem.Heap.get?_push_size
abbrev mo:=@List.length_map
abbrev mr:=@List.mem_append_left
abbrev mu:=@PyProof.Rows.boot_tuple
abbrev mv:=@List.getElem?_eq_getElem
abbrev mC:=@Nat.ne_of_lt
abbrev na:=@List.length_cons
abbrev nb:=@List.mem_of_getElem?
abbrev nj:=@List.map_cons
abbrev nl:=@Classical.choose_spec
abbrev nv:=@Bool.true_and
abbrev nw:=@PySem.boot_len
abbrev nA:=@List.getElem?_set_ne
abbrev nT:=@List.length_append
abbrev n4:=@List.append_nil
abbrev n7:=@of_decide_eq_true
abbrev og:=@PySem.W.mg_none_of
abbrev ol:=@Nat.le_trans
abbrev op:=@List.lookup_cons
abbrev oD:=@Option.some.inj
abbrev o0:=@List.length_singleton
abbrev o1:=@PySem.wpAny_mono
abbrev pp:=@List.getElem?_append_left
abbrev pu:=@PySem.wpAny_field
abbrev p0:=@List.getElem?_set_self
abbrev qc:=@PySem.wpAny_newObj_type
abbrev qq:=@List.getElem?_map
abbrev qs:=@PySem.wpAny_holding
abbrev qz:=@PySem.W.kia_one
abbrev q0:=@PySem.Heap.get?_update_other
abbrev rc:=@Nat.le_of_ble_eq_true
abbrev re:=@PyProof.Rows.slot_tuple_getitem
abbrev rm:=@PySem.W.mg_of
abbrev ry:=@List.find?_cons
abbrev rz:=@PySem.wpAny_callSpecial?_slot
abbrev sd:=@PySem.sizeLine_eq
abbrev sf:=@List.drop_eq_getElem_cons
abbrev sm:=@PySem.PassesOwn.never
abbrev sw:=@PySem.F.excBase_ValueError
abbrev sK:=@List.getElem?_append_right
abbrev ti:=@PySem.wpAny_truthy_bool
abbrev tt:=@Ne.symm
abbrev tz:=@congrArg
abbrev tL:=@List.getElem?_of_mem
abbrev t4:=@PySem.Heap.get?_update_self
abbrev t5:=@PySem.wpAny_call_entry
abbrev t6:=@PySem.Obj.data_mapFields
abbrev t7:=@List.map_append
abbrev ud:=@List.filterMap_cons
abbrev ut:=@PySem.Heap.size_push
abbrev u8:=@List.not_mem_nil
abbrev vc:=@List.length_take
abbrev vr:=@of_decide_eq_false
abbrev vu:=@PySem.wpAny_seqItems
abbrev vv:=@Nat.zero_le
abbrev v1:=@List.Sublist.refl
abbrev v2:=@PySem.Obj.isFreed_of_fields
abbrev v3:=@List.any_cons
abbrev v4:=@List.all_cons
abbrev v5:=@PySem.mem_of_lookup
abbrev v6:=@Array.length_toList
abbrev wf:=@PySem.wpAny_loadPart_at
abbrev wh:=@List.getElem?_cons_succ
abbrev wl:=@Bool.false_and
abbrev wn:=@Nat.ne_of_gt
abbrev wr:=@List.sublist_cons_self
abbrev ws:=@Bool.or_eq_true
abbrev wv:=@Nat.lt_irrefl
abbrev ww:=@PyProof.Rows.callWith_type1
abbrev wE:=@List.take_add_one
abbrev wP:=@PySem.wpAny_setField_rec
abbrev wS:=@PySem.wpAny_passesOwn
abbrev wT:=@List.drop_length
abbrev xz:=@PySem.F.slot_tuple_iterator_next
abbrev xL:=@Nat.lt_of_le_of_lt
abbrev x0:=@PySem.wpAny_standAt
abbrev x2:=@PyProof.Rows.boot_repr
abbrev At:=@List.take_of_length_le
abbrev AC:=@List.map_map
abbrev AT:=@List.append_assoc
abbrev A1:=@PySem.wpAny_execs_nil
abbrev Ch:=@PySem.tupleKind_room_in1
abbrev Da:=@PySem.F.slot_dict_get
abbrev Db:=@PySem.wpAny_loadPart
abbrev Do:=@List.mem_of_mem_take
abbrev EQ:=@PySem.wpAny_call
abbrev ER:=@if_true
abbrev ES:=@Nat.le_of_lt
abbrev ET:=@Nat.le_of_eq
abbrev EU:=@PySem.wpAny_attempt
abbrev EV:=@if_false
abbrev EW:=@PySem.codeAny_call_builtin
abbrev EX:=@PySem.Heap.get?_none_of_le
abbrev EY:=@Bool.false_eq_true
abbrev EZ:=@List.sublist_append_right
abbrev Fa:=@PySem.wpAny_isSubtype_exc
abbrev Fb:=@List.reverse_cons
abbrev Fc:=@Int.toNat_natCast
abbrev Fd:=@PySem.wpAny_typeOf
abbrev Fe:=@PySem.codeAny_mono
abbrev Ff:=@PySem.F.args_tuple_add_2
abbrev Fg:=@List.sublist_append_left
abbrev Fh:=@PySem.wpAny_Call_Name_kw
abbrev Fi:=@PySem.W.looks_findIn
abbrev Fj:=@PySem.F.entry_tuple_add
abbrev Fk:=@PySem.F.args_dict_get_3
abbrev Fm:=@List.take_length
abbrev Fp:=@List.nil_sublist
abbrev Fq:=@List.length_drop
abbrev Fs:=@PySem.F.slot_tuple_add
abbrev Ft:=@PySem.F.entry_dict_get
abbrev Fu:=@PyProof.Rows.boot_bool
abbrev Fv:=@Nat.zero_add
abbrev Fw:=@List.mem_append
abbrev Fx:=@List.length_nil
abbrev Fy:=@Bool.eq_iff_iff
abbrev Fz:=@PySem.wpAny_onRaise
abbrev FA:=@Bool.and_false
abbrev FC:=@Bool.and_assoc
abbrev FD:=@PySem.W.looks_clsIn
abbrev FE:=@PySem.F.slot_zip_next
abbrev FF:=@List.contains_cons
abbrev FG:=@Int.emod_lt_of_pos
abbrev FH:=@PySem.wpAny_updateSeq_pair
abbrev FJ:=@PySem.wpAny_setField
abbrev FK:=@PySem.W.kitx_list
abbrev FL:=@PySem.W.kitx_dict
abbrev FM:=@Option.isSome_map
abbrev FN:=@List.length_range
abbrev FO:=@PySem.Calls.evalArgs_plain
abbrev FP:=@Bool.or_true
abbrev FQ:=@Option.bind_some
abbrev FR:=@Nat.le_add_right
abbrev FS:=@List.cons_append
abbrev FT:=@PySem.Paired.length
abbrev FU:=@Nat.le_succ
abbrev FV:=@PySem.wpAny_rule
abbrev FW:=@List.of_mem_zip
abbrev FX:=@List.nil_append
abbrev FY:=@List.forIn_cons
abbrev FZ:=@Int.emod_nonneg
abbrev Ga:=@PySem.Code.quiet_builtin
abbrev Gb:=@PySem.Calls.spliced_cons
abbrev Gc:=@PySem.wpAny_sequenceKey
abbrev Ge:=@PySem.wpAny_pyIter_list
abbrev Gf:=@List.getD_eq_getElem?_getD
noncomputable section
namespace PySem.W.Fast
def tw14788303605544220036:=()
def tw11722667714369128365:=()
def tw7923307890664442409:=()
def tw282577942618853677:=()
def tw14258797931329545112:=()
def tw4389392080172980854:=()
def tw16378528218684486579:=()
def tw1900614130943339351:=()
def tw4195690366183426316:=()
def tw4097291566041302779:=()
def tw16909860859971308336:=()
def tw11827896511953571970:=()
def tw14827725052568521126:=()
def tw12891873153921386465:=()
def tw3618440280282013967:=()
def tw12488811168533373381:=()
def tw13786456983399464280:=()
def tw10813037466986909539:=()
def tw12015518383539265111:=()
def tw15550138209826192507:=()
def tw10537329142682917317:=()
def tw5603307783797211327:=()
def tw3706419792932287365:=()
def tw1275890469327009043:=()
def tw10892359085383478904:=()
def tw3939444512621008228:=()
def tw18089774481428237351:=()
def tw9220360322229055606:=()
def tw15014328775918170936:=()
def tw14328856092218877212:=()
def tw10752915097681473849:=()
def tw17233514522112951737:=()
def tw14364993227617636713:=()
def tw16945999932930040558:=()
def tw17620660326756201614:=()
def tw11632243807042792697:=()
def tw10969839665186174288:=()
def tw2220739183418808302:=()
def tw3005723586961795353:=()
def tw8566175355067298656:=()
def tw6530195606600196446:=()
def tw8867509634869346041:=()
def tw13676521869753143648:=()
def tw10248763809110509250:=()
def tw14987666039731545604:=()
def tw10591035713308674433:=()
def tw17472794792181697556:=()
def tw5158704939317468517:=()
def tw8388445631456327926:=()
def tw9399342228300082206:=()
def tw12447574466333664885:=()
def tw15413670216136676748:=()
def tw15715420782991582675:=()
def tw7486712557043570789:=()
def tw15477804112209128882:=()
def tw17384544636965672279:=()
def tw3539395706760388633:=()
def tw13799029757178005211:=()
def tw4477366788306261606:=()
def tw16837229841325696608:=()
def tw9486114834842771826:=()
def tw4278701648216279413:=()
def tw14092216328312353278:=()
def tw9861145688906708650:=()
def tw17402106177310199610:=()
def tw1687148452529448614:=()
def tw2714295202085941169:=()
def tw17757157626661446001:=()
def tw5308981208627553503:=()
def tw10266197631504994677:=()
def tw1319026598481802817:=()
def tw3510452417597530106:=()
def tw10799688180208892396:=()
def tw14036094798403427857:=()
def tw15533098354934470291:=()
def tw11192717820631532428:=()
def tw2034445101728984724:=()
def tw13370748985013172528:=()
def tw126252576938769782:=()
def tw16899762166461092676:=()
def tw17029377938439841095:=()
def tw13984724610649256753:=()
def tw12281523393764979039:=()
def tw14068892555742564973:=()
def tw577139744881014920:=()
def tw12640548211643185154:=()
def tw8934413002951673944:=()
def tw12437332648761237799:=()
def tw2369148580659685387:=()
def tw10687074910159176010:=()
def tw2165207816510033311:=()
def tw16102998720514511387:=()
def tw12808249575904910267:=()
def tw8889007446134470422:=()
def tw1890315708849536820:=()
def tw13151923415187911853:=()
def tw12586671963935614024:=()
def tw12612772779370766209:=()
def tw7586047035682206492:=()
def tw1959048716111535909:=()
def tw1309618506793689190:=()
def tw4268250093299910159:=()
def tw8470403899023449662:=()
def tw15458642565364584773:=()
def tw3697284592694169620:=()
def tw2281915161521029903:=()
def tw12026662860875129692:=()
def tw9325252495999550400:=()
def tw11701370010275291429:=()
def tw1469587246563457049:=()
def tw853457071374192750:=()
def tw656666037179725425:=()
def tw12737841550132815518:=()
def tw8048209372042511130:=()
def tw17127537329614869988:=()
def tw8792136256235879803:=()
def tw4307935270633412587:=()
def tw8454062193280795033:=()
def tw282797478768738170:=()
def tw1721025917448717975:=()
def tw17153255203271041450:=()
def tw7564289082692737471:=()
def tw16679283931736930714:=()
def tw17642844193947953603:=()
def tw15793649246012945975:=()
def tw2108262929727741908:=()
def tw4801575099825553928:=()
def tw7276000793952653264:=()
def tw11812543651563405080:=()
def tw11135634341212202629:=()
def tw5771114754967355482:=()
def tw10264519961628012891:=()
def tw12122271936669516908:=()
def tw12579373967279797785:=()
def tw4280064832710873701:=()
def tw2766486603241066875:=()
def tw12344377731289364283:=()
def tw2292135226099540584:=()
def tw2572665702020798527:=()
def tw1672280980318770918:=()
def tw1885867268969982988:=()
def tw13439937515057249480:=()
def tw12675769468407075194:=()
def tw10054125085850930456:=()
def tw14990685724981117767:=()
def tw17132802748176242577:=()
def tw6603965479347361932:=()
def tw4507394040517832092:=()
def tw2324933664325059686:=()
def tw11031860868045520968:=()
def tw14040264322884155847:=()
def tw7437326509768299964:=()
def tw6831609160498257570:=()
def tw1547409678053575192:=()
def tw7589817255741746485:=()
def tw4282644961042067394:=()
def tw2122246029873053046:=()
def tw7518554490381218269:=()
def tw2552211841758369306:=()
def tw2360315313998853337:=()
def tw13469430054967348255:=()
def tw15496979021024233168:=()
def tw16852266858153061676:=()
def tw16504022666073459008:=()
def tw7732674956811337604:=()
def tw3500487524073871182:=()
def tw11573198379132108207:=()
def tw13902942945586432176:=()
def tw8430404032337381052:=()
def tw5400541303791863650:=()
def tw9949945069006668781:=()
def tw17621929526005346519:=()
def tw14735630728975820753:=()
def tw12969218335468100417:=()
def tw17222265480071735919:=()
def tw5433057441541738601:=()
def tw3676836411513935554:=()
def tw11360087736804585001:=()
def tw11166170721474658202:=()
def tw122086650503364712:=()
def tw14381490535310787231:=()
def tw8177652002549743106:=()
def tw6286620025384129382:=()
def tw2452317168571406810:=()
def tw13136886857296996410:=()
def tw15359790499584499318:=()
def tw9935581758951192889:=()
def tw10463697484487734974:=()
def tw254967197425330342:=()
def tw17719195614792173492:=()
def tw11371166389587702607:=()
def tw9721026998206933561:=()
def tw18004039699084856159:=()
def tw8061742205421314681:=()
def tw9750795732070703870:=()
def tw14023022759498379909:=()
def tw11983783953440326928:=()
def tw4746793204091280976:=()
def tw14985769952021863521:=()
def tw12099507589662043579:=()
def tw10515332033065109857:=()
def tw3941434008382811076:=()
def tw16150039981153751907:=()
def tw7768034178623430018:=()
def tw5730117125263924831:=()
def tw11695190741936206356:=()
def tw5800748305906523215:=()
def tw8028819434750579527:=()
def tw16559407603416211879:=()
def tw15319404066105979140:=()
def tw15142051199027894470:=()
def tw5540433345607568594:=()
def tw16174980851679985290:=()
def tw8093692178049722319:=()
def tw13743556466625373067:=()
def tw17944747002792003688:=()
def tw14988557316728864633:=()
def tw941046241382153536:=()
def tw11043781457687487960:=()
def tw13685723886297283035:=()
def tw604925972607988664:=()
def tw7681818885851035020:=()
def tw46894335075502496:=()
def tw16811051314305042764:=()
def tw3619854272889536756:=()
def tw6736607630849142248:=()
def tw4535043025077220020:=()
def tw6713195609038635641:=()
def tw15133356463778236783:=()
def tw345586704395017840:=()
def tw1282178362649671475:=()
def tw7856695218377422828:=()
def tw8660968039320109074:=()
def tw18240695253909309304:=()
def tw10621495878470926314:=()
def tw17403030686192990946:=()
def tw13232962369890238059:=()
def tw4642147052470357158:=()
def tw12479499489389442397:=()
def tw18216319589279320898:=()
def tw14307001936092458719:=()
def tw12804628782481710361:=()
def tw6295345479086192927:=()
def tw5588191026536721817:=()
def tw5186145923558490522:=()
def tw16128466929291073926:=()
def tw936857821366097999:=()
def tw12304444990260382365:=()
def tw15432943761048753043:=()
end PySem.W.Fast
namespace L2
open PySem PySem.Spec PyProof.Rows
abbrev Key:=Sum Int Str
def aU:Key->Value->Bool
 | .inl k,v=>Value.isInt k v
 | .inr x,v=>Value.isStrOf x v
def AU(w:World):Key->Int
 | .inl k=>hashInt k
 | .inr x=>hashStr w x
theorem l6:∀{k:Key} {v:Value},aU k v=true->(∃i t,k=Sum.inl i/\v=Value.int i t)\/(∃x t,k=Sum.inr x/\v=Value.str x t)
 | .inl i,v,h=>by
  obtain⟨t,e⟩:=Value.isInt_shape (k:=i) (v:=v) h;exact .inl ⟨i,t,rfl,e⟩
 | .inr x,v,h=>by
  obtain⟨t,e⟩:=Value.isStrOf_shape (x:=x) (v:=v) h;exact .inr ⟨x,t,rfl,e⟩
theorem qL(i:Int)(t:Tok):aU (.inl i) (.int i t)=true:=by simp[aU,Value.isInt]
theorem pC(x:Str)(t:Tok):aU (.inr x) (.str x t)=true:=by simp[aU,Value.isStrOf]
theorem zO(a b:Int):decide ((Sum.inl a:Key)=Sum.inl b)=(a == b):=by
 by_cases e:a=b
 ·subst e;simp
 ·have h:¬(Sum.inl a:Key)=Sum.inl b:=λq=>e (Sum.inl.inj q);rw[hL h];exact(beq_eq_false_iff_ne.mpr e).symm
theorem zr(a b:Str):decide ((Sum.inr a:Key)=Sum.inr b)=decide (a=b):=by
 by_cases e:a=b
 ·subst e;simp
 ·have h:¬(Sum.inr a:Key)=Sum.inr b:=λq=>e (Sum.inr.inj q);rw[hL h,hL e]
theorem zY(a:Int)(b:Str):decide ((Sum.inl a:Key)=Sum.inr b)=false:=hL (λq=>nomatch q)
theorem yJ(a:Str)(b:Int):decide ((Sum.inr a:Key)=Sum.inl b)=false:=hL (λq=>nomatch q)
def n8(prog:Program)(w:World):PySem.KeyKind prog w Key where
 is:=aU
 hash:=AU w
 inj:=λv a b o g=>by
  rcases l6 o with⟨i,t,rfl,rfl⟩ | ⟨x,t,rfl,rfl⟩
  ·rcases l6 g with⟨j,u,rfl,e⟩ | ⟨y,u,rfl,e⟩
   ·injection e with c _;rw[c]
   ·exact nomatch e
  ·rcases l6 g with⟨j,u,rfl,e⟩ | ⟨y,u,rfl,e⟩
   ·exact nomatch e
   ·injection e with c _;rw[c]
 byValue:=λk v h=>by
  rcases l6 h with⟨i,t,rfl,rfl⟩ | ⟨x,t,rfl,rfl⟩<;>rfl
 pyHash:=λd h=>by
  rcases l6 d with⟨i,t,rfl,rfl⟩ | ⟨x,t,rfl,rfl⟩
  ·exact wpAny_pyHash_int h
  ·exact wpAny_pyHash_str h
 eqBool:=λl d h=>by
  rcases l6 l with⟨i,t,rfl,rfl⟩ | ⟨x,t,rfl,rfl⟩
  ·rcases l6 d with⟨j,u,rfl,rfl⟩ | ⟨y,u,rfl,rfl⟩
   ·rw[zO] at h;exact wpAny_eqBool_int h
   ·rw[zY] at h;exact SeqAt.EqAt.int_str i t y u _ _ _ _ h
  ·rcases l6 d with⟨j,u,rfl,rfl⟩ | ⟨y,u,rfl,rfl⟩
   ·rw[yJ] at h;exact SeqAt.EqAt.str_int x t j u _ _ _ _ h
   ·rw[zr] at h;exact wpAny_eqBool_str h
 «strs»:=λk x t v h=>by
  rcases l6 h with⟨i,u,rfl,e⟩ | ⟨y,u,rfl,e⟩
  ·exact nomatch e
  ·injection e with c _
   subst c;cases v<;>rfl
theorem jO(prog:Program)(w:World)(i:Int)(t:Tok):(n8 prog w).is (.inl i) (.int i t)=true:=qL i t
theorem iK(prog:Program)(w:World)(x:Str)(t:Tok):(n8 prog w).is (.inr x) (.str x t)=true:=pC x t
theorem jR{prog:Program}{w:World}{A:Around}{E:GP}{s:Shared}{Q:Int->Shared->Prop}(h:Q 0xFCA86420 { s with toks:=s.toks+1 }):wpAny (model prog w) A (pyHash .none) Q E s:=by
 have a:s.TypeIs .none "NoneType":=rfl;unfold pyHash;have b:[Value.none].any Value.onHeap=false:=rfl;refine cB ?_;rw[cRoomFor,ln (by rw[b];exact kt)];refine dL ?_;refine cB (wpAny_specialOf a F.slot_NoneType_hash.lookup ?_);show wpAny _ _ (if (some (Value.builtin "NoneType.__hash__") == some Value.none)=true then _ else _) Q E s;rw[ln (by rw[beq_builtin_none];exact kt)];refine cB (wpAny_specialOf a F.slot_NoneType_hash.lookup ?_);show wpAny _ _ (callSpecialIfBoundUnlessNone? .none "__hash__" _ >>= _) Q E s
 refine cB (wpAny_callSpecialIfBoundUnlessNone?_slot a F.slot_NoneType_hash
  (t5 F.slot_NoneType_hash a F.entry_NoneType_hash
   (show wpAny _ _ (do ret (<-mkInt 0xFCA86420)) _ _ s from wpAny_ret_mkInt ?_) (F.args_NoneType_hash_1 _)))
 show wpAny _ _ (if (decide (-(2:Int)^63<=0xFCA86420)&&decide ((0xFCA86420:Int)<2^63))=true then _ else _) Q E _;rw[l7 (by decide)];exact dL h
abbrev mj:=Option Key
def cE:mj->Value->Bool
 | some k,v=>aU k v
 | none,v=>v == .none
def BE(w:World):mj->Int
 | some k=>AU w k
 | none=>0xFCA86420
theorem u0{v:Value}(h:cE none v=true):v=.none:=eq_of_beq h
def du(prog:Program)(w:World):PySem.KeyKind prog w mj where
 is:=cE
 hash:=BE w
 inj:=λv a b o l=>by
  cases a with
  | none=>
   cases b with
   | none=>rfl
   | some k=>
    have e:=u0 o;subst e;rcases l6 l with⟨i,t,rfl,e⟩ | ⟨x,t,rfl,e⟩<;>cases e
  | some k=>
   cases b with
   | none=>
    have e:=u0 l;subst e;rcases l6 o with⟨i,t,rfl,e⟩ | ⟨x,t,rfl,e⟩<;>cases e
   | some d=>rw[(n8 prog w).inj v k d o l]
 byValue:=λk v h=>by
  cases k with
  | none=>rw[u0 h];rfl
  | some k=>exact(n8 prog w).byValue k v h
 pyHash:=λ{A E s k v Q} c h=>by
  cases k with
  | none=>rw[u0 c];exact jR h
  | some k=>exact(n8 prog w).pyHash c h
 eqBool:=λ{A E s a b u v Q} j c h=>by
  cases a with
  | none=>
   have e:=u0 j;subst e
   cases b with
   | none=>
    have e:=u0 c;subst e;exact SeqAt.EqAt.same _ _ _ _ _ (by simpa using h)
   | some k=>
    have g:Q false s:=by simpa using h
    rcases l6 c with⟨i,t,rfl,rfl⟩ | ⟨x,t,rfl,rfl⟩
    ·exact SeqAt.EqAt.none_int i t _ _ _ _ g
    ·exact SeqAt.EqAt.none_str x t _ _ _ _ g
  | some k=>
   cases b with
   | none=>
    have e:=u0 c;subst e;have g:Q false s:=by simpa using h
    rcases l6 j with⟨i,t,rfl,rfl⟩ | ⟨x,t,rfl,rfl⟩
    ·exact SeqAt.EqAt.int_none i t _ _ _ _ g
    ·exact SeqAt.EqAt.str_none x t _ _ _ _ g
   | some d=>
    refine(n8 prog w).eqBool j c ?_
    have e:decide ((some k:mj)=some d)=decide (k=d):=by
     by_cases e:k=d
     ·subst e;simp
     ·rw[hL e,hL λq=>e (oD q)]
    rwa [e] at h
 «strs»:=λk x t v h=>by
  cases k with
  | none=>cases u0 h
  | some k=>exact(n8 prog w).strs k x t v h
inductive V where
 | l4 | bl (b:Bool) | int (i:Int) | str (x:Str) | byt (b:Array UInt8) | flt (b:UInt64) | ref (a:Addr) | ty (n:String)
 deriving DecidableEq
def RelV:V->Value->Prop
 | .l4,u=>u=Value.none
 | .bl b,u=>u=Value.bool b
 | .int i,u=>∃t,u=Value.int i t
 | .str x,u=>∃t,u=Value.str x t
 | .byt b,u=>∃t,u=Value.bytes b t
 | .flt b,u=>∃t,u=Value.float b t
 | .ref a,u=>u=Value.ref a
 | .ty n,u=>u=Value.type n
abbrev Vals:List V->GI->Prop:=Paired RelV
theorem Vals.length{xs:List V}{a:GI}(r:Vals xs a):xs.length=a.length:=FT r
theorem Vals.get:∀{xs:List V} {a:GI} {i:Nat} {x:V},Vals xs a->xs[i]?=some x->∃u,a[i]?=some u/\RelV x u
 | _,_,_,_,.nil,e=>by simp at e
 | _,_,0,_,.cons r _,e=>by simp at e;subst e;exact⟨_,rfl,r⟩
 | _,_,i+1,x,.cons _ t,e=>by
  obtain⟨u,c,b⟩:=Vals.get (i:=i) (x:=x) t (by simpa using e);exact⟨u,by simpa using c,b⟩
theorem Vals.set{x:V}{u:Value}(r:RelV x u):∀{xs:List V} {a:GI} (i:Nat),Vals xs a->Vals (xs.set i x) (a.set i u)
 | _,_,_,.nil=>.nil
 | _,_,0,.cons _ t=>.cons r t
 | _,_,i+1,.cons q t=>.cons q (Vals.set r i t)
theorem Vals.append:∀{xs a:List V} {c b:GI},Vals xs c->Vals a b->Vals (xs++a) (c++b)
 | _,_,_,_,.nil,s=>s
 | _,_,_,_,.cons r t,s=>.cons r (Vals.append t s)
theorem Vals.take:∀{xs:List V} {a:GI} (n:Nat),Vals xs a->Vals (xs.take n) (a.take n)
 | _,_,0,_=>.nil
 | _,_,_+1,.nil=>.nil
 | _,_,n+1,.cons r t=>.cons r (Vals.take n t)
theorem Vals.drop:∀{xs:List V} {a:GI} (n:Nat),Vals xs a->Vals (xs.drop n) (a.drop n)
 | _,_,0,r=>r
 | _,_,_+1,.nil=>.nil
 | _,_,n+1,.cons _ t=>Vals.drop n t
def Q8:Option V->GS->Prop
 | some v,some u=>RelV v u
 | none,none=>True
 | _,_=>False
def KV{a:Type}:List (a×V)->List (a×Value)->Prop:=Paired λ(p:a×V) (q:a×Value)=>p.1=q.1/\RelV p.2 q.2
def kV:Key->V
 | .inl i=>.int i
 | .inr x=>.str x
inductive HO where
 /-- a list -/
 | lst (xs:List V)
 /-- a tuple (never changes) -/
 | tup (xs:List V)
 /-- a dict whose keys are ints and texts;one whose keys are tuples of ints and texts (the empty one is both) -/
 | dK (kvs:List (Key×V)) | dE (kvs:List (Key×V)) (ep:Nat) | dN (kvs:List (mj×V)) | dT (kvs:List (List Key×V))
 /-- a set of ints: its members,its size -/
 | set (S:Key->Bool) (n:Nat)
 /-- an instance of the class at C,its dict at dx,its attributes -/
 | ins (C dx:Addr) (fs:List (Str×V))
 /-- the dict of the instance at x -/
 | own (x:Addr)
 /-- the dict of an exception -/
 | xd (fs:List (Str×V))
 /-- a bound method,f of x -/
 | met (f x:Addr)
 /-- a range object lo,lo+1,.. below hi -/
 | rng (lo hi:Int)
 /-- a thing that is known to the object (the script;a dict while a loop walks it): read,never written while it is so -/
 | frz (o:Obj) (u:HO)
 /-- a code object's table -/
 | tbl (ps:GM)
 /-- any other thing,by what is true of its one object (a def of one's own: SetO a S n:=HO.ext fun h=>..) -/
 | ext (φ:Heap->Prop)
abbrev Hp:=Addr->Option HO
def upd(H:Hp)(a:Addr)(o:HO):Hp:=λb=>if b=a then some o else H b
theorem g6{H:Hp}{a:Addr}{o:HO}:upd H a o a=some o:=by unfold upd;rw[l7 rfl]
theorem g9{H:Hp}{a b:Addr}{o:HO}(h:b≠a):upd H a o b=H b:=by unfold upd;rw[ln h]
theorem Y2{H:Hp}{a:Addr}{o u:HO}:upd (upd H a o) a u=upd H a u:=by
 funext b;unfold upd;split<;>rfl
theorem uA{H:Hp}{a b:Addr}{o u:HO}(h:H a=some o)(h':H b=some u)(d:o≠u):a≠b:=by
 intro e;subst e;rw[h] at h';exact d (oD h')
theorem o5{H:Hp}{a b:Addr}{o:HO}(h:H a=some o)(h':H b=none):a≠b:=by
 intro e;subst e;rw[h] at h';cases h'
section
variable(P:Program)(w:World)
def j7(H:Hp)(h:Heap)(a:Addr):HO->Prop
 | .lst d=>d.length<=sizeLine/\∃(c:GI) (n:Nat),Vals d c/\h.get? a=some { cls:=.type "list",data:=.seq c.toArray n }
 | .tup d=>d.length<=sizeLine/\∃c:GI,Vals d c/\IsTup h a c.toArray
 | .dK b=>b.length<=sizeLine/\(a == sysModules)=false/\∃vs,KV b vs/\h.DictOf (n8 P w) a vs
 | .dE b j=>b.length<=sizeLine/\(a == sysModules)=false/\∃vs,KV b vs/\h.DictAt (n8 P w) a vs j
 | .dN b=>b.length<=sizeLine/\(a == sysModules)=false/\∃vs,KV b vs/\h.DictOf (du P w) a vs
 | .dT b=>b.length<=sizeLine/\(a == sysModules)=false/\∃d:List (List Key×Addr×Value),
   Paired (λ(p:List Key×V) (q:List Key×Addr×Value)=>p.1=q.1/\H q.2.1=some (.tup (p.1.map kV))/\RelV p.2 q.2.2) b d /\
   ∃o y j,h.get? a=some o/\o.ExactDict/\o.data=.dict y j/\y.toList=d.map (entryOfKey (tupleKind (n8 P w)))/\(d.map (·.1)).Nodup
 | .set S n=>h.SetOf (n8 P w) a S n
 | .ins C g fs=>H g=some (.own a)/\fs.length<=1000/\g≠a/\h.get? a=some (PySem.W.instObj C g) /\
   ∃e,h.Ns1 g e/\(∀f,Q8 (fs.lookup f) (e f))/\PySem.Within e (fs.map (·.1))
 | .own _=>∃o,h.get? a=some o
 | .xd fs=>∃e,h.Ns1 a e/\∀f,Q8 (fs.lookup f) (e f)
 | .rng lo B=>∃t u v,h.get? a=some { cls:=.type "range",data:=.fields #[.int lo t,.int B u,.int 1 v] }
 | .frz o u=>h.get? a=some o/\j7 H h a u
 | .tbl z=>h.get? a=some { cls:=.none,data:=.fields z }
 | .met f x=>h.get? a=some (PySem.W.methodObj (.ref f) (.ref x))
 | .ext i=>i h/\(∃o,h.get? a=some o)/\∀r l:Heap,i r->(∀o,r.get? a=some o->l.get? a=some o)->i l
def J4(H:Hp)(h:Heap):Prop:=∀a o,H a=some o->j7 P w H h a o
end
section
variable{P:Program}{w:World}{H H':Hp}{h h':Heap}{a:Addr}{o:HO}
theorem j7.lt(x:j7 P w H h a o):a<h.objs.size:=by
 cases o with
 | lst c=>obtain⟨_,_,_,_,e⟩:=x;exact hW e
 | tup c=>obtain⟨_,_,_,p⟩:=x;exact p.lt
 | dK b=>obtain⟨_,_,_,_,o,_,_,e,_⟩:=x;exact hW e
 | dE b j=>obtain⟨_,_,_,_,o,_,e,_⟩:=x;exact hW e
 | dN b=>obtain⟨_,_,_,_,o,_,_,e,_⟩:=x;exact hW e
 | dT b=>obtain⟨_,_,_,_,o,_,_,e,_⟩:=x;exact hW e
 | set S n=>obtain⟨o,_,_,_,e,_⟩:=x;exact hW e
 | ins C l fs=>obtain⟨_,_,_,e,_⟩:=x;exact hW e
 | own y=>obtain⟨_,e⟩:=x;exact hW e
 | xd fs=>obtain⟨_,⟨_,_,_,e,_⟩,_⟩:=x;exact hW e
 | rng lo i=>obtain⟨_,_,_,e⟩:=x;exact hW e
 | frz ob u=>obtain⟨e,_⟩:=x;exact hW e
 | tbl g=>exact hW (show h.get? a=some _ from x)
 | met f y=>exact hW (show h.get? a=some _ from x)
 | ext d=>obtain⟨_,⟨_,e⟩,_⟩:=x;exact hW e
theorem Paired.zC{g e:Type}{F G:g->e->Prop}:∀{d:List g} {c:List e},Paired F d c->(∀a b,F a b->G a b)->Paired G d c
 | _,_,.nil,_=>.nil
 | _,_,.cons r t,f=>.cons (f _ _ r) (Paired.zC t f)
theorem j7.ix(x:j7 P w H h a o)(k:∀b u,(b=a\/H b=some (.own a))->h.get? b=some u->h'.get? b=some u)
  (M:∀b,H b=some (.own a)->H' b=some (.own a)) (J:∀b xs,H b=some (.tup xs)->H' b=some (.tup xs)):j7 P w H' h' a o:=by
 induction o with
 | lst xs=>obtain⟨z,l,n,r,e⟩:=x;exact⟨z,l,n,r,k _ _ (.inl rfl) e⟩
 | tup xs=>obtain⟨z,l,r,ob,e,c⟩:=x;exact⟨z,l,r,ob,k _ _ (.inl rfl) e,c⟩
 | dK j=>obtain⟨z,y,vs,r,ob,g,i,e,c⟩:=x;exact⟨z,y,vs,r,ob,g,i,k _ _ (.inl rfl) e,c⟩
 | dN j=>obtain⟨z,y,vs,r,ob,g,i,e,c⟩:=x;exact⟨z,y,vs,r,ob,g,i,k _ _ (.inl rfl) e,c⟩
 | dE j i=>obtain⟨z,y,vs,r,ob,g,e,c⟩:=x;exact⟨z,y,vs,r,ob,g,k _ _ (.inl rfl) e,c⟩
 | dT j=>
  obtain⟨z,y,xs,r,ob,g,i,e,c⟩:=x;exact⟨z,y,xs,Paired.zC r λp q z=>⟨z.1,J _ _ z.2.1,z.2.2⟩,ob,g,i,k _ _ (.inl rfl) e,c⟩
 | set S n=>obtain⟨ob,g,i,t,e,c⟩:=x;exact⟨ob,g,i,t,k _ _ (.inl rfl) e,c⟩
 | ins C T fs=>
  obtain⟨d,z,ne,e,E,⟨B,g,i,O,c⟩,r⟩:=x;exact⟨M _ d,z,ne,k _ _ (.inl rfl) e,E,⟨B,g,i,k _ _ (.inr d) O,c⟩,r⟩
 | own y=>obtain⟨ob,e⟩:=x;exact⟨ob,k _ _ (.inl rfl) e⟩
 | xd fs=>obtain⟨E,⟨B,g,i,e,c⟩,r⟩:=x;exact⟨E,⟨B,g,i,k _ _ (.inl rfl) e,c⟩,r⟩
 | rng lo R=>obtain⟨t,u,v,e⟩:=x;exact⟨t,u,v,k _ _ (.inl rfl) e⟩
 | frz ob u I=>obtain⟨e,q⟩:=x;exact⟨k _ _ (.inl rfl) e,I q⟩
 | tbl G=>
  have e:h.get? a=some { cls:=.none,data:=.fields G }:=x;show h'.get? a=some { cls:=.none,data:=.fields G };exact k a _ (.inl rfl) e
 | met f y=>
  have e:h.get? a=some (PySem.W.methodObj (.ref f) (.ref y)):=x;show h'.get? a=some (PySem.W.methodObj (.ref f) (.ref y));exact k a _ (.inl rfl) e
 | ext Q=>obtain⟨p,⟨o,e⟩,st⟩:=x;exact⟨st _ _ p λo q=>k _ _ (.inl rfl) q,⟨o,k _ _ (.inl rfl) e⟩,st⟩
theorem J4.lt(x:J4 P w H h)(e:H a=some o):a<h.objs.size:=(x a o e).lt
theorem J4.fresh(x:J4 P w H h)(e:h.objs.size<=a):H a=none:=by
 cases q:H a with
 | none=>rfl
 | some u=>exact absurd (lv (x.lt q) e) (wv _)
theorem J4.kept(x:J4 P w H h)(k:∀b u,h.get? b=some u->h'.get? b=some u):J4 P w H h':=λa o e=>
 (x a o e).ix (λb u _ q=>k b u q) (λ_ q=>q) λ_ _ q=>q
theorem J4.laid(x:J4 P w H h)(k:∀b u,h.get? b=some u->h'.get? b=some u)(i:h.objs.size<=a)(new:j7 P w (upd H a o) h' a o):J4 P w (upd H a o) h':=λb u e=>by
 have d:=x.fresh i
 by_cases g:b=a
 ·subst g;rw[g6] at e;cases e;exact new
 ·rw[g9 g] at e;exact(x b u e).ix (λc v _ q=>k c v q) (λc q=>by rw[g9 (o5 q d)];exact q) λc j q=>by rw[g9 (o5 q d)];exact q
end
def Dd(H:Hp)(a:Addr)(kvs:List (Key×V)):Prop:=H a=some (.dK kvs)\/∃b,H a=some (.dE kvs b)
theorem Dd.ok{P:Program}{w:World}{H:Hp}{h:Heap}{a:Addr}{kvs:List (Key×V)}(r:Dd H a kvs)(x:J4 P w H h):j7 P w H h a (.dK kvs):=by
 rcases r with r | ⟨c,r⟩
 ·exact x a _ r
 ·obtain⟨z,y,vs,b,d⟩:=(show j7 P w H h a (.dE kvs c) from x a _ r)
  exact⟨z,y,vs,b,d.dictOf⟩
def Rd(H:Hp)(a:Addr)(u:HO):Prop:=H a=some u\/∃o,H a=some (.frz o u)
theorem Rd.of{H:Hp}{a:Addr}{u:HO}(h:H a=some u):Rd H a u:=.inl h
theorem Rd.ok{P:Program}{w:World}{H:Hp}{h:Heap}{a:Addr}{u:HO}(r:Rd H a u)(x:J4 P w H h):j7 P w H h a u:=by
 rcases r with r | ⟨o,r⟩
 ·exact x a u r
 ·obtain⟨_,q⟩:=x a _ r;exact q
def cV:Option HO->Prop
 | some (.lst _)=>True
 | some (.dK _)=>True
 | some (.dE _ _)=>True
 | some (.dN _)=>True
 | some (.dT _)=>True
 | some (.set _ _)=>True
 | some (.ins _ _ _)=>True
 | some (.ext _)=>True
 | _=>False
theorem Dd.mut{H:Hp}{a:Addr}{kvs:List (Key×V)}(r:Dd H a kvs):cV (H a):=by
 rcases r with r | ⟨b,r⟩<;>(rw[r];exact True.intro)
section
variable{P:Program}{w:World}{H:Hp}{h h':Heap}{x e:Addr}{o':HO}
theorem J4.write(ok:J4 P w H h)(j:cV (H x))(C:e=x\/H e=some (.own x))(k:∀b u,b≠e->h.get? b=some u->h'.get? b=some u)(p:∃u,h'.get? e=some u)
  (new:j7 P w (upd H x o') h' x o'):J4 P w (upd H x o') h':=λb u q=>by
 have d:∀c y,H c=some (.own y)->c≠x:=λc y r z=>by subst z;rw[r] at j;exact j
 have g:∀c i,H c=some (.tup i)->c≠x:=λc i r z=>by subst z;rw[r] at j;exact j
 by_cases o:b=x
 ·subst o;rw[g6] at q;cases q;exact new
 ·rw[g9 o] at q
  by_cases a:b=e
  ·have B:H b=some (.own x):=by
    rcases C with z | z
    ·exact absurd (a.trans z) o
    ·rw[a];exact z
   rw[q] at B;cases B;obtain⟨v,E⟩:=p;exact⟨v,by rw[a];exact E⟩
  ·refine(ok b u q).ix (λc v l r=>k c v ?_ r) (λc r=>by rw[g9 (d c b r)];exact r) λc i r=>by rw[g9 (g c i r)];exact r
   rcases l with rfl | l
   ·exact a
   ·rintro rfl;rcases C with z | z
    ·exact d c b l z
    ·rw[l] at z;cases z;exact o rfl
end
structure Un(fs ex:GG)(H H':Hp)(h h':Heap):Prop where
 keep:∀b o,h.get? b=some o->H b=none->b∉fs->b∉ex->h'.get? b=some o
 slot:∀b o,h.get? b=some o->H b=none->b∈fs->b∉ex->∃sl,h'.get? b=some { o with slots:=sl }
 free:∀b o,h.get? b=some o->H b=none->b∉ex->H' b=none
 there:∀b o,h.get? b=some o->b∉ex->∃o',h'.get? b=some o'
 C0:∀b xs,H b=some (.tup xs)->H' b=some (.tup xs)
 frzs:∀b o u,H b=some (.frz o u)->H' b=some (.frz o u)
 tbls:∀b ps,H b=some (.tbl ps)->∃more,H' b=some (.tbl (ps++more))
 low:mainGlobals∉ex->(∃o,h.get? mainGlobals=some o)->H sysModules=none->H' sysModules=none
section
variable{fs fs' ex ex':GG}{H H1 H2:Hp}{h h1 h2 h':Heap}{a x e:Addr}{o:HO}
theorem Un.any(u:Un fs ex H H1 h h1){b:Addr}{ob:Obj}(q:h.get? b=some ob)(n:H b=none)(c:b∉ex):∃g,h1.get? b=some { ob with slots:=g }:=by
 by_cases d:b∈fs
 ·exact u.slot b ob q n d c
 ·exact⟨ob.slots,u.keep b ob q n d c⟩
theorem Un.trans(a:Un fs ex H H1 h h1)(b:Un fs ex H1 H2 h1 h2):Un fs ex H H2 h h2 where
 keep:=λc ob q n j d=>b.keep c ob (a.keep c ob q n j d) (a.free c ob q n d) j d
 slot:=λc ob q n j d=>by
  obtain⟨z,g⟩:=a.slot c ob q n j d;obtain⟨l,r⟩:=b.slot c _ g (a.free c ob q n d) j d;exact⟨l,r⟩
 free:=λc ob q n d=>by
  obtain⟨p,g⟩:=a.there c ob q d;exact b.free c p g (a.free c ob q n d) d
 there:=λc ob q d=>by
  obtain⟨p,g⟩:=a.there c ob q d;exact b.there c p g d
 C0:=λc i q=>b.C0 c i (a.C0 c i q)
 frzs:=λc ob i q=>b.frzs c ob i (a.frzs c ob i q)
 tbls:=λc u q=>by
  obtain⟨y,g⟩:=a.tbls c u q;obtain⟨v,r⟩:=b.tbls c _ g;exact⟨y++v,by rw[r,Array.append_assoc]⟩
 low:=λd ⟨o,q⟩ n=>b.low d (a.there _ o q d) (a.low d ⟨o,q⟩ n)
theorem Un.kept(k:∀b u,h.get? b=some u->h'.get? b=some u):Un fs ex H H h h':=
 ⟨λb ob q _ _ _=>k b ob q,λb ob q _ _ _=>⟨ob.slots,k b ob q⟩,λ_ _ _ n _=>n,λb ob q _=>⟨ob,k b ob q⟩,λ_ _ q=>q,λ_ _ _ q=>q,λ_ c q=>⟨#[],by rw[q];simp⟩,λ_ _ n=>n⟩
theorem Un.refl:Un fs ex H H h h:=Un.kept λ_ _ q=>q
theorem Un.laid(k:∀b u,h.get? b=some u->h'.get? b=some u)(d:h.objs.size<=a)(c:H a=none):Un fs ex H (upd H a o) h h' where
 keep:=λb u q _ _ _=>k b u q
 slot:=λb u q _ _ _=>⟨u.slots,k b u q⟩
 free:=λb u q n _=>by rw[g9 (mC (lv (hW q) d))];exact n
 there:=λb u q _=>⟨u,k b u q⟩
 C0:=λb g q=>by rw[g9 (o5 q c)];exact q
 frzs:=λb u g q=>by rw[g9 (o5 q c)];exact q
 tbls:=λb i q=>⟨#[],by rw[g9 (o5 q c),q];simp⟩
 low:=λ_ ⟨_,q⟩ n=>by rw[g9 (mC (lv (Nat.lt_trans (by decide) (hW q)) d))];exact n
theorem Un.write(d:cV (H x))(v:e=x\/H e=some (.own x))(k:∀b u,b≠e->h.get? b=some u->h'.get? b=some u)(j:∃u,h'.get? e=some u):Un fs ex H (upd H x o) h h':=by
 have g:∀b,H b=none->b≠x:=λb n z=>by subst z;rw[n] at d;exact d
 have l:∀b,H b=none->b≠e:=λb n z=>by
  subst z;rcases v with r | r
  ·exact g b n r
  ·rw[n] at r;cases r
 have i:∀b u,H b=some u->¬cV (some u)->b≠x:=λb u q nm z=>by subst z;rw[q] at d;exact nm d
 refine⟨λb u q n _ _=>k b u (l b n) q,λb u q n _ _=>⟨u.slots,k b u (l b n) q⟩,λb u q n _=>by rw[g9 (g b n)];exact n,λb u q _=>?_,
  λb p q=>by rw[g9 (i b _ q λz=>z)];exact q,λb u p q=>by rw[g9 (i b _ q λz=>z)];exact q,λb y q=>⟨#[],by rw[g9 (i b _ q λz=>z),q];simp⟩,λ_ _ n=>by rw[g9 (g _ n)];exact n⟩
 by_cases c:b=e
 ·subst c;exact j
 ·exact⟨u,k b u c q⟩
theorem Un.mono(u:Un fs ex H H1 h h1)(g:∀b∈fs,b∈fs')(d:∀b∈ex,b∈ex'):Un fs' ex' H H1 h h1:=
 ⟨λb ob q n i c=>u.keep b ob q n (λz=>i (g b z)) λz=>c (d b z),λ_ _ q n _ c=>u.any q n λz=>c (d _ z),λb ob q n c=>u.free b ob q n λz=>c (d b z),λb ob q c=>u.there b ob q λz=>c (d b z),u.C0,u.frzs,u.tbls,λc q n=>u.low (λz=>c (d _ z)) q n⟩
end
def dC(h:Heap)(H:Hp):GG:=(List.range h.objs.size).filter λa=>(H a).isSome
def ic(h:Heap)(H:Hp):Heap:=PySem.W.hideAll h (dC h H)
theorem qo(h:Heap)(H:Hp):(ic h H).objs.size=h.objs.size:=PySem.W.hideAll_size _ _
theorem qW{h:Heap}{H:Hp}{b:Addr}{o:Obj}(e:h.get? b=some o)(n:H b=none):(ic h H).get? b=some o:=
 PySem.W.hideAll_get _ e λa=>by
  have q:(H b).isSome=true:=(List.mem_filter.mp a).2;rw[n] at q;simp at q
theorem wD{h:Heap}{H:Hp}{b:Addr}{o:Obj}(e:(ic h H).get? b=some o):h.get? b=some o/\H b=none:=by
 have a:h.get? b=some o:=PySem.W.of_hideAll (dC h H) e;refine⟨a,?_⟩
 cases q:H b with
 | none=>rfl
 | some x=>
  have c:b∈dC h H:=List.mem_filter.mpr ⟨List.mem_range.mpr (hW a),by simp[q]⟩;have z:(ic h H).get? b=none:=PySem.W.hideAll_none (dC h H) c;rw[z] at e;cases e
structure Mod(K:GR)(mg:GN)(base:Heap):Prop where
 kin:K.In base
 glob:base.Ns mainGlobals mg
 blt:∃mb,base.Ns builtinsNs mb/\∀x:Str,x ≠ "__name__"->mb x=bootBuiltins x
 nolimit:base.NoLimit
structure Cx where
 prog:Program
 w:World
 K:GR
 mg:Str->GS
 base:Heap
 A:Around
 N:GH
 s₀:Shared
 H₀:Hp
 env:Env
 outer:List Env
 stack:List Env
 ex:GG
 fn:Str->Bool
 calm:Bool
 pn:GA
 xe:Value->Shared->Prop
def O0(l:List Env):GG:=l.filterMap (·.frame)
abbrev Cx.fs(X:Cx):GG:=O0 X.outer
def Bj(a:Scope)(x:Str):Prop:=a.names.lookup x=some .local\/a.names.lookup x=some .cell\/a.names.lookup x=some .free
def Loc(a:Scope)(x:Str):Prop:=a.names.lookup x=some .local\/a.names.lookup x=some .cell
def Look(env:Env)(h:Heap)(m:GN)(x:Str)(u:Value):Prop:=
 (env.kindOf x=some .local/\m x=some u)\/((env.kindOf x=some .cell\/env.kindOf x=some .free)/\∃c,env.cells.lookup x=some c/\h.IsCell c (some u))
structure Cx.Ok(X:Cx):Prop where
 mod:Mod X.K X.mg X.base
 kind:X.env.scope.kind=.function
 glob:X.env.globals=mainGlobals
 blt:X.env.builtins=builtinsNs
 above:X.s₀.heap.objs.size<=X.env.locals
 inj:∀x y c,X.env.cells.lookup x=some c->X.env.cells.lookup y=some c->x=y
 has:∀x,(X.env.kindOf x=some .cell\/X.env.kindOf x=some .free)->∃c,X.env.cells.lookup x=some c
 cab:∀x c,X.fn x=true->X.env.cells.lookup x=some c->X.s₀.heap.objs.size<=c
 hd:X.calm=true->X.A.handled=none
 frames:X.A.frames=some X.stack
 stk:X.stack=X.outer\/(X.stack=X.env::X.outer/\X.env.frame=some X.env.locals)
 exf:∀b∈X.ex,b≠X.env.locals/\∀x c,X.env.cells.lookup x=some c->c≠b
 bs:∀b o,X.base.get? b=some o->X.s₀.heap.get? b=some o/\X.H₀ b=none
 bsz:X.base.objs.size<=X.s₀.heap.objs.size
 noex:∀b o,X.base.get? b=some o->b∉X.ex
 exfs:∀b∈X.ex,b∉X.fs
 ae:X.s₀.heap.FunFrames X.base X.outer
 frf:∀b∈X.fs,X.H₀ b=none
 sy:X.H₀ sysModules=none
structure Inv(X:Cx)(pins:GA)(σ:List (Option V))(H:Hp)(s:Shared):Prop where
 ok:X.Ok
 os:s.os=X.s₀.os
 bare:AllBare s.gens
 base:Un X.fs X.ex X.H₀ H X.s₀.heap s.heap
 loc:∃m,s.heap.Ns X.env.locals m/\∀(i:Nat) (x:Str) (v:V),X.N[i]?=some x->σ[i]?=some (some v)->Bj X.env.scope x->∃u,RelV v u/\Look X.env s.heap m x u
 cell:∀x c,X.env.cells.lookup x=some c->∃v,s.heap.IsCell c v
 free:H X.env.locals=none
 freeC:∀x c,X.env.cells.lookup x=some c->H c=none
 pin:∀p∈X.pn++pins,s.heap.get? p.1=some p.2/\H p.1=none/\p.1≠X.env.locals/\p.1∉X.fs/\∀v,p.2.data≠.cell v
 hok:J4 X.prog X.w H s.heap
 len:σ.length=X.N.length
section
variable{X:Cx}{pins:GA}{σ:List (Option V)}{H H':Hp}{s:Shared}{h':Heap}
theorem Cx.Ok.DL(ok:X.Ok){b:Addr}{o:Obj}(e:X.base.get? b=some o):b∉X.fs:=λa=>by
 have:=(ok.ae.mem a).1;rw[e] at this;cases this
theorem Inv.bs(I:Inv X pins σ H s):∀b o,X.base.get? b=some o->s.heap.get? b=some o/\H b=none:=λb o e=>
 ⟨I.base.keep b o (I.ok.bs b o e).1 (I.ok.bs b o e).2 (I.ok.DL e) (I.ok.noex b o e),I.base.free b o (I.ok.bs b o e).1 (I.ok.bs b o e).2 (I.ok.noex b o e)⟩
theorem Inv.bk(I:Inv X pins σ H s):∀b o,X.base.get? b=some o->s.heap.get? b=some o:=λb o e=>(I.bs b o e).1
theorem Inv.sys(I:Inv X pins σ H s):H sysModules=none:=by
 obtain⟨o,_,_,a,_⟩:=I.ok.mod.glob;exact I.base.low (I.ok.noex _ o a) ⟨o,(I.ok.bs _ o a).1⟩ I.ok.sy
theorem Inv.mod(I:Inv X pins σ H s):Mod X.K X.mg X.base:=I.ok.mod
theorem Inv.Z8(I:Inv X pins σ H s):X.K.In s.heap:=I.ok.mod.kin.keeps I.bk
theorem Inv.lt(I:Inv X pins σ H s):X.env.locals<s.heap.objs.size:=let ⟨_,a,_⟩:=I.loc;a.lt
theorem Inv.sz(I:Inv X pins σ H s):X.s₀.heap.objs.size<=s.heap.objs.size:=ol I.ok.above (ES I.lt)
theorem Inv.DF(I:Inv X pins σ H s){a:Addr}(h:s.heap.objs.size<=a):a∉X.fs:=λc=>by
 obtain⟨_,o,b,_⟩:=I.ok.ae.mem c;exact absurd (lv (hW b) (ol I.sz h)) (wv _)
theorem Inv.uo(I:Inv X pins σ H s):∀x c,X.env.cells.lookup x=some c->c≠X.env.locals:=λx c e z=>by
 obtain⟨v,o,d,hd⟩:=I.cell x c e;obtain⟨m,⟨g,h,i,a,b,_⟩,_⟩:=I.loc;rw[z,a] at d;cases d;rw[b] at hd;cases hd
theorem Inv.ae(I:Inv X pins σ H s):s.heap.FunFrames X.base X.outer:=by
 have all:∀(l:List Env),(∀b∈O0 l,b∈X.fs)->X.s₀.heap.FunFrames X.base l->s.heap.FunFrames X.base l:=by
  intro l
  induction l with
  | nil=>intro _ _;trivial
  | cons env r h=>
   intro g q;obtain⟨u,⟨L,o,a,p,j,hd⟩,i⟩:=q;have d:L∈X.fs:=g L (by unfold O0;rw[ud,a];exact lm);obtain⟨v,e⟩:=I.base.slot L o j (I.ok.frf L d) d λz=>I.ok.exfs L z d;exact⟨u,⟨L,_,a,p,e,hd⟩,h (λb c=>g b (by unfold O0;rw[ud,a];exact lf _ c)) i⟩
 exact all X.outer (λ_ c=>c) I.ok.ae
theorem Inv.stack(I:Inv X pins σ H s):s.heap.FunFrames X.base X.stack:=by
 rcases I.ok.stk with e | ⟨e,b⟩
 ·rw[e];exact I.ae
 ·rw[e];obtain⟨m,a,_⟩:=I.loc;refine .cons (by rw[I.ok.kind];decide) b a ?_ I.ae;exact EX (ol I.ok.bsz I.ok.above)
theorem Inv.lH(I:Inv X pins σ H s):∀b∈O0 X.stack,b∈X.env.locals::X.fs:=λb a=>by
 rcases I.ok.stk with e | ⟨e,c⟩
 ·rw[e] at a;exact lf _ a
 ·rw[e] at a;unfold O0 at a;rw[ud,c] at a;exact a
theorem Inv.bI(I:Inv X pins σ H s):∀b∈O0 X.stack,H b=none:=λb a=>by
 rcases List.mem_cons.mp (I.lH b a) with e | a
 ·rw[e];exact I.free
 ·obtain⟨_,o,c,_⟩:=I.ok.ae.mem a;exact I.base.free b o c (I.ok.frf b a) λz=>I.ok.exfs b z a
theorem Inv.step{g':Array GenState}{t':Nat}{d':Drawn}{ch:GG}(I:Inv X pins σ H s)
  (h:∀b∈ch,(b∈X.ex\/X.s₀.heap.objs.size<=b)/\b≠X.env.locals/\(∀x c,X.env.cells.lookup x=some c->c≠b)/\∀p∈X.pn++pins,p.1≠b)
  (keep:∀b o,b≠X.env.locals->b∉X.fs->b∉ch->s.heap.get? b=some o->H b=none->h'.get? b=some o)
  (slot:∀b o,b≠X.env.locals->b∈X.fs->b∉ch->s.heap.get? b=some o->H b=none->∃R,h'.get? b=some { o with slots:=R }) (free:∀b o,b∉ch->s.heap.get? b=some o->H b=none->H' b=none)
  (there:∀b o,b∉ch->s.heap.get? b=some o->∃G,h'.get? b=some G)
  (C0:∀b xs,H b=some (.tup xs)->H' b=some (.tup xs)) (frzs:∀b o u,H b=some (.frz o u)->H' b=some (.frz o u)) (tbls:∀b ps,H b=some (.tbl ps)->∃M,H' b=some (.tbl (ps++M)))
  (low:H sysModules=none->H' sysModules=none) (ns:∀m,s.heap.Ns X.env.locals m->h'.Ns X.env.locals m) (hok:J4 X.prog X.w H' h') (hg:AllBare g') :
  Inv X pins σ H' { s with heap:=h',gens:=g',drawn:=d',toks:=t' }:=by
 have J:∀b o,X.s₀.heap.get? b=some o->b≠X.env.locals:=λb o e=>mC (lv (hW e) I.ok.above)
 have y:∀b o,X.s₀.heap.get? b=some o->b∉X.ex->b∉ch:=λb o e a C=>by
  rcases(h b C).1 with z | z
  ·exact a z
  ·exact absurd (lv (hW e) z) (wv _)
 have j:∀x c,X.env.cells.lookup x=some c->∀v,s.heap.IsCell c v->h'.IsCell c v:=λx c e v ⟨o,E,hd⟩=>by
  have g:c∉ch:=λz=>(h c z).2.2.1 x c e rfl
  by_cases U:c∈X.fs
  ·obtain⟨R,q⟩:=slot c o (I.uo x c e) U g E (I.freeC x c e);exact⟨_,q,hd⟩
  ·exact⟨o,keep c o (I.uo x c e) U g E (I.freeC x c e),hd⟩
 refine⟨I.ok,I.os,hg,⟨λb o e n C a=>?_,λb o e n C a=>?_,λb o e n a=>?_,λb o e a=>?_,λb xs e=>C0 b xs (I.base.C0 b xs e),λb o xs e=>frzs b o xs (I.base.frzs b o xs e),λb ps e=>?_,λa q n=>low (I.base.low a q n)⟩,?_,λx c e=>?_,?_,λx c e=>?_,λp T=>?_,hok,I.len⟩
 ·exact keep b o (J b o e) C (y b o e a) (I.base.keep b o e n C a) (I.base.free b o e n a)
 ·obtain⟨R,B⟩:=I.base.slot b o e n C a;obtain⟨Q,O⟩:=slot b _ (J b o e) C (y b o e a) B (I.base.free b o e n a);exact⟨Q,O⟩
 ·obtain⟨G,B⟩:=I.base.there b o e a;exact free b G (y b o e a) B (I.base.free b o e n a)
 ·obtain⟨G,B⟩:=I.base.there b o e a;exact there b G (y b o e a) B
 ·obtain⟨m1,B⟩:=I.base.tbls b ps e;obtain⟨Y,O⟩:=tbls b _ B;exact⟨m1++Y,by rw[O,Array.append_assoc]⟩
 ·obtain⟨m,hn,hl⟩:=I.loc;refine⟨m,ns m hn,λi x v B O e3=>?_⟩;obtain⟨u,r,l⟩:=hl i x v B O e3;refine⟨u,r,?_⟩;rcases l with l | ⟨k,c,e,z⟩
  ·exact .inl l
  ·exact .inr ⟨k,c,e,j x c e _ z⟩
 ·obtain⟨v,z⟩:=I.cell x c e;exact⟨v,j x c e v z⟩
 ·obtain⟨m,⟨o,_,_,E,_⟩,_⟩:=I.loc;exact free _ o (λz=>(h _ z).2.1 rfl) E I.free
 ·obtain⟨v,o,E,hd⟩:=I.cell x c e;exact free c o (λz=>(h c z).2.2.1 x c e rfl) E (I.freeC x c e)
 ·obtain⟨e,n,ne,S,d⟩:=I.pin p T;have g:p.1∉ch:=λz=>(h p.1 z).2.2.2 p T rfl;exact⟨keep p.1 p.2 ne S g e n,free p.1 p.2 g e n,ne,S,d⟩
theorem Inv.un{t':Nat}(I:Inv X pins σ H s)(u:Un X.fs [] H H' s.heap h')(hok:J4 X.prog X.w H' h'):Inv X pins σ H' { s with heap:=h',toks:=t' }:=by
 obtain⟨m,⟨o,B,C,h,r⟩,_⟩:=id I.loc;obtain⟨v,p⟩:=u.any h I.free (by simp)
 exact I.step (g':=s.gens) (d':=s.drawn) (ch:=[]) (λ_ z=>nomatch z) (λb o _ c _ e n=>u.keep b o e n c (by simp)) (λb o _ c _ e n=>u.slot b o e n c (by simp)) (λb o _ e n=>u.free b o e n (by simp)) (λb o _ e=>u.there b o e (by simp)) u.C0 u.frzs u.tbls (λn=>let ⟨j,_,_,q,_⟩:=I.mod.glob;u.low (by simp) ⟨j,I.bk _ _ q⟩ n) (λy l=>by
  obtain⟨x,d,g,a,i⟩:=l;rw[h] at a;cases a;exact⟨_,d,g,p,i⟩) hok I.bare
theorem Inv.call{g':Array GenState}{t':Nat}{d':Drawn}{ch:GG}(I:Inv X pins σ H s)(u:Un (O0 X.stack) ch H H' s.heap h')(hok:J4 X.prog X.w H' h')(E:AllBare g')
  (a:∀b∈ch,(b∈X.ex\/X.s₀.heap.objs.size<=b)/\b≠X.env.locals/\(∀x c,X.env.cells.lookup x=some c->c≠b)/\∀p∈X.pn++pins,p.1≠b) :
  Inv X pins σ H' { s with heap:=h',gens:=g',drawn:=d',toks:=t' }:=by
 obtain⟨m,⟨o,Q,R,q,r⟩,_⟩:=id I.loc;obtain⟨J,h⟩:=u.any q I.free λz=>(a _ z).2.1 rfl
 exact I.step (ch:=ch) a (λb o h G d e n=>u.keep b o e n (λz=>(List.mem_cons.mp (I.lH b z)).elim h G) d) (λb o _ _ d e n=>u.any e n d) (λb o d e n=>u.free b o e n d) (λb o d e=>u.there b o e d) u.C0 u.frzs u.tbls (λn=>let ⟨B,_,_,i,_⟩:=I.mod.glob;u.low (λz=>(a _ z).1.elim (I.ok.noex _ _ i) λy=>absurd (lv (hW i) I.ok.bsz) (Nat.not_lt.mpr y)) ⟨B,I.bk _ _ i⟩ n) (λO C=>by
  obtain⟨M,j,l,g,v⟩:=C;rw[q] at g;cases g;exact⟨_,j,l,h,v⟩) hok E
theorem Inv.turned{t':Nat}{it:Addr}(I:Inv X pins σ H s)(k:∀b o,b≠it->s.heap.get? b=some o->h'.get? b=some o)(i:H it=none)(g:it≠X.env.locals)
  (C:it∈X.ex\/X.s₀.heap.objs.size<=it) (B:∀x c,X.env.cells.lookup x=some c->c≠it) (y:∀p∈X.pn++pins,p.1≠it):Inv X pins σ H { s with heap:=h',toks:=t' }:=by
 have d:∀b u,H b=some u->b≠it:=λb u e z=>by rw[z,i] at e;cases e
 refine I.step (g':=s.gens) (d':=s.drawn) (ch:=[it]) (λb l=>?_) (λb o _ _ a e _=>k b o (λz=>a (by simp[z])) e) (λb o _ _ a e _=>⟨o.slots,k b o (λz=>a (by simp[z])) e⟩) (λ_ _ _ _ n=>n)
  (λb o a e=>⟨o,k b o (λz=>a (by simp[z])) e⟩) (λ_ _ e=>e) (λ_ _ _ e=>e) (λb J e=>⟨#[],by rw[e];simp⟩) (λn=>n) (λm j=>?_) (λb u e=>?_) I.bare
 ·have e:b=it:=by simpa using l
  subst e;exact⟨C,g,B,y⟩
 ·obtain⟨o,E,G,h,r⟩:=j;exact⟨o,E,G,k _ o (tt g) h,r⟩
 ·refine(I.hok b u e).ix (λc v a q=>k c v ?_ q) (λ_ q=>q) λ_ _ q=>q;rcases a with z | z
  ·rw[z];exact d b u e
  ·exact d c _ z
theorem Inv.tok(I:Inv X pins σ H s)(t:Nat):Inv X pins σ H { s with toks:=t }:=I.un (h':=s.heap) (t':=t) Un.refl I.hok
theorem Inv.kept{t':Nat}(I:Inv X pins σ H s)(k:∀b u,s.heap.get? b=some u->h'.get? b=some u):Inv X pins σ H { s with heap:=h',toks:=t' }:=I.un (Un.kept k) (I.hok.kept k)
theorem Inv.laid{a:Addr}{o:HO}{t':Nat}(I:Inv X pins σ H s)(k:∀b u,s.heap.get? b=some u->h'.get? b=some u)(c:s.heap.objs.size<=a)(new:j7 X.prog X.w (upd H a o) h' a o) :
  Inv X pins σ (upd H a o) { s with heap:=h',toks:=t' }:=I.un (Un.laid k c (I.hok.fresh c)) (I.hok.laid k c new)
theorem Inv.write{x e:Addr}{o:HO}{t':Nat}(I:Inv X pins σ H s)(c:cV (H x))(d:e=x\/H e=some (.own x))(k:∀b u,b≠e->s.heap.get? b=some u->h'.get? b=some u)(a:∃u,h'.get? e=some u)
  (new:j7 X.prog X.w (upd H x o) h' x o):Inv X pins σ (upd H x o) { s with heap:=h',toks:=t' }:=I.un (Un.write c d k a) (I.hok.write c d k a new)
theorem Inv.nV{a:GA}(I:Inv X pins σ H s)(h:∀p∈a,s.heap.get? p.1=some p.2/\H p.1=none/\p.1≠X.env.locals/\p.1∉X.fs/\∀v,p.2.data≠.cell v):Inv X a σ H s:=
 ⟨I.ok,I.os,I.bare,I.base,I.loc,I.cell,I.free,I.freeC,λp b=>(List.mem_append.mp b).elim (λz=>I.pin p (mr _ z)) (h p),I.hok,I.len⟩
theorem bM{N:GH}(c:N.Nodup){i j:Nat}{x:Str}(a:N[i]?=some x)(b:N[j]?=some x):i=j:=by
 obtain⟨h,e⟩:=List.getElem?_eq_some_iff.mp a;obtain⟨g,d⟩:=List.getElem?_eq_some_iff.mp b;exact(List.getElem_inj c).mp (e.trans d.symm)
theorem N1{M:Model}{A:Around}{E:GP}{i:Nat}{x:Str}{v:V}{u:Value}{Q:Unit->Shared->Prop}(I:Inv X pins σ H s)(hN:X.N.Nodup)(hi:X.N[i]?=some x)(G:Loc X.env.scope x)(r:RelV v u)
  (h:∀s',Inv X pins (σ.set i (some v)) H s'->(∃a,Heap.SameBut a s.heap s'.heap/\(a=X.env.locals\/X.env.cells.lookup x=some a))->Q () s') (hf:X.fn x=true\/X.env.scope.names.lookup x=some .local:=by first | exact .inl rfl | exact .inr rfl | assumption):wpAny M A (storeName X.env x u) Q E s:=by
 obtain⟨m,hn,hl⟩:=id I.loc;have a2:(X.env.scope.kind == .class||(X.env.scope.kind == .module&&X.env.locals != X.env.globals))=false:=by rw[I.ok.kind];rfl
 have S:i<σ.length:=by rw[I.len];exact(List.getElem?_eq_some_iff.mp hi).1
 have uo:=I.uo
 have l:∀{a:Addr} {h':Heap},(∃o,s.heap.get? a=some o/\H a=none)->Heap.SameBut a s.heap h'->J4 X.prog X.w H h':=λ{a h'} ha g b ob e=>by
  obtain⟨_,_,J⟩:=ha;refine(I.hok b ob e).ix (λc w' C q=>(g.2 c ?_).trans q) (λ_ q=>q) λ_ _ q=>q;rintro rfl;rcases C with rfl | C
  ·rw[J] at e;cases e
  ·rw[J] at C;cases C
 rcases G with R | R
 ·refine wpAny_storeName_local R hn (λh' a6 g=>?_) a2;obtain⟨oL,_,_,a5,_⟩:=id hn;refine h _ ⟨I.ok,I.os,I.bare,⟨λb o e n Y G=>?_,λb o e n Y G=>?_,I.base.free,λb o e G=>?_,I.base.C0,I.base.frzs,I.base.tbls,I.base.low⟩,⟨_,a6,λj y v' B O e3=>?_⟩,λy c e=>?_,I.free,I.freeC,λp hp=>?_,l ⟨oL,a5,I.free⟩ g,by simpa using I.len⟩ ⟨_,g,.inl rfl⟩
  ·exact(g.2 b (mC (lv (hW e) I.ok.above))).trans (I.base.keep b o e n Y G)
  ·obtain⟨sl,B⟩:=I.base.slot b o e n Y G;exact⟨sl,(g.2 b (mC (lv (hW e) I.ok.above))).trans B⟩
  ·obtain⟨o',B⟩:=I.base.there b o e G;exact⟨o',(g.2 b (mC (lv (hW e) I.ok.above))).trans B⟩
  ·by_cases T:j=i
   ·subst T;rw[hi] at B;cases B;rw[p0 S] at O;cases O;exact⟨u,r,.inl ⟨R,by simp⟩⟩
   ·rw[nA (tt T)] at O;obtain⟨u',r',q⟩:=hl j y v' B O e3;refine⟨u',r',?_⟩;rcases q with⟨k,e⟩ | ⟨k,c,e,z⟩
    ·refine .inl ⟨k,?_⟩;have:y≠x:=λe=>T (bM hN B (e▸hi));simp[this,e]
    ·exact .inr ⟨k,c,e,z.sameBut g (uo y c e)⟩
  ·obtain⟨w',z⟩:=I.cell y c e;exact⟨w',z.sameBut g (uo y c e)⟩
  ·obtain⟨e,n,ne,nf,d⟩:=I.pin p hp;exact⟨(g.2 p.1 ne).trans e,n,ne,nf,d⟩
 ·have U:X.fn x=true:=by
   rcases hf with z | z
   ·exact z
   ·rw[z] at R;cases R
  obtain⟨c,C⟩:=I.ok.has x (.inl R);obtain⟨w',z⟩:=I.cell x c C;refine wpAny_storeName_cell I.ok.kind R C z (λh' a4 g=>?_);obtain⟨oc,a1,a0⟩:=id z;refine h { s with heap:=h' } ⟨I.ok,I.os,I.bare,⟨λb o e n Y G=>?_,λb o e n Y G=>?_,I.base.free,λb o e G=>?_,I.base.C0,I.base.frzs,I.base.tbls,I.base.low⟩,⟨m,hn.sameBut g (tt (uo x c C)),λj y v' B O e3=>?_⟩,λy c' e=>?_,I.free,I.freeC,λp hp=>?_,l ⟨oc,a1,I.freeC x c C⟩ g,by simpa using I.len⟩ ⟨c,g,.inr C⟩
  ·exact(g.2 b (mC (lv (hW e) (I.ok.cab x c U C)))).trans (I.base.keep b o e n Y G)
  ·obtain⟨sl,B⟩:=I.base.slot b o e n Y G;exact⟨sl,(g.2 b (mC (lv (hW e) (I.ok.cab x c U C)))).trans B⟩
  ·obtain⟨o',B⟩:=I.base.there b o e G;exact⟨o',(g.2 b (mC (lv (hW e) (I.ok.cab x c U C)))).trans B⟩
  ·by_cases T:j=i
   ·subst T;rw[hi] at B;cases B;rw[p0 S] at O;cases O;exact⟨u,r,.inr ⟨.inl R,c,C,a4⟩⟩
   ·rw[nA (tt T)] at O;obtain⟨u',r',q⟩:=hl j y v' B O e3;refine⟨u',r',?_⟩;rcases q with q | ⟨k,c',e,z'⟩
    ·exact .inl q
    ·refine .inr ⟨k,c',e,z'.sameBut g ?_⟩;rintro rfl;exact T (bM hN B (I.ok.inj _ _ _ e C▸hi))
  ·by_cases a3:c'=c
   ·subst a3;exact⟨_,a4⟩
   ·obtain⟨w2,z2⟩:=I.cell y c' e;exact⟨w2,z2.sameBut g a3⟩
  ·obtain⟨e,n,ne,nf,d⟩:=I.pin p hp;refine⟨(g.2 p.1 ?_).trans e,n,ne,nf,d⟩;intro q;rw[q,a1] at e;have q':oc=p.2:=oD e;exact d w' (by rw[<-q'];exact a0)
theorem kd{M:Model}{A:Around}{E:GP}{i:Nat}{x:Str}{v:V}{u:Value}{Q:Unit->Shared->Prop}(I:Inv X pins σ H s)(d:X.N.Nodup)(b:X.N[i]?=some x)(a:Loc X.env.scope x)(r:RelV v u)
  (h:∀s',Inv X pins (σ.set i (some v)) H s'->Q () s') (c:X.fn x=true\/X.env.scope.names.lookup x=some .local:=by first | exact .inl rfl | exact .inr rfl | assumption):wpAny M A (storeName X.env x u) Q E s:=
 N1 I d b a r (λs' e _=>h s' e) c
theorem Inv.ft{s':Shared}{ch:GG}(I:Inv X pins σ H s)(h:s'.os=s.os)(u:Un (O0 X.stack) ch H H' s.heap s'.heap)(hok:J4 X.prog X.w H' s'.heap)(i:AllBare s'.gens)
  (a:∀b∈ch,(b∈X.ex\/X.s₀.heap.objs.size<=b)/\b≠X.env.locals/\(∀x c,X.env.cells.lookup x=some c->c≠b)/\∀p∈X.pn++pins,p.1≠b):Inv X pins σ H' s':=by
 obtain⟨h',j,l,d,g⟩:=s';have e:g=s.os:=h;subst e;exact I.call (g':=j) (t':=d) (d':=l) u hok i a
end
abbrev XK:=Value->Option Addr->Hp->Prop
abbrev St:=List (Option V)
abbrev VK:=V->Hp->Prop
abbrev TE:=St->Hp->VK->Prop
abbrev TT:=St->Hp->(Bool->Hp->Prop)->Prop
abbrev TA:=St->Hp->(List V->Hp->Prop)->Prop
structure Ends where
 nx:St->Hp->Prop
 rt:VK
 bk:St->Hp->Prop:=λ_ _=>False
 ct:St->Hp->Prop:=λ_ _=>False
abbrev TS:=Ends->St->Hp->Prop
def EP(X:Cx)(pins:GA)(σ:St)(Q:VK)(u:Value)(s':Shared):Prop:=∃v a,Inv X pins σ a s'/\RelV v u/\Q v a
def TP(X:Cx)(pins:GA)(σ:St)(Q:Bool->Hp->Prop)(b:Bool)(s':Shared):Prop:=∃a,Inv X pins σ a s'/\Q b a
def AP(X:Cx)(pins:GA)(σ:St)(Q:List V->Hp->Prop)(b:GI)(s':Shared):Prop:=∃vs a,Inv X pins σ a s'/\Vals vs b/\Q vs a
def SP(X:Cx)(pins:GA)(D:Ends)(f:Flow)(s':Shared):Prop:=
 match f with
 | .next=>∃a b,Inv X pins a b s'/\D.nx a b
 | .brk=>∃a b,Inv X pins a b s'/\D.bk a b
 | .cont=>∃a b,Inv X pins a b s'/\D.ct a b
 | .ret u=>∃v a b,Inv X pins a b s'/\RelV v u/\D.rt v b
structure PE(X:Cx)(e:Expr)(t:TE) : Prop where
 of ::
 run :
 ∀(pins:GA) (s:Shared) (σ:St) (H:Hp) (Q:VK),Inv X pins σ H s->t σ H Q->wpAny (model X.prog X.w) X.A (eval e X.env) (EP X pins σ Q) X.xe s
instance {X:Cx} {e:Expr} {t:TE} : CoeFun (PE X e t) λ_=>
 ∀(pins:GA) (s:Shared) (σ:St) (H:Hp) (Q:VK),Inv X pins σ H s->t σ H Q->wpAny (model X.prog X.w) X.A (eval e X.env) (EP X pins σ Q) X.xe s:=⟨PE.run⟩
structure PT(X:Cx)(e:Expr)(t:TT) : Prop where
 of ::
 run :
 ∀(pins:GA) (s:Shared) (σ:St) (H:Hp) (Q:Bool->Hp->Prop),Inv X pins σ H s->t σ H Q->wpAny (model X.prog X.w) X.A (isTrue e X.env (eval e X.env)) (TP X pins σ Q) X.xe s
instance {X:Cx} {e:Expr} {t:TT} : CoeFun (PT X e t) λ_=>
 ∀(pins:GA) (s:Shared) (σ:St) (H:Hp) (Q:Bool->Hp->Prop),Inv X pins σ H s->t σ H Q->wpAny (model X.prog X.w) X.A (isTrue e X.env (eval e X.env)) (TP X pins σ Q) X.xe s:=⟨PT.run⟩
structure PW(X:Cx)(e:Expr)(t:TT) : Prop where
 of ::
 run :
 ∀(whole:Sem Value) (pins:GA) (s:Shared) (σ:St) (H:Hp) (Q:Bool->Hp->Prop),Inv X pins σ H s->t σ H Q->wpAny (model X.prog X.w) X.A (isTrue e X.env whole) (TP X pins σ Q) X.xe s
instance {X:Cx} {e:Expr} {t:TT} : CoeFun (PW X e t) λ_=>
 ∀(whole:Sem Value) (pins:GA) (s:Shared) (σ:St) (H:Hp) (Q:Bool->Hp->Prop),Inv X pins σ H s->t σ H Q->wpAny (model X.prog X.w) X.A (isTrue e X.env whole) (TP X pins σ Q) X.xe s:=⟨PW.run⟩
theorem PW.pt{X:Cx}{e:Expr}{t:TT}(h:PW X e t):PT X e t:=.of (h _)
structure PA(X:Cx)(es:GJ)(t:TA) : Prop where
 of ::
 run :
 ∀(pos:Pos) (pins:GA) (s:Shared) (σ:St) (H:Hp) (Q:List V->Hp->Prop),Inv X pins σ H s->t σ H Q->wpAny (model X.prog X.w) X.A (spliced (backTo pos (starEach es X.env))) (AP X pins σ Q) X.xe s
instance {X:Cx} {es:GJ} {t:TA} : CoeFun (PA X es t) λ_=>
 ∀(pos:Pos) (pins:GA) (s:Shared) (σ:St) (H:Hp) (Q:List V->Hp->Prop),Inv X pins σ H s->t σ H Q->wpAny (model X.prog X.w) X.A (spliced (backTo pos (starEach es X.env))) (AP X pins σ Q) X.xe s:=⟨PA.run⟩
structure PS(X:Cx)(st:Stmt)(t:TS) : Prop where
 of ::
 run :
 ∀(pins:GA) (s:Shared) (σ:St) (H:Hp) (D:Ends),Inv X pins σ H s->t D σ H->wpAny (model X.prog X.w) X.A (exec st X.env) (SP X pins D) X.xe s
instance {X:Cx} {st:Stmt} {t:TS} : CoeFun (PS X st t) λ_=>
 ∀(pins:GA) (s:Shared) (σ:St) (H:Hp) (D:Ends),Inv X pins σ H s->t D σ H->wpAny (model X.prog X.w) X.A (exec st X.env) (SP X pins D) X.xe s:=⟨PS.run⟩
structure ig(X:Cx)(st:GO)(t:TS) : Prop where
 of ::
 run :
 ∀(pins:GA) (s:Shared) (σ:St) (H:Hp) (D:Ends),Inv X pins σ H s->t D σ H->wpAny (model X.prog X.w) X.A (execs st X.env) (SP X pins D) X.xe s
instance {X:Cx} {st:GO} {t:TS} : CoeFun (ig X st t) λ_=>
 ∀(pins:GA) (s:Shared) (σ:St) (H:Hp) (D:Ends),Inv X pins σ H s->t D σ H->wpAny (model X.prog X.w) X.A (execs st X.env) (SP X pins D) X.xe s:=⟨ig.run⟩
theorem r8{b:Type}{t:Sem b}{Q c:b->Shared->Prop}{M:Model}{A:Around}{E:GP}{s:Shared}(h:wpAny M A t Q E s)(d:∀a s,Q a s->c a s):wpAny M A t c E s:=o1 h d λ_ _ x=>x
section
variable{X:Cx}
def Q6(i:Nat):TE:=λa H Q=>∃v,a[i]?=some (some v)/\Q v H
def tC(v:V):TE:=λ_ H Q=>Q v H
theorem zw {i:Nat} {x:Str} {j:Pos} (E:X.N[i]?=some x) (y:Bj X.env.scope x) (hd:(x == ("__debug__" : Str))=false:=by decide) (o:(x == ("__classdict__" : Str))=false:=by decide):PE X (.Name x j) (Q6 i):=by
 refine .of ?_;intro g s q H Q I h;obtain⟨v,e,h⟩:=h;obtain⟨m,z,C⟩:=I.loc;obtain⟨u,r,l⟩:=C i x v E e y;have d:EP X g q Q u s:=⟨v,H,I,r,h⟩
 rcases l with⟨b,B⟩ | ⟨b,c,p,a⟩
 ·exact wpAny_Name (wpAny_loadName_local I.ok.kind b z B d) hd
 ·rcases b with b | b
  ·exact wpAny_Name (wpAny_loadName_cell I.ok.kind b p a d) hd
  ·exact wpAny_Name (wpAny_loadName_free I.ok.kind b p a d o) hd
theorem zt{i j a}:PE X (.Constant (.int i) j a) (tC (.int i)):=.of <| λ_ _ _ H _ I h=>wpAny_Constant_int ⟨.int i,H,I.tok _,⟨_,rfl⟩,h⟩
theorem yj{b j a}:PE X (.Constant (.bool b) j a) (tC (.bl b)):=.of <| λ_ _ _ H _ I h=>Constant_bool ⟨.bl b,H,I,rfl,h⟩
theorem zB{j a}:PE X (.Constant .none j a) (tC .l4):=.of <| λ_ _ _ H _ I h=>Constant_none ⟨.l4,H,I,rfl,h⟩
theorem yQ{x j a}:PE X (.Constant (.str x) j a) (tC (.str x)):=.of <| λ_ _ _ H _ I h=>Calls.Constant_str ⟨.str x,H,I.tok _,⟨_,rfl⟩,h⟩
def Gl(X:Cx)(x:Str):Prop:=X.env.kindOf x=some .globalImplicit
theorem X4{E:GP}{pins:GA}{s:Shared}{σ:St}{H:Hp}{x:Str}{u:Value}{a:Pos}{Q:GP}(I:Inv X pins σ H s)(c:Gl X x)(b:X.mg x=some u)(h:Q u s)
  (hd:(x == ("__debug__" : Str))=false:=by decide):wpAny (model X.prog X.w) X.A (eval (.Name x a) X.env) Q E s:=
 Calls.Name_function_global I.ok.kind c (Calls.loadGlobal_global (by rw[I.ok.glob];exact I.mod.glob.keeps I.bk) b h) hd
theorem ay{E:GP}{pins:GA}{s:Shared}{σ:St}{H:Hp}{x:Str}{u:Value}{a:Pos}{Q:GP}(I:Inv X pins σ H s)(e:Gl X x)(d:X.mg x=none)(b:bootBuiltins x=some u)(h:Q u s)
  (c:x ≠ "__name__":=by decide) (hd:(x == ("__debug__" : Str))=false:=by decide):wpAny (model X.prog X.w) X.A (eval (.Name x a) X.env) Q E s:=by
 obtain⟨j,i,g⟩:=I.mod.blt;exact Calls.Name_function_global I.ok.kind e (Calls.loadGlobal_builtin (by rw[I.ok.glob];exact I.mod.glob.keeps I.bk) d (by rw[I.ok.blt];exact i.keeps I.bk) ((g x c).trans b) h) hd
theorem B7 {x:Str} {v:V} {u:Value} {a:Pos} (c:Gl X x) (b:X.mg x=some u) (r:RelV v u) (hd:(x == ("__debug__" : Str))=false:=by decide):PE X (.Name x a) (tC v):=.of <| 
 λ_ _ _ H _ I h=>X4 I c b ⟨v,H,I,r,h⟩ hd
theorem o7 {x:Str} {v:V} {u:Value} {a:Pos} (e:Gl X x) (d:X.mg x=none) (b:bootBuiltins x=some u) (r:RelV v u) (c:x ≠ "__name__":=by decide) (hd:(x == ("__debug__" : Str))=false:=by decide):PE X (.Name x a) (tC v):=.of <| 
 λ_ _ _ H _ I h=>ay I e d b ⟨v,H,I,r,h⟩ c hd
variable{a b:Expr}{ta tb:TE}{pos:Pos}
variable{tA tB':TT}{rest:GJ}
def DM(t u:TT):TT:=λd H Q=>t d H λc e=>if c=true then u d e Q else Q false e
def Ex(t u:TT):TT:=λd H Q=>t d H λc e=>if c=true then Q true e else u d e Q
def CT(t:TT):TT:=λd H Q=>t d H λc e=>Q (!c) e
theorem vY(i:PT X a tA):PW X (.BoolOp .And [a] pos) tA:=by
 refine .of ?_;intro j d s g H Q I h;refine isTrue_and (r8 (i d s g H Q I h) λc l e=>?_)
 cases c with
 | true=>exact isTrue_and_nil e
 | false=>exact e
theorem AB(i:PT X a tA):PW X (.BoolOp .Or [a] pos) tA:=by
 refine .of ?_;intro j d s g H Q I h;refine isTrue_or (r8 (i d s g H Q I h) λc l e=>?_)
 cases c with
 | false=>exact isTrue_or_nil e
 | true=>exact e
theorem yU(q:PT X a tA)(p:PW X (.BoolOp .And (b::rest) pos) tB'):PW X (.BoolOp .And (a::b::rest) pos) (DM tA tB'):=by
 refine .of ?_;intro l d s e H Q I h;refine isTrue_and (r8 (q d s e H _ I h) λc o ⟨j,i,g⟩=>?_)
 cases c with
 | true=>exact p l d o e j Q i g
 | false=>exact⟨j,i,g⟩
theorem Ci(q:PT X a tA)(p:PW X (.BoolOp .Or (b::rest) pos) tB'):PW X (.BoolOp .Or (a::b::rest) pos) (Ex tA tB'):=by
 refine .of ?_;intro l d s e H Q I h;refine isTrue_or (r8 (q d s e H _ I h) λc o ⟨j,i,g⟩=>?_)
 cases c with
 | true=>exact⟨j,i,g⟩
 | false=>exact p l d o e j Q i g
theorem zN(g:PT X a tA):PT X (.UnaryOp .Not a pos) (CT tA):=by
 refine .of ?_;intro d s e H Q I h;exact isTrue_not (g d s e H (λc i=>Q (!c) i) I h)
def Bh(ta tb:TE):TE:=λd H Q=>ta d H λx e=>∃c,x=.bl c/\if c=true then tb d e Q else Q (.bl false) e
def DH(ta tb:TE):TE:=λd H Q=>ta d H λx e=>∃c,x=.bl c/\if c=true then Q (.bl true) e else tb d e Q
def Bg(ta:TE):TE:=λd H Q=>ta d H λx e=>∃c,x=.bl c/\Q (.bl (!c)) e
theorem Az{e}{t:TE}(h:PE X a t):PE X (.BoolOp e [a] pos) t:=.of <| λc s d H Q I hw=>BoolOp_one (h c s d H Q I hw)
theorem Ab(q:PE X a ta)(p:PE X (.BoolOp .And (b::rest) pos) tb):PE X (.BoolOp .And (a::b::rest) pos) (Bh ta tb):=by
 refine .of ?_;intro d s g H Q I h;refine BoolOp_and (r8 (q d s g H _ I h) λv l ⟨x,j,i,o,e⟩=>?_);obtain⟨c,rfl,e⟩:=e;cases o;refine ti ?_
 cases c with
 | true=>exact p d l g j Q i e
 | false=>exact⟨.bl false,j,i,rfl,e⟩
theorem Cj(q:PE X a ta)(p:PE X (.BoolOp .Or (b::rest) pos) tb):PE X (.BoolOp .Or (a::b::rest) pos) (DH ta tb):=by
 refine .of ?_;intro d s g H Q I h;refine BoolOp_or (r8 (q d s g H _ I h) λv l ⟨x,j,i,o,e⟩=>?_);obtain⟨c,rfl,e⟩:=e;cases o;refine ti ?_
 cases c with
 | false=>exact p d l g j Q i e
 | true=>exact⟨.bl true,j,i,rfl,e⟩
theorem Aw(j:PE X a ta):PE X (.UnaryOp .Not a pos) (Bg ta):=by
 refine .of ?_;intro d s g H Q I h;refine UnaryOp_ (r8 (j d s g H _ I h) λv p ⟨x,o,l,i,e⟩=>?_);obtain⟨c,rfl,e⟩:=e;cases i;exact not_of (ti ⟨.bl (!c),o,l,rfl,e⟩)
end
def G1(K:GR)(H:Hp)(a:Addr)(xs:List V):Prop:=
 Rd H a (.lst xs) \/
  ∃(o:Obj) (b:GM) (n:Nat),K.lookup a=some o/\o.cls=.type "list" /\ o.dict=none/\o.data=.seq b n/\b.size<=sizeLine/\Vals xs b.toList
def G8(K:GR)(H:Hp)(a:Addr)(xs:List V):Prop:=
 Rd H a (.tup xs) \/
  ∃(o:Obj) (b:GM) (n:Nat),K.lookup a=some o/\o.cls=.type "tuple" /\ o.data=.seq b n/\b.size<=sizeLine/\Vals xs b.toList
def Dx:Value->Option V
 | .none=>some .l4
 | .bool b=>some (.bl b)
 | .int i _=>some (.int i)
 | .str x _=>some (.str x)
 | .bytes b _=>some (.byt b)
 | .float b _=>some (.flt b)
 | .ref a=>some (.ref a)
 | .type n=>some (.ty n)
 | _=>none
theorem RelV.abs{x:V}{u:Value}(r:RelV x u):Dx u=some x:=by
 cases x with
 | l4=>cases r;rfl
 | bl _=>cases r;rfl
 | int _=>obtain⟨t,rfl⟩:=r;rfl
 | str _=>obtain⟨t,rfl⟩:=r;rfl
 | byt _=>obtain⟨t,rfl⟩:=r;rfl
 | flt _=>obtain⟨t,rfl⟩:=r;rfl
 | ref _=>cases r;rfl
 | ty _=>cases r;rfl
theorem RelV.inj{x y:V}{u:Value}(r:RelV x u)(q:RelV y u):x=y:=oD (r.abs.symm.trans q.abs)
theorem Vals.inj:∀{xs a:List V} {b:GI},Vals xs b->Vals a b->xs=a
 | _,_,_,.nil,.nil=>rfl
 | _,_,_,.cons r t,.cons d c=>by rw[r.inj d,Vals.inj t c]
section
variable{X:Cx}{pins:GA}{σ:St}{H:Hp}{s:Shared}{a:Addr}{xs ys:List V}
theorem G1.of{K:GR}(h:H a=some (.lst xs)):G1 K H a xs:=.inl (.inl h)
theorem G8.of{K:GR}(h:H a=some (.tup xs)):G8 K H a xs:=.inl (.inl h)
theorem Inv.list(I:Inv X pins σ H s)(h:G1 X.K H a xs):∃its:GI,Vals xs its/\PlainL s.heap a its.toArray/\xs.length<=sizeLine:=by
 rcases h with h | ⟨o,its,n,c,d,hd,b,g,r⟩
 ·obtain⟨z,its,n,r,e⟩:=h.ok I.hok;exact⟨its,r,⟨_,n,e,rfl,rfl,rfl⟩,z⟩
 ·refine⟨its.toList,r,⟨o,n,I.Z8 a o c,d,hd,by simpa using b⟩,?_⟩;have e:=r.length;simp only[v6] at e;omega
theorem Inv.tuple(I:Inv X pins σ H s)(h:G8 X.K H a xs):∃its:GI,Vals xs its/\IsTup s.heap a its.toArray/\xs.length<=sizeLine:=by
 rcases h with h | ⟨o,its,n,c,d,b,g,r⟩
 ·obtain⟨z,its,r,p⟩:=h.ok I.hok;exact⟨its,r,p,z⟩
 ·refine⟨its.toList,r,⟨o,I.Z8 a o c,d,n,by simpa using b⟩,?_⟩;have e:=r.length;simp only[v6] at e;omega
theorem Inv.jX(I:Inv X pins σ H s)(h:G1 X.K H a xs)(h':G1 X.K H a ys):xs=ys:=by
 obtain⟨c,r,⟨o,n,e,_,_,d⟩,_⟩:=I.list h;obtain⟨b,j,⟨l,p,g,_,_,i⟩,_⟩:=I.list h';rw[e] at g;cases g;rw[d] at i
 injection i with d1 _
 have:c=b:=by simpa using congrArg Array.toList d1
 subst this;exact r.inj j
theorem Inv.Z9(I:Inv X pins σ H s)(h:G8 X.K H a xs)(h':G8 X.K H a ys):xs=ys:=by
 obtain⟨c,r,⟨o,e,_,n,d⟩,_⟩:=I.tuple h;obtain⟨b,j,⟨l,g,_,p,i⟩,_⟩:=I.tuple h';rw[e] at g;cases g;rw[d] at i
 injection i with d1 _
 have:c=b:=by simpa using congrArg Array.toList d1
 subst this;exact r.inj j
end
abbrev Cx.Q5(X:Cx)(E:GP):Cx:={ X with xe:=E }
abbrev Cx.AJ(X:Cx):Cx:=X.Q5 λ_ _=>False
theorem Cx.Ok.Q5{X:Cx}(ok:X.Ok)(E:GP):(X.Q5 E).Ok:=
 ⟨ok.mod,ok.kind,ok.glob,ok.blt,ok.above,ok.inj,ok.has,ok.cab,ok.hd,ok.frames,ok.stk,ok.exf,ok.bs,ok.bsz,ok.noex,ok.exfs,ok.ae,ok.frf,ok.sy⟩
theorem Cx.Ok.S2{X:Cx}{E:GP}(ok:(X.Q5 E).Ok):X.Ok:=
 ⟨ok.mod,ok.kind,ok.glob,ok.blt,ok.above,ok.inj,ok.has,ok.cab,ok.hd,ok.frames,ok.stk,ok.exf,ok.bs,ok.bsz,ok.noex,ok.exfs,ok.ae,ok.frf,ok.sy⟩
section
variable{X:Cx}{pins:GA}{σ:St}{H:Hp}{s:Shared}{E:GP}
theorem Inv.Q5(I:Inv X pins σ H s)(E:GP):Inv (X.Q5 E) pins σ H s:=⟨I.ok.Q5 E,I.os,I.bare,I.base,I.loc,I.cell,I.free,I.freeC,I.pin,I.hok,I.len⟩
theorem Inv.S2(I:Inv (X.Q5 E) pins σ H s):Inv X pins σ H s:=⟨I.ok.S2,I.os,I.bare,I.base,I.loc,I.cell,I.free,I.freeC,I.pin,I.hok,I.len⟩
theorem SP.S2{D:Ends}{f:Flow}{s':Shared}(h:SP (X.Q5 E) pins D f s'):SP X pins D f s':=by
 cases f with
 | next=>obtain⟨a,b,I,q⟩:=h;exact⟨a,b,I.S2,q⟩
 | brk=>obtain⟨a,b,I,q⟩:=h;exact⟨a,b,I.S2,q⟩
 | cont=>obtain⟨a,b,I,q⟩:=h;exact⟨a,b,I.S2,q⟩
 | ret u=>obtain⟨v,a,b,I,r,q⟩:=h;exact⟨v,a,b,I.S2,r,q⟩
theorem ig.AJ{st:GO}{t:TS}(h:ig X.AJ st t):ig X st t:=.of <| λpins s σ H D I hw=>
 o1 (h pins s σ H D (I.Q5 _) hw) (λ_ _ q=>q.S2) λ_ _ z=>False.elim z
end
section
variable{X:Cx}{st:Stmt}{rest:GO}{t u:TS}{e:Expr}{te:TE}{pos:Pos}
def uR:TS:=λD a H=>D.nx a H
def sD(t u:TS):TS:=λD a H=>t { D with nx:=u D } a H
theorem mR:ig X [] uR:=.of <| λ_ _ a H _ I h=>A1 ⟨a,H,I,h⟩
theorem cR(i:PS X st t)(g:ig X rest u):ig X (st::rest) (sD t u):=by
 refine .of ?_;intro a s c H D I h;refine wpAny_execs_cons (r8 (i a s c H { D with nx:=u D } I h) λf d q=>?_)
 cases f with
 | next=>
  obtain⟨b,l,j,q⟩:=q;exact g a d b l D j q
 | ret v=>exact q
 | brk=>exact q
 | cont=>exact q
theorem xj(c:PS X st t):ig X [st] t:=by
 refine .of ?_;intro a s b H D I h;refine wpAny_execs_cons (r8 (c a s b H D I h) λf d q=>?_)
 cases f with
 | next=>exact A1 q
 | ret v=>exact q
 | brk=>exact q
 | cont=>exact q
theorem Inv.quiet{pins:GA}{σ:St}{H:Hp}{s:Shared}(I:Inv X pins σ H s):interactive X.env=false:=by simp[interactive,I.ok.kind]
def AS(te:TE):TS:=λD a H=>te a H λ_ b=>D.nx a b
theorem xh(g:PE X e te)(d:swapsWith e none pos.line X.env=pure false:=by rfl):PS X (.Expr e pos) (AS te):=by
 refine .of ?_;intro a s b H D I h;exact wpAny_Expr_any (r8 (g a s b H _ I h) λv l ⟨x,j,i,o,c⟩=>⟨b,j,i,c⟩) I.quiet d
def CK(te:TE):TS:=λD a H=>te a H D.rt
theorem uQ(g:PE X e te):PS X (.Return (some e) pos) (CK te):=by
 refine .of ?_;intro a s b H D I h;exact wpAny_Return_some (r8 (g a s b H _ I h) λv l ⟨x,j,i,c,d⟩=>⟨x,b,j,i,c,d⟩)
def CL(c:TT)(t u:TS):TS:=λD a H=>c a H λb d=>if b=true then t D a d else u D a d
theorem Bm{c:Expr}{a b:GO}{tc:TT}(q:PT X c tc)(v:ig X a t)(r:ig X b u):PS X (.If c a b pos) (CL tc t u):=by
 refine .of ?_;intro g s i H D I h;refine wpAny_If (r8 (q g s i H _ I h) λd j ⟨p,o,l⟩=>?_)
 cases d with
 | true=>exact v g j i p D o l
 | false=>exact r g j i p D o l
end
abbrev TG:=V->St->Hp->(St->Hp->Prop)->Prop
abbrev wg:=List V->St->Hp->(St->Hp->Prop)->Prop
structure PG(X:Cx)(target:Expr)(t:TG) : Prop where
 of ::
 run :
 ∀(pins:GA) (s:Shared) (σ:St) (H:Hp) (v:V) (u:Value) (Q:St->Hp->Prop),Inv X pins σ H s->RelV v u->t v σ H Q ->
  wpAny (model X.prog X.w) X.A (assign target X.env u) (λ_ s'=>∃σ' H',Inv X pins σ' H' s'/\Q σ' H') X.xe s
instance {X:Cx} {target:Expr} {t:TG} : CoeFun (PG X target t) λ_=>
 ∀(pins:GA) (s:Shared) (σ:St) (H:Hp) (v:V) (u:Value) (Q:St->Hp->Prop),Inv X pins σ H s->RelV v u->t v σ H Q ->
  wpAny (model X.prog X.w) X.A (assign target X.env u) (λ_ s'=>∃σ' H',Inv X pins σ' H' s'/\Q σ' H') X.xe s:=⟨PG.run⟩
structure vo(X:Cx)(ts:GJ)(t:wg) : Prop where
 of ::
 run :
 ∀(pins:GA) (s:Shared) (σ:St) (H:Hp) (vs:List V) (us:GI) (Q:St->Hp->Prop),Inv X pins σ H s->Vals vs us->t vs σ H Q ->
  wpAny (model X.prog X.w) X.A (assignInOrder ((assignEach ts X.env).map (·.2)) us) (λ_ s'=>∃σ' H',Inv X pins σ' H' s'/\Q σ' H') X.xe s
instance {X:Cx} {ts:GJ} {t:wg} : CoeFun (vo X ts t) λ_=>
 ∀(pins:GA) (s:Shared) (σ:St) (H:Hp) (vs:List V) (us:GI) (Q:St->Hp->Prop),Inv X pins σ H s->Vals vs us->t vs σ H Q ->
  wpAny (model X.prog X.w) X.A (assignInOrder ((assignEach ts X.env).map (·.2)) us) (λ_ s'=>∃σ' H',Inv X pins σ' H' s'/\Q σ' H') X.xe s:=⟨vo.run⟩
section
variable{X:Cx}{pos:Pos}
def nY(i:Nat):TG:=λv a H Q=>Q (a.set i (some v)) H
theorem vA{i:Nat}{x:Str}(e:X.N.Nodup)(c:X.N[i]?=some x)(b:Loc X.env.scope x)(d:X.fn x=true\/X.env.scope.names.lookup x=some .local:=by first | exact .inl rfl | exact .inr rfl | assumption):PG X (.Name x pos) (nY i):=by
 refine .of ?_;intro a s j H v u Q I r h;exact wpAny_assign_Name (kd I e c b r (λl g=>⟨_,H,g,h⟩) d)
def CZ:wg:=λvs a H Q=>vs=[]/\Q a H
def Cs(t:TG)(u:wg):wg:=λvs b H Q=>∃v r,vs=v::r/\t v b H λa c=>u r a c Q
theorem wH:vo X [] CZ:=by
 refine .of ?_;intro a s b H vs c Q I r h;obtain⟨e,h⟩:=h;subst e;cases r;exact assignInOrder_nil ⟨b,H,I,h⟩
theorem qY{e:Expr}{b:GJ}{t:TG}{u:wg}(p:PG X e t)(o:vo X b u)
  (l:(assignEach (e::b) X.env).map (·.2)=assign e X.env::(assignEach b X.env).map (·.2):=by rfl):vo X (e::b) (Cs t u):=by
 refine .of ?_;intro a s d H vs B Q I r h;obtain⟨v,z,q,h⟩:=h;subst q
 cases r with
 | cons r i=>
  rw[l];refine assignInOrder_cons (r8 (p a s d H _ _ _ I r h) λ_ g ⟨c,y,x,j⟩=>?_);exact o a g c y _ _ Q x i j
def BO(K:GR)(n:Nat)(t:wg):TG:=λv c H Q=>∃a b,v=.ref a/\G8 K H a b/\b.length=n/\t b c H Q
theorem P4{d:GJ}{k:Nat}{t:wg}{n:Nat}(C:X.calm=true)(h:vo X d t)
  (z:(assignEach d X.env).length=n:=by rfl) (g:(assignEach d X.env).findIdx? (·.1)=none:=by rfl):PG X (.Tuple d k pos) (BO X.K n t):=by
 refine .of ?_;intro c s i H v u Q I r hw;obtain⟨a,l,G,y,B,hw⟩:=hw;subst G;cases r;obtain⟨p,j,x,M⟩:=I.tuple y;refine assign_Tuple_tuple (I.ok.hd C) x (by simp[z,<-B,j.length]) g λE q=>?_;have J:Inv X c i H { s with heap:=E }:=I.kept (t':=s.toks) λb o e=>q b o (mC (hW e)) e;exact h c _ i H l _ Q J (by simpa using j) hw
def vt(te:TE)(g:TG):TS:=λD a H=>te a H λx b=>g x a b D.nx
theorem ip{b e:Expr}{te:TE}{g:TG}(p:PE X e te)(o:PG X b g)(l:swapsWithSole [b] e pos.line X.env=pure false:=by rfl)(hw:swappedStores [b] e X.env=pure none:=by rfl)
  (r:(assignEach [b] X.env).map (·.2)=[assign b X.env]:=by rfl):PS X (.Assign [b] e pos) (vt te g):=by
 refine .of ?_;intro a s c H D I h;refine wpAny_Assign_stores (r8 (p a s c H _ I h) λv d ⟨x,y,u,i,j⟩=>?_) l hw;rw[r];exact r8 (o a d c y x v _ u i j) λ_ z q=>q
theorem zM{i:Nat}{x:Str}{e:Expr}{te:TE}{a:Pos}(r:X.N.Nodup)(o:X.N[i]?=some x)(j:Loc X.env.scope x)(q:PE X e te)(l:swapsWith e (some (.Name x a)) pos.line X.env=pure false:=by rfl)(p:X.fn x=true\/X.env.scope.names.lookup x=some .local:=by first | exact .inl rfl | exact .inr rfl | assumption) :
  PS X (.Assign [.Name x a] e pos) (vt te (nY i)):=by
 refine .of ?_;intro b s c H D I h;refine wpAny_Assign_Name (r8 (q b s c H _ I h) λv E ⟨y,B,z,d,g⟩=>?_) l;exact kd z r o j d (λC u=>⟨_,B,u,g⟩) p
def yO(c:TT)(i:TS):TS:=λD a H=>∃W:Nat->St->Hp->Prop,(∃m,W m a H)/\∀m a H,W m a H ->
 c a H λb g=>if b=true then ∃N:St->Hp->Prop,(∀d h,N d h->∃e,e<m/\W e d h)/\i { D with nx:=N,ct:=N,bk:=D.nx } a g else D.nx a g
theorem uX{c:Expr}{body:GO}{tc:TT}{y:TS}(z:PassesOwn (model X.prog X.w) X.A X.env X.xe)(Y:PT X c tc)(hb:ig X body y):PS X (.While c body [] pos) (yO tc y):=by
 refine .of ?_;intro d s M H D I h;obtain⟨W,⟨U,Q⟩,i⟩:=h;refine wpAny_While (codeAny_whileLoop (λn T=>∃g J,Inv X d g J T/\W n g J) ?_ U ⟨M,H,I,Q⟩);rintro n S ⟨e,G,I1,O⟩;refine wS z (r8 (Y d S e G _ I1 (i n e G O)) λb R ⟨E,C,o⟩=>?_)
 cases b with
 | true=>
  obtain⟨N,B,o⟩:=o;rw[l7 rfl];refine wS z (r8 (hb d R e E _ C o) λf s3 l=>?_)
  cases f with
  | next=>
   obtain⟨a,j,x,q⟩:=l;obtain⟨r,u,p⟩:=B a j q;exact⟨r,u,a,j,x,p⟩
  | cont=>
   obtain⟨a,j,x,q⟩:=l;obtain⟨r,u,p⟩:=B a j q;exact⟨r,u,a,j,x,p⟩
  | brk=>exact l
  | ret v=>exact l
 | false=>
  rw[ln kt];exact A1 ⟨e,E,C,o⟩
end
structure It where
 go:Nat->Hp->Prop
 yld:Nat->Hp->V->Hp->Prop
 stop:Nat->Hp->Prop
def K9(X:Cx)(pins:GA)(H:Hp)(b:Addr):Prop:=
 H b=none/\b≠X.env.locals/\b∉X.fs/\(b∈X.ex\/X.s₀.heap.objs.size<=b)/\(∀x c,X.env.cells.lookup x=some c->c≠b)/\∀p∈X.pn++pins,p.1≠b
theorem Inv.dD{X:Cx}{pins:GA}{σ:St}{H d:Hp}{s:Shared}{b:Addr}(I:Inv X pins σ H s)(a:s.heap.objs.size<=b)(h:d b=none):K9 X pins d b:=by
 refine⟨h,wn (lv I.lt a),I.DF a,.inr (ol I.sz a),λx c e z=>?_,λp g z=>?_⟩
 ·obtain⟨v,q⟩:=I.cell x c e;exact absurd (lv q.lt (by rw[z];exact a)) (wv _)
 ·exact absurd (lv (hW (I.pin p g).1) (by rw[z];exact a)) (wv _)
structure Turn(P:Program)(w:World)(K:GR)(tg:Expr)(J:It)(fp:GG)(it:Addr)(tn:Nat->Heap->Prop):Prop where
 mem:it∈fp
 obj:∀i h,tn i h->∀b∈fp,∃o,h.get? b=some o/\∀v,o.data≠.cell v
 keep:∀i h h',tn i h->(∀b∈fp,∀o,h.get? b=some o->h'.get? b=some o)->tn i h'
 item:∀(X:Cx),X.prog=P->X.w=w->X.K=K->X.calm=true->∀(i:Nat) (pins:GA) (s:Shared) (σ:St) (H:Hp) (E:GP),Inv X pins σ H s->(∀b∈fp,K9 X pins H b)->tn i s.heap->J.go i H ->
  wpAny (model P w) X.A (pyNext (.ref it)) (λr s1=>∃u,r=some u /\
   wpAny (model P w) X.A (letOwnedTupleGo tg (.ref it) u) (λ_ s2=>∃x H',Inv X pins σ H' s2/\RelV x u/\J.yld i H x H'/\tn (i+1) s2.heap/\∀b∈fp,H' b=none) E s1) E s
 done:∀(X:Cx),X.prog=P->X.w=w->X.K=K->X.calm=true->∀(i:Nat) (pins:GA) (s:Shared) (σ:St) (H:Hp) (E:GP),Inv X pins σ H s->(∀b∈fp,K9 X pins H b)->tn i s.heap->J.stop i H ->
  wpAny (model P w) X.A (pyNext (.ref it)) (λr s1=>r=none/\Inv X pins σ H s1) E s
 self:∀(A:Around) (i:Nat) (s:Shared) (Q:GP) (E:GP),tn i s.heap->Q (.ref it) s->wpAny (model P w) A (pyIter (.ref it)) Q E s
abbrev TI:=St->Hp->(It->Hp->Prop)->Prop
def CS(X:Cx)(pins:GA)(σ:St)(i:Expr)(R:It->Hp->Prop)(a:Value)(e:Shared):Prop:=
 ∃(g:Addr) (h:GG) (d:Nat->Heap->Prop) (J:It) (c:Hp),a=.ref g/\Inv X pins σ c e/\Turn X.prog X.w X.K i J h g d/\d 0 e.heap/\(∀b∈h,K9 X pins c b)/\R J c
structure PI(X:Cx)(tg iter:Expr)(wi:TI) : Prop where
 of ::
 run :
 ∀(pins:GA) (s:Shared) (σ:St) (H:Hp) (R:It->Hp->Prop),Inv X pins σ H s->wi σ H R ->
  wpAny (model X.prog X.w) X.A (eval iter X.env) (λv s1=>wpAny (model X.prog X.w) X.A (pyIter v) (CS X pins σ tg R) X.xe s1) X.xe s
instance {X:Cx} {tg iter:Expr} {wi:TI} : CoeFun (PI X tg iter wi) λ_=>
 ∀(pins:GA) (s:Shared) (σ:St) (H:Hp) (R:It->Hp->Prop),Inv X pins σ H s->wi σ H R ->
  wpAny (model X.prog X.w) X.A (eval iter X.env) (λv s1=>wpAny (model X.prog X.w) X.A (pyIter v) (CS X pins σ tg R) X.xe s1) X.xe s:=⟨PI.run⟩
theorem oo{M:Model}{A:Around}{E:GP}{s:Shared}{b:Expr}{it:Addr}{u:Value}{o:Obj}{n:String}{vs:GM}{Q:Unit->Shared->Prop}(c:s.heap.get? it=some o)(e:o.cls=.type n)(hd:o.data=.fields vs)
    (d:["enumerate","zip","dict_itemiterator","dict_reverseitemiterator","odict_iterator","itertools.zip_longest","itertools.pairwise"].contains n=false) (a:Q () s):wpAny M A (letOwnedTupleGo b (.ref it) u) Q E s:=by
  unfold letOwnedTupleGo
  cases b<;>first
    | exact dL a
    | (cases u<;>first
        | exact dL a
        | (refine cB (wpAny_load c ?_)
           rw[e,hd];show wpAny M A (if (["enumerate","zip","dict_itemiterator","dict_reverseitemiterator","odict_iterator","itertools.zip_longest","itertools.pairwise"].contains n&&vs[0]? == some (rawInt _))=true then _ else _) Q E s;rw[ln (by intro h;rw[d,wl] at h;cases h)];exact dL a))
def Cw(K:GR)(a:Addr):It:=
 ⟨λi H=>∃b x,G1 K H a b/\b[i]?=some x,λi H x c=>c=H/\∀b,G1 K H a b->b[i]?=some x,λi H=>∃b,G1 K H a b/\b.length<=i⟩
def Dt(K:GR)(a:Addr):It:=
 ⟨λi H=>∃b x,G8 K H a b/\b[i]?=some x,λi H x c=>c=H/\∀b,G8 K H a b->b[i]?=some x,λi H=>∃b,G8 K H a b/\b.length<=i⟩
def CH(lo:Int)(n:Nat):It:=⟨λi _=>i<n,λi H x a=>a=H/\x=.int (lo+i),λi _=>n<=i⟩
theorem oB{P:Program}{w:World}{K:GR}{tg:Expr}(a it:Addr):Turn P w K tg (Cw K a) [it] it (λi h=>h.IsListIter it a i) where
 mem:=by simp
 obj:=λi h st b j=>by
  have e:b=it:=by simpa using j
  subst e;obtain⟨o,e,c,d⟩:=st;exact⟨o,e,λv z=>by rw[d] at z;cases z⟩
 keep:=λi h y st k=>st.at λo e=>k it (by simp) o e
 item:=by
  intro X M hw O hc i g s Y H E I r st J;subst M hw O;obtain⟨xs,x,q,G⟩:=J;obtain⟨C,B,p,hz⟩:=I.list q;obtain⟨u,hu,ru⟩:=B.get G;obtain⟨U,T,f2,S,R,Q⟩:=r it (by simp);refine wpAny_pyNext_list_item st p.isList (x:=u) (by simpa using hu) λy l sb=>?_;have I1:Inv X g Y H { s with heap:=y }:=I.turned (t':=s.toks) (λb o j e=>(sb.2 b j).trans e) U T S R Q;obtain⟨o,e,c,d⟩:=id l;exact⟨u,rfl,oo (s:={ s with heap:=y }) e c d (by decide) ⟨x,H,I1,ru,⟨rfl,λys hy=>by rw[I.jX hy q];exact G⟩,l,λb j=>(r b j).1⟩⟩
 done:=by
  intro X M hw O hc i g s Y H E I r st J;subst M hw O;obtain⟨xs,q,G⟩:=J;obtain⟨C,B,p,hz⟩:=I.list q;obtain⟨U,T,f2,S,R,Q⟩:=r it (by simp);have hl:=B.length;exact wpAny_pyNext_list_end (I.ok.hd hc) st p.isList (by simp;omega) λy eb=>⟨rfl,I.turned (t':=s.toks) (λb o j e=>eb b o j e) U T S R Q⟩
 self:=λ_ _ _ _ _ st h=>wpAny_pyIter_listiter st h
theorem lC{P:Program}{w:World}{K:GR}{tg:Expr}(a it:Addr):Turn P w K tg (Dt K a) [it] it (λi h=>h.IsTupleIter it a i) where
 mem:=by simp
 obj:=λi h st b l=>by
  have e:b=it:=by simpa using l
  subst e;obtain⟨o,e,c,d⟩:=st;exact⟨o,e,λv z=>by rw[d] at z;cases z⟩
 keep:=λi h B st k=>st.at λo e=>k it (by simp) o e
 item:=by
  intro X M hw O hc i g s Y H E I y st J;subst M hw O;obtain⟨xs,x,r,G⟩:=J;obtain⟨j,C,p,hz⟩:=I.tuple r;obtain⟨u,hu,ru⟩:=C.get G;obtain⟨U,T,f2,S,R,Q⟩:=y it (by simp);refine wpAny_pyNext_tuple_item st (show s.heap.IsTuple a j.toArray from p) (x:=u) (by simpa using hu) λB q sb=>?_;have I1:Inv X g Y H { s with heap:=B }:=I.turned (t':=s.toks) (λb o l e=>(sb.2 b l).trans e) U T S R Q;obtain⟨o,e,c,d⟩:=id q;exact⟨u,rfl,oo (s:={ s with heap:=B }) e c d (by decide) ⟨x,H,I1,ru,⟨rfl,λys hy=>by rw[I.Z9 hy r];exact G⟩,q,λb l=>(y b l).1⟩⟩
 done:=by
  intro X M hw O hc i g s Y H E I y st J;subst M hw O;obtain⟨xs,r,G⟩:=J;obtain⟨j,C,p,hz⟩:=I.tuple r;obtain⟨U,T,f2,S,R,Q⟩:=y it (by simp);have hl:=C.length;exact wpAny_pyNext_tuple_end (I.ok.hd hc) st (show s.heap.IsTuple a j.toArray from p) (by simp;omega) λB eb=>⟨rfl,I.turned (t':=s.toks) (λb o l e=>eb b o l e) U T S R Q⟩
 self:=λ_ _ _ _ _ st h=>wpAny_pyIter_tupleiter st h
theorem lq{P:Program}{w:World}{K:GR}{M:Expr}(it:Addr)(lo:Int)(n:Nat):Turn P w K M (CH lo n) [it] it (λi h=>IsRangeIter h it (lo+(i:Nat)*1) ((n:Int)-(i:Nat)) 1) where
 mem:=by simp
 obj:=λi h st b c=>by
  have e:b=it:=by simpa using c
  subst e
  exact⟨_,st,λv z=>by
   have J:Data.fields _=Data.cell v:=z;cases J⟩
 keep:=λi h j st k=>k it (by simp) _ st
 item:=by
  intro X q hw r p i a s G H E I g st l;subst q hw r;obtain⟨C,B,R,y,x,u⟩:=g it (by simp);have W:=Walks.range (prog:=X.prog) (w:=X.w) (I.ok.hd p) it lo 1 n;refine W.item i s _ _ l st λv j tk Q d O=>?_;obtain⟨t,rfl⟩:=Q;have T:Inv X a G H { s with heap:=j,toks:=tk }:=I.turned (λb o c e=>O b o (by simpa using c) e) C B y x u;refine⟨_,rfl,oo (s:={ s with heap:=j,toks:=tk }) (n:="range_iterator") d rfl rfl (by decide) ⟨.int (lo+i),H,T,⟨t,?_⟩,⟨rfl,rfl⟩,d,λb c=>(g b c).1⟩⟩;rw[Int.mul_one]
 done:=by
  intro X q hw r p i a s G H E I g st l;subst q hw r;obtain⟨C,B,R,y,x,u⟩:=g it (by simp);exact wpAny_pyNext_range_end (I.ok.hd p) st (by have:n<=i:=l;omega) λj S=>⟨rfl,I.turned (t':=s.toks) (λb o c e=>S b o c e) C B y x u⟩
 self:=λ_ _ _ _ _ st h=>wpAny_pyIter_rangeiter st h
section
variable{X:Cx}{tg:Expr}
theorem tJ{pins:GA}{σ:St}{H:Hp}{s:Shared}{R:It->Hp->Prop}{E:GP}{lo a:Int}{t u v:Tok}{tk:Nat}(I:Inv X pins σ H s)(j:-(2^62)<=lo)(i:lo<2^62)(h:-(2^62)<=a)(g:a<2^62)
  (q:R (CH lo (a-lo).toNat) H):wpAny (model X.prog X.w) X.A (pyIter (.ref s.heap.objs.size)) (CS X pins σ tg R) E { s with heap:=s.heap.push { cls:=.type "range",data:=.fields #[.int lo t,.int a u,.int 1 v] },toks:=tk }:=by
 refine wpAny_pyIter_range (IsRange.new ..) (small_one j i h g) ?_;have c:Inv X pins σ H { s with heap:=s.heap.push { cls:=.type "range",data:=.fields #[.int lo t,.int a u,.int 1 v] },toks:=tk }:=I.kept λb o e=>cC _ e
 refine⟨(s.heap.push { cls:=.type "range",data:=.fields #[.int lo t,.int a u,.int 1 v] }).objs.size,[(s.heap.push { cls:=.type "range",data:=.fields #[.int lo t,.int a u,.int 1 v] }).objs.size],_,_,H,rfl,
  c.kept (t':=tk) λb o e=>cC _ e,lq _ lo (a-lo).toNat,?_,λb d=>?_,q⟩
 ·have p:lo+((0:Nat):Int)*1=lo:=by simp
  have l:(((a-lo).toNat:Nat):Int)-((0:Nat):Int)=Builtin.Range.rangeSize lo a 1:=by rw[rangeSize_one];split<;>omega
  show IsRangeIter _ _ (lo+((0:Nat):Int)*1) ((((a-lo).toNat:Nat):Int)-((0:Nat):Int)) 1;rw[p,l];exact me _ rfl
 ·have e:b=(s.heap.push { cls:=.type "range",data:=.fields #[.int lo t,.int a u,.int 1 v] }).objs.size:=by simpa using d
  subst e;exact c.dD (hI _) (c.hok.fresh (hI _))
def xX(b:TA):TI:=λa H R=>b a H λvs c=>∃j:Int,vs=[.int j]/\-(2^62)<=j/\j<2^62/\R (CH 0 j.toNat) c
theorem oS {a:Expr} {g:TA} {p b:Pos} (y:Gl X "range") (x:X.mg "range"=none) (z:PA X [a] g) (v:starEach [a] X.env=[(false,eval a X.env)]:=by rfl):PI X tg (.Call (.Name "range" p) [a] [] b) (xX g):=by
 refine .of ?_;intro c s i H R I h;refine Call_ (ay I y x boot_range (ww (r8 (z b c s i H _ I h) λC E ⟨vs,G,B,o,d⟩=>?_) v rfl));obtain⟨j,e,d,u,q⟩:=d;subst e
 cases o with
 | cons r l=>
  cases l;obtain⟨t,rfl⟩:=r;exact call_range_1 (tJ B (by omega) (by omega) d u (by simpa using q))
def BA(h:TI)(g:TG)(j:TS):TS:=λD a H=>h a H λJ o=>∃W:Nat->Nat->St->Hp->Prop,(∃m,W 0 m a o)/\∀i m a H,W i m a H ->
 (J.stop i H/\D.nx a H)\/(J.go i H/\∃N:St->Hp->Prop,(∀b c,N b c->∃e,e<m/\W (i+1) e b c)/\∀x c,J.yld i H x c->g x a c λd l=>j { D with nx:=N,ct:=N,bk:=D.nx } d l)
def ag(a:GG)(h:Heap):GA:=a.filterMap λb=>(h.get? b).map λo=>(b,o)
theorem C8{a:GG}{h:Heap}{b:Addr}{o:Obj}(c:b∈a)(e:h.get? b=some o):(b,o)∈ag a h:=List.mem_filterMap.mpr ⟨b,c,by rw[e];rfl⟩
theorem oZ{a:GG}{h:Heap}{p:Addr×Obj}(c:p∈ag a h):p.1∈a/\h.get? p.1=some p.2:=by
 obtain⟨b,d,e⟩:=List.mem_filterMap.mp c
 cases q:h.get? b with
 | none=>rw[q] at e;cases e
 | some o=>
  rw[q] at e;have g:(b,o)=p:=oD e;subst g;exact⟨d,q⟩
theorem Inv.pinned{pins:GA}{σ:St}{H:Hp}{s:Shared}{a:GG}(I:Inv X pins σ H s)(j:∀b∈a,K9 X pins H b)(i:∀b∈a,∃o,s.heap.get? b=some o/\∀v,o.data≠.cell v):Inv X (pins++ag a s.heap) σ H s:=
 I.nV λp h=>(List.mem_append.mp h).elim (λz=>I.pin p (hH _ z)) λz=>by
  obtain⟨c,e⟩:=oZ z;obtain⟨r,q,l,_⟩:=j p.1 c;obtain⟨o,g,d⟩:=i p.1 c;rw[e] at g;cases g;exact⟨e,r,q,l,d⟩
theorem Inv.R9{pins a:GA}{σ:St}{H:Hp}{s:Shared}(I:Inv X (pins++a) σ H s):Inv X pins σ H s:=I.nV λp b=>I.pin p (hH _ (mr _ b))
theorem G0{q:Expr}{body:GO}{wi:TI}{g:TG}{tb:TS}{a2:Pos}(R:PassesOwn (model X.prog X.w) X.A X.env X.xe)(hc:X.calm=true)(hi:PI X tg q wi)(hg:PG X tg g)(y:ig X body tb)
  (hs:∀x,foldedSetIterable q X.env x=pure x:=by intro _;rfl):PS X (.For tg q body [] a2) (BA wi g tb):=by
 refine .of ?_;intro c s σ H D I h;refine wpAny_For (r8 (hi c s σ H _ I h) λv s1 h1=>r8 h1 λa5 s2 h2=>?_) hs;obtain⟨it,U,tn,J,H2,e,I2,T,a1,f2,W,⟨m0,w0⟩,M⟩:=h2;subst e;have p:∀{C:Hp},(∀b∈U,C b=none)->∀b∈U,K9 X c C b:=λhn b y=>⟨hn b y,(f2 b y).2⟩
 refine codeAny_forLoop_any (λn s'=>∃i l C,Inv X c l C s'/\tn i s'.heap/\(∀b∈U,C b=none)/\W i n l C) ?_ m0 ⟨0,σ,H2,I2,a1,λb y=>(f2 b y).1,w0⟩;rintro n s3 ⟨i,j,Y,I3,O,S,w3⟩;rcases M i n j Y w3 with⟨stop,qn⟩ | ⟨go,N,hN,step⟩
 ·refine wS R (r8 (T.done X rfl rfl rfl hc i c s3 j Y X.xe I3 (p S) O stop) λr s4 ⟨hr,I4⟩=>?_);subst hr;exact A1 ⟨j,Y,I4,qn⟩
 ·refine wS R (r8 (T.item X rfl rfl rfl hc i c s3 j Y X.xe I3 (p S) O go) λr s4 ⟨u,hr,h4⟩=>?_);subst hr;refine wS R (r8 h4 λ_ s5 ⟨x,H5,I5,r5,y5,G,a3⟩=>?_);have a4:=I5.pinned (p a3) (T.obj _ _ G);refine wS R (r8 (hg _ s5 j H5 x u _ a4 r5 (step x H5 y5)) λ_ s6 ⟨a0,H6,I6,q6⟩=>?_);refine wS R (r8 (y _ s6 a0 H6 _ I6 q6) λf s7 E=>?_)
  have again:∀{a:St} {B:Hp},Inv X (c++ag U s5.heap) a B s7->N a B->∃m,m<n/\∃i l C,Inv X c l C s7/\tn i s7.heap/\(∀b∈U,C b=none)/\W i m l C:=λ{a B} z Q=>by
   obtain⟨m',hm,w7⟩:=hN a B Q;refine⟨m',hm,i+1,a,B,z.R9,T.keep _ _ _ G λb y o e=>(z.pin (b,o) (hH _ (hH _ (C8 y e)))).1,λb y=>?_,w7⟩;obtain⟨o,e,d⟩:=T.obj _ _ G b y;exact(z.pin (b,o) (hH _ (hH _ (C8 y e)))).2.1
  cases f with
  | next=>obtain⟨a,B,z,Q⟩:=E;exact again z Q
  | cont=>obtain⟨a,B,z,Q⟩:=E;exact again z Q
  | brk=>obtain⟨a,B,z,E⟩:=E;exact⟨a,B,z.R9,E⟩
  | ret v=>obtain⟨x7,a,B,z,r7,E⟩:=E;exact⟨x7,a,B,z.R9,r7,E⟩
end
abbrev R2:=V->V->Hp->VK->Prop
def E7(X:Cx)(f:Value->Value->Sem Value)(r:R2):Prop:=
 ∀(a:GA) (s:Shared) (b:St) (H:Hp) (x y:V) (v u:Value) (Q:VK),Inv X a b H s->RelV x v->RelV y u->r x y H Q ->
  wpAny (model X.prog X.w) X.A (f v u) (EP X a b Q) X.xe s
def Du(X:Cx)(f:Value->Sem Value)(r:V->Hp->VK->Prop):Prop:=
 ∀(a:GA) (s:Shared) (b:St) (H:Hp) (x:V) (v:Value) (Q:VK),Inv X a b H s->RelV x v->r x H Q ->
  wpAny (model X.prog X.w) X.A (f v) (EP X a b Q) X.xe s
def C5(X:Cx)(f:Value)(r:List V->Hp->VK->Prop):Prop:=
 ∀(a:GA) (s:Shared) (b:St) (H:Hp) (c:List V) (d:GI) (Q:VK),Inv X a b H s->Vals c d->r c H Q ->
  wpAny (model X.prog X.w) X.A (call f d) (EP X a b Q) X.xe s
def CQ(X:Cx)(r:V->Hp->(Bool->Hp->Prop)->Prop):Prop:=
 ∀(a:GA) (s:Shared) (b:St) (H:Hp) (x:V) (v:Value) (Q:Bool->Hp->Prop),Inv X a b H s->RelV x v->r x H Q ->
  wpAny (model X.prog X.w) X.A (truthy v) (TP X a b Q) X.xe s
def Bb(r:R2)(c b:TE):TE:=λa H Q=>c a H λx e=>b a e λy d=>r x y d Q
def Ez(r:V->Hp->VK->Prop)(b:TE):TE:=λa H Q=>b a H λx c=>r x c Q
def rI(C:Int->Int->Prop)(g:Int->Int->V):R2:=λx y H Q=>∃i j,x=.int i/\y=.int j/\C i j/\Q (g i j) H
def tE(g:Int->Int->V):R2:=λx y H Q=>∃i j,x=.int i/\y=.int j/\Q (g i j) H
def rU(g:Int->V):V->Hp->VK->Prop:=λx H Q=>∃i,x=.int i/\Q (g i) H
section
variable{X:Cx}{a b c:Expr}{ta tb tc:TE}{pos:Pos}
theorem zm(C:PE X a ta)(B:PE X b tb){pins:GA}{s:Shared}{σ:St}{H:Hp}{R:V->V->Hp->Prop}(I:Inv X pins σ H s)
  (h:ta σ H λx j=>tb σ j λy d=>R x y d) {Q:GP} {f:Value->Value->Sem Value}
  (z:∀v u i x y d,Inv X pins σ d i->RelV x v->RelV y u->R x y d->wpAny (model X.prog X.w) X.A (f v u) Q X.xe i) :
  wpAny (model X.prog X.w) X.A (eval a X.env) (λv g=>wpAny (model X.prog X.w) X.A (eval b X.env) (λu e=>wpAny (model X.prog X.w) X.A (f v u) Q X.xe e) X.xe g) X.xe s:=by
 refine r8 (C pins s σ H _ I h) λv l ⟨x,j,G,p,r⟩=>?_;refine r8 (B pins l σ j _ G r) λu i ⟨y,d,E,o,q⟩=>?_;exact z v u i x y d E p o q
theorem Bp{e:Operator}{r:R2}(o:E7 X (binaryOp e) r)(z:PE X a ta)(p:PE X b tb):PE X (.BinOp a e b pos) (Bb r ta tb):=by
 refine .of ?_;intro d s g H Q I h;exact wpAny_BinOp (zm z p I h λv u i x y C B l j q=>o d i g C x y v u Q B l j q)
theorem AQ{g:UnaryOp}{r:V->Hp->VK->Prop}(o:Du X (unaryOp g) r)(p:PE X a ta):PE X (.UnaryOp g a pos) (Ez r ta):=by
 refine .of ?_;intro d s e H Q I h;exact UnaryOp_ (r8 (p d s e H _ I h) λv i ⟨x,u,q,j,l⟩=>o d i e u x v Q q j l)
theorem Di{f:Value->Value->Sem Value}{C:Int->Int->Prop}{g:Int->Int->Int}
  (rule:∀(i j:Int) (t u:Tok) (s:Shared) (Q:GP) (E:GP),C i j->Q (.int (g i j) s.toks) { s with toks:=s.toks+1 }->wpAny (model X.prog X.w) X.A (f (.int i t) (.int j u)) Q E s) :
  E7 X f (rI C λi j=>.int (g i j)):=by
 intro d s r H x y v u Q I o l h;obtain⟨i,j,rfl,rfl,p,q⟩:=h;obtain⟨t,rfl⟩:=o;obtain⟨e,rfl⟩:=l;exact rule i j t e s _ _ p ⟨.int (g i j),H,I.tok _,⟨_,rfl⟩,q⟩
theorem Bo{f:Value->Value->Sem Value}{g:Int->Int->Int}
  (rule:∀(i j:Int) (t u:Tok) (s:Shared) (Q:GP) (E:GP),Q (.int (g i j) s.toks) { s with toks:=s.toks+1 }->wpAny (model X.prog X.w) X.A (f (.int i t) (.int j u)) Q E s) :
  E7 X f (tE λi j=>.int (g i j)):=by
 intro d s p H x y v u Q I o l h;obtain⟨i,j,rfl,rfl,q⟩:=h;obtain⟨t,rfl⟩:=o;obtain⟨e,rfl⟩:=l;exact rule i j t e s _ _ ⟨.int (g i j),H,I.tok _,⟨_,rfl⟩,q⟩
theorem yY{f:Value->Value->Sem Value}{g:Int->Int->Bool}
  (rule:∀(i j:Int) (t u:Tok) (s:Shared) (Q:GP) (E:GP),Q (.bool (g i j)) s->wpAny (model X.prog X.w) X.A (f (.int i t) (.int j u)) Q E s) :
  E7 X f (tE λi j=>.bl (g i j)):=by
 intro d s p H x y v u Q I o l h;obtain⟨i,j,rfl,rfl,q⟩:=h;obtain⟨t,rfl⟩:=o;obtain⟨e,rfl⟩:=l;exact rule i j t e s _ _ ⟨.bl (g i j),H,I,rfl,q⟩
def dX(i j:Int):Prop:=0<=j/\j<=1000000/\i.natAbs<2^64
def U6(i j:Int):Prop:=(-(2^64)<i/\i<2^64)\/(-(2^64)<j/\j<2^64)
theorem U6.ok{i j:Int}(h:U6 i j):IntMulOk i j:=by
 rcases h with⟨e,d⟩ | ⟨e,d⟩
 ·exact .of_left (intBits_le_64 e d)
 ·exact .of_right (intBits_le_64 e d)
theorem yM:E7 X (binaryOp .Add) (tE λi j=>.int (i+j)):=Bo λ_ _ _ _ _ _ _ q=>add_int q
theorem yT:E7 X (binaryOp .Sub) (tE λi j=>.int (i-j)):=Bo λ_ _ _ _ _ _ _ q=>sub_int q
theorem zR:E7 X (binaryOp .Mod) (rI (λ_ j=>0<j) λi j=>.int (i%j)):=Di λi j _ _ _ _ _ d q=>by
 have e:(0:Int)<j:=d;exact mod_int' (by omega) (by rw[Int.fmod_eq_emod_of_nonneg i (by omega)];exact q)
theorem AE:E7 X (binaryOp .Pow) (rI dX λi j=>.int (i^j.toNat)):=Di λ_ _ _ _ _ _ _ d q=>pow_int_small d.1 d.2.1 d.2.2 q
theorem EK{f:Value->Sem Value}{g:Int->Int}
  (rule:∀(i:Int) (t:Tok) (s:Shared) (Q:GP) (E:GP),Q (.int (g i) s.toks) { s with toks:=s.toks+1 }->wpAny (model X.prog X.w) X.A (f (.int i t)) Q E s) :
  Du X f (rU λi=>.int (g i)):=by
 intro d s j H x v Q I e h;obtain⟨i,rfl,q⟩:=h;obtain⟨t,rfl⟩:=e;exact rule i t s _ _ ⟨.int (g i),H,I.tok _,⟨_,rfl⟩,q⟩
theorem Ay:Du X (unaryOp .USub) (rU λi=>.int (-i)):=EK λ_ _ _ _ _ q=>neg_int q
end
def yx:V->V->Bool
 | .l4,.l4=>true | .l4,.int _=>true | .int _,.l4=>true | .l4,.bl _=>true | .bl _,.l4=>true | .l4,.str _=>true | .str _,.l4=>true
 | .int _,.int _=>true | .bl _,.bl _=>true | .str _,.str _=>true | .byt _,.byt _=>true
 | .int _,.str _=>true | .str _,.int _=>true | .bl _,.str _=>true | .str _,.bl _=>true
 | _,_=>false
def Em:R2:=λx y H Q=>yx x y=true/\Q (.bl (decide (x=y))) H
def Eh:R2:=λx y H Q=>yx x y=true/\Q (.bl (!decide (x=y))) H
theorem ot{i j:Int}:decide (V.int i=V.int j)=(i == j):=by
 rw[Fy];simp
theorem qU{i j:Bool}:decide (V.bl i=V.bl j)=(i == j):=by
 rw[Fy];simp
theorem nN{i j:Str}:decide (V.str i=V.str j)=(i == j):=by
 rw[Fy];simp
theorem mY{i j:Array UInt8}:decide (V.byt i=V.byt j)=(i.toList == j.toList):=by
 rw[Fy];cases i;cases j;simp
section
variable{X:Cx}{a b c:Expr}{ta tb tc:TE}{pos:Pos}
theorem j8{pins:GA}{σ:St}{H:Hp}{s:Shared}{Q:VK}{k d:Bool}(I:Inv X pins σ H s)(q:Q (.bl k) H)(e:k=d):EP X pins σ Q (.bool d) s:=by
 subst e;exact⟨.bl k,H,I,rfl,q⟩
theorem yg:E7 X (compareOp .Eq) Em:=by
 intro o s p H x y v u Q I l d h;obtain⟨g,q⟩:=h
 cases x with
 | l4=>
  cases l
  cases y with
  | l4=>cases d;exact PySem.EqNone.eq_none_none (j8 I q (by simp))
  | bl j=>cases d;exact PySem.EqNone.eq_none_bool (j8 I q (by simp))
  | int j=>obtain⟨e,rfl⟩:=d;exact PySem.EqNone.eq_none_int (j8 I q (by simp))
  | str j=>obtain⟨e,rfl⟩:=d;exact PySem.EqNone.eq_none_str (j8 I q (by simp))
  | _=>exact absurd (show false=true from g) kt
 | bl i=>
  cases l
  cases y with
  | l4=>cases d;exact PySem.EqNone.eq_bool_none (j8 I q (by simp))
  | bl j=>cases d;exact eq_bool (j8 I q qU)
  | str j=>obtain⟨e,rfl⟩:=d;exact PySem.EqMixed.eq_bool_str (j8 I q (by simp))
  | _=>exact absurd (show false=true from g) kt
 | int i=>
  obtain⟨t,rfl⟩:=l
  cases y with
  | l4=>cases d;exact PySem.EqNone.eq_int_none (j8 I q (by simp))
  | int j=>obtain⟨e,rfl⟩:=d;exact eq_int (j8 I q ot)
  | str j=>obtain⟨e,rfl⟩:=d;exact PySem.EqMixed.eq_int_str (j8 I q (by simp))
  | _=>exact absurd (show false=true from g) kt
 | str i=>
  obtain⟨t,rfl⟩:=l
  cases y with
  | l4=>cases d;exact PySem.EqNone.eq_str_none (j8 I q (by simp))
  | bl j=>cases d;exact PySem.EqMixed.eq_str_bool (j8 I q (by simp))
  | int j=>obtain⟨e,rfl⟩:=d;exact PySem.EqMixed.eq_str_int (j8 I q (by simp))
  | str j=>obtain⟨e,rfl⟩:=d;exact eq_str (j8 I q nN)
  | _=>exact absurd (show false=true from g) kt
 | byt i=>
  obtain⟨t,rfl⟩:=l
  cases y with
  | byt j=>obtain⟨e,rfl⟩:=d;exact PySem.W.eq_bytes (j8 I q mY)
  | _=>exact absurd (show false=true from g) kt
 | _=>cases y<;>exact absurd (show false=true from g) kt
theorem AY:E7 X (compareOp .NotEq) Eh:=by
 intro o s p H x y v u Q I l d h;obtain⟨g,q⟩:=h
 cases x with
 | l4=>
  cases l
  cases y with
  | l4=>cases d;exact PySem.EqNone.ne_none_none (j8 I q (by simp))
  | bl j=>cases d;exact PySem.EqNone.ne_none_bool (j8 I q (by simp))
  | int j=>obtain⟨e,rfl⟩:=d;exact PySem.EqNone.ne_none_int (j8 I q (by simp))
  | str j=>obtain⟨e,rfl⟩:=d;exact PySem.EqNone.ne_none_str (j8 I q (by simp))
  | _=>exact absurd (show false=true from g) kt
 | bl i=>
  cases l
  cases y with
  | l4=>cases d;exact PySem.EqNone.ne_bool_none (j8 I q (by simp))
  | bl j=>cases d;exact ne_bool (j8 I q (tz not qU))
  | str j=>obtain⟨e,rfl⟩:=d;exact PySem.EqMixed.ne_bool_str (j8 I q (by simp))
  | _=>exact absurd (show false=true from g) kt
 | int i=>
  obtain⟨t,rfl⟩:=l
  cases y with
  | l4=>cases d;exact PySem.EqNone.ne_int_none (j8 I q (by simp))
  | int j=>obtain⟨e,rfl⟩:=d;exact ne_int (j8 I q (tz not ot))
  | str j=>obtain⟨e,rfl⟩:=d;exact PySem.EqMixed.ne_int_str (j8 I q (by simp))
  | _=>exact absurd (show false=true from g) kt
 | str i=>
  obtain⟨t,rfl⟩:=l
  cases y with
  | l4=>cases d;exact PySem.EqNone.ne_str_none (j8 I q (by simp))
  | bl j=>cases d;exact PySem.EqMixed.ne_str_bool (j8 I q (by simp))
  | int j=>obtain⟨e,rfl⟩:=d;exact PySem.EqMixed.ne_str_int (j8 I q (by simp))
  | str j=>obtain⟨e,rfl⟩:=d;exact ne_str (j8 I q (tz not nN))
  | _=>exact absurd (show false=true from g) kt
 | byt i=>
  obtain⟨t,rfl⟩:=l
  cases y with
  | byt j=>obtain⟨e,rfl⟩:=d;exact PySem.W.ne_bytes (j8 I q (tz not mY))
  | _=>exact absurd (show false=true from g) kt
 | _=>cases y<;>exact absurd (show false=true from g) kt
theorem nr:E7 X (compareOp .Lt) (tE λi j=>.bl (decide (i<j))):=yY λ_ _ _ _ _ _ _ q=>lt_int q
theorem Ca:E7 X (compareOp .LtE) (tE λi j=>.bl (decide (i<=j))):=yY λ_ _ _ _ _ _ _ q=>le_int q
theorem yt:E7 X (compareOp .Gt) (tE λi j=>.bl (decide (j<i))):=yY λ_ _ _ _ _ _ _ q=>gt_int q
theorem pW:E7 X (compareOp .In) (λx y H Q=>∃i j,x=.str i/\y=.str j/\Q (.bl (!(Builtin.Str.occurrences j i 0 j.length 1).isEmpty)) H):=by
 intro d s l H x y v u Q I g e h;obtain⟨i,j,rfl,rfl,q⟩:=h;obtain⟨t,rfl⟩:=g;obtain⟨o,rfl⟩:=e;exact in_str (j8 I q rfl)
theorem sI:E7 X (compareOp .Is) (λx y H Q=>y=.l4/\Q (.bl (decide (x=.l4))) H):=by
 intro e s i H x y v u Q I d g h;obtain⟨rfl,q⟩:=h;cases g;refine is_none_gen (j8 I q ?_)
 cases x<;>first
  | (cases d;rfl)
  | (obtain⟨t,rfl⟩:=d;rfl)
theorem wB:E7 X (compareOp .IsNot) (λx y H Q=>y=.l4/\Q (.bl (!decide (x=.l4))) H):=by
 intro e s i H x y v u Q I d g h;obtain⟨rfl,q⟩:=h;cases g;refine isnot_none_gen (j8 I q ?_)
 cases x<;>first
  | (cases d;rfl)
  | (obtain⟨t,rfl⟩:=d;rfl)
theorem fQ:E7 X (compareOp .NotIn) (λx y H Q=>∃i j,x=.str i/\y=.str j/\Q (.bl (!(!(Builtin.Str.occurrences j i 0 j.length 1).isEmpty))) H):=by
 intro d s l H x y v u Q I g e h;obtain⟨i,j,rfl,rfl,q⟩:=h;obtain⟨t,rfl⟩:=g;obtain⟨o,rfl⟩:=e;exact notIn_str (j8 I q rfl)
theorem E7.or{f:Value->Value->Sem Value}{r j:R2}(h:E7 X f r)(h':E7 X f j):E7 X f (λx y H Q=>r x y H Q\/j x y H Q):=by
 intro d s e H x y v u Q I i g q;rcases q with q | q
 ·exact h d s e H x y v u Q I i g q
 ·exact h' d s e H x y v u Q I i g q
theorem j4(b:Expr){d:CmpOp}(h:d≠.In:=by decide)(e:d≠.NotIn:=by decide):behindInMarks d b=false:=by
 have i:(d == CmpOp.In)=false:=by cases d<;>first | rfl | exact absurd rfl h
 have g:(d == CmpOp.NotIn)=false:=by cases d<;>first | rfl | exact absurd rfl e
 cases b<;>simp[behindInMarks,i,g]
theorem vS{e:CmpOp}{r:R2}(o:E7 X (compareOp e) r)(B:PE X a ta)(z:PE X b tb)(p:behindInMarks e b=false):PE X (.Compare a [e] [b] pos) (Bb r ta tb):=by
 refine .of ?_;intro d s g H Q I h;exact wpAny_Compare1 (zm B z I h λv u i x y E C l j q=>o d i g E x y v u Q C l j q) p
def yq(t:TE):TT:=λd H Q=>t d H λx e=>∃k,x=.bl k/\Q k e
theorem xl{i:CmpOp}{r:R2}(G:E7 X (compareOp i) r)(O:PE X a ta)(M:PE X b tb)(J:behindInMarks i b=false):PT X (.Compare a [i] [b] pos) (yq (Bb r ta tb)):=by
 refine .of ?_;intro d s g H Q I h
 refine wpAny_isTrue_Compare1 (r8 (O d s g H _ I h) λv l ⟨x,H1,T,q,E⟩=>r8 (M d l g H1 _ T E) λu j ⟨y,Y,S,p,C⟩=>
  r8 (G d j g Y x y v u _ S q p C) λc s3 ⟨z,U,R,o,k,e,B⟩=>?_) J
 subst e;cases o;exact ti ⟨U,R,B⟩
def mF(r h:R2)(ta tb tc:TE):TE:=λd H Q=>ta d H λx l=>tb d l λy j=>r x y j λz e=>∃k,z=.bl k /\
 (if k=true then tc d e λg i=>h y g i Q else Q (.bl false) e)
theorem tU{l i:CmpOp}{r q:R2}(ho:E7 X (compareOp l) r)(o:E7 X (compareOp i) q)(ha:PE X a ta)(hb:PE X b tb)(hc:PE X c tc)
  (hm:lastMarks [l,i] [b,c]=false:=by with_unfolding_all rfl):PE X (.Compare a [l,i] [b,c] pos) (mF r q ta tb tc):=by
 refine .of ?_;intro g s j H Q I h
 refine Compare_chain (r8 (ha g s j H _ I h) λv S ⟨x,H1,I1,Y,q1⟩=>chain_link (r8 (hb g S j H1 _ I1 q1) λu R ⟨y,H2,I2,p,q2⟩=>
  r8 (ho g R j H2 x y v u _ I2 Y p q2) λd O ⟨z,E,C,U,k,e,B⟩=>?_)) hm
 subst e;cases U;refine ti ?_
 cases k with
 | false=>exact ite_ff ⟨.bl false,E,C,rfl,B⟩
 | true=>exact ite_tt (chain_last (r8 (hc g O j E _ C B) λJ M ⟨G,H4,I4,T,q4⟩=>o g M j H4 y G u J Q I4 p T q4))
theorem uY{l i:CmpOp}{r q:R2}(ho:E7 X (compareOp l) r)(o:E7 X (compareOp i) q)(ha:PE X a ta)(hb:PE X b tb)(hc:PE X c tc)
  (hm:lastMarks [l,i] [b,c]=false:=by with_unfolding_all rfl):PT X (.Compare a [l,i] [b,c] pos) (yq (mF r q ta tb tc)):=by
 refine .of ?_;intro g s j H Q I h
 refine isTrue_chain (r8 (ha g s j H _ I h) λv S ⟨x,H1,I1,r1,q1⟩=>test_link (r8 (hb g S j H1 _ I1 q1) λu R ⟨y,H2,I2,p,q2⟩=>
  r8 (ho g R j H2 x y v u _ I2 r1 p q2) λd O ⟨z,E,C,Y,k,e,B⟩=>?_)) hm
 subst e;cases Y;refine ti ?_
 cases k with
 | false=>
  obtain⟨k',e',q'⟩:=B;cases e';exact ite_ff ⟨E,C,q'⟩
 | true=>
  refine ite_tt (test_last (r8 (hc g O j E _ C B) λJ M ⟨G,H4,I4,U,q4⟩=>r8 (o g M j H4 y G u J _ I4 p U q4) λd' s5 ⟨z2,H5,I5,T,k2,e2,q5⟩=>?_));subst e2;cases T;exact ti ⟨H5,I5,q5⟩
def BW(K:GR)(x:V)(H:Hp)(k:Bool):Prop:=
 match x with
 | .l4=>k=false
 | .bl b=>k=b
 | .int i=>k=(i != 0)
 | .str y=>y.length<=sizeLine/\k=((y.length:Int) != 0)
 | .byt y=>y.size<=sizeLine/\k=((y.size:Int) != 0)
 | .ref p=>(∃d,G1 K H p d/\k=!d.isEmpty)\/(∃d,G8 K H p d/\k=!d.isEmpty)\/∃e,Dd H p e/\k=!e.isEmpty
 | _=>False
theorem kN{d:Type}{kvs:List (d×V)}{vs:List (d×Value)}(r:KV kvs vs):(!vs.isEmpty)=!kvs.isEmpty:=by
 cases r<;>rfl
theorem cI{xs:List V}{its:GI}(r:Vals xs its):(!its.toArray.isEmpty)=!xs.isEmpty:=by
 cases r<;>simp
theorem cp:(sizeLine:Nat)<2^63:=by rw[sd];decide
theorem yE:CQ X (λx H Q=>∃k,BW X.K x H k/\Q k H):=by
 intro C s M H x v Q I o h;obtain⟨k,e,q⟩:=h;have R:=cp;have O:sizeLine=16777216:=sd
 cases x with
 | l4=>
  cases o;have d:k=false:=e;subst d;exact truthy_none ⟨H,I,q⟩
 | bl b=>
  cases o;have d:k=b:=e;subst d;exact ti ⟨H,I,q⟩
 | int i=>
  obtain⟨t,rfl⟩:=o;have d:k=(i != 0):=e;subst d;exact PySem.P.truthy_int ⟨H,I,q⟩
 | str y=>
  obtain⟨t,rfl⟩:=o;obtain⟨G,d⟩:y.length<=sizeLine/\k=((y.length:Int) != 0):=e;subst d;exact PySem.P.truthy_str (by omega) ⟨H,I.tok _,q⟩
 | byt y=>
  obtain⟨t,rfl⟩:=o;obtain⟨G,d⟩:y.size<=sizeLine/\k=((y.size:Int) != 0):=e;subst d;exact PySem.W.truthy_bytes (by omega) ⟨H,I.tok _,q⟩
 | ref p=>
  cases o;have d:(∃l,G1 X.K H p l/\k=!l.isEmpty)\/(∃l,G8 X.K H p l/\k=!l.isEmpty)\/∃g,Dd H p g/\k=!g.isEmpty:=e;rcases d with⟨l,u,d⟩ | ⟨l,u,d⟩ | ⟨g,u,d⟩
  ·subst d;obtain⟨B,r,z,E⟩:=I.list u;have j:=r.length;exact wpAny_truthy_list z.isList (by simp only[lw];omega) ⟨H,I.tok _,by rw[cI r];exact q⟩
  ·subst d;obtain⟨B,r,z,E⟩:=I.tuple u;have j:=r.length;exact truthy_tuple z (by simp only[lw];omega) ⟨H,I.tok _,by rw[cI r];exact q⟩
  ·subst d;obtain⟨E,J,vs,r,m⟩:g.length<=sizeLine/\(p == sysModules)=false/\∃vs,KV g vs/\s.heap.DictOf (n8 X.prog X.w) p vs:=(show j7 X.prog X.w H s.heap p (.dK g) from u.ok I.hok)
   have j:g.length=vs.length:=FT r;exact wpAny_truthy_dict J m (by omega) ⟨H,I.tok _,by rw[kN r];exact q⟩
 | _=>exact(show False from e).elim
theorem uL(p:PE X a ta)(o:∀d,isTrue a X.env d=(do let v <-d;standAt a.pos;holding [v] (truthy v))) :
  PT X a (λσ H Q=>ta σ H λx g=>∃k,BW X.K x g k/\Q k g):=by
 refine .of ?_;intro e s σ H Q I h;exact isTrue_plain (r8 (p e s σ H _ I h) λv i ⟨x,r,q,j,l⟩=>yE e i σ r x v Q q j l) (o _)
theorem lX:E7 X (binaryOp .Add) (λx y H Q=>∃i j,x=.str i/\y=.str j/\i.length+j.length<=sizeLine/\Q (.str (i++j)) H):=by
 intro d s p H x y v u Q I l g h;obtain⟨i,j,rfl,rfl,o,q⟩:=h;obtain⟨t,rfl⟩:=l;obtain⟨e,rfl⟩:=g;exact add_str (λe tk=>⟨.str (i++j),H,I.tok _,⟨_,rfl⟩,q⟩) o
theorem vals1{x:V}{d:GI}(r:Vals [x] d):∃u,d=[u]/\RelV x u:=by
 cases r with
 | cons g e=>cases e;exact⟨_,rfl,g⟩
theorem vals2{x y:V}{e:GI}(r:Vals [x,y] e):∃u d,e=[u,d]/\RelV x u/\RelV y d:=by
 cases r with
 | cons j i=>
  cases i with
  | cons h g=>cases g;exact⟨_,_,rfl,j,h⟩
theorem pB(g:X.calm=true):C5 X (.builtin "min") (λxs H Q=>∃i j,xs=[.int i,.int j]/\Q (.int (if j<i then j else i)) H):=by
 intro e s l H xs p Q I r h;obtain⟨i,j,rfl,q⟩:=h;obtain⟨u,o,rfl,⟨t,rfl⟩,⟨v,rfl⟩⟩:=vals2 r;refine min_two_ints (I.ok.hd g) λx tk k=>⟨_,H,I.kept k,?_,q⟩
 by_cases d:j<i
 ·rw[l7 d,l7 d];exact⟨_,rfl⟩
 ·rw[ln d,ln d];exact⟨_,rfl⟩
def Ad(K:GR)(x:V)(H:Hp)(n:Nat):Prop:=
 match x with
 | .str y=>y.length<=sizeLine/\n=y.length
 | .byt y=>y.size<=sizeLine/\n=y.size
 | .ref p=>(∃d,G1 K H p d/\n=d.length)\/∃d,G8 K H p d/\n=d.length
 | _=>False
theorem j9:C5 X (.builtin "len") (λxs H Q=>∃x n,xs=[x]/\Ad X.K x H n/\Q (.int n) H):=by
 intro z s E H xs G Q I r h;obtain⟨x,n,rfl,e,q⟩:=h;obtain⟨u,rfl,i⟩:=vals1 r;have M:=cp;have J:sizeLine=16777216:=sd
 cases x with
 | str y=>
  obtain⟨t,rfl⟩:=i;obtain⟨C,g⟩:y.length<=sizeLine/\n=y.length:=e;subst g;exact len_str (by omega) ⟨.int _,H,I.tok _,⟨_,rfl⟩,q⟩
 | byt y=>
  obtain⟨t,rfl⟩:=i;obtain⟨C,g⟩:y.size<=sizeLine/\n=y.size:=e;subst g;exact PySem.W.len_bytes (by omega) ⟨.int _,H,I.tok _,⟨_,rfl⟩,q⟩
 | ref p=>
  cases i;have g:(∃xs,G1 X.K H p xs/\n=xs.length)\/∃xs,G8 X.K H p xs/\n=xs.length:=e;rcases g with⟨xs,v,g⟩ | ⟨xs,v,g⟩
  ·subst g;obtain⟨o,j,l,B⟩:=I.list v;have d:=j.length;exact Calls.call_len_list l.isList (by simp only[lw];omega) ⟨.int xs.length,H,I.tok _,⟨_,by simp only[lw];rw[d]⟩,q⟩
  ·subst g;obtain⟨o,j,l,B⟩:=I.tuple v;have d:=j.length;exact len_tuple l (by simp only[lw];omega) ⟨.int xs.length,H,I.tok _,⟨_,by simp only[lw];rw[d]⟩,q⟩
 | _=>exact(show False from e).elim
end
structure Ao(h:Heap)(x dx C:Addr)(mA:GN):Prop where
 obj:h.get? x=some (PySem.W.instObj C dx)
 ns:h.Ns1 dx mA
 ne:dx≠x
theorem qN{h:Heap}{g:Addr}{mA:GN}(n:h.Ns1 g mA):∃c,h.get? g=some c/\∀name,PySem.W.lookIn name c=some (mA name):=by
 obtain⟨o,d,u,j,hd,p,_,l⟩:=n;refine⟨o,j,λname=>?_⟩;have e:=l name;unfold nsFind findBy at e;rw[<-Array.find?_toList] at e;unfold PySem.W.lookIn;rw[hd];dsimp only;split
 ·rename_i y q
  rw[q] at e;exact tz some e
 ·rename_i q
  rw[q] at e
  have a:d.toList.any (·.refKey)=false:=by
   rw[List.any_eq_false];intro y i;obtain⟨z,t,b⟩:=p y (Array.mem_toList_iff.mp i);simp[DictEntry.refKey,b]
  have r:¬d.toList.any (·.refKey)=true:=by rw[a];exact kt
  rw[ln r];exact tz some e
theorem Ao.look{h:Heap}{x b C:Addr}{mA:GN}(I:Ao h x b C mA):∃a,PySem.W.InstAt h x (PySem.W.instObj C b) C (some a)/\∀name,PySem.W.lookIn name a=some (mA name):=
 let ⟨a,c,d⟩:=qN I.ns
 ⟨a,⟨I.obj,rfl,rfl,c⟩,d⟩
section
variable{prog:Program}{w:World}{A:Around}{E:GP}{s:Shared}{K:GR}{x dx C f:Addr}{mA:GN}{name:Str}{v:Value}
end
theorem Q8.some_of{v:V}{o:GS}(r:Q8 (some v) o):∃u,o=some u/\RelV v u:=by
 cases o with
 | none=>exact(show False from r).elim
 | some u=>exact⟨u,rfl,r⟩
section
variable{P:Program}{w:World}{H H':Hp}{h h':Heap}{a C dx:Addr}{fs fs':List (Str×V)}
theorem xF(hok:J4 P w H h)(e:H a=some (.ins C dx fs)):∃mA,Ao h a dx C mA/\(∀f,Q8 (fs.lookup f) (mA f))/\PySem.Within mA (fs.map (·.1))/\fs.length<=1000/\H dx=some (.own a):=by
 obtain⟨d,z,ne,ob,mA,n,r,q⟩:=(show j7 P w H h a (.ins C dx fs) from hok a _ e)
 exact⟨mA,⟨ob,n,ne⟩,r,q,z,d⟩
end
structure Dm(K:GR)(C:Addr):Prop where
 pg:PySem.W.plainGet K C Str.empty=true
 hd:PySem.W.hasDictIn K C=true
 po:PySem.W.plainOver K C=true
 sa:PySem.W.findIn K (.ref C) "__setattr__"=some (some (.builtin "object.__setattr__"))
theorem Dm.get{K:GR}{C:Addr}(c:Dm K C)(f:Str):PySem.W.plainGet K C f=true:=c.pg
section
variable{X:Cx}{pins:GA}{σ:St}{H:Hp}{s:Shared}{a C dx:Addr}{fs:List (Str×V)}{f:Str}{v:V}{A:Around}{E:GP}
theorem wc{prog:Program}{w:World}{env:Env}{e:Expr}{f:Str}{c:Pos}{s:Shared}{Q:GP}(d:attributeBase e f env (eval e env)=eval e env)
  (h:wpAny (model prog w) A (eval e env) (λo b=>wpAny (model prog w) A (getAttr o f true) Q E b) E s):wpAny (model prog w) A (eval (.Attribute e f c) env) Q E s:=
 Attribute_any_ h (by rw[arm_eval_Attribute,d])
end
section
variable{X:Cx}{o e value:Expr}{f:Str}{pos pos' tpos:Pos}{ta tv:TE}
end
section
variable{X:Cx}{pins:GA}{σ:St}{H:Hp}{s:Shared}{A:Around}{E Q:GP}{c:Value}{b:Bool}
inductive S6(K:GR)(H:Hp):V->Value->Prop where
 | l4:S6 K H .l4 (.type "NoneType")
 | bl (x:Bool):S6 K H (.bl x) (.type "bool")
 | int (i:Int):S6 K H (.int i) (.type "int")
 | str (x:Str):S6 K H (.str x) (.type "str")
 | flt (x:UInt64):S6 K H (.flt x) (.type "float")
 | lst {a:Addr} {xs:List V} (e:H a=some (.lst xs)):S6 K H (.ref a) (.type "list")
 | frz {a:Addr} {o:Obj} {xs:List V} (e:H a=some (.frz o (.lst xs))):S6 K H (.ref a) (.type "list")
 | tup {a:Addr} {xs:List V} (e:H a=some (.tup xs)):S6 K H (.ref a) (.type "tuple")
 | frzD {a:Addr} {o:Obj} {kvs:List (Key×V)} {ep:Nat} (e:H a=some (.frz o (.dE kvs ep))):S6 K H (.ref a) (.type "dict")
 | kl {a:Addr} {o:Obj} (e:K.lookup a=some o) (hc:o.cls=.type "list"):S6 K H (.ref a) (.type "list")
 | dK {a:Addr} {kvs:List (Key×V)} (e:Dd H a kvs):S6 K H (.ref a) (.type "dict")
 | dT {a:Addr} {kvs:List (List Key×V)} (e:H a=some (.dT kvs)):S6 K H (.ref a) (.type "dict")
 | ins {a C dx:Addr} {fs:List (Str×V)} (e:H a=some (.ins C dx fs)) (cl:Dm K C) (ha:PySem.W.findIn K (.ref C) "__class__"=some (some (.builtin "object.__class__")))
   (hn:PySem.W.specialIn K (.builtin "object.__class__") "__get__"=some (some (.builtin "getset_descriptor.__get__"))) (htk:PySem.W.takesIn K (.builtin "object.__class__")=some true)
   (hm:PySem.W.mroIn K C (.type "object")=some true):S6 K H (.ref a) (.ref C)
theorem qC{x:V}{u t:Value}(I:Inv X pins σ H s)(g:RelV x u)(ty:S6 X.K H x t)(e:PySem.W.kitOne X.K t c=some b)(h:∀tk,Q (.bool b) { s with toks:=tk }) :
  wpAny (model X.prog X.w) A (call (.builtin "isinstance") [u,c]) Q E s:=by
 cases ty with
 | l4=>cases(show u=Value.none from g);exact qz PySem.W.kitx_none I.Z8 True.intro e (λz=>nomatch z) h
 | bl y=>cases(show u=Value.bool y from g);exact qz PySem.W.kitx_bool I.Z8 True.intro e (λz=>nomatch z) h
 | int i=>obtain⟨t,q⟩:=(show ∃t,u=Value.int i t from g);cases q;exact qz PySem.W.kitx_int I.Z8 True.intro e (λz=>nomatch z) h
 | str y=>obtain⟨t,q⟩:=(show ∃t,u=Value.str y t from g);cases q;exact qz PySem.W.kitx_str I.Z8 True.intro e (λz=>nomatch z) h
 | flt y=>obtain⟨t,q⟩:=(show ∃t,u=Value.float y t from g);cases q;exact qz PySem.W.kitx_float I.Z8 True.intro e (λz=>nomatch z) h
 | @lst a v d=>
  cases(show u=Value.ref a from g);obtain⟨_,_,n,_,l⟩:=(show j7 X.prog X.w H s.heap a (.lst v) from I.hok a _ d)
  exact qz FK I.Z8 ⟨_,l,rfl⟩ e (λz=>nomatch z) h
 | @frz a ob v d=>
  cases(show u=Value.ref a from g);obtain⟨_,_,_,n,_,l⟩:=(show j7 X.prog X.w H s.heap a (.frz ob (.lst v)) from I.hok a _ d)
  exact qz FK I.Z8 ⟨_,l,rfl⟩ e (λz=>nomatch z) h
 | @tup a v d=>
  cases(show u=Value.ref a from g);obtain⟨_,_,_,p⟩:=(show j7 X.prog X.w H s.heap a (.tup v) from I.hok a _ d)
  obtain⟨o,l,r,_⟩:=p;exact qz PySem.W.kitx_tuple I.Z8 ⟨o,l,r⟩ e (λz=>nomatch z) h
 | @frzD a ob j G d=>
  cases(show u=Value.ref a from g);obtain⟨_,_,_,vs,_,o,M,l,r,_⟩:=(show j7 X.prog X.w H s.heap a (.frz ob (.dE j G)) from I.hok a _ d)
  exact qz FL I.Z8 ⟨o,l,r.1⟩ e (λz=>nomatch z) h
 | @kl a o d T=>
  cases(show u=Value.ref a from g);exact qz FK I.Z8 ⟨o,I.Z8 _ _ d,T⟩ e (λz=>nomatch z) h
 | @dK a j d=>
  cases(show u=Value.ref a from g);obtain⟨_,_,vs,_,p⟩:=(show j7 X.prog X.w H s.heap a (.dK j) from d.ok I.hok)
  obtain⟨o,M,G,l,r,_⟩:=p;exact qz FL I.Z8 ⟨o,l,r.1⟩ e (λz=>nomatch z) h
 | @dT a j d=>
  cases(show u=Value.ref a from g);obtain⟨_,_,v,_,o,M,G,l,r,_⟩:=(show j7 X.prog X.w H s.heap a (.dT j) from I.hok a _ d)
  exact qz FL I.Z8 ⟨o,l,r.1⟩ e (λz=>nomatch z) h
 | @ins a C dx fs d cl U R B S=>
  cases(show u=Value.ref a from g);obtain⟨mA,O,_⟩:=xF I.hok d;obtain⟨Y,J,_⟩:=O.look;exact qz (PySem.W.kitx_own (cl.get _) cl.hd U R B S) I.Z8 J e (λz=>nomatch z) h
end
structure x5(k:Nat)(A:Around):Prop where
 hd:A.handled=none
 dp:A.depth+3*k+5<recursionLimit
 un:A.units+16*k+200<cLine
 gd:A.guards=some []
theorem x5.mono{j k:Nat}{A:Around}(r:x5 k A)(h:j<=k):x5 j A:=⟨r.hd,by have:=r.dp;omega,by have:=r.un;omega,r.gd⟩
theorem x5.deeper{k:Nat}{A:Around}(r:x5 (k+1) A)(env:Env):x5 k (A.deeper env):=
 ⟨r.hd,by have:=r.dp;show A.depth+1+3*k+5<_;omega,by have:=r.un;show A.units+3+16*k+200<_;omega,r.gd⟩
theorem kJ{A:Around}{C:Addr}{a:GI}{b:GF}:(A.under (.builtin "type.__call__" ⟨.ref C::a,b⟩)).depth=A.depth+1:=by
 first | rfl | simp[Around.under,Code.weight,Code.isCreation,Code.isGuard,Code.isCaller,Code.frames,Code.isFrame,guardIds]
theorem lr{A:Around}{C:Addr}{a:GI}{b:GF}:(A.under (.builtin "type.__call__" ⟨.ref C::a,b⟩)).units=A.units+1:=by
 first | rfl | simp[Around.under,Code.cUnits,Code.frames,Code.isFrame]
theorem x5.make{k:Nat}{A:Around}(r:x5 (k+1) A)(C:Addr)(a:GI)(b:GF):x5 k (A.under (.builtin "type.__call__" ⟨.ref C::a,b⟩)):=
 ⟨r.hd,by have:=r.dp;rw[kJ];omega,by have:=r.un;rw[lr];omega,(by first | exact r.gd | (have:=r.gd;simp[Around.under,Code.weight,Code.isCreation,Code.isGuard,Code.isCaller,Code.frames,Code.isFrame,guardIds,this]))⟩
theorem x5.depth{k:Nat}{A:Around}(r:x5 k A):A.depth<recursionLimit:=by have:=r.dp;omega
theorem x5.units{k:Nat}{A:Around}(r:x5 k A):A.units+64<cLine:=by have:=r.un;omega
def DS:TA:=λ_ H Q=>Q [] H
def xO(d:TE)(c:TA):TA:=λa H Q=>d a H λx g=>c a g λb e=>Q (x::b) e
section
variable{X:Cx}{e:Expr}{es:GJ}{te:TE}{t:TA}{pos:Pos}
theorem P0:PA X [] DS:=.of <| λ_ _ _ _ H Q I h=>Calls.spliced_nil ⟨[],H,I,.nil,h⟩
theorem T6(q:PE X e te)(p:PA X es t)(o:starEach (e::es) X.env=(false,eval e X.env)::starEach es X.env:=by rfl):PA X (e::es) (xO te t):=by
 refine .of ?_;intro pos a s b H Q I h;rw[o];show wpAny _ _ (spliced ((false,eval e X.env)::backTo pos (starEach es X.env))) _ _ s;refine Gb (r8 (q a s b H _ I h) λu d ⟨x,z,v,i,l⟩=>?_);exact r8 (p pos a d b z _ v l) λB C ⟨c,y,r,g,j⟩=>⟨x::c,y,r,.cons i g,j⟩
def Dv(t:TA):TE:=λc H Q=>t c H λa b=>a.length<=sizeLine/\∀p,b p=none->Q (.ref p) (upd b p (.tup a))
def CP(t:TA):TE:=λc H Q=>t c H λa b=>a.length<=sizeLine/\∀p,b p=none->Q (.ref p) (upd b p (.lst a))
theorem sR{l}(h:PA X es t):PE X (.Tuple es l pos) (Dv t):=by
 refine .of ?_;intro a s i H Q I p;refine wpAny_Tuple_spliced (r8 (h pos a s i H _ I p) λo c ⟨j,g,d,r,z,q⟩=>⟨by rw[<-r.length];exact z,?_⟩);have v:g c.heap.objs.size=none:=d.hok.fresh (hI _);refine⟨.ref c.heap.objs.size,upd g c.heap.objs.size (.tup j),d.laid (t':=c.toks) (λb u e=>cC _ e) (hI _) ?_,rfl,q _ v⟩;exact⟨z,o,r,⟨_,me _ rfl,rfl,_,rfl⟩⟩
theorem za(h:PA X es t):PE X (.List es pos) (CP t):=by
 refine .of ?_;intro a s i H Q I o;refine wpAny_List_spliced (r8 (h pos a s i H _ I o) λl c ⟨j,g,d,r,z,q⟩=>⟨by rw[<-r.length];exact z,?_⟩);have p:g c.heap.objs.size=none:=d.hok.fresh (hI _);refine⟨.ref c.heap.objs.size,upd g c.heap.objs.size (.lst j),d.laid (t':=c.toks) (λb u e=>cC _ e) (hI _) ?_,rfl,q _ p⟩;exact⟨z,l,0,r,me _ rfl⟩
end
abbrev Sp:=List V->Hp->VK->XK->Prop
abbrev lj:=List Env->Hp->Shared->XK->Value->Shared->Prop
structure lM(P:Program)(w:World)(K:GR)(mg:GN)(base:Heap)(A:Around)(outer:List Env)(s:Shared)(H:Hp):Prop where
 frames:A.frames=some outer
 mod:Mod K mg base
 bs:∀b o,base.get? b=some o->s.heap.get? b=some o/\H b=none
 bsz:base.objs.size<=s.heap.objs.size
 ae:s.heap.FunFrames base outer
 frf:∀b∈O0 outer,H b=none
 hok:J4 P w H s.heap
 bare:AllBare s.gens
 sy:H sysModules=none
def CE(outer:List Env)(P:Program)(w:World)(H:Hp)(s:Shared)(Q:VK)(u:Value)(s':Shared):Prop:=
 ∃v a,s'.os=s.os/\AllBare s'.gens/\Un (O0 outer) [] H a s.heap s'.heap/\J4 P w a s'.heap/\RelV v u/\Q v a
def CR(CX:lj)(outer:List Env)(P:Program)(w:World)(H:Hp)(s:Shared)(Q:VK)(E:XK)(r:Result)(s':Shared):Prop:=
 match r with
 | .ok (.ret u)=>CE outer P w H s Q u s'
 | .ok _=>False
 | .error e=>CX outer H s E e s'
structure p6(P:Program)(w:World)(K:GR)(mg:GN)(base:Heap)(CX:lj)(k:Nat)(f:Addr)(fd:FuncData)(ps:GH)(sp:Sp):Prop where
 len:∀vs H Q E,sp vs H Q E->vs.length=ps.length
 run:∀(A:Around) (outer:List Env) (s:Shared) (H:Hp) (args:Args) (us:GI) (vs:List V) (Q:VK) (E:XK),x5 k A->lM P w K mg base A outer s H->BindsTo s fd args (ps.zip us)->Vals vs us->sp vs H Q E ->
  codeAny (model P w) A (.call (.ref f) args) (CR CX outer P w H s Q E) s
theorem p6.mono{P:Program}{w:World}{K:GR}{mg:GN}{base:Heap}{CX:lj}{j k:Nat}{f:Addr}{b:FuncData}{ps:GH}{sp:Sp}(F:p6 P w K mg base CX j f b ps sp)(h:j<=k) :
  p6 P w K mg base CX k f b ps sp:=⟨F.len,λA outer s H a c vs Q E d=>F.run A outer s H a c vs Q E (d.mono h)⟩
theorem p6.imp{P:Program}{w:World}{K:GR}{mg:GN}{base:Heap}{CX:lj}{k:Nat}{f:Addr}{c:FuncData}{ps:GH}{sp a:Sp}(F:p6 P w K mg base CX k f c ps sp)
  (h:∀vs H Q E,a vs H Q E->sp vs H Q E):p6 P w K mg base CX k f c ps a:=
 ⟨λvs H Q E q=>F.len vs H Q E (h _ _ _ _ q),λA outer s H b d vs Q E i j l e g=>F.run A outer s H b d vs Q E i j l e (h _ _ _ _ g)⟩
theorem lM.make{P:Program}{w:World}{K:GR}{mg:GN}{base:Heap}{A:Around}{outer:List Env}{s:Shared}{H:Hp}(e:lM P w K mg base A outer s H)(C:Addr)(a:GI)(b:GF) :
  lM P w K mg base (A.under (.builtin "type.__call__" ⟨.ref C::a,b⟩)) outer s H:=⟨by first | exact e.frames | (simpa[Around.under,Code.envs,Code.isFrame,pushEnvs] using e.frames),e.mod,e.bs,e.bsz,e.ae,e.frf,e.hok,e.bare,e.sy⟩
section
variable{X:Cx}{pins:GA}{σ:St}{H:Hp}{s s':Shared}
theorem Inv.Ae(I:Inv X pins σ H s):lM X.prog X.w X.K X.mg X.base X.A X.stack s H:=
 ⟨I.ok.frames,I.ok.mod,I.bs,ol I.ok.bsz I.sz,I.stack,I.bI,I.hok,I.bare,I.sys⟩
theorem Inv.after{Q:VK}{u:Value}(I:Inv X pins σ H s)(h:CE X.stack X.prog X.w H s Q u s'):EP X pins σ Q u s':=by
 obtain⟨v,e,os,bare,un,hok,r,q⟩:=h;obtain⟨c,g,d,t,a⟩:=s';obtain rfl:a=s.os:=os;exact⟨v,e,I.call (h':=c) (g':=g) (d':=d) (t':=t) (ch:=[]) un hok bare (λb z=>absurd z (by simp)),r,q⟩
end
def Cn(sp:Sp)(a:List V)(E:XK)(t:TA):TE:=λb H Q=>t b H λvs c=>sp (vs++a) c Q E
def Binds(K:GR)(b:FuncData)(ps:GH)(ds:GI):Prop:=
 ∀(s:Shared) (a:GI),K.In s.heap->(a++ds).length=ps.length->BindsTo s b ⟨a,[]⟩ (ps.zip (a++ds))
theorem Binds.all{K:GR}{c:FuncData}{ps:GH}(h:∀a:GI,a.length=ps.length->bindArgs c ⟨a,[]⟩=pure (ps.zip a)):Binds K c ps []:=λs a _ b=>by
 rw[n4] at b ⊢;exact .of_eq (h a b)
def Passes(CX:lj)(X:Cx)(E:XK):Prop:=∀(a:GA) (c:St) (H:Hp) (s:Shared) (e:Value) (b:Shared),Inv X a c H s->CX X.stack H s E e b->X.xe e b
section
variable{X:Cx}{CX:lj}{k:Nat}{f C:Addr}{fd:FuncData}{ps:GH}{sp:Sp}{dvs:List V}{ds:GI}{E:XK}{x m:Str}{p pos apos:Pos}{e o:Expr}{es:GJ}{ta:TE}{t:TA}
theorem yN{pins:GA}{σ:St}{H:Hp}{s:Shared}{Q:VK}{a:GI}{vs:List V}(F:p6 X.prog X.w X.K X.mg X.base CX k f fd ps sp)(i:x5 k X.A)(l:Binds X.K fd ps ds)(hd:Vals dvs ds)(g:Passes CX X E)
  (I:Inv X pins σ H s) (r:Vals vs a) (h:sp (vs++dvs) H Q E):wpAny (model X.prog X.w) X.A (call (.ref f) a) (EP X pins σ Q) X.xe s:=by
 have c:Vals (vs++dvs) (a++ds):=r.append hd;have j:(a++ds).length=ps.length:=by rw[<-c.length];exact F.len _ _ _ _ h
 refine EQ (Fe (F.run X.A X.stack s H ⟨a,[]⟩ (a++ds) (vs++dvs) Q E i I.Ae (l s a I.Z8 j) c h) λr d b=>?_)
 cases r with
 | error e=>exact g pins σ H s e d I b
 | ok q=>
  cases q with
  | ret u=>exact I.after b
  | next=>exact False.elim b
  | brk=>exact False.elim b
  | cont=>exact False.elim b
theorem xg(F:p6 X.prog X.w X.K X.mg X.base CX k f fd ps sp)(j:x5 k X.A)(v:Gl X x)(l:X.mg x=some (.ref f))(u:PySem.W.keepIn X.K (.ref f)=true)(z:Binds X.K fd ps ds)(hd:Vals dvs ds)(i:Passes CX X E)
  (B:PA X (e::es) t) (c:(x == ("__debug__" : Str))=false:=by decide) (y:starEach (e::es) X.env=(false,eval e X.env)::starEach es X.env:=by rfl) (b:(backTo pos (starEach es X.env)).any (·.1)=false:=by rfl) :
  PE X (.Call (.Name x p) (e::es) [] pos) (Cn sp dvs E t):=by
 refine .of ?_;intro a s g H Q I h;refine Fh (X4 I v l ?_ c);refine PySem.W.callWith_K (h₀:=X.base) I.ok.mod.kin u (r8 (B pos a s g H _ I h) λG J ⟨vs,M,d,r,q⟩=>⟨d.Z8,?_⟩) y b;exact yN F j z hd i d r q
end
section
variable{X:Cx}{CX:lj}{k:Nat}{f C:Addr}{fd:FuncData}{ps ks:GH}{sp:Sp}{E:XK}{x m:Str}{p pos apos kpos:Pos}{e o:Expr}{es:GJ}{kws:List Keyword}{te ta:TE}{t tk:TA}{nm:Option Str}
variable{g:GI->GI->GI}{gV:List V->List V->List V}
end
structure j1(N P:GH)(sc:Scope):Prop where
 kind:sc.kind=.function
 co:sc.isCoroutine=false
 gen:sc.isGenerator=false
 nd:N.Nodup
 pre:N.take P.length=P
 par:∀x∈P,sc.names.lookup x=some .local\/sc.names.lookup x=some .cell
 nofree:∀y∈sc.names,y.2≠.free
theorem eS{kindOf:Str->Option NameKind}{x:Str}:∀{binds:GF} {m:GN},(∀v,(x,v)∉binds)->bindL kindOf binds m x=m x
 | [],_,_=>rfl
 | (n,v)::r,m,h=>by
  unfold bindL;rw[eS λw hw=>h w (lf _ hw)];split
  ·have:x≠n:=by rintro rfl;exact h v lm
   simp[this]
  ·rfl
theorem eZ{kindOf:Str->Option NameKind}{x:Str}:∀{binds:GF} {m:GN},(∀v,(x,v)∉binds)->bindC kindOf binds m x=m x
 | [],_,_=>rfl
 | (n,v)::r,m,h=>by
  unfold bindC;rw[eZ λw hw=>h w (lf _ hw)];split
  ·rfl
  ·have:x≠n:=by rintro rfl;exact h v lm
   simp[this]
theorem fN{kindOf:Str->Option NameKind}{x:Str}{v:Value}:∀{P:GH} {vs:GI} {i:Nat} {m:GN},P.Nodup->P[i]?=some x->vs[i]?=some v->kindOf x=some .local ->
  bindL kindOf (P.zip vs) m x=some v
 | [],_,_,_,_,h,_,_=>by simp at h
 | _::_,[],_,_,_,_,h,_=>by simp at h
 | p::P,w::vs,0,m,nd,b,a,c=>by
  simp at b a;subst b;subst a;show bindL kindOf ((p,w)::P.zip vs) m p=_;unfold bindL;rw[eS λv d=>(List.nodup_cons.mp nd).1 (FW d).1,l7 c];simp
 | p::P,w::vs,i+1,m,nd,b,a,c=>by
  show bindL kindOf ((p,w)::P.zip vs) m x=_;unfold bindL;exact fN (i:=i) (List.nodup_cons.mp nd).2 (by simpa using b) (by simpa using a) c
theorem eD{kindOf:Str->Option NameKind}{x:Str}{v:Value}:∀{P:GH} {vs:GI} {i:Nat} {m:GN},P.Nodup->P[i]?=some x->vs[i]?=some v->kindOf x≠some .local ->
  bindC kindOf (P.zip vs) m x=some v
 | [],_,_,_,_,h,_,_=>by simp at h
 | _::_,[],_,_,_,_,h,_=>by simp at h
 | p::P,w::vs,0,m,nd,b,a,c=>by
  simp at b a;subst b;subst a;show bindC kindOf ((p,w)::P.zip vs) m p=_;unfold bindC;rw[eZ λv d=>(List.nodup_cons.mp nd).1 (FW d).1,ln c];simp
 | p::P,w::vs,i+1,m,nd,b,a,c=>by
  show bindC kindOf ((p,w)::P.zip vs) m x=_;unfold bindC;exact eD (i:=i) (List.nodup_cons.mp nd).2 (by simpa using b) (by simpa using a) c
def start(N:GH)(vs:List V):St:=vs.map some++List.replicate (N.length-vs.length) none
def ar(CX:lj)(P:Program)(w:World)(K:GR)(mg:GN)(base:Heap)(N:GH)(a:Str)(scope:Scope)(f:Addr)(c:Value)(A:Around)(outer:List Env)(s:Shared)(H:Hp)(E:XK):Cx where
 prog:=P
 w:=w
 K:=K
 mg:=mg
 base:=base
 A:=A.deeper (envOfC a scope s.heap.objs.size f c)
 N:=N
 s₀:=s
 H₀:=H
 env:=envOfC a scope s.heap.objs.size f c
 outer:=outer
 stack:=envOfC a scope s.heap.objs.size f c::outer
 ex:=[]
 calm:=true
 fn:=λ_=>true
 pn:=[]
 xe:=λe d=>wpAny (model P w) (A.deeper (envOfC a scope s.heap.objs.size f c)) (leaving (envOfC a scope s.heap.objs.size f c) e) (λ_ b=>CX outer H s E e b) (λg b=>CX outer H s E g b) d
theorem jW{a:Scope}{n:Nat}{x:Str}(h:a.names.lookup x=some .cell):∃c,(cellsFrom n a.names []).lookup x=some c:=by
 have q:=PySem.W.cellsFrom_some a.names n [] (.inl h);exact Option.isSome_iff_exists.mp q
theorem pU{CX:lj}{P:Program}{w:World}{K:GR}{mg:GN}{base:Heap}{N ps:GH}{d:Str}{scope:Scope}{f:Addr}{J:Value}{A:Around}{outer:List Env}{s O:Shared}{H:Hp}{E:XK}{M:GI}{vs:List V}
  (S:j1 N ps scope) (hd:A.handled=none) (j:lM P w K mg base A outer s H) (Y:vs.length=ps.length) (r:Vals vs M)
  (x:InCallC s s.heap.objs.size (bindL (envOfC d scope s.heap.objs.size f J).kindOf (ps.zip M) λ_=>none) (cellsFrom (s.heap.objs.size+1) scope.names []) (bindC (envOfC d scope s.heap.objs.size f J).kindOf (ps.zip M) λ_=>none) O) :
  Inv (ar CX P w K mg base N d scope f J A outer s H E) [] (start N vs) H O:=by
 have U:ps.length<=N.length:=by have:=tz List.length S.pre;rw[vc] at this;omega
 obtain⟨I,tk,rfl,R⟩:=x.done;have l:∀b:Addr,b∉(ar CX P w K mg base N d scope f J A outer s H E).ex:=λb z=>absurd (show b∈([]:GG) from z) (by simp)
 refine⟨⟨j.mod,S.kind,rfl,rfl,hI _,λy z c I g=>?_,λy o=>?_,λy c _ h=>?_,λ_=>hd,Around.frames_deeper j.frames,.inr ⟨rfl,rfl⟩,λb z=>absurd z (l b),j.bs,j.bsz,λb _ _=>l b,λb z=>absurd z (l b),j.ae,j.frf,j.sy⟩,
  rfl,j.bare,Un.kept R,⟨_,x.toInCall.ns,λi y v I g h3=>?_⟩,λy c h=>⟨_,x.cell y c h⟩,j.hok.fresh (hI _),λy c h=>?_,λp C=>absurd (show p∈([]:GA) from C) (by simp),j.hok.kept R,?_⟩
 ·exact name_of_addr x.apart (v5 I) (v5 g)
 ·have o:scope.names.lookup y=some .cell\/scope.names.lookup y=some .free:=o;rcases o with o | o
  ·exact jW o
  ·exact absurd rfl (S.nofree _ (v5 o))
 ·exact ES (x.above y c (v5 h))
 ·have G:i<vs.length:=by
   unfold start at g
   by_cases G:i<vs.length
   ·exact G
   ·rw[sK (by simpa using G)] at g;rw[List.getElem?_replicate] at g;split at g<;>cases g
  have X:vs[i]?=some v:=by
   unfold start at g;rw[pp (by simpa using G),qq] at g
   cases e:vs[i]? with
   | none=>rw[e] at g;cases g
   | some a=>rw[e] at g;cases g;rfl
  obtain⟨u,Q,T⟩:=r.get X
  have C:ps[i]?=some y:=by
   rw[<-S.pre,List.getElem?_take_of_lt (by omega)];exact I
  have B:ps.Nodup:=by rw[<-S.pre];exact S.nd.sublist (List.take_sublist _ _)
  refine⟨u,T,?_⟩;rcases S.par y (nb C) with k | k
  ·exact .inl ⟨k,fN B C Q k⟩
  ·obtain⟨c,e⟩:=jW (n:=s.heap.objs.size+1) k;refine .inr ⟨.inl k,c,e,?_⟩;have q:=x.cell y c e;rw[eD B C Q (by show scope.names.lookup y≠_;rw[k];decide)] at q;exact q
 ·exact j.hok.fresh (ES (x.above y c (v5 h)))
 ·unfold start;show _=N.length;rw[nT,mo,List.length_replicate];omega
theorem yu{CX:lj}{P:Program}{w:World}{K:GR}{mg:GN}{base:Heap}{k:Nat}{f:Addr}{name a:Str}{params:Arguments}{body:GO}{scope:Scope}{Y kV B X c ct oc:Value}{an od:Option Addr}
  {M:Array (GS)} {N ps:GH} {sp:Sp} (lk:K.lookup f=some ⟨oc,od,.func (PySem.W.fnOf name a params body scope Y kV B X an c ct),M⟩) (T:PySem.W.codeIn K c a=true) (S:j1 N ps scope)
  (len:∀vs H Q E,sp vs H Q E->vs.length=ps.length)
  (i:∀(A:Around) (outer:List Env) (s:Shared) (H:Hp) (vs:List V) (Q:VK) (E:XK),x5 k (A.deeper (envOfC a scope s.heap.objs.size f c))->sp vs H Q E ->
   ∃t,ig (ar CX P w K mg base N a scope f c A outer s H E) body t/\t { nx:=λ_ g=>Q .l4 g,rt:=Q } (start N vs) H) :
  p6 P w K mg base CX (k+1) f (PySem.W.fnOf name a params body scope Y kV B X an c ct) ps sp:=by
 refine⟨len,λA outer s H a0 us vs Q E R z hb r l=>?_⟩;have hl:=len _ _ _ _ l;have KX:K.In s.heap:=z.mod.kin.keeps λb o e=>(z.bs b o e).1;have O:s.heap.NoLimit:=z.mod.nolimit.keeps λb o e=>(z.bs b o e).1
 have h:∀y∈ps.zip us,scope.names.lookup y.1=some .local\/(scope.names.lookup y.1=some .cell/\((cellsFrom (s.heap.objs.size+1) scope.names []).lookup y.1).isSome=true):=λ⟨n,v⟩ hy=>by
  rcases S.par n (FW hy).1 with q | q
  ·exact .inl q
  ·exact .inr ⟨q,PySem.W.cellsFrom_some _ _ _ (.inl q)⟩
 refine codeAny_call_function R.depth (KX _ _ lk) rfl S.co S.gen rfl (PySem.W.codeRec_of KX T) (hb _ _ _ _ ?_);refine wpAny_newFunctionEnv_cells S.kind h λenv he U x=>?_;subst he;refine⟨O.keeps x.toInCall.keep,codeAny_func ?_⟩;obtain⟨t,ht,hq⟩:=i A outer s H vs Q E (R.deeper _) l;have I:Inv (ar CX P w K mg base N a scope f c A outer s H E) [] (start N vs) H U:=pU S R.hd z hl r x;refine o1 (ht [] U (start N vs) H _ I hq) (λfl C j=>?_) λe C j=>j
 have p:∀{d:St} {g:Hp} {v:V} {u:Value},Inv (ar CX P w K mg base N a scope f c A outer s H E) [] d g C->RelV v u->Q v g->CE outer P w H s Q u C:=
  λ{d g v u} J G q=>⟨v,g,J.os,J.bare,J.base,J.hok,G,q⟩
 cases fl with
 | ret u=>
  obtain⟨v,d,g,J,G,q⟩:=j;exact p J G q
 | next=>
  obtain⟨d,g,J,q⟩:=j;exact p (v:=V.l4) (u:=Value.none) J rfl q
 | brk=>
  obtain⟨_,_,_,q⟩:=j;exact False.elim q
 | cont=>
  obtain⟨_,_,_,q⟩:=j;exact False.elim q
section
variable{X:Cx}{x:Str}{p pos:Pos}{e:Expr}{es:GJ}{t:TA}{id T:String}{r:List V->Hp->VK->Prop}
def Dl(r:List V->Hp->VK->Prop)(t:TA):TE:=λa H Q=>t a H λvs b=>r vs b Q
theorem cD (z:C5 X (.builtin id) r) (v:Gl X x) (u:X.mg x=none) (o:bootBuiltins x=some (.builtin id)) (B:PA X (e::es) t) (q:x ≠ "__name__":=by decide) (c:(x == ("__debug__" : Str))=false:=by decide)
  (y:starEach (e::es) X.env=(false,eval e X.env)::starEach es X.env:=by rfl) (b:(backTo pos (starEach es X.env)).any (·.1)=false:=by rfl):PE X (.Call (.Name x p) (e::es) [] pos) (Dl r t):=by
 refine .of ?_;intro a s d H Q I h;refine Fh (ay I v u o ?_ q c);exact PyProof.Rows.callWith_builtin1 (r8 (B pos a s d H _ I h) λg i ⟨vs,E,C,j,l⟩=>z a i d E vs g Q C j l) y b
theorem pT (z:C5 X (.type T) r) (v:Gl X x) (u:X.mg x=none) (o:bootBuiltins x=some (.type T)) (B:PA X (e::es) t) (q:x ≠ "__name__":=by decide) (c:(x == ("__debug__" : Str))=false:=by decide)
  (y:starEach (e::es) X.env=(false,eval e X.env)::starEach es X.env:=by rfl) (b:(backTo pos (starEach es X.env)).any (·.1)=false:=by rfl):PE X (.Call (.Name x p) (e::es) [] pos) (Dl r t):=by
 refine .of ?_;intro a s d H Q I h;refine Fh (ay I v u o ?_ q c);exact ww (r8 (B pos a s d H _ I h) λg i ⟨vs,E,C,j,l⟩=>z a i d E vs g Q C j l) y b
end
end L2
namespace HT
open PySem PyProof.Rows
section
open PySem.SeqAt
open PySem.AutoSeq1 (wpAny_loadPart')
open PySem.MeetsSeq PySem.MeetsSeq2 PySem.MeetsSeq3
end
section
variable{prog:Program}{w:World}{A:Around}{E:GP}{s:Shared}
theorem vG{t b:Addr}{vs a:GI}{Q:GP}(v:IsTup s.heap t vs.toArray)(x:IsTup s.heap b a.toArray)(o:vs≠[])
  (z:a=[]->Q (.ref t) s) (y:a≠[]->Q (.ref s.heap.objs.size) { s with heap:=s.heap.push { cls:=.type "tuple",data:=.seq (vs++a).toArray } })
  (hsz:vs.length+a.length<=sizeLine):wpAny (model prog w) A (binaryOp .Add (.ref t) (.ref b)) Q E s:=by
 obtain⟨⟨cls,q,r,l⟩,j,p,n,hd⟩:=id v;obtain⟨⟨u,i,data2,d⟩,c,h,n2,g⟩:=id x;simp only at p hd h g;subst p hd h g;have e:vs.toArray++a.toArray=(vs++a).toArray:=by simp
 by_cases hw:a=[]
 ·exact concat_meets ⟨_,j,rfl⟩ ⟨_,c,rfl⟩ noFill_tuple_add seq_tuple_add Fs Fj (Ff _ _)
   (tuple_addW1 t b vs.toArray a.toArray n n2 q i l d (by simpa using o) (by simp[hw])) ⟨j,c,z hw⟩
 ·refine concat_meets ⟨_,j,rfl⟩ ⟨_,c,rfl⟩ noFill_tuple_add seq_tuple_add Fs Fj (Ff _ _)
   (tuple_addW2 t b vs.toArray a.toArray n n2 q i l d (by simpa using o) (by simpa using hw) (by rw[lw,lw];exact hsz)) ⟨j,c,?_⟩
  rw[e];exact y hw
def u6(n d:Nat):Option Int->Nat
 | none=>d
 | some v=>if v<0 then(v+(n:Int)).toNat else min v.toNat n
theorem wt(n d k:Nat):u6 n d (some (k:Int))=min k n:=by
 show(if (k:Int)<0 then((k:Int)+(n:Int)).toNat else min (k:Int).toNat n)=min k n;rw[ln (by omega),Fc]
theorem AD(n d:Nat)(hd:d<=n)(o:Option Int):u6 n d o<=n:=by
 cases o with
 | none=>exact hd
 | some v=>
  show(if v<0 then(v+(n:Int)).toNat else min v.toNat n)<=n
  by_cases a:v<0
  ·rw[l7 a];omega
  ·rw[ln a];exact Nat.min_le_right _ _
theorem nQ(v:Int)(n d:Nat):(if v<0 then max (v+(n:Int)) 0 else min v (n:Int))=((u6 n d (some v):Nat):Int):=by
 show(if v<0 then max (v+(n:Int)) 0 else min v (n:Int))=(((if v<0 then(v+(n:Int)).toNat else min v.toNat n):Nat):Int)
 by_cases a:v<0
 ·simp only[l7 a];omega
 ·simp only[ln a];omega
theorem mG(lo a:Option Int)(n:Nat):Builtin.Slice.sliceAdjust lo a 1 (n:Int)=(((u6 n 0 lo:Nat):Int),((u6 n n a:Nat):Int)):=by
 have b:¬((1:Int)<0):=by omega
 unfold Builtin.Slice.sliceAdjust;simp only[b,EV];refine Prod.ext ?_ ?_
 ·cases lo with
  | none=>rfl
  | some v=>exact nQ v n 0
 ·cases a with
  | none=>rfl
  | some v=>exact nQ v n n
theorem lW(i j:Nat):Builtin.Slice.slicePlaces (i:Int) (j:Int) 1=j-i:=by
 unfold Builtin.Slice.slicePlaces;have a:(1:Int)>0:=by omega
 simp only[a,ER,Int.ediv_one];split<;>omega
theorem K1{v:Value}{o:Option Int}{Q:Option Int->Shared->Prop}(p:IsPart v o)(h:Q o s):wpAny (model prog w) A (Builtin.Slice.slicePartIndex v) Q E s:=by
 cases p with
 | none=>exact slicePart_none h
 | int i t=>exact slicePart_int h
theorem N2{g:Addr}{e d:Value}{lo b:Option Int}{n:Nat}{Q:Int×Int×Nat->Shared->Prop}(l:s.heap.IsSliceOf g e d .none)(j:IsPart e lo)(i:IsPart d b)
  (h:Q (((u6 n 0 lo:Nat):Int),1,u6 n n b-u6 n 0 lo) s):wpAny (model prog w) A (Builtin.Slice.sliceApplied (.ref g) (pure (n:Int))) Q E s:=by
 obtain⟨os,a,o,c⟩:=id l;unfold Builtin.Slice.sliceApplied Builtin.Slice.sliceFields;refine cB (cB (pu a c (x:=e) rfl (cB (pu a c (x:=d) rfl (cB (pu a c (x:=.none) rfl (dL ?_)))))));refine cB (slicePart_none ?_);show wpAny _ _ (if ((1:Int) == 0)=true then _ else _) _ _ s;rw[ln (by decide)];refine cB (K1 j (cB (K1 i (cB (dL ?_)))));show wpAny _ _ (match Builtin.Slice.sliceAdjust lo b 1 (n:Int) with | (lo,b)=>pure (lo,(1:Int),Builtin.Slice.slicePlaces lo b 1)) _ _ s;rw[mG lo b n];show wpAny _ _ (pure (((u6 n 0 lo:Nat):Int),(1:Int),Builtin.Slice.slicePlaces ((u6 n 0 lo:Nat):Int) ((u6 n n b:Nat):Int) 1)) _ _ s;rw[lW];exact dL h
theorem se(xs:GM)(i k:Nat):((List.range k).filterMap λ(m:Nat)=>xs[((i:Int)+(m:Int)*1).toNat]?).toArray=((xs.toList.drop i).take k).toArray:=by
 have e:(λ(m:Nat)=>xs[((i:Int)+(m:Int)*1).toNat]?)=λm=>xs[i+m]?:=by
  funext m
  have:((i:Int)+(m:Int)*1).toNat=i+m:=by omega
  rw[this]
 rw[e];have:=pick_run xs i k;rw[List.filterMap_map] at this;have a:((λx=>xs[x]?)∘λx=>i+x)=λm=>xs[i+m]?:=rfl;rw[a] at this;rw[this]
theorem Y9{t d:Addr}{items:GM}{o l:Value}{lo b:Option Int}{Q:GP}(c:IsTup s.heap t items)(p:s.heap.IsSliceOf d o l .none)(u:IsPart o lo)(r:IsPart l b)
  (hw:¬(u6 items.size 0 lo=0/\u6 items.size items.size b=items.size))
  (h:Q (.ref s.heap.objs.size) { s with heap:=s.heap.push { cls:=.type "tuple",data:=.seq ((items.toList.drop (u6 items.size 0 lo)).take (u6 items.size items.size b-u6 items.size 0 lo)).toArray } })
  (hsz:items.size<=sizeLine):wpAny (model prog w) A (getItem (.ref t) (.ref d)) Q E s:=by
 have a:sizeOk (.seq ((items.toList.drop (u6 items.size 0 lo)).take (u6 items.size items.size b-u6 items.size 0 lo)).toArray):=by
  show((items.toList.drop (u6 items.size 0 lo)).take (u6 items.size items.size b-u6 items.size 0 lo)).toArray.size<=sizeLine;rw[lw,vc,Fq,v6];omega
 have z:u6 items.size items.size b<=items.size:=AD _ _ (hI _) b;obtain⟨os,e,i,v⟩:=id p;have j:s.TypeIs (.ref d) "slice":=⟨os,e,i⟩
 unfold getItem
 try with_reducible refine qs ?_
 first | refine cB (dL ?_) | skip
 refine cB (Gc c.typeIs (by decide) ?_)
 refine cB (rz (name:=Str.ofString "__getitem__") c.typeIs re
  (t5 re c.typeIs entry_tuple_getitem ?_ (args_tuple_getitem _ _)))
 show wpAny _ _ (Builtin.Tuple.tupleItemsOf (.ref t) >>= _) _ _ s;refine cB (tupleItemsOf_ c ?_);refine cB (Fd j ?_);rw[l7 (by decide)];refine cB (N2 p u r ?_)
 have g:¬((((u6 items.size 0 lo:Nat):Int) == 0&&(1:Int) == 1&&(u6 items.size items.size b-u6 items.size 0 lo) == items.size)=true):=by
  intro q;rw[eH,eH] at q;have y:((u6 items.size 0 lo:Nat):Int)=0:=eq_of_beq q.1.1;have x:u6 items.size items.size b-u6 items.size 0 lo=items.size:=eq_of_beq q.2;exact hw ⟨by omega,by omega⟩
 show wpAny _ _ (if (((u6 items.size 0 lo:Nat):Int) == 0&&(1:Int) == 1&&(u6 items.size items.size b-u6 items.size 0 lo) == items.size)=true then _ else _) _ _ s;rw[ln g,se]
 first
  | exact cB (m:=Builtin.Tuple.tupleExact _) (qc (dL ⟨_,rfl,dL h⟩) a)
  | exact cB (m:=Builtin.Tuple.tupleExact _) (qc (cB (dL (dL ⟨_,rfl,dL h⟩))) a)
  | exact cB (cB (m:=Builtin.Tuple.tupleExact _) (qc (dL (dL ⟨_,rfl,dL h⟩)) a))
  | exact cB (cB (m:=Builtin.Tuple.tupleExact _) (qc (dL ⟨_,rfl,dL h⟩) a))
end
end HT
namespace L2
open PySem PySem.Spec PyProof.Rows
abbrev TO:=St->Hp->(Option Int->Hp->Prop)->Prop
structure PO(X:Cx)(e:Option Expr)(t:TO) : Prop where
 of ::
 run :
 ∀(pins:GA) (s:Shared) (σ:St) (H:Hp) (Q:Option Int->Hp->Prop),Inv X pins σ H s->t σ H Q ->
  wpAny (model X.prog X.w) X.A (evalPart e X.env) (λu s'=>∃o H',Inv X pins σ H' s'/\IsPart u o/\Q o H') X.xe s
instance {X:Cx} {e:Option Expr} {t:TO} : CoeFun (PO X e t) λ_=>
 ∀(pins:GA) (s:Shared) (σ:St) (H:Hp) (Q:Option Int->Hp->Prop),Inv X pins σ H s->t σ H Q ->
  wpAny (model X.prog X.w) X.A (evalPart e X.env) (λu s'=>∃o H',Inv X pins σ H' s'/\IsPart u o/\Q o H') X.xe s:=⟨PO.run⟩
def wd:TO:=λ_ H Q=>Q none H
def Ct(t:TE):TO:=λa H Q=>t a H λx b=>∃i,x=.int i/\Q (some i) b
section
variable{X:Cx}{e:Expr}{te:TE}{lo hi:Option Expr}{tl th:TO}{pos p2:Pos}
theorem vR:PO X none wd:=by
 refine .of ?_;intro a s b H Q I h;rw[evalPart_none];exact dL ⟨none,H,I,.none,h⟩
theorem xr(h:PE X e te):PO X (some e) (Ct te):=by
 refine .of ?_;intro a s b H Q I hw;rw[evalPart_some];refine r8 (h a s b H _ I hw) λu l ⟨x,j,g,c,d⟩=>?_;obtain⟨i,rfl,q⟩:=d;obtain⟨t,rfl⟩:=c;exact⟨some i,j,g,.int i t,q⟩
def xU(X:Cx)(r:V->Option Int->Option Int->Hp->VK->Prop):Prop:=
 ∀(a:GA) (s:Shared) (b:St) (H:Hp) (x:V) (v d c:Value) (lo hi:Option Int) (g:Addr) (Q:VK),Inv X a b H s->RelV x v->s.heap.IsSliceOf g d c .none->IsPart d lo->IsPart c hi->r x lo hi H Q ->
  ∃T id,typeLookup (.type T) "__getitem__"=pure (some (.builtin id))/\s.TypeIs v T/\wpAny (model X.prog X.w) X.A (getItem v (.ref g)) (EP X a b Q) X.xe s
theorem xU.or{r j:V->Option Int->Option Int->Hp->VK->Prop}(h:xU X r)(h':xU X j):xU X (λx lo hi H Q=>r x lo hi H Q\/j x lo hi H Q):=by
 intro a s b H x v d c lo hi g Q I i p o l q;rcases q with q | q
 ·exact h a s b H x v d c lo hi g Q I i p o l q
 ·exact h' a s b H x v d c lo hi g Q I i p o l q
def EG(r:V->Option Int->Option Int->Hp->VK->Prop)(te:TE)(tl th:TO):TE:=λa H Q=>te a H λx d=>tl a d λl c=>th a c λu b=>r x l u b Q
theorem jF{r:V->Option Int->Option Int->Hp->VK->Prop}(O:xU X r)(U:PE X e te)(R:PO X lo tl)(J:PO X hi th):PE X (.Subscript e (.Slice lo hi none p2) pos) (EG r te tl th):=by
 refine .of ?_;intro a s d H Q I h;refine Subscript_ (r8 (U a s d H _ I h) λv p ⟨x,H1,I1,y,C⟩=>?_);refine wpAny_Slice (r8 (R a p d H1 _ I1 C) λi o ⟨l,H2,I2,G,B⟩=>r8 (J a o d H2 _ I2 B) λg c ⟨u,j,I3,E,z⟩=>?_);rw[evalPart_none];refine dL ?_;have I4:Inv X a d j { c with heap:=c.heap.push { cls:=.type "slice",data:=.fields #[i,g,.none] } }:=I3.kept (t':=c.toks) λb ob q=>cC _ q;obtain⟨T,id,Y,M,S⟩:=O a { c with heap:=c.heap.push { cls:=.type "slice",data:=.fields #[i,g,.none] } } d j x v i g l u c.heap.objs.size Q I4 y (Heap.IsSliceOf.new ..) G E z;show wpAny (model X.prog X.w) X.A (subscriptTail e (.Slice lo hi none p2) v (.ref c.heap.objs.size)) (EP X a d Q) X.xe { c with heap:=c.heap.push { cls:=.type "slice",data:=.fields #[i,g,.none] } };exact tail_any (ops:=[.ref c.heap.objs.size,v]) M Y S (by with_unfolding_all rfl)
def bq(xs:List V)(lo hi:Option Int):List V:=(xs.drop (HT.u6 xs.length 0 lo)).take (HT.u6 xs.length xs.length hi-HT.u6 xs.length 0 lo)
theorem aL(xs:List V)(lo hi:Option Int):(bq xs lo hi).length<=xs.length:=by
 unfold bq;rw[vc,Fq];omega
def Dp(K:GR):V->Option Int->Option Int->Hp->VK->Prop:=λx lo hi H Q=>∃a b,x=.ref a/\G8 K H a b /\
 ¬(HT.u6 b.length 0 lo=0/\HT.u6 b.length b.length hi=b.length)/\∀p,H p=none->Q (.ref p) (upd H p (.tup (bq b lo hi)))
theorem yD:xU X (Dp X.K):=by
 intro i s C H x v G E lo hi J Q I p B y u h;obtain⟨a,d,rfl,z,hw,q⟩:=h;cases p;obtain⟨g,r,l,j⟩:=I.tuple z;have c:g.toArray.size=d.length:=by rw[lw];exact r.length.symm
 refine⟨"tuple",_,PyProof.Rows.slot_tuple_getitem.lookup,l.typeIs,?_⟩;refine HT.Y9 l B y u (by rw[c];exact hw) ?_ (by rw[c];exact j);rw[c];refine⟨.ref s.heap.objs.size,_,I.laid (t':=s.toks) (o:=.tup (bq d lo hi)) (λb ob q=>cC _ q) (hI _) ?_,rfl,q _ (I.hok.fresh (hI _))⟩;exact⟨ol (aL d lo hi) j,_,(r.drop (HT.u6 d.length 0 lo)).take (HT.u6 d.length d.length hi-HT.u6 d.length 0 lo),IsTup.new _ _⟩
def Cu(K:GR):R2:=λx y H Q=>∃a b d c,x=.ref a/\y=.ref b/\G8 K H a d/\G8 K H b c/\d≠[]/\d.length+c.length<=sizeLine /\
 (c=[]->Q (.ref a) H)/\(c≠[]->∀p,H p=none->Q (.ref p) (upd H p (.tup (d++c))))
theorem Vals.bG{xs:List V}{a:GI}(r:Vals xs a):a=[] ↔ xs=[]:=by
 cases r with
 | nil=>simp
 | cons _ _=>simp
theorem vL:E7 X (binaryOp .Add) (Cu X.K):=by
 intro g s S H x y v u Q I B r h;obtain⟨a,b,p,l,rfl,rfl,R,O,M,j,E,C⟩:=h;cases B;cases r;obtain⟨J,d,G,_⟩:=I.tuple R;obtain⟨i,c,p2,_⟩:=I.tuple O;refine HT.vG G p2 (λz=>M (d.bG.mp z)) (λz=>⟨.ref a,H,I,rfl,E (c.bG.mp z)⟩) (λz=>?_) (by rw[<-d.length,<-c.length];exact j);refine⟨.ref s.heap.objs.size,_,I.laid (t':=s.toks) (o:=.tup (p++l)) (λb ob q=>cC _ q) (hI _) ?_,rfl,C (λw=>z (c.bG.mpr w)) _ (I.hok.fresh (hI _))⟩;exact⟨by rw[nT];exact j,_,d.append c,IsTup.new _ _⟩
end
def tq(n:Nat)(i:Int):GU:=if 0<=i then(if i<n then some i.toNat else none) else if -(n:Int)<=i then some (i+n).toNat else none
def Z2{a:Type}(xs:List a)(i:Int):Option a:=(tq xs.length i).bind λj=>xs[j]?
theorem vZ{n:Nat}{i:Int}{j:Nat}(h:tq n i=some j):seqIndex? i n=some j/\j<n/\-(n:Int)<=i/\i<n:=by
 unfold tq at h
 by_cases b:0<=i
 ·rw[l7 b] at h
  by_cases a:i<n
  ·rw[l7 a] at h;have e:i.toNat=j:=oD h;exact⟨by rw[seqIndex_of b a,e],by omega,by omega,a⟩
  ·rw[ln a] at h;cases h
 ·rw[ln b] at h
  by_cases a:-(n:Int)<=i
  ·rw[l7 a] at h;have e:(i+n).toNat=j:=oD h;exact⟨by rw[seqIndex_neg (by omega) a,e],by omega,a,by omega⟩
  ·rw[ln a] at h;cases h
theorem gH{a:Type}{xs:List a}{i:Int}{v:a}(h:Z2 xs i=some v):∃j,seqIndex? i xs.length=some j/\xs[j]?=some v/\j<xs.length/\-(xs.length:Int)<=i/\i<xs.length:=by
 unfold Z2 at h
 cases e:tq xs.length i with
 | none=>rw[e] at h;cases h
 | some j=>
  rw[e] at h;obtain⟨g,d,c,b⟩:=vZ e;exact⟨j,g,h,d,c,b⟩
theorem gf{a:Type}{xs:List a}{j:Nat}{v:a}(h:xs[j]?=some v):Z2 xs (j:Int)=some v:=by
 have b:j<xs.length:=(List.getElem?_eq_some_iff.mp h).1
 have e:tq xs.length (j:Int)=some j:=by
  unfold tq;rw[l7 (by omega),l7 (by omega)];simp
 unfold Z2;rw[e];exact h
def ij(b:Expr):Prop:=∀o i,subscripted b false o i=operate [o,i] (getItem o i)
def vn(X:Cx)(r:R2):Prop:=
 ∀(c a:Expr) (b:GA) (s:Shared) (d:St) (H:Hp) (x y:V) (v u:Value) (Q:VK),Inv X b d H s->RelV x v->RelV y u->r x y H Q ->
  subscripted a false v u=operate [v,u] (getItem v u)->wpAny (model X.prog X.w) X.A (subscriptTail c a v u) (EP X b d Q) X.xe s
def Ey(X:Cx)(id:String)(r:V->List V->Hp->VK->Prop):Prop:=
 ∀(a:GA) (s:Shared) (b:St) (H:Hp) (x:V) (c:List V) (v:Value) (d:GI) (Q:VK),Inv X a b H s->RelV x v->Vals c d->r x c H Q ->
  wpAny (model X.prog X.w) X.A (call (.builtin id) (v::d)) (EP X a b Q) X.xe s
section
variable{X:Cx}{a b:Expr}{ta tb:TE}{pos:Pos}
theorem vn.or{r l:R2}(h:vn X r)(h':vn X l):vn X (λx y H Q=>r x y H Q\/l x y H Q):=by
 intro c d e s g H x y v u Q I j i q o;rcases q with q | q
 ·exact h c d e s g H x y v u Q I j i q o
 ·exact h' c d e s g H x y v u Q I j i q o
theorem Bf{r:R2}(l:vn X r)(p:PE X a ta)(o:PE X b tb)(j:ij b):PE X (.Subscript a b pos) (Bb r ta tb):=by
 refine .of ?_;intro c s d H Q I h;exact Subscript_ (zm p o I h λv u e x y B z i g q=>l a b c e d B x y v u Q z i g q (j _ _))
def Be(K:GR):R2:=λx y H Q=>∃p c i v,x=.ref p/\y=.int i/\G1 K H p c/\Z2 c i=some v/\Q v H
def AN(K:GR):R2:=λx y H Q=>∃p c i v,x=.ref p/\y=.int i/\G8 K H p c/\Z2 c i=some v/\Q v H
def AW:R2:=λx y H Q=>∃z i c,x=.str z/\y=.int i/\z.length<=sizeLine/\Z2 z.cps.toList i=some c/\Q (.str ⟨#[c]⟩) H
theorem vX:vn X (Be X.K):=by
 intro g l c s G H x y v u Q I T S h J;obtain⟨p,xs,i,z,rfl,rfl,U,he,q⟩:=h;cases T;obtain⟨t,rfl⟩:=S;obtain⟨C,r,B,hz⟩:=I.list U;obtain⟨j,e,h2,h3,h4,h5⟩:=gH he;obtain⟨w,O,o⟩:=r.get h2;have Y:=r.length;have hn:=cp;have d:EP X c G Q w s:=⟨z,H,I,o,q⟩
 by_cases M:0<=i
 ·have E:i.toNat=j:=by
   rw[seqIndex_of M h5] at e;exact oD e
  exact item_listR B.isList M (by omega) (by rw[E];simpa using O) d J
 ·have E:(i+(C.toArray.size:Int)).toNat=j:=by
   rw[seqIndex_neg (by omega) h4] at e;rw[lw,<-Y];exact oD e
  exact subscriptTail_builtinR (x:=w) B.isList.typeIs slot_list_getitem.lookup
   (wpAny_getItem_list_neg (Q:=λr R=>r=w/\EP X c G Q r R) B.isList (by omega) (by rw[lw]<;>omega) (by omega) (by rw[E];simpa using O) ⟨rfl,d⟩) J
theorem zV:vn X (AN X.K):=by
 intro d e c s o H x y v u Q I G E h M;obtain⟨p,xs,i,z,rfl,rfl,O,S,q⟩:=h;cases G;obtain⟨t,rfl⟩:=E;obtain⟨J,r,B,hz⟩:=I.tuple O;obtain⟨j,U,T,h3,h4,h5⟩:=gH S;obtain⟨w,Y,g⟩:=r.get T;have R:=r.length;have hn:=cp;have l:EP X c o Q w s:=⟨z,H,I,g,q⟩
 exact subscriptTail_builtinR (x:=w) B.typeIs slot_tuple_getitem.lookup
  (getItem_tuple (j:=j) (Q:=λr C=>r=w/\EP X c o Q r C) B (by omega) (by omega) (by rw[lw,<-R];exact U) (by simpa using Y) ⟨rfl,l⟩) M
theorem yL:vn X AW:=by
 intro d e g s R H x y v u Q I p o h r;obtain⟨z,i,c,rfl,rfl,T,C,q⟩:=h;obtain⟨t,rfl⟩:=p;obtain⟨S,rfl⟩:=o;obtain⟨j,l,J,Y,G,E⟩:=gH C;have B:z.cps.toList.length=z.length:=by simp[Str.length]
 rw[B] at l G E;have U:=cp
 exact tail_any (typeIs_str s z t) slot_str_getitem.lookup (getItem_str (c:=c) (by
  have O:decide (i < -(2^63:Int))=false:=hL (by omega);have M:decide (i ≥ 2^63)=false:=hL (by omega);rw[O,M,Bool.or_false]) (by rw[l];simpa using J) ⟨.str ⟨#[c]⟩,H,I.tok _,⟨_,rfl⟩,q⟩) r
def CG(K:GR):R2:=λx y H Q=>Be K x y H Q\/AN K x y H Q\/AW x y H Q
theorem Aj:vn X (CG X.K):=vX.or (zV.or yL)
theorem gm(lo c:Option Int)(n:Nat):(sliceBounds lo c none n).1=((HT.u6 n 0 lo:Nat):Int)/\(sliceBounds lo c none n).2.1=((HT.u6 n n c:Nat):Int)/\(sliceBounds lo c none n).2.2=1:=by
 refine⟨?_,?_,rfl⟩
 ·cases lo with
  | none=>simp[sliceBounds,HT.u6]
  | some i=>
   simp only[sliceBounds,HT.u6,Option.getD_none,show(1:Int)>0 by decide,ER]
   by_cases h:i<0
   ·simp only[h,ER]<;>omega
   ·simp only[h,EV]<;>omega
 ·cases c with
  | none=>simp[sliceBounds,HT.u6]
  | some i=>
   simp only[sliceBounds,HT.u6,Option.getD_none,show(1:Int)>0 by decide,ER]
   by_cases h:i<0
   ·simp only[h,ER]<;>omega
   ·simp only[h,EV]<;>omega
theorem dF(its:GI)(lo c:Option Int):slicePick its.toArray lo c none=((its.drop (HT.u6 its.length 0 lo)).take (HT.u6 its.length its.length c-HT.u6 its.length 0 lo)).toArray:=by
 obtain⟨g,e,d⟩:=gm lo c its.toArray.size;unfold slicePick;rw[g,e,d];simp only[sliceRange_one,pick_run,lw]<;>rfl
def BF(K:GR):V->Option Int->Option Int->Hp->VK->Prop:=λx lo d H Q=>∃a c,x=.ref a/\G1 K H a c/\∀p,H p=none->Q (.ref p) (upd H p (.lst (bq c lo d)))
theorem nZ:xU X (BF X.K):=by
 intro g s C H x v G E lo e J Q I j B p l h;obtain⟨a,c,rfl,z,q⟩:=h;cases j;obtain⟨u,r,i,y⟩:=I.list z;have d:=r.length;refine⟨"list",_,slot_list_getitem.lookup,i.isList.typeIs,?_⟩;refine wpAny_getItem_list_slice i.isList B p l .none (by simp) ?_ (by rw[lw]<;>omega);rw[dF,<-d];refine⟨.ref s.heap.objs.size,_,I.laid (t':=s.toks) (o:=.lst (bq c lo e)) (λb ob q=>cC _ q) (hI _) ?_,rfl,q _ (I.hok.fresh (hI _))⟩;exact⟨ol (aL c lo e) y,_,0,(r.drop (HT.u6 c.length 0 lo)).take (HT.u6 c.length c.length e-HT.u6 c.length 0 lo),me _ rfl⟩
def R3:V->Bool
 | .l4=>true
 | .bl _=>true
 | .int _=>true
 | .str _=>true
 | _=>false
def wy:V->V->Bool
 | .l4,.l4=>true
 | .bl a,.bl b=>a == b
 | .bl a,.int b=>(if a then 1 else 0) == b
 | .int a,.bl b=>a == (if b then 1 else 0)
 | .int a,.int b=>a == b
 | .str a,.str b=>a == b
 | _,_=>false
theorem yB{A:Around}{s:Shared}{y x:V}{u v:Value}(e:RelV y u)(c:RelV x v)(h:R3 y=true)(g:R3 x=true):SeqAt.EqAt A s u v (wy y x):=by
 cases y with
 | l4=>
  cases e
  cases x with
  | l4=>cases c;exact SeqAt.EqAt.same _
  | bl b=>cases c;exact SeqAt.EqAt.none_bool b
  | int b=>obtain⟨t,rfl⟩:=c;exact SeqAt.EqAt.none_int b t
  | str b=>obtain⟨t,rfl⟩:=c;exact SeqAt.EqAt.none_str b t
  | _=>exact absurd (show false=true from g) kt
 | bl a=>
  cases e
  cases x with
  | l4=>cases c;exact SeqAt.EqAt.bool_none a
  | bl b=>cases c;exact SeqAt.EqAt.bool_bool a b
  | int b=>obtain⟨t,rfl⟩:=c;exact SeqAt.EqAt.bool_int a b t
  | str b=>obtain⟨t,rfl⟩:=c;exact SeqAt.EqAt.bool_str a b t
  | _=>exact absurd (show false=true from g) kt
 | int a=>
  obtain⟨d,rfl⟩:=e
  cases x with
  | l4=>cases c;exact SeqAt.EqAt.int_none a d
  | bl b=>cases c;exact SeqAt.EqAt.int_bool a d b
  | int b=>obtain⟨t,rfl⟩:=c;exact SeqAt.EqAt.int_int a d b t
  | str b=>obtain⟨t,rfl⟩:=c;exact SeqAt.EqAt.int_str a d b t
  | _=>exact absurd (show false=true from g) kt
 | str a=>
  obtain⟨d,rfl⟩:=e
  cases x with
  | l4=>cases c;exact SeqAt.EqAt.str_none a d
  | bl b=>cases c;exact SeqAt.EqAt.str_bool a d b
  | int b=>obtain⟨t,rfl⟩:=c;exact SeqAt.EqAt.str_int a d b t
  | str b=>obtain⟨t,rfl⟩:=c;exact SeqAt.EqAt.str_str a d b t
  | _=>exact absurd (show false=true from g) kt
 | _=>exact absurd (show false=true from h) kt
def mH(x:V)(u:Value):Bool:=match u with
 | .none=>wy .l4 x
 | .bool b=>wy (.bl b) x
 | .int i _=>wy (.int i) x
 | .str z _=>wy (.str z) x
 | _=>false
theorem ri{x y:V}{u:Value}(r:RelV y u)(f:R3 y=true):mH x u=wy y x:=by
 cases y with
 | l4=>cases r;rfl
 | bl b=>cases r;rfl
 | int i=>obtain⟨t,rfl⟩:=r;rfl
 | str z=>obtain⟨t,rfl⟩:=r;rfl
 | _=>exact absurd (show false=true from f) kt
theorem Y7{x:V}:∀{xs:List V} {c:GI},Vals xs c->xs.all R3=true->c.any (mH x)=xs.any λy=>wy y x
 | _,_,.nil,_=>rfl
 | y::xs,u::c,.cons r t,f=>by
  rw[v4,eH] at f;rw[v3,v3,ri r f.1,Y7 t f.2]
theorem S9{A:Around}{s:Shared}{x:V}{v:Value}(e:RelV x v)(g:R3 x=true):∀{xs:List V} {d:GI},Vals xs d->xs.all R3=true->∀u∈d,SeqAt.EqAt A s u v (mH x u)
 | _,_,.nil,_=>λu c=>by cases c
 | y::xs,u::d,.cons r t,f=>λh c=>by
  rw[v4,eH] at f;rcases List.mem_cons.mp c with rfl | c
  ·rw[ri r f.1];exact yB r e f.1 g
  ·exact S9 e g t f.2 h c
def CI(x:V)(xs:List V):Bool:=xs.any λy=>wy y x
def Cv(K:GR)(d:Bool):R2:=λx y H Q=>∃p c,y=.ref p/\(G1 K H p c\/G8 K H p c)/\R3 x=true/\c.all R3=true/\Q (.bl (if d then !CI x c else CI x c)) H
theorem eG:E7 X (compareOp .In) (Cv X.K false):=by
 intro i s z H x y v u Q I g l h;obtain⟨p,B,rfl,d,j,fs,q⟩:=h;cases l;rcases d with d | d
 ·obtain⟨c,r,e,o⟩:=I.list d;refine SeqAt.in_listAt (mH x) e.isList (λw hw=>S9 g j r fs w (by simpa using hw)) ⟨.bl _,H,I,rfl,?_⟩;rw[show c.toArray.any (mH x)=c.any (mH x) by simp,Y7 r fs];exact q
 ·obtain⟨c,r,e,o⟩:=I.tuple d;refine SeqAt.in_tupleAt (mH x) e (λw hw=>S9 g j r fs w (by simpa using hw)) ⟨.bl _,H,I,rfl,?_⟩;rw[show c.toArray.any (mH x)=c.any (mH x) by simp,Y7 r fs];exact q
theorem Z4:E7 X (compareOp .NotIn) (Cv X.K true):=by
 intro i s z H x y v u Q I g l h;obtain⟨p,B,rfl,d,j,fs,q⟩:=h;cases l;rcases d with d | d
 ·obtain⟨c,r,e,o⟩:=I.list d;refine SeqAt.notIn_listAt (mH x) e.isList (λw hw=>S9 g j r fs w (by simpa using hw)) ⟨.bl _,H,I,rfl,?_⟩;rw[show c.toArray.any (mH x)=c.any (mH x) by simp,Y7 r fs];exact q
 ·obtain⟨c,r,e,o⟩:=I.tuple d;refine SeqAt.notIn_tupleAt (mH x) e (λw hw=>S9 g j r fs w (by simpa using hw)) ⟨.bl _,H,I,rfl,?_⟩;rw[show c.toArray.any (mH x)=c.any (mH x) by simp,Y7 r fs];exact q
theorem gO:C5 X (.type "list") (λxs H Q=>∃p g,xs=[.ref p]/\(G1 X.K H p g\/G8 X.K H p g)/\∀l,H l=none->Q (.ref l) (upd H l (.lst g))):=by
 intro v s M H xs R Q I r h;obtain⟨p,g,rfl,y,q⟩:=h;obtain⟨u,rfl,O⟩:=vals1 r;cases O
 have B:∀(c:GI),Vals g c->g.length<=sizeLine->∀(d:Heap) (j:Nat),(∀b J,s.heap.get? b=some J->d.get? b=some J) ->
   d.get? s.heap.objs.size=some { cls:=.type "list",dict:=none,data:=.seq c.toArray j,slots:=#[] }->EP X v M Q (.ref s.heap.objs.size) { s with heap:=d }:=λc i x d j kp e=>
  ⟨.ref s.heap.objs.size,_,I.laid (t':=s.toks) kp (hI _) (show j7 X.prog X.w _ d _ (.lst g) from⟨x,c,j,i,e⟩),rfl,q _ (I.hok.fresh (hI _))⟩
 rcases y with y | y
 ·obtain⟨c,i,C,x⟩:=I.list y;have z:=i.length;obtain⟨o,E,G,n,hd⟩:=C.isList;exact call_list_seq p (.inl rfl) E G hd (λd j kp e=>B c i x d j kp e) (by simp only[lw]<;>omega)
 ·obtain⟨c,i,C,x⟩:=I.tuple y;have z:=i.length;obtain⟨o,E,G,n,hd⟩:=C;exact call_list_seq p (.inr rfl) E G hd (λd j kp e=>B c i x d j kp e) (by simp only[lw]<;>omega)
theorem V3:C5 X (.type "tuple") (λxs H Q=>∃p g,xs=[.ref p]/\((G1 X.K H p g/\∀l,H l=none->Q (.ref l) (upd H l (.tup g)))\/(G8 X.K H p g/\Q (.ref p) H))):=by
 intro c s y H xs J Q I r h;obtain⟨p,g,rfl,h⟩:=h;obtain⟨u,rfl,E⟩:=vals1 r;cases E;rcases h with⟨x,q⟩ | ⟨x,q⟩
 ·obtain⟨d,j,v,z⟩:=I.list x;have B:=j.length;refine call_tuple_list v.isList (λi kp=>?_) (by simp only[lw]<;>omega);have C:Inv X c y H { s with heap:=i }:=I.kept (t':=s.toks) kp
  have G:Inv X c y (upd H i.objs.size (.tup g)) { s with heap:=i.push { cls:=.type "tuple",data:=.seq d.toArray } }:=
   C.laid (t':=s.toks) (λb o e=>cC _ e) (hI _) (show j7 X.prog X.w _ _ _ (.tup g) from⟨z,d,j,IsTup.new _ _⟩)
  exact⟨.ref i.objs.size,_,G,rfl,q _ (C.hok.fresh (hI _))⟩
 ·obtain⟨d,j,v,z⟩:=I.tuple x;exact call_tuple_same v ⟨.ref p,H,I,rfl,q⟩
def Ej(K:GR)(T:String)(x:V)(H:Hp):Prop:=match x with
 | .str _=>T="str"
 | .int _=>T="int"
 | .ref p=>(T="list" /\ ∃d,G1 K H p d)\/(T="tuple" /\ ∃o,K.lookup p=some o/\o.cls=.type "tuple" /\ o.dict=none) \/
   (T="dict" /\ ((∃c,Dd H p c)\/∃c,H p=some (.dT c)))\/(T="set" /\ ∃S n,H p=some (.set S n))
 | _=>False
theorem Ak{pins:GA}{σ:St}{H:Hp}{s:Shared}{T:String}{x:V}{v:Value}(I:Inv X pins σ H s)(r:RelV x v)(ty:Ej X.K T x H) :
  s.TypeIs v T/\∀a,v=.ref a->∃ob,s.heap.get? a=some ob/\ob.dict=none:=by
 cases x with
 | str z=>
  obtain⟨t,rfl⟩:=r;cases(show T="str" from ty);exact⟨typeIs_str s z t,λ_ e=>nomatch e⟩
 | int i=>
  obtain⟨t,rfl⟩:=r;cases(show T="int" from ty);exact⟨typeIs_int s i t,λ_ e=>nomatch e⟩
 | ref p=>
  cases r;rcases ty with⟨rfl,y,q⟩ | ⟨rfl,o,d,u,hd⟩ | ⟨rfl,d⟩ | ⟨rfl,S,n,d⟩
  ·obtain⟨l,_,j,_⟩:=I.list q;refine⟨j.isList.typeIs,λa e=>?_⟩;cases e;obtain⟨o,n,e,c,hd,_⟩:=j;exact⟨o,e,hd⟩
  ·refine⟨⟨o,I.Z8 p o d,u⟩,λa e=>?_⟩;cases e;exact⟨o,I.Z8 _ o d,hd⟩
  ·have z:∃o,s.heap.get? p=some o/\o.ExactDict:=by
    rcases d with⟨g,d⟩ | ⟨g,d⟩
    ·obtain⟨_,_,_,_,o,_,_,e,ex,_⟩:=(show j7 X.prog X.w H s.heap p (.dK g) from d.ok I.hok)
     exact⟨o,e,ex⟩
    ·obtain⟨_,_,_,_,o,_,_,e,ex,_⟩:=I.hok p _ d;exact⟨o,e,ex⟩
   obtain⟨o,e,ex⟩:=z;refine⟨⟨o,e,ex.1⟩,λa h=>?_⟩;cases h;exact⟨o,e,ex.2.1⟩
  ·obtain⟨o,_,_,_,e,ex,_⟩:=I.hok p _ d;refine⟨⟨o,e,ex.1⟩,λa h=>?_⟩;cases h;exact⟨o,e,ex.2.1⟩
 | _=>exact False.elim ty
def El(K:GR)(T:String)(r:V->List V->Hp->VK->Prop)(g:TE)(t:TA):TE:=λc H Q=>g c H λx d=>Ej K T x d/\t c d λe h=>r x e h Q
variable{o e:Expr}{es:GJ}{to:TE}{t:TA}{name:Str}{apos cpos:Pos}{T id:String}{r:V->List V->Hp->VK->Prop}
theorem BZ (M:PlainAttrs T) (slot:Slot T name id) (p:typeOf (.builtin id)=pure (.type "method_descriptor")) (S:Ey X id r) (R:PE X o to) (U:PA X (e::es) t)
  (i:attributeBase o name X.env (eval o X.env)=eval o X.env:=by rfl)
  (j:((backTo cpos (starEach (e::es) X.env)).all (λx=>!x.1)&&(backToKw cpos (keywordEach [] X.env)).all (λx=>x.1.isSome)
   && decide ((e::es).length+([]:List Keyword).length+(if ([]:List Keyword).isEmpty then 0 else 1)<30))=true:=by rfl)
  (g:(apos.endLine == cpos.line)=true:=by rfl) (O:starEach (e::es) X.env=(false,eval e X.env)::starEach es X.env:=by rfl) (d:(backTo cpos (starEach es X.env)).any (·.1)=false:=by rfl) :
  PE X (.Call (.Attribute o name apos) (e::es) [] cpos) (El X.K T r to t):=by
 refine .of ?_;intro c s l H Q I h;refine wpAny_Call_method_late i j g rfl (r8 (R c s l H _ I h) λv C ⟨x,H1,y,q,ty,J⟩=>?_);obtain⟨h1,Y⟩:=Ak y q ty;refine⟨T,id,M,slot,p,h1,Y,?_⟩;have u:=U cpos c C l H1 _ y J;rw[O] at u ⊢;refine Calls.callWith_builtin (by show(false||(backTo cpos (starEach es X.env)).any (·.1))=false;rw[d]<;>rfl) (FO ?_);exact r8 u λz B ⟨vs,H2,I2,E,G⟩=>S c B l H2 x vs v z Q I2 q E G
end
def EM(X:Cx)(id:String)(r:V->List V->Hp->VK->Prop):Prop:=
 ∀(a:GA) (s:Shared) (b:St) (H:Hp) (x:V) (c:List V) (v:Value) (d:GI) (Q:VK),Inv X a b H s->RelV x v->Vals c d->r x c H Q ->
  wpAny (model X.prog X.w) X.A (call (.builtin id) (v::d)) (EP X a b Q) X.xe s
theorem Vals.one:∀{x:V} {a:GI},Vals [x] a->∃u,a=[u]/\RelV x u
 | _,_,.cons r .nil=>⟨_,rfl,r⟩
theorem Vals.reverse{xs:List V}{a:GI}(h:Vals xs a):Vals xs.reverse a.reverse:=by
 induction h with
 | nil=>exact .nil
 | cons r t b=>rw[Fb,Fb];exact Vals.append b (.cons r .nil)
section
variable{X:Cx}{pins:GA}{σ:St}{H:Hp}{s:Shared}{l b:Addr}{xs ys zs:List V}
theorem Inv.DG{its its':GI}{n:Nat}{f:GM->GM}{t':Nat}(I:Inv X pins σ H s)(i:H l=some (.lst xs))
  (e:s.heap.get? l=some { cls:=.type "list",data:=.seq its.toArray n }) (g:f its.toArray=its'.toArray) (c:Vals ys its') (a:ys.length<=sizeLine) :
  Inv X pins σ (upd H l (.lst ys)) { s with heap:=s.heap.update l (Obj.mapSeq f),toks:=t' }:=by
 have q:=PySem.IsL.update e f;rw[g] at q;refine I.write (x:=l) (e:=l) (by rw[i];exact trivial) (.inl rfl) (λj u h d=>(q0 s.heap (Obj.mapSeq f) (tt h)).trans d) ⟨_,q⟩ ?_;exact⟨a,its',_,c,q⟩
theorem Inv.AX{its:GI}{t':Nat}(I:Inv X pins σ H s)(c:Vals ys its)(a:ys.length<=sizeLine) :
  Inv X pins σ (upd H s.heap.objs.size (.lst ys)) { s with heap:=s.heap.push { cls:=.type "list",data:=.seq its.toArray },toks:=t' }:=
 I.laid (λ_ _ q=>cC _ q) (hI _) ⟨a,its,0,c,me _ rfl⟩
theorem Inv.fresh(I:Inv X pins σ H s):H s.heap.objs.size=none:=I.hok.fresh (hI _)
theorem Inv.Al(I:Inv X pins σ H s)(a:H l=some (.lst xs)):xs.length<=sizeLine/\∃(its:GI) (n:Nat),Vals xs its/\xs.length=its.length/\s.heap.get? l=some { cls:=.type "list",data:=.seq its.toArray n }:=by
 obtain⟨z,its,n,r,e⟩:=I.hok l _ a;exact⟨z,its,n,r,r.length,e⟩
end
section
variable{X:Cx}
def gK:V->List V->Hp->VK->Prop:=λx vs H Q=>∃l a y,x=.ref l/\vs=[y]/\H l=some (.lst a)/\a.length<sizeLine/\Q .l4 (upd H l (.lst (a++[y])))
theorem eE:EM X "list.append" gK:=by
 intro b s j H x vs v p Q I d g h;obtain⟨l,o,y,rfl,rfl,c,B,q⟩:=h;cases d;obtain⟨u,rfl,i⟩:=g.one;obtain⟨z,a,n,r,C,e⟩:=I.Al c;refine call_meets F.slot_list_append ⟨_,e,rfl⟩ F.entry_list_append (F.args_list_append_2 _ _) (PySem.list_append l a.toArray n u (by rw[List.size_toArray];omega)) ⟨e,?_⟩;refine⟨.l4,_,I.DG (its':=a++[u]) c e (by simp) (r.append (.cons i .nil)) ?_,rfl,q⟩;rw[nT,o0];omega
def yC:R2:=λx y H Q=>∃l b c a,x=.ref l/\y=.ref b/\H l=some (.lst c)/\H b=some (.lst a)/\c.length+a.length<=sizeLine/\∀p,H p=none->Q (.ref p) (upd H p (.lst (c++a)))
theorem zx:E7 X (binaryOp .Add) yC:=by
 intro d s G H x y v u Q I i g h;obtain⟨l,b,M,J,rfl,rfl,p,B,O,q⟩:=h;cases i;cases g;obtain⟨z,c,n,r,R,e⟩:=I.Al p;obtain⟨z2,a,n2,j,o,E⟩:=I.Al B;refine PySem.P.add_list e E ?_ (by rw[lw,lw];omega);have C:c.toArray++a.toArray=(c++a).toArray:=by simp
 rw[C];exact⟨.ref _,_,I.AX (t':=s.toks) (r.append j) (by rw[nT];omega),rfl,q _ I.fresh⟩
end
section
variable{prog:Program}{w:World}{A:Around}{E:GP}{s:Shared}
end
section
variable{X:Cx}
end
end L2
namespace Att
open PySem PySem.W PySem.Calls PyProof.Rows
theorem bo{P:Params}{h:Heap}:∀(ns:GK) (vs:GI),WellAll P h vs (ns.map WData.int)->IntsAre vs ns:=by
 intro ns
 induction ns with
 | nil=>
  intro vs w;rw[List.map_nil] at w;cases w;exact .nil
 | cons n ns c=>
  intro vs w;rw[nj] at w
  cases w with
  | cons a b=>
   cases a;exact .cons _ _ (c _ b)
theorem pV{l:OpenLaw}{n:Nat}(C:l.most=some n){P:Params}{h:Heap}{b:List WData}{c:GI}
  (e:l.row.toRowW.claim.pre b=true) (p:WellAll P h c b) :
  ∃a vs ns,c=[Value.ref a]/\b=[WData.list (ns.map WData.int)]/\h.get? a=some { cls:=.type "list",data:=.seq vs.toArray }/\IntsAre vs ns/\ns.length<=n:=by
 have u:WShape.hasAll [] b [.list .int]=true:=(pre_splitW e).1;have v:l.pre.holds [] { args:=b }=true:=(pre_splitW e).2;obtain⟨d,r,rfl,H,G⟩:=hasAllW_cons u;obtain rfl:=hasAllW_nil G;obtain⟨I,rfl,E⟩:=hasW_list H;obtain⟨ns,rfl⟩:=items_int E
 have g:ns.length<=n:=by
  unfold OpenLaw.pre at v
  have o:(WTm.not (.lt (.lit (.int (n:Int))) (.len (.arg 0)))).holds [] { args:=[.list (ns.map .int)] }=true:=by
   have o:=(holds_andW v).1;rw[C] at o;exact o
  have j:=condW_of o (w_not (w_lt w_lit (w_len_list (w_arg rfl))));rw[mo] at j;refine Nat.le_of_not_lt λq=>?_;have z:(n:Int)<((ns.length:Nat):Int):=by omega
  first
   | (rw[hD z] at j;exact absurd j (by decide))
   | (simp at j;omega)
 cases p with
 | cons y x=>
  cases x
  cases y with
  | list B i=>exact⟨_,_,ns,rfl,rfl,B,bo ns _ i,g⟩
theorem pz(l:OpenLaw)(a:List WData):l.row.toRowW.claim.post a (.bool true) a=true:=
 postW_of (r:=l.row.toRowW) (X:=(true == true))
  (show WShape.has [] (.bool true) .bool=true by first | rfl | decide | simp[WShape.has,WShape.arms,WShape.armsAll])
  (show(WTm.eq .res (.lit (.bool true))).value [] { args:=a,res:=some (.bool true),after:=a }=some (.bool (true == true)) from w_eq_bool (w_res rfl) w_lit) rfl
theorem jJ{l:OpenLaw}{n:Nat}{q:Program}{c:GH}{S:(GN)->Heap->Prop}{R:World->Heap->Prop}{d:DefRec}
  (X:l.most=some n) (H:d.params.defaults=[])
  (call:∀(w:World) (s₀ b:Shared) (mg y:GN) (u:Addr) (o:Obj) (x v h:Value) (a:Addr) (vs:GI) (ns:GK),
   Ground q c [] S w s₀ mg y b.heap->R w b.heap ->
   b.heap.get? u=some o->o.data=.func (docDef d.name d.params d.body d.scope x v h)->b.heap.CodeRec v d.name->mg d.name=some (.ref u) ->
   b.heap.get? a=some { cls:=.type "list",data:=.seq vs.toArray }->IntsAre vs ns->ns.length<=n->b.gens=#[]->a≠sysModules ->
   codeAny (model l.prog w) callerA (.call (.ref u) ⟨[.ref a],[]⟩) (λr s'=>r=.ok (.ret (.bool true))/\OldK b.heap s'.heap/\s'.os=b.os/\AllBare s'.gens) b) :
  WalkO q c S R l.row.toRowW d [] (λf vs=>PySem.call f vs):=by
 intro w s₀ b mg y G Y u o x v h dV kV U hd I O C hg Q J as i M B z E;obtain rfl:dV=.none:=Dflts.none O H;obtain rfl:kV=.none:=Dflts.noKw O;obtain⟨a,vs,ns,rfl,rfl,j,g,p⟩:=pV X i z;refine enter_call (Fe (call w s₀ b mg y u o x v h a vs ns G Y U (fd_plain hd) I C j g p hg (by cases B with | cons r _=>cases r with | list _ _ _ _=>exactλe=>by have:=E a (by simp);rw[e] at this;cases this)) λr s' T=>?_);obtain⟨rfl,h2,h3,h4⟩:=T;exact⟨.inl ⟨.bool true,.bool true,[],rfl,λ_=>rfl,.bool true,pz l _,λ_=>⟨List.Pairwise.nil,λ_ hm=>(nomatch hm)⟩⟩,h2,h3,h4⟩
section
variable{prog:Program}{w:World}{A:Around}{E:GP}{s:Shared}{K:Frag}
end
end Att
namespace L2
open PySem PySem.Spec PyProof.Rows
theorem fh:∀{vs:GI} {ns:GK},IntsAre vs ns->Vals (ns.map V.int) vs
 | _,_,.nil=>.nil
 | _,_,.cons n t h=>.cons ⟨t,rfl⟩ (fh h)
def yP(H:Hp):Prop:=∀b,H b=none\/∃o a,H b=some (.frz o (.lst a))
theorem tG{P:Program}{w:World}{K:GR}{mg R:GN}{CX:lj}{k:Nat}{fa a:Addr}{fd:FuncData}{x:Str}{sp:Sp}{c:Shared}{vs:GI}{ns:GK}
  (KX:K.In c.heap) (E:c.heap.Ns mainGlobals mg) (i:c.heap.Ns builtinsNs R) (U:∀x:Str,x ≠ "__name__"->R x=bootBuiltins x) (G:c.heap.NoLimit) (hg:c.gens=#[])
  (O:c.heap.get? a=some { cls:=.type "list",data:=.seq vs.toArray }) (hi:IntsAre vs ns) (hl:ns.length<=sizeLine) (hr:x5 k callerA) (has:a≠sysModules)
  (F:∀base:Heap,K.In base->base.Ns mainGlobals mg->p6 P w K mg base CX k fa fd [x] sp) (p:∀(s:Shared) (u:Value),BindsTo s fd ⟨[u],[]⟩ [(x,u)])
  (S:∀H:Hp,yP H->G1 K H a (ns.map V.int)->sp [.ref a] H (λv _=>v=.bl true) λ_ _ _=>False)
  (X:∀H e s',CX [] H c (λ_ _ _=>False) e s'->False) :
  codeAny (model P w) callerA (.call (.ref fa) ⟨[.ref a],[]⟩) (λr s'=>r=.ok (.ret (.bool true))/\OldK c.heap s'.heap/\s'.os=c.os/\AllBare s'.gens) c:=by
 have rv:=fh hi;have B:=hi.length
 have l:∀H:Hp,yP H->G1 K H a (ns.map V.int)->J4 P w H c.heap->(∀b,H b≠none->b=a)->(H a≠none->K.lookup a=none) ->
   codeAny (model P w) callerA (.call (.ref fa) ⟨[.ref a],[]⟩) (λr s'=>r=.ok (.ret (.bool true))/\OldK c.heap s'.heap/\s'.os=c.os/\AllBare s'.gens) c:=by
  intro H hO hS hok Y hK;have g:∀{b:Addr} {o:Obj},c.heap.get? b=some o->H b=none->(ic c.heap H).get? b=some o:=λe n=>qW e n
  have Q:∀{b:Addr} {o:Obj} {J:Array DictEntry} {M:Nat},c.heap.get? b=some o->o.data=.dict J M->H b=none:=λ{b o J M} e d=>by
   cases q:H b with
   | none=>rfl
   | some u=>
    have e':b=a:=Y b (by rw[q];simp);subst e';rw[O] at e;cases e;have d':Data.seq vs.toArray _=Data.dict J M:=d;cases d'
  have j:∀{b:Addr} {m:GN},c.heap.Ns b m->(ic c.heap H).Ns b m:=λ{b m} ⟨o,J,M,e,d,r⟩=>⟨o,J,M,g e (Q e d),d,r⟩
  have I:K.In (ic c.heap H):=λb o e=>g (KX b o e) (by
   cases q:H b with
   | none=>rfl
   | some u=>
    have e':b=a:=Y b (by rw[q];simp);subst e';rw[hK (by rw[q];simp)] at e;cases e)
  have hM:Mod K mg (ic c.heap H):=⟨I,j E,⟨R,j i,U⟩,let ⟨mc,h1,h2⟩:=G;⟨mc,j h1,h2⟩⟩
  have e0:lM P w K mg (ic c.heap H) callerA [] c H:=⟨rfl,hM,λb o e=>wD e,ET (qo _ _),trivial,λb i=>absurd (show b∈([]:GG) from i) (by simp),hok,.of_eq hg,Classical.byContradiction λz=>has (Y _ z).symm⟩
  refine Fe ((F _ I (j E)).run callerA [] c H ⟨[.ref a],[]⟩ [.ref a] [.ref a] _ _ hr e0 (p c (.ref a)) (.cons rfl .nil) (S H hO hS)) λr s' h=>?_
  cases r with
  | error e=>exact(X H e s' h).elim
  | ok fl=>
   cases fl with
   | next=>exact False.elim h
   | brk=>exact False.elim h
   | cont=>exact False.elim h
   | ret u=>
    obtain⟨v,H',os,bare,un,C,r',q⟩:=h;have q':v=.bl true:=q;subst q';obtain rfl:u=Value.bool true:=r';refine⟨rfl,OldK.of_keep λb o e=>?_,os,bare⟩
    cases q:H b with
    | none=>exact un.keep b o e q (by intro z;exact absurd (show b∈([]:GG) from z) (by simp)) (by simp)
    | some u=>
     rcases hO b with z | ⟨ob,xs,z⟩
     ·rw[q] at z;cases z
     ·have z2:=un.frzs b ob _ z;obtain⟨e1,_⟩:=hok b _ z;obtain⟨e2,_⟩:=C b _ z2;rw[e] at e1;cases e1;exact e2
 cases T:K.lookup a with
 | some o=>
  have e:=KX a o T;rw[O] at e;cases e;refine l (λ_=>none) (λ_=>.inl rfl) (.inr ⟨_,vs.toArray,_,T,rfl,rfl,rfl,by rw[lw,B];exact hl,by simpa using rv⟩) (λb u z=>by have y:(none:Option HO)=some u:=z;cases y) (λb z=>absurd rfl z) λz=>absurd rfl z
 | none=>
  refine l (λb=>if b=a then some (.frz { cls:=.type "list",data:=.seq vs.toArray } (.lst (ns.map V.int))) else none) (λb=>?_) (.inl (.inr ⟨{ cls:=.type "list",data:=.seq vs.toArray },l7 rfl⟩)) (λb u z=>?_) (λb z=>?_) λ_=>T
  ·by_cases i:b=a
   ·exact .inr ⟨_,_,l7 i⟩
   ·exact .inl (ln i)
  ·by_cases i:b=a
   ·have y:=(l7 i).symm.trans z;cases y;subst i;exact⟨O,by rw[mo];exact hl,vs,_,rv,O⟩
   ·have y:=(ln i).symm.trans z;cases y
  ·by_cases i:b=a
   ·exact i
   ·exact absurd (ln i) z
abbrev EO{K:GR}{h:Heap}(_:K.In h):GR:=K
theorem wQ{l:PySem.W.OpenLaw}{n k:Nat}{q:Program}{i:GH}{XP:(GN)->Heap->Prop}{M:World->Heap->Prop}{d:DefRec}{K:Params->GR}{CX:World->lj}{sp:World->Sp}{x:Str}
  (R:l.most=some n) (B:n<=sizeLine) (E:d.params.defaults=[]) (Q:x5 k callerA)
  (hY:∀(w:World) (h:Heap),M w h->(K w.params).In h)
  (F:∀(w:World) (mg:GN) (y:Addr) (h:Heap),(K w.params).In h->h.Ns mainGlobals mg->mg d.name=some (.ref y) ->
   ∃J:FuncData,(∀(s:Shared) (u:Value),BindsTo s J ⟨[u],[]⟩ [(x,u)]) /\
    ∀base:Heap,(K w.params).In base->base.Ns mainGlobals mg->p6 l.prog w (K w.params) mg base (CX w) k y J [x] (sp w))
  (z:∀(w:World) (H:Hp) (a:Addr) (ns:GK),ns.length<=n->yP H->G1 (K w.params) H a (ns.map V.int)->sp w [.ref a] H (λv _=>v=.bl true) λ_ _ _=>False)
  (I:∀(w:World) (H:Hp) (s:Shared) (e:Value) (s':Shared),CX w [] H s (λ_ _ _=>False) e s'->False) :
  PySem.W.WalkO q i XP M l.row.toRowW d [] (λf vs=>PySem.call f vs):=by
 refine Att.jJ R E λw s₀ p mg mb y o pm cd a0 a vs ns G Y ho hd U C r j c S has=>?_;have O:=hY w _ Y;obtain⟨J,X,hF⟩:=F w mg y _ O G.T.g C;exact tG O G.T.g G.T.b G.T.builtins G.T.nolimit S r j (ol c B) Q has hF X (λH hO hS=>z w H a ns c hO hS) λH e s'=>I w H p e s'
def inClass(s:Stmt)(j:Nat):Stmt:=match s with
 | .ClassDef _ _ _ body _ _ _ _ _ _ _=>body.getD j (.Pass ⟨0,0,0,0⟩)
 | _=>.Pass ⟨0,0,0,0⟩
def L6(s:Stmt):Arguments:=match s with
 | .FunctionDef _ a _ _ _ _ _ _ _ _=>a
 | _=>{ posonlyargs:=[],args:=[],vararg:=none,kwonlyargs:=[],kw_defaults:=[],kwarg:=none,defaults:=[] }
def x9(s:Stmt):GO:=match s with
 | .FunctionDef _ _ b _ _ _ _ _ _ _=>b
 | _=>[]
def e6(s:Stmt):Scope:=match s with
 | .FunctionDef _ _ _ _ _ _ a _ _ _=>a
 | _=>{ kind:=.function,names:=[],isGenerator:=false,isCoroutine:=false }
abbrev P6:lj:=λ_ _ _ _ _ _=>False
abbrev E0:XK:=λ_ _ _=>False
theorem AR{X:Cx}:Passes P6 X E0:=λ_ _ _ _ _ _ _ h=>h.elim
structure T2(K:GR)(x qual:Str)(st:Stmt)(f:Addr)(fd:FuncData):Prop where
 ex:∃(oc:Value) (od:Option Addr) (kV doc pm:Value) (an:Option Addr) (cdv ct:Value) (osl:Array (GS)),
  fd=PySem.W.fnOf x qual (L6 st) (x9 st) (e6 st) .none kV doc pm an cdv ct/\K.lookup f=some ⟨oc,od,.func fd,osl⟩/\PySem.W.codeIn K cdv qual=true
 kp:PySem.W.keepIn K (.ref f)=true
section
variable{P:Program}{w:World}{K:GR}{mg:GN}{base:Heap}
theorem T2.ok{x a:Str}{st:Stmt}{f:Addr}{g:FuncData}{N ps:GH}{k:Nat}{sp:Sp}(F:T2 K x a st f g)(S:j1 N ps (e6 st))(len:∀vs H Q E,sp vs H Q E->vs.length=ps.length)
  (c:∀(b:Value) (A:Around) (outer:List Env) (s:Shared) (H:Hp) (vs:List V) (Q:VK) (E:XK),x5 k (A.deeper (envOfC a (e6 st) s.heap.objs.size f b))->sp vs H Q E ->
   ∃t,ig (ar P6 P w K mg base N a (e6 st) f b A outer s H E).AJ (x9 st) t/\t { nx:=λ_ o=>Q .l4 o,rt:=Q } (start N vs) H):p6 P w K mg base P6 (k+1) f g ps sp:=by
 obtain⟨u,r,kV,l,p,v,b,ct,i,rfl,lk,e⟩:=F.ex;refine yu lk e S len λA outer s H vs Q E j d=>?_;obtain⟨t,h,q⟩:=c b A outer s H vs Q E j d;exact⟨t,h.AJ,q⟩
theorem T2.binds{x a:Str}{st:Stmt}{f:Addr}{i:FuncData}{ps:GH}(F:T2 K x a st f i)
  (h:∀(kV b e:Value) (g:Option Addr) (c ct:Value) (d:GI),d.length=ps.length->bindArgs (PySem.W.fnOf x a (L6 st) (x9 st) (e6 st) .none kV b e g c ct) ⟨d,[]⟩=pure (ps.zip d)):Binds K i ps []:=by
 obtain⟨p,o,kV,b,e,g,c,ct,j,rfl,lk,l⟩:=F.ex;exact .all (h kV b e g c ct)
theorem mz{x a:Str}{st:Stmt}{f:Addr}{j:Value}{i h:Option Addr}{e:Array (GS)}{kV d g b ct:Value}(l:K.lookup f=some ⟨j,i,.func (PySem.W.fnOf x a (L6 st) (x9 st) (e6 st) .none kV d g h b ct),e⟩)
  (c:PySem.W.codeIn K b a=true) (k:PySem.W.keepIn K (.ref f)=true):T2 K x a st f (PySem.W.fnOf x a (L6 st) (x9 st) (e6 st) .none kV d g h b ct):=⟨⟨j,i,kV,d,g,h,b,ct,e,rfl,l,c⟩,k⟩
end
theorem N3{A:Around}{k:Nat}(a:x5 k A):A.units+1<cLine:=xL (Nat.add_le_add_left (by decide:1<=64) _) a.units
theorem qw{n:Nat}(h:n<=1000):n<sizeLine:=xL h (by decide)
section
variable{X:Cx}
theorem pv (i:Nat) {x:Str} {a:Pos} (d:X.N[i]?=some x:=by rfl) (c:Bj X.env.scope x:=by first | exact Or.inl rfl | exact Or.inr (Or.inl rfl) | exact Or.inr (Or.inr rfl)) (hd:(x == ("__debug__" : Str))=false:=by decide)
  (b:(x == ("__classdict__" : Str))=false:=by decide):PE X (.Name x a) (Q6 i):=zw d c hd b
end
def e9(H a:Hp):Prop:=∀b o,H b=some o->a b=some o
theorem e9.refl(H:Hp):e9 H H:=λ_ _ h=>h
theorem e9.trans{H e d:Hp}(a:e9 H e)(b:e9 e d):e9 H d:=λc o h=>b c o (a c o h)
theorem e9.free{H a:Hp}(e:e9 H a){l:Addr}(h:a l=Option.none):H l=Option.none:=by
 cases q:H l with
 | none=>rfl
 | some o=>
  rw[e l o q] at h;cases h
theorem e9.seq{K:GR}{H b:Hp}{a:Addr}{xs:List V}(e:e9 H b)(h:G1 K H a xs):G1 K b a xs:=by
 rcases h with(h | ⟨o,h⟩) | h
 ·exact .inl (.inl (e _ _ h))
 ·exact .inl (.inr ⟨o,e _ _ h⟩)
 ·exact .inr h
end L2
set_option maxHeartbeats 4000000
namespace L2
open PySem PySem.Spec PyProof.Rows
theorem fP{prog:Program}{w:World}{A:Around}{R:Result->Shared->Prop}{s:Shared}{g a d:Expr}{e:GJ}{scope:Scope}{j:Pos}{it acc:Value}{env:Env}(I:Nat->Shared->Prop)
  (i:∀n s,I n s->wpAny (model prog w) A (pyNext it) (λr o=>match r with
   | none=>R (.ok .next) o
   | some v=>wpAny (model prog w) A (letOwnedTupleGo a it v) (λ_ y=>wpAny (model prog w) A (assign a env v) (λ_ u=>
     wpAny (model prog w) A (forIn e true λc r=>if r=true then do let ok <-isTrue c env (eval c env);pure (ForInStep.yield ok) else pure (ForInStep.yield r)) (λok l=>
      if ok=true then wpAny (model prog w) A (eval g env) (λx q=>
       wpAny (model prog w) A (call (.builtin "list.append") [acc,x]) (λ_ p=>∃m,m<n/\I m p) (λ_ _=>False) q) (λ_ _=>False) l
      else ∃m,m<n/\I m l) (λ_ _=>False) u) (λ_ _=>False) y) (λ_ _=>False) o) (λ_ _=>False) s)
  (n:Nat) (h:I n s) :
  codeAny (model prog w) A (.compLoop (.ListComp g [⟨a,d,e,0⟩] scope j) 0 it acc env) R s:=by
 refine codeAny_loop rfl I (λn s C=>?_) n h;show wpAny _ A ((compTurn (.ListComp g [⟨a,d,e,0⟩] scope j) 0 it acc env).onRaise (λx=>do noteFrame x env;theTreesLotGoes x)) _ _ s;refine wpAny_noted ?_;rw[compTurn_list];refine cB (x0 (cB (o1 (i n s C) (λr o B=>?_) λ_ _ b=>b.elim)))
 cases r with
 | none=>exact dL B
 | some v=>
  refine cB (o1 B (λ_ y J=>?_) λ_ _ b=>b.elim);refine cB (o1 J (λ_ u H=>cB (o1 H (λok l z=>?_) λ_ _ b=>b.elim)) λ_ _ b=>b.elim)
  cases ok with
  | false=>exact dL ⟨rfl,z⟩
  | true=>
   exact cB (cB (o1 z (λx q G=>cB (o1 G (λ_ p E=>dL (dL ⟨rfl,E⟩)) λ_ _ b=>b.elim)) λ_ _ b=>b.elim))
def v8(env:Env):List (Str×NameKind)->GD->GD
 | [],b=>b
 | (n,k)::r,b=>if (k == .free)=true then(match env.cells.lookup n with
   | some a=>v8 env r ((n,a)::b)
   | none=>v8 env r b) else v8 env r b
theorem dr{env:Env}:∀(names:List (Str×NameKind)) (acc:GD),(∀x∈names,x.2=.free->∃a,env.cells.lookup x.1=some a) ->
  (forIn names acc λ(x:Str×NameKind) (cs:GD)=>(if (x.2 == NameKind.free)=true then(do let c <-cellOf env x.1;pure (ForInStep.yield ((x.1,c)::cs))) else pure (ForInStep.yield cs):Sem (ForInStep (GD))))=(pure (v8 env names acc):Sem (GD))
 | [],acc,_=>rfl
 | (n,k)::r,acc,h=>by
  have i:=λb=>dr (env:=env) r b λx j=>h x (lf _ j);rw[FY];unfold v8
  by_cases e:(k == NameKind.free)=true
  ·obtain⟨a,l⟩:=h (n,k) lm (by simpa using e);have g:env.cells.lookup n=some a:=l;simp only[e,ER,cellOf,g,pure_bind];exact i _
  ·have d:(k == NameKind.free)=false:=by simpa using e
   simp only[d,EV,EY,pure_bind];exact i _
theorem cK{env:Env}{scope:Scope}(h:∀x∈scope.names,x.2=.free->∃a,env.cells.lookup x.1=some a):closureFor scope env=pure (v8 env scope.names []):=by
 have e:=dr (env:=env) scope.names [] h;simp only[closureFor];exact(tz (λz=>z >>= λcs=>pure cs) e).trans (by simp)
theorem Y0{env:Env}:∀{names:List (Str×NameKind)} {acc:GD} {x:Str} {c:Addr},(v8 env names acc).lookup x=some c->acc.lookup x=some c\/env.cells.lookup x=some c
 | [],acc,x,c,h=>.inl h
 | (n,k)::r,acc,x,c,h=>by
  unfold v8 at h
  by_cases d:(k == NameKind.free)=true
  ·rw[l7 d] at h
   cases e:env.cells.lookup n with
   | none=>rw[e] at h;exact Y0 h
   | some a=>
    rw[e] at h;rcases Y0 h with z | z
    ·by_cases b:x=n
     ·subst b;rw[op] at z;simp at z;subst z;exact .inr e
     ·rw[op] at z;have:(x == n)=false:=by simpa using b
      rw[this] at z;exact .inl z
    ·exact .inr z
  ·rw[ln d] at h;exact Y0 h
theorem O3{env:Env}:∀{names:List (Str×NameKind)} {acc:GD} {x:Str} {c:Addr},acc.lookup x=some c->∃g,(v8 env names acc).lookup x=some g
 | [],acc,x,c,h=>⟨c,h⟩
 | (n,k)::r,acc,x,c,h=>by
  unfold v8
  by_cases d:(k == NameKind.free)=true
  ·rw[l7 d]
   cases e:env.cells.lookup n with
   | none=>exact O3 h
   | some a=>
    by_cases b:x=n
    ·subst b;exact O3 (c:=a) (by rw[op];simp)
    ·refine O3 (c:=c) ?_;rw[op];have:(x == n)=false:=by simpa using b
     rw[this];exact h
  ·rw[ln d];exact O3 h
theorem cP{env:Env}:∀{names:List (Str×NameKind)} {acc:GD} {x:Str},(∀y∈names,y.2=.free->∃a,env.cells.lookup y.1=some a)->(x,NameKind.free)∈names->∃c,(v8 env names acc).lookup x=some c
 | [],acc,x,_,h=>by cases h
 | (n,k)::r,acc,x,i,h=>by
  unfold v8;rcases List.mem_cons.mp h with z | z
  ·injection z with o l
   subst o;subst l;rw[l7 (by simp)];obtain⟨a,e⟩:=i (x,.free) lm rfl;have p:env.cells.lookup x=some a:=e;rw[p];exact O3 (c:=a) (by rw[op];simp)
  ·have d:=λb=>cP (acc:=b) (λy j=>i y (lf _ j)) z
   by_cases g:(k == NameKind.free)=true
   ·rw[l7 g]
    cases e:env.cells.lookup n with
    | none=>exact d _
    | some a=>exact d _
   ·rw[ln g];exact d _
theorem O5{env:Env}:∀{names:List (Str×NameKind)} {x:Str} {k:NameKind},
  (names.map λ(n,k)=>if (k == NameKind.free&&env.scope.kind == .function&&env.kindOf n == some .cell) then(n,NameKind.cell) else(n,k)).lookup x=some k->(k=.cell\/k=.free)->(∀y∈names,y.2≠.cell)->(x,NameKind.free)∈names
 | [],_,_,h,_,_=>by cases h
 | (n,q)::r,x,k,h,g,i=>by
  have j:=@O5 env r x k;rw[nj] at h
  by_cases e:(q == NameKind.free&&env.scope.kind == .function&&env.kindOf n == some .cell)=true
  ·have c:q=.free:=by
    have:=(Bool.and_eq_true_iff.mp (Bool.and_eq_true_iff.mp e).1).1;simpa using this
   simp only[e,ER] at h
   by_cases a:x=n
   ·subst a;rw[c];exact lm
   ·rw[op] at h;have:(x == n)=false:=by simpa using a
    rw[this] at h;exact lf _ (j h g λy b=>i y (lf _ b))
  ·have d:(q == NameKind.free&&env.scope.kind == .function&&env.kindOf n == some .cell)=false:=by simpa using e
   simp only[d,EY,EV] at h
   by_cases a:x=n
   ·subst a;rw[op] at h;simp at h;subst h;rcases g with z | z
    ·exact absurd z (i (x,q) lm)
    ·rw[z];exact lm
   ·rw[op] at h;have:(x == n)=false:=by simpa using a
    rw[this] at h;exact lf _ (j h g λy b=>i y (lf _ b))
def Q2(X:Cx)(N:GH)(scope:Scope)(cl:GD)(a:GG)(s:Shared)(H:Hp):Cx where
 prog:=X.prog
 w:=X.w
 K:=X.K
 mg:=X.mg
 base:=X.base
 A:=X.A
 N:=N
 s₀:=s
 H₀:=H
 env:=compEnvC scope cl s.heap.objs.size X.env
 outer:=X.stack
 stack:=X.stack
 ex:=a
 fn:=λ_=>false
 calm:=X.calm
 pn:=[]
 xe:=λ_ _=>False
def N7(cap:GC)(σ:St):St:=cap.map λo=>match o with
 | some j=>(σ[j]?).join
 | none=>none
def eK(XN N:GH)(XS scope:Scope)(cap:GC):Bool:=
 (cap.length == N.length)&&(List.range N.length).all (λi=>match N[i]?,cap[i]? with
  | some x,some (some j)=>(XN[j]? == some x)&&((XS.names.lookup x == some .cell)||(XS.names.lookup x == some .free))&&(scope.names.lookup x == some .free)
  | some _,some none=>true
  | _,_=>false)
 && scope.names.all (λy=>y.2 != .cell)&&scope.names.all (λy=>y.2 != .free||(XS.names.lookup y.1 == some .cell)||(XS.names.lookup y.1 == some .free))
 && scope.names.all (λy=>y.2 != .local||(scope.names.lookup y.1 == some .local))
theorem Z1{env:Env}:∀{names:List (Str×NameKind)} {x:Str},names.lookup x=some .free ->
  (names.map λ(n,k)=>if (k == NameKind.free&&env.scope.kind == .function&&env.kindOf n == some .cell) then(n,NameKind.cell) else(n,k)).lookup x=some .cell \/
  (names.map λ(n,k)=>if (k == NameKind.free&&env.scope.kind == .function&&env.kindOf n == some .cell) then(n,NameKind.cell) else(n,k)).lookup x=some .free
 | [],_,h=>by cases h
 | (n,q)::r,x,h=>by
  have g:=@Z1 env r x;rw[nj]
  by_cases e:x=n
  ·subst e;rw[op] at h;simp at h;subst h
   by_cases c:(NameKind.free == NameKind.free&&env.scope.kind == .function&&env.kindOf x == some .cell)=true
   ·left
    simp only[c,ER];rw[op];simp
   ·right
    have a:(NameKind.free == NameKind.free&&env.scope.kind == .function&&env.kindOf x == some .cell)=false:=by simpa using c
    simp only[a,EY,EV];rw[op];simp
  ·have d:(x == n)=false:=by simpa using e
   rw[op,d] at h;have b:=g h
   by_cases c:(q == NameKind.free&&env.scope.kind == .function&&env.kindOf n == some .cell)=true
   ·simp only[c,ER];rw[op,d];exact b
   ·have a:(q == NameKind.free&&env.scope.kind == .function&&env.kindOf n == some .cell)=false:=by simpa using c
    simp only[a,EY,EV];rw[op,d];exact b
structure E6(X:Cx)(N:GH)(scope:Scope)(cap:GC):Prop where
 len:cap.length=N.length
 slot:∀(i:Nat) (x:Str) (j:Nat),N[i]?=some x->cap[i]?=some (some j)->X.N[j]?=some x/\(X.env.kindOf x=some .cell\/X.env.kindOf x=some .free)/\scope.names.lookup x=some .free
 nocell:∀y∈scope.names,y.2≠.cell
 free:∀y∈scope.names,y.2=.free->(X.env.kindOf y.1=some .cell\/X.env.kindOf y.1=some .free)
 loc:∀y∈scope.names,y.2=.local->scope.names.lookup y.1=some .local
theorem aR{X:Cx}{XN N:GH}{XS scope:Scope}{cap:GC}(B:X.N=XN)(v:X.env.scope=XS)(h:eK XN N XS scope cap=true):E6 X N scope cap:=by
 subst B;subst v;unfold eK at h;rw[eH,eH,eH,eH] at h;obtain⟨⟨⟨⟨C,l⟩,g⟩,e⟩,d⟩:=h;rw[List.all_eq_true] at l g e d;have c:cap.length=N.length:=by simpa using C
 refine⟨c,λi x j o E=>?_,λy b z=>?_,λy b z=>?_,λy b z=>?_⟩
 ·have u:i<N.length:=(List.getElem?_eq_some_iff.mp o).1;have q:=l i (List.mem_range.mpr u);rw[o,E] at q;dsimp only at q;rw[eH,eH,ws] at q;obtain⟨⟨r,a⟩,p⟩:=q;refine⟨by simpa using r,?_,by simpa using p⟩;rcases a with a | a
  ·exact .inl (beq_iff_eq.mp a)
  ·exact .inr (beq_iff_eq.mp a)
 ·have q:=g y b;rw[z] at q;exact absurd q (by decide)
 ·have q:=e y b;rw[z,ws,ws] at q;rcases q with(q | q) | q
  ·exact absurd q (by decide)
  ·exact .inl (beq_iff_eq.mp q)
  ·exact .inr (beq_iff_eq.mp q)
 ·have q:=d y b;rw[z,ws] at q;rcases q with q | q
  ·exact absurd q (by decide)
  ·simpa using q
section
variable{X:Cx}{N:GH}{scope:Scope}{cap:GC}{fp:GG}{pins:GA}{σ:St}{H:Hp}{s:Shared}
theorem Inv.Y6(I:Inv X pins σ H s)(c:E6 X N scope cap):∀y∈scope.names,y.2=.free->∃a,X.env.cells.lookup y.1=some a:=λy b z=>I.ok.has y.1 (c.free y b z)
theorem S5{x:Str}{c:Addr}(h:(v8 X.env scope.names []).lookup x=some c):X.env.cells.lookup x=some c:=by
 rcases Y0 h with z | z
 ·cases z
 ·exact z
theorem iN(I:Inv X pins σ H s)(M:E6 X N scope cap)(S:∀b∈fp,∀x c,X.env.cells.lookup x=some c->c≠b){C:Addr}{Y:Hp}{h':Heap}(u:Un (O0 X.stack) fp H Y s.heap h') :
  ∀(i:Nat) (x:Str) (v:V),N[i]?=some x->(N7 cap σ)[i]?=some (some v)->∃w,RelV v w/\∀m,Look (compEnvC scope (v8 X.env scope.names []) C X.env) h' m x w:=by
 intro i x v U a;unfold N7 at a;rw[qq] at a
 cases E:cap[i]? with
 | none=>rw[E] at a;cases a
 | some o=>
  rw[E] at a
  cases o with
  | none=>cases a
  | some j=>
   have p:(σ[j]?).join=some v:=oD a
   have T:σ[j]?=some (some v):=by
    cases q:σ[j]? with
    | none=>rw[q] at p;cases p
    | some o'=>rw[q] at p;exact tz some p
   obtain⟨O,J,G⟩:=M.slot i x j U E;obtain⟨m,hn,R⟩:=I.loc
   have y:Bj X.env.scope x:=by
    rcases J with k | k
    ·exact .inr (.inl k)
    ·exact .inr (.inr k)
   obtain⟨w,r,l⟩:=R j x v O T y;refine⟨w,r,λm'=>?_⟩;rcases l with⟨h,_⟩ | ⟨_,c,B,o,Q,hd⟩
   ·rcases J with k | k
    ·rw[k] at h;cases h
    ·rw[k] at h;cases h
   ·obtain⟨c',g⟩:=cP (acc:=[]) (I.Y6 M) (v5 G);have d:=S5 g;rw[B] at d;cases d;obtain⟨sl,e⟩:=u.any Q (I.freeC x c B) (λz=>S c z x c B rfl);exact .inr ⟨Z1 G,c,g,⟨_,e,hd⟩⟩
theorem Cx.Ok.comp(I:Inv X pins σ H s)(i:E6 X N scope cap)(j:scope.kind=.function)(d:∀b∈fp,K9 X pins H b)(l:∀b∈fp,b<s.heap.objs.size):(Q2 X N scope (v8 X.env scope.names []) fp s H).Ok:=by
 refine⟨I.ok.mod,j,I.ok.glob,I.ok.blt,hI _,λx y c r p=>I.ok.inj x y c (S5 r) (S5 p),λx a=>?_,λx c z=>absurd (show false=true from z) kt,I.ok.hd,I.ok.frames,.inl rfl,λb z=>⟨mC (l b z),λx c h=>(d b z).2.2.2.2.1 x c (S5 h)⟩,I.bs,ol I.ok.bsz I.sz,λb o e z=>?_,λb z q=>?_,I.stack,I.bI,I.sys⟩
 ·have g:(x,NameKind.free)∈scope.names:=by
   rcases a with a | a
   ·exact O5 a (.inl rfl) i.nocell
   ·exact O5 a (.inr rfl) i.nocell
  exact cP (acc:=[]) (I.Y6 i) g
 ·rcases(d b z).2.2.2.1 with q | q
  ·exact I.ok.noex b o e q
  ·exact absurd (lv (hW e) (ol I.ok.bsz q)) (wv _)
 ·rcases List.mem_cons.mp (I.lH b q) with e | e
  ·exact(d b z).2.1 e
  ·exact(d b z).2.2.1 e
theorem iH(I:Inv X pins σ H s)(d:E6 X N scope cap)(u:scope.kind=.function)(e:∀b∈fp,K9 X pins H b)(y:∀b∈fp,b<s.heap.objs.size){a:Heap}{m:GN}{tk:Nat}
  (q:a.Ns s.heap.objs.size m) (keep:∀b o,s.heap.get? b=some o->a.get? b=some o):Inv (Q2 X N scope (v8 X.env scope.names []) fp s H) [] (N7 cap σ) H { s with heap:=a,toks:=tk }:=by
 refine⟨Cx.Ok.comp I d u e y,rfl,I.bare,Un.kept keep,⟨m,q,λi x v E B _=>?_⟩,λx c h=>?_,I.hok.fresh (hI _),λx c h=>I.freeC x c (S5 h),λp g=>absurd (show p∈([]:GA) from g) (by simp),I.hok.kept keep,?_⟩
 ·obtain⟨w,r,l⟩:=iN (C:=s.heap.objs.size) I d (λb z=>(e b z).2.2.2.2.1) (Un.kept keep) i x v E B;exact⟨w,r,l m⟩
 ·obtain⟨v,o,j,hd⟩:=I.cell x c (S5 h);exact⟨v,o,keep c o j,hd⟩
 ·unfold N7;rw[mo];exact d.len
theorem eM(I:Inv X pins σ H s)(d:E6 X N scope cap)(h:∀b∈fp,K9 X pins H b){a:GA}{c:St}{e:Hp}{s':Shared}(J:Inv (Q2 X N scope (v8 X.env scope.names []) fp s H) a c e s') :
  Inv (Q2 X N scope (v8 X.env scope.names []) fp s H) a (N7 cap σ) e s':=by
 refine⟨J.ok,J.os,J.bare,J.base,?_,J.cell,J.free,J.freeC,J.pin,J.hok,?_⟩
 ·obtain⟨m,g,_⟩:=J.loc;refine⟨m,g,λi x v o j _=>?_⟩;obtain⟨w,r,l⟩:=iN (C:=s.heap.objs.size) I d (λb z=>(h b z).2.2.2.2.1) J.base i x v o j;exact⟨w,r,l m⟩
 ·unfold N7;rw[mo];exact d.len
theorem Inv.yi{C:Addr}{h':Heap}(I:Inv X pins σ H s)(a:K9 X pins H C)(c:Heap.SameBut C s.heap h'):Inv X pins σ H { s with heap:=h' }:=
 I.turned (t':=s.toks) (λb o d e=>(c.2 b d).trans e) a.1 a.2.1 a.2.2.2.1 a.2.2.2.2.1 a.2.2.2.2.2
end
def AK(X:Cx)(d:GJ)(t:TT):Prop:=
 ∀(a:GA) (s:Shared) (b:St) (H:Hp) (Q:Bool->Hp->Prop),Inv X a b H s->t b H Q ->
  wpAny (model X.prog X.w) X.A (forIn d true λc r=>if r=true then do let ok <-isTrue c X.env (eval c X.env);pure (ForInStep.yield ok) else pure (ForInStep.yield r)) (TP X a b Q) X.xe s
def Dn:TT:=λ_ H Q=>Q true H
theorem xu{X:Cx}:AK X [] Dn:=λ_ _ _ H _ I h=>wpAny_tests_nil ⟨H,I,h⟩
def CO(J:It)(g:TG)(tc:TT)(te:TE)(h:St)(Q:VK)(o:Hp):Prop:=∀d,o d=none ->
 ∃W:Nat->Nat->Hp->Prop,(∃m,W 0 m (upd o d (.lst [])))/\∀i m H,W i m H ->
  (J.stop i H/\Q (.ref d) H) \/
  (J.go i H/\∀x p,J.yld i H x p->g x h p λc q=>tc c q λb l=>
   if b=true then te c l λv j=>∃a,j d=some (.lst a)/\a.length<sizeLine/\∃e,e<m/\W (i+1) e (upd j d (.lst (a++[v])))
   else ∃e,e<m/\W (i+1) e l)
def De(H c:Hp):Prop:=∀b a,H b=some (.tup a)->c b=some (.tup a)
theorem e9.C0{H a:Hp}(h:e9 H a):De H a:=λb c e=>h b _ e
theorem e9.i6{H:Hp}{d:Addr}{o:HO}(h:H d=none):e9 H (upd H d o):=λb u e=>by
 rw[g9 (o5 e h)];exact e
section
variable{X:Cx}
def kE:V->GS
 | .ty n=>some (.type n)
 | .ref a=>some (.ref a)
 | _=>none
theorem i4:C5 X (.builtin "isinstance") (λxs H Q=>∃x c t cv b,xs=[x,c]/\kE c=some cv/\S6 X.K H x t/\PySem.W.kitOne X.K t cv=some b/\Q (.bl b) H):=by
 intro g s v H xs y Q I r h;obtain⟨x,c,t,cv,b,rfl,d,l,o,q⟩:=h;obtain⟨u,i,rfl,j,e⟩:=vals2 r
 have p:i=cv:=by
  cases c with
  | ty n=>cases d;exact e
  | ref a=>cases d;exact e
  | _=>cases d
 subst p;exact qC I j l o λtk=>⟨.bl b,H,I.tok tk,rfl,q⟩
def U9(i j:Int):Prop:=0<j/\j.natAbs.log2<9000
theorem vi:E7 X (binaryOp .FloorDiv) (rI U9 λi j=>.int (i/j)):=Di λi j _ _ _ _ _ a q=>by
 have b:(0:Int)<j:=a.1;exact floordiv_int (by omega) (by rw[Int.fdiv_eq_ediv_of_nonneg i (by omega)];exact q) (.inl (PyProof.noPylong_of_log2 a.2))
end
section
variable{X:Cx}{pins:GA}{σ:St}{H:Hp}{s:Shared}{h':Heap}
theorem Inv.eP{ch:GG}{T:Addr}{xs:List V}{its:GI}{t':Nat}(I:Inv X pins σ H s)(a:∀b∈ch,K9 X pins H b)(k:∀b o,b∉ch->s.heap.get? b=some o->h'.get? b=some o)
  (j:s.heap.objs.size<=T) (p:Vals xs its) (x:xs.length<=sizeLine) (y:IsTup h' T its.toArray):Inv X pins σ (upd H T (.tup xs)) { s with heap:=h',toks:=t' }:=by
 have i:H T=none:=I.hok.fresh j;have h:∀b u,H b=some u->b∉ch:=λb u e z=>by rw[(a b z).1] at e;cases e
 have neT:∀b o,s.heap.get? b=some o->b≠T:=λb o e=>mC (lv (hW e) j)
 refine I.step (g':=s.gens) (d':=s.drawn) (ch:=ch) (λb g=>⟨(a b g).2.2.2.1,(a b g).2.1,(a b g).2.2.2.2.1,(a b g).2.2.2.2.2⟩) (λb o _ _ d e _=>k b o d e) (λb o _ _ d e _=>⟨o.slots,k b o d e⟩)
  (λb o d e n=>by rw[g9 (neT b o e)];exact n) (λb o d e=>⟨o,k b o d e⟩) (λb l e=>by rw[g9 (o5 e i)];exact e) (λb o u e=>by rw[g9 (o5 e i)];exact e)
  (λb M e=>⟨#[],by rw[g9 (o5 e i),e];simp⟩) (λn=>let ⟨_,_,_,E,_⟩:=I.mod.glob;by rw[g9 (mC (lv (Nat.lt_trans (by decide) (hW (I.bk _ _ E))) j))];exact n) (λm C=>?_) (λb u e=>?_) I.bare
 ·obtain⟨o,G,J,B,r⟩:=C;exact⟨o,G,J,k _ o (λz=>(a _ z).2.1 rfl) B,r⟩
 ·by_cases g:b=T
  ·subst g;rw[g6] at e;cases e;exact⟨x,its,p,y⟩
  ·rw[g9 g] at e;refine(I.hok b u e).ix (λc v d q=>k c v ?_ q) (λc q=>by rw[g9 (o5 q i)];exact q) λc l q=>by rw[g9 (o5 q i)];exact q
   rcases d with z | z
   ·rw[z];exact h b u e
   ·exact h c _ z
theorem Inv.mS{ch:GG}{t':Nat}(I:Inv X pins σ H s)(a:∀b∈ch,K9 X pins H b)(k:∀b o,b∉ch->s.heap.get? b=some o->h'.get? b=some o):Inv X pins σ H { s with heap:=h',toks:=t' }:=by
 have g:∀b u,H b=some u->b∉ch:=λb u e z=>by rw[(a b z).1] at e;cases e
 refine I.step (g':=s.gens) (d':=s.drawn) (ch:=ch) (λb h=>⟨(a b h).2.2.2.1,(a b h).2.1,(a b h).2.2.2.2.1,(a b h).2.2.2.2.2⟩) (λb o _ _ d e _=>k b o d e) (λb o _ _ d e _=>⟨o.slots,k b o d e⟩)
  (λb o d e n=>n) (λb o d e=>⟨o,k b o d e⟩) (λ_ _ e=>e) (λ_ _ _ e=>e) (λb x e=>⟨#[],by rw[e];simp⟩) (λn=>n) (λm j=>?_) (λb u e=>?_) I.bare
 ·obtain⟨o,l,p,i,r⟩:=j;exact⟨o,l,p,k _ o (λz=>(a _ z).2.1 rfl) i,r⟩
 ·refine(I.hok b u e).ix (λc v d q=>k c v ?_ q) (λ_ q=>q) λ_ _ q=>q;rcases d with z | z
  ·rw[z];exact g b u e
  ·exact g c _ z
end
section
variable{prog:Program}{w:World}{A:Around}{E:GP}{s:Shared}
theorem aW{it l:Addr}{i:Nat}{items:GM}{x:Value}{Q:GP}(a:s.heap.IsTupleIter it l i)(g:s.heap.IsTuple l items)(e:items[i]?=some x)
  (j:∀h',h'.IsTupleIter it l (i+1)->Heap.SameBut it s.heap h'->Q x { s with heap:=h' }):wpAny (model prog w) A (Builtin.SmallTypes.nextOf (.ref it)) Q E s:=by
 obtain⟨o,b,h,hd⟩:=id a;obtain⟨p,c,_,q,d⟩:=g;unfold Builtin.SmallTypes.nextOf;refine cB (rz (name:=Str.ofString "__next__") a.typeIs xz (t5 xz a.typeIs F.entry_tuple_iterator_next ?_ (F.args_tuple_iterator_next_1 _)));show wpAny _ _ (field (.ref it) 0 >>= _) _ _ s;refine cB (pu b hd (x:=.ref l) rfl ?_);show wpAny _ _ (if (Value.ref l == Value.none)=true then _ else _) _ _ s;rw[ln (show ¬((Value.ref l == Value.none)=true) from kt)];show wpAny _ _ (field (.ref it) 1 >>= _) _ _ s;refine cB (pu b hd (x:=.int i 0) rfl ?_);show wpAny _ _ (seqItems? (.ref l) >>= _) _ _ s;refine cB (vu c d ?_);simp only[Fc,e];refine cB (FJ b hd (by simp) (dL ⟨x,rfl,dL (j _ ?_ (Heap.SameBut.update ..))⟩));exact⟨_,t4 _ b (v2 (t6 hd _)),(Obj.cls_mapFields ..).trans h,by rw[t6 hd];simp[rawInt]⟩
theorem R5{it l:Addr}{i:Nat}{items:GM}{Q:GP}(h:A.handled=none)(b:s.heap.IsTupleIter it l i)(p:s.heap.IsTuple l items)(j:items[i]?=none)
  (q:∀h' e,Heap.ExtBut it s.heap h'->(∃o,h'.get? e=some o/\o.cls=.type "StopIteration")->E (.ref e) { s with heap:=h' }):wpAny (model prog w) A (Builtin.SmallTypes.nextOf (.ref it)) Q E s:=by
 obtain⟨o,d,v,hd⟩:=id b;obtain⟨r,c,_,u,g⟩:=p;unfold Builtin.SmallTypes.nextOf;refine cB (rz (name:=Str.ofString "__next__") b.typeIs xz (t5 xz b.typeIs F.entry_tuple_iterator_next ?_ (F.args_tuple_iterator_next_1 _)));show wpAny _ _ (field (.ref it) 0 >>= _) _ _ s;refine cB (pu d hd (x:=.ref l) rfl ?_);show wpAny _ _ (if (Value.ref l == Value.none)=true then _ else _) _ _ s;rw[ln (show ¬((Value.ref l == Value.none)=true) from kt)];show wpAny _ _ (field (.ref it) 1 >>= _) _ _ s;refine cB (pu d hd (x:=.int i 0) rfl ?_);show wpAny _ _ (seqItems? (.ref l) >>= _) _ _ s;refine cB (vu c g ?_);simp only[Fc,j];refine cB (FV (cB (FJ d hd (by simp) ?_)));show wpAny _ _ (newExc (.type "StopIteration") [] >>= _) _ _ _;refine cB ?_;simp only[newExc,newTuple];refine cB (qc ?_ (by size_fits));refine cB (m:=firstArgMember _ _) (wpAny_of_eq (a:=Value.none) (by first | rfl | (simp only[firstArgMember];rfl)) ?_);refine qc ?_ (by size_fits);simp only[raiseNew];refine cB (wpAny_handled ?_)
 first | rw[show A.in1.handled=none from h] | rw[h]
 refine cB (dL (wpAny_throw ?_));exact q _ _ (((Heap.SameBut.update ..).extBut.push _).push _) ⟨_,me _ rfl,rfl⟩
end
def qP(b:Bool)(K:GR)(H:Hp)(a:Addr)(xs:List V):Prop:=match b with
 | true=>G8 K H a xs
 | false=>G1 K H a xs
def aS(b:Bool)(h:Heap)(it l:Addr)(i:Nat):Prop:=match b with
 | true=>h.IsTupleIter it l i
 | false=>h.IsListIter it l i
def eI(b:Bool)(h:Heap)(l:Addr)(items:GM):Prop:=match b with
 | true=>h.IsTuple l items
 | false=>h.IsList l items
theorem aS.at{b:Bool}{h h':Heap}{it l:Addr}{i:Nat}(x:aS b h it l i)(k:∀o,h.get? it=some o->h'.get? it=some o):aS b h' it l i:=by
 cases b with
 | true=>obtain⟨o,a,r⟩:=x;exact⟨o,k o a,r⟩
 | false=>obtain⟨o,a,r⟩:=x;exact⟨o,k o a,r⟩
theorem aS.obj{b:Bool}{h:Heap}{it l:Addr}{i:Nat}(x:aS b h it l i):∃o,h.get? it=some o/\∀v,o.data≠.cell v:=by
 cases b with
 | true=>obtain⟨o,a,c,d⟩:=x;exact⟨o,a,λv z=>by rw[d] at z;cases z⟩
 | false=>obtain⟨o,a,c,d⟩:=x;exact⟨o,a,λv z=>by rw[d] at z;cases z⟩
theorem eI.at{b:Bool}{h h':Heap}{l:Addr}{items:GM}(x:eI b h l items)(k:∀o,h.get? l=some o->h'.get? l=some o):eI b h' l items:=by
 cases b with
 | true=>obtain⟨o,a,r⟩:=x;exact⟨o,k o a,r⟩
 | false=>obtain⟨o,a,r⟩:=x;exact⟨o,k o a,r⟩
theorem eI.lt{b:Bool}{h:Heap}{l:Addr}{items:GM}(x:eI b h l items):l<h.objs.size:=by
 cases b with
 | true=>obtain⟨o,a,r⟩:=x;exact hW a
 | false=>obtain⟨o,a,r⟩:=x;exact hW a
theorem Inv.Q4{X:Cx}{pins:GA}{σ:St}{H:Hp}{s:Shared}{b:Bool}{a:Addr}{xs:List V}(I:Inv X pins σ H s)(h:qP b X.K H a xs):∃its:GI,Vals xs its/\eI b s.heap a its.toArray/\xs.length<=sizeLine:=by
 cases b with
 | true=>obtain⟨its,r,p,z⟩:=I.tuple h;exact⟨its,r,p,z⟩
 | false=>obtain⟨its,r,p,z⟩:=I.list h;exact⟨its,r,p.isList,z⟩
theorem Inv.jt{X:Cx}{pins:GA}{σ:St}{H:Hp}{s:Shared}{b:Bool}{a:Addr}{xs c:List V}(I:Inv X pins σ H s)(h:qP b X.K H a xs)(h':qP b X.K H a c):xs=c:=by
 cases b with
 | true=>exact I.Z9 h h'
 | false=>exact I.jX h h'
theorem az(b:Bool){prog:Program}{w:World}{A:Around}(p:A.handled=none)(it l:Addr)(c:l≠it)(items:GM) :
  Draws prog w A it [it,l] items.size (λi v=>items[i]?=some v) (λi h=>aS b h it l i/\eI b h l items):=by
 cases b with
 | false=>exact Draws.list p it l c items
 | true=>exact {
   live:=λ_ _ st=>let ⟨o,q,_⟩:=st.1.obj;⟨o,q⟩
   frame:=λ_ _ _ st g=>⟨st.1.at λo e=>g it (by simp) o e,st.2.at λo e=>g l (by simp) o e⟩
   item:=λi s Q E j st r=>by
    refine aW st.1 st.2 (x:=items[i]) (by simp[j]) λy d a=>?_;exact r _ y s.toks (by simp[j]) ⟨d,st.2.at λo e=>a.extBut _ o c e⟩ a
   done:=λs Q E st u=>R5 p st.1 st.2 (by simp) u }
section
variable{prog:Program}{w:World}{A:Around}{E:GP}{s:Shared}{z TI TO i1 i2 l1 l2:Addr}{b1 b2:Bool}{k:Nat}{xs ys:GM}{x y a b:Value}
theorem oR{Q:GP}(hh:A.handled=none)(D:ZipApart z TI TO i1 i2 l1 l2)
  (X:IsZip s.heap z TI TO .none) (al:IsPair s.heap TI (.ref i1) (.ref i2)) (ad:IsPair s.heap TO a b)
  (h1:aS b1 s.heap i1 l1 k) (h2:aS b2 s.heap i2 l2 k) (ab:eI b1 s.heap l1 xs) (a7:eI b2 s.heap l2 ys) (hx:xs[k]?=some x) (hy:ys[k]?=some y)
  (hQ:∀h' tk,IsZip h' z TI TO (rawInt s.heap.objs.size)->IsPair h' TO x y->aS b1 h' i1 l1 (k+1)->aS b2 h' i2 l2 (k+1)->IsPair h' s.heap.objs.size x y->h'.objs.size=s.heap.objs.size+1 ->
   (∀c o,c≠z->c≠TO->c≠i1->c≠i2->s.heap.get? c=some o->h'.get? c=some o)->Q (.ref s.heap.objs.size) { s with heap:=h',toks:=tk }) :
  wpAny (model prog w) A (Builtin.«zip.__next__» ⟨[.ref z],[]⟩) (λap s'=>∃v,ap=.done (.ret v)/\Q v s') E s:=by
 have kx:k<xs.size:=(Array.getElem?_eq_some_iff.mp hx).1;have ky:k<ys.size:=(Array.getElem?_eq_some_iff.mp hy).1;show wpAny _ _ (field (.ref z) 2 >>= _) _ _ _;refine cB (pu X rfl (x:=.bool false) rfl ?_);show wpAny _ _ (field (.ref z) 3 >>= _) _ _ _;refine cB (pu X rfl (x:=.ref TI) rfl ?_);refine cB (vu al rfl ?_);show wpAny _ _ (Builtin.SmallTypes.ownedTupleIsFree (.ref z) >>= _) _ _ _;refine cB ?_;unfold Builtin.SmallTypes.ownedTupleIsFree;refine cB (pu X rfl (x:=.none) rfl (dL ?_));simp only[ER];refine cB (FV ?_);refine cB (pu X rfl (x:=.ref TO) rfl ?_);refine cB (wP X (by simp) λg1 O l=>?_)
 replace O:IsZip g1 z TI TO .ellipsis:=O
 refine cB ?_;simp only[List.zipIdx_cons,List.zipIdx_nil,FY,List.forIn_nil];refine cB (cB (Fz ?_));show wpAny _ _ (Builtin.SmallTypes.nextOf (.ref i1) >>= _) _ _ _;refine cB ((az b1 hh i1 l1 D.l1i1 xs).item k _ _ _ kx ⟨h1.at λo e=>l.extBut _ o D.i1z e,ab.at λo e=>l.extBut _ o D.l1z e⟩ λJ g2 ax a0 a5 g=>dL ?_);have ex:J=x:=by rw[hx] at a0;exact(oD a0).symm
 subst ex
 replace g:Heap.SameBut i1 g1 g2:=g
 have I:IsPair g2 TO a b:=g.extBut _ _ D.TOi1 (l.extBut _ _ D.TOz ad);refine cB (vu I rfl ?_);refine cB (FH I λg3 u d=>?_)
 replace u:IsPair g3 TO J b:=u
 replace d:Heap.SameBut TO g2 g3:=d
 refine cB (wpAny_letGo (dL ?_));refine cB (cB (Fz ?_));show wpAny _ _ (Builtin.SmallTypes.nextOf (.ref i2) >>= _) _ _ _;refine cB ((az b2 hh i2 l2 D.l2i2 ys).item k _ _ _ ky ⟨h2.at λo e=>d.extBut _ o D.TOi2.symm (g.extBut _ o D.i12.symm (l.extBut _ o D.i2z e)),a7.at λo e=>d.extBut _ o D.l2TO (g.extBut _ o D.l2i1 (l.extBut _ o D.l2z e))⟩ λT g4 a3 Y a4 j=>dL ?_);have ey:T=y:=by rw[hy] at Y;exact(oD Y).symm
 subst ey
 replace j:Heap.SameBut i2 g3 g4:=j
 have H:IsPair g4 TO J b:=j.extBut _ _ D.TOi2 u;refine cB (vu H rfl ?_);refine cB (FH H λh p i=>?_)
 replace p:IsPair h TO J T:=p
 replace i:Heap.SameBut TO g4 h:=i
 refine cB (wpAny_letGo (dL (dL ?_)));refine cB (vu p rfl ?_);refine cB (wpAny_newTuple ?_);have a1:h.objs.size=s.heap.objs.size:=by rw[i.1,j.1,d.1,g.1,l.1]
 have U:IsZip h z TI TO .ellipsis:=i.extBut _ _ D.TOz.symm (j.extBut _ _ D.i2z.symm (d.extBut _ _ D.TOz.symm (g.extBut _ _ D.i1z.symm O)))
 have ac:∀c o,c≠z->c≠TO->c≠i1->c≠i2->s.heap.get? c=some o->h.get? c=some o:=λc o R c2 c3 c4 e=>
  i.extBut _ _ c2 (j.extBut _ _ c4 (d.extBut _ _ c2 (g.extBut _ _ c3 (l.extBut _ _ R e))))
 have an:aS b1 h i1 l1 (k+1):=a5.1.at λo e=>i.extBut _ o D.TOi1.symm (j.extBut _ o D.i12 (d.extBut _ o D.TOi1.symm e));have am:aS b2 h i2 l2 (k+1):=a4.1.at λo e=>i.extBut _ o D.TOi2.symm e;have C:z<h.objs.size:=hW U;show wpAny _ _ (Builtin.SmallTypes.ownedTupleHandOut (.ref z) (.ref h.objs.size) >>= _) _ _ _;refine cB ?_;unfold Builtin.SmallTypes.ownedTupleHandOut;have a6:IsZip (h.push { cls:=.type "tuple",data:=.seq #[J,T] }) z TI TO .ellipsis:=cC _ U;refine cB (wP a6 (by simp) λg7 M r=>?_)
 replace M:IsZip g7 z TI TO (rawInt h.objs.size):=M
 refine wP M (by simp) λS B q=>?_
 replace B:IsZip S z TI TO (rawInt h.objs.size):=B
 replace r:Heap.SameBut z (h.push { cls:=.type "tuple",data:=.seq #[J,T] }) g7:=r
 replace q:Heap.SameBut z g7 S:=q
 have up:∀c o,c≠z->h.get? c=some o->S.get? c=some o:=λc o R e=>q.extBut _ _ R (r.extBut _ _ R (cC _ e));have a2:IsPair S h.objs.size J T:=q.extBut _ _ (wn C) (r.extBut _ _ (wn C) (me _ rfl));have G:S.objs.size=h.objs.size+1:=by rw[q.1,r.1,ut]
 rw[a1] at B a2 G;refine dL ⟨_,rfl,?_⟩;show Q (.ref h.objs.size) _;rw[a1];exact hQ S a3 B (up _ _ D.TOz p) (an.at λo e=>up _ o D.i1z e) (am.at λo e=>up _ o D.i2z e) a2 G λc o R c2 c3 c4 e=>up c o R (ac c o R c2 c3 c4 e)
theorem tK{Q:Fin->Shared->Prop}(U:A.handled=none)(D:ZipApart z TI TO i1 i2 l1 l2)
  (C:IsZip s.heap z TI TO .none) (a0:IsPair s.heap TI (.ref i1) (.ref i2)) (Y:IsPair s.heap TO a b)
  (h1:aS b1 s.heap i1 l1 k) (h2:aS b2 s.heap i2 l2 k) (H:eI b1 s.heap l1 xs) (S:eI b2 s.heap l2 ys) (I:k=xs.size\/(k<xs.size/\k=ys.size))
  (hE:∀h' tk e,(∀c o,c≠z->c≠TO->c≠i1->c≠i2->s.heap.get? c=some o->h'.get? c=some o)->(∃o,h'.get? e=some o/\o.cls=.type "StopIteration")->E (.ref e) { s with heap:=h',toks:=tk }) :
  wpAny (model prog w) A (Builtin.«zip.__next__» ⟨[.ref z],[]⟩) Q E s:=by
 show wpAny _ _ (field (.ref z) 2 >>= _) _ _ _;refine cB (pu C rfl (x:=.bool false) rfl ?_);show wpAny _ _ (field (.ref z) 3 >>= _) _ _ _;refine cB (pu C rfl (x:=.ref TI) rfl ?_);refine cB (vu a0 rfl ?_);show wpAny _ _ (Builtin.SmallTypes.ownedTupleIsFree (.ref z) >>= _) _ _ _;refine cB ?_;unfold Builtin.SmallTypes.ownedTupleIsFree;refine cB (pu C rfl (x:=.none) rfl (dL ?_));simp only[ER];refine cB (FV ?_);refine cB (pu C rfl (x:=.ref TO) rfl ?_);refine cB (wP C (by simp) λg1 l h=>?_)
 replace l:IsZip g1 z TI TO .ellipsis:=l
 refine cB ?_;simp only[List.zipIdx_cons,List.zipIdx_nil,FY,List.forIn_nil];refine cB (cB (Fz ?_));show wpAny _ _ (Builtin.SmallTypes.nextOf (.ref i1) >>= _) _ _ _;rcases I with T | ⟨kx,T⟩
 ·subst T;refine cB ((az b1 U i1 l1 D.l1i1 xs).done _ _ _ ⟨h1.at λo e=>h.extBut _ o D.i1z e,H.at λo e=>h.extBut _ o D.l1z e⟩ λJ e d X=>?_);obtain⟨R,i,j⟩:=X;have B:IsZip J z TI TO .ellipsis:=d _ _ D.i1z.symm l;have u:e≠z:=λq=>by subst q;rw[B] at i;cases i;simp at j
  exact wP B (by simp) λO _ g=>hE O _ e (λc o M _ c3 _ q=>g.extBut _ _ M (d _ _ c3 (h.extBut _ _ M q))) ⟨R,g.extBut _ _ u i,j⟩
 ·subst T;refine cB ((az b1 U i1 l1 D.l1i1 xs).item _ _ _ _ kx ⟨h1.at λo e=>h.extBut _ o D.i1z e,H.at λo e=>h.extBut _ o D.l1z e⟩ λx' J a2 a4 a3 d=>dL ?_)
  replace d:Heap.SameBut i1 g1 J:=d
  have r:IsPair J TO a b:=d.extBut _ _ D.TOi1 (h.extBut _ _ D.TOz Y);refine cB (vu r rfl ?_);refine cB (FH r λO a1 g=>?_)
  replace g:Heap.SameBut TO J O:=g
  refine cB (wpAny_letGo (dL ?_));refine cB (cB (Fz ?_));show wpAny _ _ (Builtin.SmallTypes.nextOf (.ref i2) >>= _) _ _ _;refine cB ((az b2 U i2 l2 D.l2i2 ys).done _ _ _ ⟨h2.at λo e=>g.extBut _ o D.TOi2.symm (d.extBut _ o D.i12.symm (h.extBut _ o D.i2z e)),S.at λo e=>g.extBut _ o D.l2TO (d.extBut _ o D.l2i1 (h.extBut _ o D.l2z e))⟩ λg4 e p X=>?_)
  replace p:Heap.ExtBut i2 O g4:=p
  obtain⟨R,i,j⟩:=X;have v:IsZip g4 z TI TO .ellipsis:=p _ _ D.i2z.symm (g.extBut _ _ D.TOz.symm (d.extBut _ _ D.i1z.symm l));have u:e≠z:=λq=>by subst q;rw[v] at i;cases i;simp at j
  exact wP v (by simp) λg5 _ G=>hE g5 _ e (λc o M c2 c3 c4 q=>G.extBut _ _ M (p _ _ c4 (g.extBut _ _ c2 (d.extBut _ _ c3 (h.extBut _ _ M q))))) ⟨R,G.extBut _ _ u i,j⟩
theorem av{Q:GS->Shared->Prop}(q:A.handled=none)(D:ZipApart z TI TO i1 i2 l1 l2)
  (i:IsZip s.heap z TI TO .none) (h:IsPair s.heap TI (.ref i1) (.ref i2)) (g:IsPair s.heap TO a b)
  (v:aS b1 s.heap i1 l1 k) (u:aS b2 s.heap i2 l2 k) (e:eI b1 s.heap l1 xs) (d:eI b2 s.heap l2 ys) (p:xs[k]?=some x) (l:ys[k]?=some y)
  (r:∀h' tk,IsZip h' z TI TO (rawInt s.heap.objs.size)->IsPair h' TO x y->aS b1 h' i1 l1 (k+1)->aS b2 h' i2 l2 (k+1)->IsPair h' s.heap.objs.size x y->h'.objs.size=s.heap.objs.size+1 ->
   (∀c o,c≠z->c≠TO->c≠i1->c≠i2->s.heap.get? c=some o->h'.get? c=some o)->Q (some (.ref s.heap.objs.size)) { s with heap:=h',toks:=tk }) :
  wpAny (model prog w) A (pyNext (.ref z)) Q E s:=by
 have j:s.TypeIs (.ref z) "zip":=⟨_,i,rfl⟩
 unfold pyNext
 exact cB (EU (rz (name:=Str.ofString "__next__") j FE (t5 FE j F.entry_zip_next
   (oR q D i h g v u e d p l λh' tk M J I H G C B=>dL (r h' tk M J I H G C B)) (F.args_zip_next_1 _))))
theorem bh{Q:GS->Shared->Prop}(u:A.handled=none)(D:ZipApart z TI TO i1 i2 l1 l2)
  (l:IsZip s.heap z TI TO .none) (j:IsPair s.heap TI (.ref i1) (.ref i2)) (i:IsPair s.heap TO a b)
  (H:aS b1 s.heap i1 l1 k) (G:aS b2 s.heap i2 l2 k) (h:eI b1 s.heap l1 xs) (g:eI b2 s.heap l2 ys) (d:k=xs.size\/(k<xs.size/\k=ys.size))
  (C:∀h' tk,(∀c o,c≠z->c≠TO->c≠i1->c≠i2->s.heap.get? c=some o->h'.get? c=some o)->Q none { s with heap:=h',toks:=tk }):wpAny (model prog w) A (pyNext (.ref z)) Q E s:=by
 have p:s.TypeIs (.ref z) "zip":=⟨_,l,rfl⟩
 unfold pyNext
 refine cB (EU (rz (name:=Str.ofString "__next__") p FE (t5 FE p F.entry_zip_next
  (tK u D l j i H G h g d λh' tk e r v=>?_) (F.args_zip_next_1 _))))
 obtain⟨o,q,B⟩:=v;refine cB (wpAny_isInstance (T:="StopIteration") (b:=true) ⟨o,q,B⟩ isSubtype_stop ?_);exact dL (C _ _ r)
def CC(b:Bool):String:=if b then "tuple_iterator" else "list_iterator"
abbrev AG(b1:Bool)(h:Heap)(l1:Addr):Heap:=h.push { cls:=.type (CC b1),data:=.fields #[.ref l1,.int 0 0] }
abbrev Cy(b1 b2:Bool)(h:Heap)(l1 l2:Addr):Heap:=(AG b1 h l1).push { cls:=.type (CC b2),data:=.fields #[.ref l2,.int 0 0] }
abbrev CF(b1 b2:Bool)(h:Heap)(l1 l2:Addr):Heap:=(Cy b1 b2 h l1 l2).push { cls:=.type "tuple",data:=.seq #[.ref h.objs.size,.ref (AG b1 h l1).objs.size] }
abbrev CA(b1 b2:Bool)(h:Heap)(l1 l2:Addr):Heap:=(CF b1 b2 h l1 l2).push { cls:=.type "tuple",data:=.seq #[.none,.none] }
abbrev vN(b1 b2:Bool)(h:Heap)(l1 l2:Addr):Heap:=(CA b1 b2 h l1 l2).push { cls:=.type "zip",data:=.fields #[.none,.bool false,.bool false,.ref (Cy b1 b2 h l1 l2).objs.size,.ref (CF b1 b2 h l1 l2).objs.size] }
theorem sP(b1 b2:Bool)(l1 l2:Addr)(xs ys:GM) :
  Meets (Builtin.«zip.__new__» ⟨[.type "zip",.ref l1,.ref l2],[]⟩) (λ_ R s=>eI b1 s.heap l1 xs/\eI b2 s.heap l2 ys /\
   R (.ok (.ret (.ref (CA b1 b2 s.heap l1 l2).objs.size))) { s with heap:=vN b1 b2 s.heap l1 l2 }):=
 .of_wp λprog w A R s h=>by
  obtain⟨l,g,d,tk,os⟩:=s;obtain⟨p,q,h⟩:=h;have r:=sub_zip;have j:eI b2 (AG b1 l l1) l2 ys:=q.at λo e=>cC _ e;cases b1<;>cases b2
  ·have i:Heap.IsList (Shared.heap ⟨l,g,d,tk,os⟩) l1 xs:=p;have c:Heap.IsList (Shared.heap ⟨l.push { cls:=.type "list_iterator",data:=.fields #[.ref l1,.int 0 0] },g,d,tk,os⟩) l2 ys:=j
   wp_walk using wpAny_pyIter_list i,wpAny_pyIter_list c
   exact⟨_,rfl,h⟩
  ·have i:Heap.IsList (Shared.heap ⟨l,g,d,tk,os⟩) l1 xs:=p;have c:Heap.IsTuple (Shared.heap ⟨l.push { cls:=.type "list_iterator",data:=.fields #[.ref l1,.int 0 0] },g,d,tk,os⟩) l2 ys:=j
   wp_walk using wpAny_pyIter_list i,wpAny_pyIter_tuple c
   exact⟨_,rfl,h⟩
  ·have i:Heap.IsTuple (Shared.heap ⟨l,g,d,tk,os⟩) l1 xs:=p;have c:Heap.IsList (Shared.heap ⟨l.push { cls:=.type "tuple_iterator",data:=.fields #[.ref l1,.int 0 0] },g,d,tk,os⟩) l2 ys:=j
   wp_walk using wpAny_pyIter_tuple i,wpAny_pyIter_list c
   exact⟨_,rfl,h⟩
  ·have i:Heap.IsTuple (Shared.heap ⟨l,g,d,tk,os⟩) l1 xs:=p;have c:Heap.IsTuple (Shared.heap ⟨l.push { cls:=.type "tuple_iterator",data:=.fields #[.ref l1,.int 0 0] },g,d,tk,os⟩) l2 ys:=j
   wp_walk using wpAny_pyIter_tuple i,wpAny_pyIter_tuple c
   exact⟨_,rfl,h⟩
theorem qK{Q:GP}(i:eI b1 s.heap l1 xs)(g:eI b2 s.heap l2 ys)
  (h:∀h',IsZip h' (s.heap.objs.size+4) (s.heap.objs.size+2) (s.heap.objs.size+3) .none->IsPair h' (s.heap.objs.size+2) (.ref s.heap.objs.size) (.ref (s.heap.objs.size+1)) ->
   IsPair h' (s.heap.objs.size+3) .none .none->aS b1 h' s.heap.objs.size l1 0->aS b2 h' (s.heap.objs.size+1) l2 0->h'.objs.size=s.heap.objs.size+5 ->
   (∀c o,s.heap.get? c=some o->h'.get? c=some o)->Q (.ref (s.heap.objs.size+4)) { s with heap:=h' }) :
  wpAny (model prog w) A (call (.type "zip") [.ref l1,.ref l2]) Q E s:=by
 refine callType_new F.called_zip (by decide) (F.typeCall_zip_2 _ _) (F.newCall_zip_2 _ _) (λobj=>F.args_object_init_3 obj _ _) F.entry_zip_new (sP b1 b2 l1 l2 xs ys) ⟨i,g,?_⟩;have z1:(AG b1 s.heap l1).objs.size=s.heap.objs.size+1:=ut ..;have z2:(Cy b1 b2 s.heap l1 l2).objs.size=s.heap.objs.size+2:=by rw[ut,z1]
 have z3:(CF b1 b2 s.heap l1 l2).objs.size=s.heap.objs.size+3:=by rw[ut,z2]
 have z4:(CA b1 b2 s.heap l1 l2).objs.size=s.heap.objs.size+4:=by rw[ut,z3]
 have z5:(vN b1 b2 s.heap l1 l2).objs.size=s.heap.objs.size+5:=by rw[ut,z4]
 have j:(vN b1 b2 s.heap l1 l2).get? (CA b1 b2 s.heap l1 l2).objs.size=some _:=me _ rfl;have l:(vN b1 b2 s.heap l1 l2).get? (CF b1 b2 s.heap l1 l2).objs.size=some _:=cC _ (me _ rfl);have p:(vN b1 b2 s.heap l1 l2).get? (Cy b1 b2 s.heap l1 l2).objs.size=some _:=cC _ (cC _ (me _ rfl));have r:(vN b1 b2 s.heap l1 l2).get? (AG b1 s.heap l1).objs.size=some _:=cC _ (cC _ (cC _ (me _ rfl)));have g1:(vN b1 b2 s.heap l1 l2).get? s.heap.objs.size=some _:=cC _ (cC _ (cC _ (cC _ (me _ rfl))))
 have e:aS b1 (vN b1 b2 s.heap l1 l2) s.heap.objs.size l1 0:=by
  cases b1<;>exact⟨_,g1,rfl,rfl⟩
 have d:aS b2 (vN b1 b2 s.heap l1 l2) (AG b1 s.heap l1).objs.size l2 0:=by
  cases b2<;>exact⟨_,r,rfl,rfl⟩
 show _/\_;rw[z2,z3,z4] at j;rw[z1,z2] at p;rw[z3] at l;rw[z1] at d;rw[z4]
 exact⟨⟨_,j,rfl⟩,h _ j p l e d z5 λc o q=>
  cC _ (cC _ (cC _ (cC _ (cC _ q))))⟩
end
def Ep(K:GR)(d c:Bool)(g e:Addr):It:=
  ⟨λi H=>∃b a x y,qP d K H g b/\qP c K H e a/\b[i]?=some x/\a[i]?=some y,
   λi H v h=>∃p x y,v=.ref p/\H p=none/\h=upd H p (.tup [x,y])/\(∀b,qP d K H g b->b[i]?=some x)/\∀a,qP c K H e a->a[i]?=some y,
   λi H=>∃b a,qP d K H g b/\qP c K H e a/\i=min b.length a.length⟩
theorem rR{P:Program}{w:World}{K:GR}{U:GJ}{x1:Nat}{tp:Pos}(b1 b2:Bool)(a1 a2 z TI TO C B:Addr)(D:ZipApart z TI TO C B a1 a2) :
  Turn P w K (.Tuple U x1 tp) (Ep K b1 b2 a1 a2) [z,TI,TO,C,B] z (λi h=>IsZip h z TI TO .none/\IsPair h TI (.ref C) (.ref B)/\(∃a b,IsPair h TO a b)/\aS b1 h C a1 i/\aS b2 h B a2 i) where
 mem:=by simp
 obj:=λi h st c d=>by
  obtain⟨J,j,⟨a,b,p⟩,O,M⟩:=st;simp only[List.mem_cons,u8,or_false] at d;rcases d with rfl | rfl | rfl | rfl | rfl
  ·exact⟨_,J,λv q=>by
    have Q:Data.fields _=Data.cell v:=q;cases Q⟩
  ·exact⟨_,j,λv q=>by
    have Q:Data.seq _ _=Data.cell v:=q;cases Q⟩
  ·exact⟨_,p,λv q=>by
    have Q:Data.seq _ _=Data.cell v:=q;cases Q⟩
  ·exact O.obj
  ·exact M.obj
 keep:=λi h h' st k=>by
  obtain⟨J,j,⟨a,b,p⟩,O,M⟩:=st;exact⟨k z (by simp) _ J,k TI (by simp) _ j,⟨a,b,k TO (by simp) _ p⟩,O.at λo e=>k C (by simp) o e,M.at λo e=>k B (by simp) o e⟩
 item:=by
  intro X hP hw hK d i r s σ H E I hf st hg;subst hP hw hK;obtain⟨J,j,⟨a,b,p⟩,O,M⟩:=st;obtain⟨xs,ys,x,y,q1,Y,hx,hy⟩:=hg;obtain⟨S,r1,p1,_⟩:=I.Q4 q1;obtain⟨R,r2,p2,_⟩:=I.Q4 Y;obtain⟨u,hu,ru⟩:=r1.get hx;obtain⟨v,hv,rv⟩:=r2.get hy;refine av (I.ok.hd d) D J j p O M p1 p2 (x:=u) (y:=v) (by simpa using hu) (by simpa using hv) λh' tk a3 T a7 a6 hT ab hk=>?_;refine⟨_,rfl,wpAny_letOwnedTupleGo_zip a3 λg a0 l=>?_⟩
  replace l:Heap.SameBut z h' g:=l
  have G:z<s.heap.objs.size:=hW J;have a4:IsTup g s.heap.objs.size [u,v].toArray:=⟨_,(l.2 _ (wn G)).trans hT,rfl,_,rfl⟩
  have I2:Inv X r σ (upd H s.heap.objs.size (.tup [x,y])) { s with heap:=g,toks:=tk }:=by
   refine I.eP (ch:=[z,TI,TO,C,B]) hf (λc o d q=>?_) (hI _) (.cons ru (.cons rv .nil)) (by show 2<=sizeLine;decide) a4;have c1:c≠z:=λe=>d (by simp[e]);have c2:c≠TO:=λe=>d (by simp[e]);have c3:c≠C:=λe=>d (by simp[e]);have c4:c≠B:=λe=>d (by simp[e]);exact(l.2 c c1).trans (hk c o c1 c2 c3 c4 q)
  refine⟨.ref s.heap.objs.size,_,I2,rfl,⟨s.heap.objs.size,x,y,rfl,I.fresh,rfl,λzs hy=>by rw[I.jt hy q1];exact hx,λzs hq=>by rw[I.jt hq Y];exact hy⟩,
   ⟨a0,l.extBut _ _ D.TIz (hk _ _ D.TIz D.TITO D.TIi1 D.TIi2 j),⟨_,_,l.extBut _ _ D.TOz T⟩,a7.at λo e=>l.extBut _ o D.i1z e,a6.at λo e=>l.extBut _ o D.i2z e⟩,λc d=>?_⟩
  have a5:c<s.heap.objs.size:=by
   simp only[List.mem_cons,u8,or_false] at d;rcases d with rfl | rfl | rfl | rfl | rfl
   ·exact G
   ·exact hW j
   ·exact hW p
   ·exact hW O.obj.choose_spec.1
   ·exact hW M.obj.choose_spec.1
  rw[g9 (mC a5)];exact(hf c d).1
 done:=by
  intro X hP hw hK d i r s σ H E I hf st hg;subst hP hw hK;obtain⟨J,j,⟨a,b,p⟩,O,M⟩:=st;obtain⟨xs,ys,q1,Y,hx⟩:=hg;obtain⟨S,r1,p1,_⟩:=I.Q4 q1;obtain⟨R,r2,p2,_⟩:=I.Q4 Y;have l1:=r1.length;have l2:=r2.length;refine bh (I.ok.hd d) D J j p O M p1 p2 (by simp only[lw];omega) λh' tk hk=>⟨rfl,I.mS (ch:=[z,TI,TO,C,B]) hf λc o d q=>?_⟩
  exact hk c o (λe=>d (by simp[e])) (λe=>d (by simp[e])) (λe=>d (by simp[e])) (λe=>d (by simp[e])) q
 self:=λ_ _ _ _ _ st h=>wpAny_pyIter_zip st.1 h
def Cf(K:GR)(e d:Bool)(j:TA):TI:=λg H R=>j g H λvs c=>∃b a,vs=[.ref b,.ref a]/\(∃i,qP e K c b i)/\(∃h,qP d K c a h)/\R (Ep K e d b a) c
theorem Am (b1 Y:Bool) {X:Cx} {o:GJ} {x1:Nat} {tp:Pos} {a b:Expr} {E:TA} {p i:Pos} (hg:Gl X "zip") (hm:X.mg "zip"=none) (ha:PA X [a,b] E) (hs:starEach [a,b] X.env=[(false,eval a X.env),(false,eval b X.env)]:=by rfl) (j:starEach [b] X.env=[(false,eval b X.env)]:=by rfl) :
  PI X (.Tuple o x1 tp) (.Call (.Name "zip" p) [a,b] [] i) (Cf X.K b1 Y E):=by
 refine .of ?_;intro g s C H R I h;refine Call_ (ay I hg hm boot_zip (ww (r8 (ha i g s C H _ I h) λus d ⟨vs,H1,r,r1,q1⟩=>?_) (by rw[hs,j]) (by rw[j];rfl)));obtain⟨O,M,e,⟨xs,y⟩,⟨ys,x⟩,q⟩:=q1;subst e;obtain⟨u1,u2,rfl,v,u⟩:=vals2 r1;cases v;cases u;obtain⟨S,a1,J,_⟩:=r.Q4 y;obtain⟨Q,a0,G,_⟩:=r.Q4 x;refine qK J G λh' T B z h1 h2 a2 hk=>wpAny_pyIter_zip T ?_;have I2:Inv X g C H1 { d with heap:=h' }:=r.kept (t':=d.toks) hk;have D:ZipApart (d.heap.objs.size+4) (d.heap.objs.size+2) (d.heap.objs.size+3) d.heap.objs.size (d.heap.objs.size+1) O M:=zipApart_new J.lt G.lt;refine⟨d.heap.objs.size+4,[d.heap.objs.size+4,d.heap.objs.size+2,d.heap.objs.size+3,d.heap.objs.size,d.heap.objs.size+1],_,_,H1,rfl,I2,rR b1 Y O M _ _ _ _ _ D,⟨T,B,⟨_,_,z⟩,h1,h2⟩,λc U=>?_,q⟩
 have l:d.heap.objs.size<=c:=by
  simp only[List.mem_cons,u8,or_false] at U;rcases U with q | q | q | q | q<;>rw[q]<;>first | exact hI _ | exact FR _ _
 exact r.dD l (r.hok.fresh l)
end L2
namespace HT
open PySem PySem.Spec PyProof.Rows
section
variable{prog:Program}{w:World}{A:Around}{E:GP}{s:Shared}
theorem tM{t b:Addr}{a:GI}{Q:GP}(o:IsTup s.heap t ([]:GI).toArray)(p:IsTup s.heap b a.toArray)(h:Q (.ref b) s) :
  wpAny (model prog w) A (binaryOp .Add (.ref t) (.ref b)) Q E s:=by
 obtain⟨⟨v,d1,r,l⟩,g1,i,n1,e⟩:=id o;obtain⟨⟨u,d2,q,j⟩,c,g,n2,d⟩:=id p;simp only at i e g d;subst i e g d;exact concat_meets ⟨_,g1,rfl⟩ ⟨_,c,rfl⟩ noFill_tuple_add seq_tuple_add Fs Fj (Ff _ _) (tuple_addW0 t b _ a.toArray n1 n2 d1 d2 l j rfl) ⟨g1,c,h⟩
theorem kH{t c:Addr}{items:GM}{j i:Value}{lo b:Option Int}{Q:GP}(a:IsTup s.heap t items)(l:s.heap.IsSliceOf c j i .none)(v:IsPart j lo)(u:IsPart i b)
  (r:u6 items.size 0 lo=0) (q:u6 items.size items.size b=items.size) (h:Q (.ref t) s):wpAny (model prog w) A (getItem (.ref t) (.ref c)) Q E s:=by
 obtain⟨os,d,e,x⟩:=id l;have g:s.TypeIs (.ref c) "slice":=⟨os,d,e⟩
 unfold getItem
 try with_reducible refine qs ?_
 first | refine cB (dL ?_) | skip
 refine cB (Gc a.typeIs (by decide) ?_)
 refine cB (rz (name:=Str.ofString "__getitem__") a.typeIs re
  (t5 re a.typeIs entry_tuple_getitem ?_ (args_tuple_getitem _ _)))
 show wpAny _ _ (Builtin.Tuple.tupleItemsOf (.ref t) >>= _) _ _ s;refine cB (tupleItemsOf_ a ?_);refine cB (Fd g ?_);rw[l7 (by decide)];refine cB (N2 l v u ?_)
 have yes:(((u6 items.size 0 lo:Nat):Int) == 0&&(1:Int) == 1&&(u6 items.size items.size b-u6 items.size 0 lo) == items.size)=true:=by
  rw[r,q];simp
 show wpAny _ _ (if (((u6 items.size 0 lo:Nat):Int) == 0&&(1:Int) == 1&&(u6 items.size items.size b-u6 items.size 0 lo) == items.size)=true then _ else _) _ _ s;rw[l7 yes];obtain⟨⟨B,d1,y,z⟩,g1,p,n1,o⟩:=id a;simp only at p o;subst p o
 wp_walk using wpAny_loadPart' g1
 exact⟨_,rfl,dL h⟩
end
end HT
namespace L2
open PySem PySem.Spec PyProof.Rows
section
variable{X:Cx}{pos:Pos}
def rT:R2:=λx y H Q=>∃a b d c,x=.ref a/\y=.ref b/\H a=some (.tup d)/\H b=some (.tup c)/\d.length+c.length<=sizeLine/\∀r e,e9 H e->e r=some (.tup (d++c))->Q (.ref r) e
theorem xa:E7 X (binaryOp .Add) rT:=by
 intro c s o H x y v u Q I j i h;obtain⟨a,b,g,r,rfl,rfl,e,d,J,q⟩:=h
 by_cases l:g=[]
 ·subst l;cases j;cases i;obtain⟨G,B,E,_⟩:=I.tuple (G8.of e);obtain⟨R,O,C,_⟩:=I.tuple (G8.of d);obtain rfl:G=[]:=B.bG.mpr rfl;exact HT.tM E C ⟨.ref b,H,I,rfl,q b H (e9.refl _) d⟩
 ·refine vL c s o H _ _ v u Q I j i ⟨a,b,g,r,rfl,rfl,G8.of e,G8.of d,l,J,λz=>q a H (e9.refl _) (by rw[z,n4];exact e),λz p M=>q p _ (e9.i6 M) g6⟩
def DN:V->Option Int->Option Int->Hp->VK->Prop:=λx lo d H Q=>∃a c,x=.ref a/\H a=some (.tup c)/\∀r b,e9 H b->b r=some (.tup (bq c lo d))->Q (.ref r) b
theorem sv:xU X DN:=by
 intro d s z H x v C B lo y E Q I i u l j h;obtain⟨a,c,rfl,g,q⟩:=h
 by_cases hw:HT.u6 c.length 0 lo=0/\HT.u6 c.length c.length y=c.length
 ·cases i;obtain⟨e,r,o,J⟩:=I.tuple (G8.of g);have b:e.toArray.size=c.length:=by rw[lw];exact r.length.symm
  refine⟨"tuple",_,PyProof.Rows.slot_tuple_getitem.lookup,o.typeIs,?_⟩;refine HT.kH o u l j (by rw[b];exact hw.1) (by rw[b];exact hw.2) ⟨.ref a,H,I,rfl,q a H (e9.refl _) ?_⟩;rw[g];unfold bq;rw[hw.1,hw.2];simp
 ·exact yD d s z H _ v C B lo y E Q I i u l j ⟨a,c,rfl,G8.of g,hw,λp G=>q p _ (e9.i6 G) g6⟩
end
section
variable{X:Cx}
def isStar:Expr->Bool
 | .Starred _ _=>true
 | _=>false
theorem T3{e:Expr}{a:GJ}{env:Env}(h:isStar e=false):starEach (e::a) env=(false,eval e env)::starEach a env:=by
 cases e<;>first | rfl | cases h
theorem lP{e:Expr}{a:GJ}{te:TE}{t:TA}(d:PE X e te)(c:PA X a t)(b:isStar e=false):PA X (e::a) (xO te t):=T6 d c (T3 b)
end
def kB(b:Addr)(fs:List (Str×V)):HO:=.ext λh=>∃a,h.Ns1 b a/\(∀f,Q8 (fs.lookup f) (a f))/\Within a (fs.map (·.1))
theorem vf{P:Program}{w:World}{H:Hp}{h:Heap}{a:Addr}{fs:List (Str×V)}{mA:GN}(n:h.Ns1 a mA)(r:∀f,Q8 (fs.lookup f) (mA f))(b:Within mA (fs.map (·.1))):j7 P w H h a (kB a fs):=by
 refine⟨⟨mA,n,r,b⟩,?_,λi g ⟨m,n1,d,c⟩ k=>⟨m,n1.at k,d,c⟩⟩;obtain⟨o,_,_,e,_⟩:=n;exact⟨o,e⟩
end L2
namespace L3
open PySem PySem.Spec L2
inductive D where
 | l4 | bl (b:Bool) | int (i:Int) | str (x:Str)
 | tup (xs:List D) | lst (xs:List D) | dic (kvs:List (Key×D)) | ty (n:String) | adr (a:Addr) | fz (xs:List D) | st (ks:List Key) | xc (e dx:Addr) (fs:List (Str×V)) | dn (kvs:List (mj×Int)) | ob (u:HO)
mutual
def y4:D->Bool
 | .l4=>true
 | .bl _=>true
 | .int _=>true
 | .str _=>true
 | .tup xs=>o6 xs
 | .lst _=>false
 | .dic _=>false
 | .st _=>false
 | .dn _=>false
 | .xc _ _ _=>false
 | .ty _=>true
 | .adr _=>true
 | .ob _=>true
 | .fz xs=>o6 xs
def o6:List D->Bool
 | []=>true
 | x::xs=>y4 x&&o6 xs
end
def Ax(K:GR)(H:Hp)(a:Addr)(xs:List V):Prop:=
 (∃o,H a=some (.frz o (.lst xs))) \/
  ∃(o:Obj) (b:GM) (n:Nat),K.lookup a=some o/\o.cls=.type "list" /\ o.dict=none/\o.data=.seq b n/\b.size<=sizeLine/\Vals xs b.toList
theorem Ax.sq{K:GR}{H:Hp}{a:Addr}{xs:List V}(h:Ax K H a xs):G1 K H a xs:=by
 rcases h with⟨o,h⟩ | h
 ·exact .inl (.inr ⟨o,h⟩)
 ·exact .inr h
mutual
inductive Rep(K:GR)(H:Hp):V->D->GG->Prop
 | l4:Rep K H .l4 .l4 []
 | bl {b:Bool}:Rep K H (.bl b) (.bl b) []
 | int {i:Int}:Rep K H (.int i) (.int i) []
 | str {x:Str}:Rep K H (.str x) (.str x) []
 | tup {p:Addr} {vs:List V} {ds:List D} {A:GG}:H p=some (.tup vs)->i5 K H vs ds A->Rep K H (.ref p) (.tup ds) A
 | lst {p:Addr} {vs:List V} {ds:List D} {A:GG}:H p=some (.lst vs)->i5 K H vs ds A->Rep K H (.ref p) (.lst ds) (p::A)
 | frz {p:Addr} {vs:List V} {ds:List D} {A:GG}:Ax K H p vs->i5 K H vs ds A->Rep K H (.ref p) (.fz ds) A
 | dic {p:Addr} {kvs:List (Key×V)} {kds:List (Key×D)} {A:GG} {ep:Nat}:H p=some (.dE kvs ep)->o9 K H kvs kds A->Rep K H (.ref p) (.dic kds) (p::A)
 | st {p:Addr} {S:Key->Bool} {n:Nat} {ks:List Key}:H p=some (.set S n)->(∀k:Key,S k=ks.any λz=>decide (z=k))->Rep K H (.ref p) (.st ks) [p]
 | xc {e dx:Addr} {fs:List (Str×V)}:H dx=some (kB dx fs)->Rep K H (.ref e) (.xc e dx fs) [dx]
 | dn {p:Addr} {kvs:List (mj×Int)}:H p=some (.dN (kvs.map λq=>(q.1,V.int q.2)))->Rep K H (.ref p) (.dn kvs) [p]
 | ty {n:String}:Rep K H (.ty n) (.ty n) []
 | adr {p:Addr}:Rep K H (.ref p) (.adr p) []
 | ob {p:Addr} {o:Obj} {u:HO}:H p=some (.frz o u)->Rep K H (.ref p) (.ob u) []
inductive i5(K:GR)(H:Hp):List V->List D->GG->Prop
 | nil:i5 K H [] [] []
 | cons {v:V} {d:D} {vs:List V} {ds:List D} {A B:GG}:Rep K H v d A->i5 K H vs ds B->i5 K H (v::vs) (d::ds) (A++B)
inductive o9(K:GR)(H:Hp):List (Key×V)->List (Key×D)->GG->Prop
 | nil:o9 K H [] [] []
 | cons {k:Key} {v:V} {d:D} {vs:List (Key×V)} {ds:List (Key×D)} {A B:GG}:Rep K H v d A->o9 K H vs ds B->o9 K H ((k,v)::vs) ((k,d)::ds) (A++B)
end
structure V0(H H':Hp):Prop where
 C0:∀b xs,H b=some (.tup xs)->H' b=some (.tup xs)
 frzs:∀b o u,H b=some (.frz o u)->H' b=some (.frz o u)
 dom:∀b,H' b=none->H b=none
structure Tf(H H':Hp):Prop where
 C0:∀b xs,H b=some (.tup xs)->H' b=some (.tup xs)
 frzs:∀b o u,H b=some (.frz o u)->H' b=some (.frz o u)
theorem V0.tf{H a:Hp}(s:V0 H a):Tf H a:=⟨s.C0,s.frzs⟩
theorem V0.refl(H:Hp):V0 H H:=⟨λ_ _ h=>h,λ_ _ _ h=>h,λ_ h=>h⟩
theorem V0.trans{H e d:Hp}(a:V0 H e)(b:V0 e d):V0 H d:=⟨λc x h=>b.C0 c x (a.C0 c x h),λc o u h=>b.frzs c o u (a.frzs c o u h),λc h=>a.dom c (b.dom c h)⟩
theorem V0.of{H a:Hp}(s:e9 H a):V0 H a:=⟨λb _ h=>s b _ h,λb _ _ h=>s b _ h,λb h=>s.free h⟩
theorem Tf.DR{K:GR}{H b:Hp}(s:Tf H b){a:Addr}{xs:List V}(h:Ax K H a xs):Ax K b a xs:=by
 rcases h with⟨o,h⟩ | h
 ·exact .inl ⟨o,s.frzs _ _ _ h⟩
 ·exact .inr h
section
variable{K:GR}{H H':Hp}
theorem i5.ind{P:List V->List D->GG->Prop}(g:P [] [] [])(e:∀{v d A vs ds B},Rep K H v d A->i5 K H vs ds B->P vs ds B->P (v::vs) (d::ds) (A++B)){vs:List V}{ds:List D}{A:GG}(r:i5 K H vs ds A):P vs ds A:=by
 refine i5.rec (motive_1:=λ_ _ _ _=>True) (motive_2:=λa b c _=>P a b c) (motive_3:=λ_ _ _ _=>True) ?_ ?_ ?_ ?_ ?_ ?_ ?_ ?_ ?_ ?_ ?_ ?_ ?_ ?_ g (λh r _ p=>e h r p) ?_ ?_ r<;>intros<;>trivial
theorem o9.ind{P:List (Key×V)->List (Key×D)->GG->Prop}(g:P [] [] [])(e:∀{k v d A vs ds B},Rep K H v d A->o9 K H vs ds B->P vs ds B->P ((k,v)::vs) ((k,d)::ds) (A++B)){vs:List (Key×V)}{ds:List (Key×D)}{A:GG}(r:o9 K H vs ds A):P vs ds A:=by
 refine o9.rec (motive_1:=λ_ _ _ _=>True) (motive_2:=λ_ _ _ _=>True) (motive_3:=λa b c _=>P a b c) ?_ ?_ ?_ ?_ ?_ ?_ ?_ ?_ ?_ ?_ ?_ ?_ ?_ ?_ ?_ ?_ g (λh r _ p=>e h r p) r<;>intros<;>trivial
theorem Rep.Y1(s:Tf H H'){v:V}{d:D}{A:GG}(r:Rep K H v d A):(∀a∈A,H' a=H a)->Rep K H' v d A:=
 Rep.rec (motive_1:=λv d A _=>(∀a∈A,H' a=H a)->Rep K H' v d A) (motive_2:=λv d A _=>(∀a∈A,H' a=H a)->i5 K H' v d A) (motive_3:=λv d A _=>(∀a∈A,H' a=H a)->o9 K H' v d A)
  (λ_=>.l4) (λ_=>.bl) (λ_=>.int) (λ_=>.str) (λh _ i e=>.tup (s.C0 _ _ h) (i e)) (λh _ i e=>.lst ((e _ lm).trans h) (i λa b=>e a (lf _ b))) (λh _ i e=>.frz (s.DR h) (i e))
  (λh _ i e=>.dic ((e _ lm).trans h) (i λa b=>e a (lf _ b))) (λh q e=>.st ((e _ lm).trans h) q) (λh e=>.xc ((e _ lm).trans h)) (λh e=>.dn ((e _ lm).trans h)) (λ_=>.ty) (λ_=>.adr) (λh _=>.ob (s.frzs _ _ _ h))
  (λ_=>.nil) (λ_ _ g c e=>.cons (g λa b=>e a (mr _ b)) (c λa b=>e a (hH _ b))) (λ_=>.nil) (λ_ _ g c e=>.cons (g λa b=>e a (mr _ b)) (c λa b=>e a (hH _ b))) r
theorem i5.Y1(s:Tf H H'){v:List V}{d:List D}{A:GG}(r:i5 K H v d A):(∀a∈A,H' a=H a)->i5 K H' v d A:=
 r.ind (P:=λv d A=>(∀a∈A,H' a=H a)->i5 K H' v d A) (λ_=>.nil) λh _ c e=>.cons (h.Y1 s λa b=>e a (mr _ b)) (c λa b=>e a (hH _ b))
theorem o9.Y1(s:Tf H H'){v:List (Key×V)}{d:List (Key×D)}{A:GG}(r:o9 K H v d A):(∀a∈A,H' a=H a)->o9 K H' v d A:=
 r.ind (P:=λv d A=>(∀a∈A,H' a=H a)->o9 K H' v d A) (λ_=>.nil) λh _ c e=>.cons (h.Y1 s λa b=>e a (mr _ b)) (c λa b=>e a (hH _ b))
theorem Rep.mono(s:V0 H H'){v:V}{d:D}{A:GG}(r:Rep K H v d A)(h:∀a∈A,H' a=H a):Rep K H' v d A:=r.Y1 s.tf h
theorem i5.mono(s:V0 H H'){v:List V}{d:List D}{A:GG}(r:i5 K H v d A)(h:∀a∈A,H' a=H a):i5 K H' v d A:=r.Y1 s.tf h
theorem o9.mono(s:V0 H H'){v:List (Key×V)}{d:List (Key×D)}{A:GG}(r:o9 K H v d A)(h:∀a∈A,H' a=H a):o9 K H' v d A:=r.Y1 s.tf h
theorem Rep.dC{v:V}{d:D}{A:GG}(r:Rep K H v d A):∀a∈A,cV (H a):=
 Rep.rec (motive_1:=λ_ _ A _=>∀a∈A,cV (H a)) (motive_2:=λ_ _ A _=>∀a∈A,cV (H a)) (motive_3:=λ_ _ A _=>∀a∈A,cV (H a))
  (λa h=>(by cases h)) (λa h=>(by cases h)) (λa h=>(by cases h)) (λa h=>(by cases h)) (λ_ _ i=>i) (λh _ i a b=>(List.mem_cons.mp b).elim (λe=>by rw[e,h];trivial) (i a)) (λ_ _ i=>i) (λh _ i a b=>(List.mem_cons.mp b).elim (λe=>by rw[e,h];trivial) (i a))
  (λh _ a b=>by rw[List.mem_singleton.mp b,h];trivial) (λh a b=>by rw[List.mem_singleton.mp b,h];trivial) (λh a b=>by rw[List.mem_singleton.mp b,h];trivial) (λa h=>(by cases h)) (λa h=>(by cases h)) (λ_ a h=>(by cases h))
  (λa h=>(by cases h)) (λ_ _ i j a b=>(List.mem_append.mp b).elim (i a) (j a)) (λa h=>(by cases h)) (λ_ _ i j a b=>(List.mem_append.mp b).elim (i a) (j a)) r
theorem i5.dC{v:List V}{d:List D}{A:GG}(r:i5 K H v d A):∀a∈A,cV (H a):=
 r.ind (P:=λ_ _ A=>∀a∈A,cV (H a)) (λa h=>(by cases h)) λh _ j a b=>(List.mem_append.mp b).elim (h.dC a) (j a)
theorem o9.dC{v:List (Key×V)}{d:List (Key×D)}{A:GG}(r:o9 K H v d A):∀a∈A,cV (H a):=
 r.ind (P:=λ_ _ A=>∀a∈A,cV (H a)) (λa h=>(by cases h)) λh _ j a b=>(List.mem_append.mp b).elim (h.dC a) (j a)
theorem cV.some{o:Option HO}(h:cV o):∃x,o=Option.some x:=by
 cases o with
 | none=>cases h
 | some x=>exact⟨x,rfl⟩
theorem Rep.same(s:e9 H H'){v:V}{d:D}{A:GG}(r:Rep K H v d A):Rep K H' v d A:=
 r.mono (V0.of s) λa b=>by
  obtain⟨o,e⟩:=cV.some (r.dC a b);rw[e];exact s a o e
theorem i5.same(s:e9 H H'){v:List V}{d:List D}{A:GG}(r:i5 K H v d A):i5 K H' v d A:=
 r.mono (V0.of s) λa b=>by
  obtain⟨o,e⟩:=cV.some (r.dC a b);rw[e];exact s a o e
theorem Rep.C3{v:V}{d:D}{A:GG}(r:Rep K H v d A):y4 d=true->A=[]:=by
 refine Rep.rec (motive_1:=λ_ d A _=>y4 d=true->A=[]) (motive_2:=λ_ d A _=>o6 d=true->A=[]) (motive_3:=λ_ _ _ _=>True)
  (λ_=>rfl) (λ_=>rfl) (λ_=>rfl) (λ_=>rfl) (λ_ _ i e=>i (by simpa[y4] using e)) ?_ (λ_ _ i e=>i (by simpa[y4] using e)) ?_ ?_ ?_ ?_ (λ_=>rfl) (λ_=>rfl) (λ_ _=>rfl) (λ_=>rfl) (λ_ _ i j e=>?_) trivial (λ_ _ _ _=>trivial) r
 case refine_6=>simp[o6] at e;rw[i e.1,j e.2];rfl
 all_goals intros;rename_i e;simp[y4] at e
theorem i5.C3{v:List V}{d:List D}{A:GG}(r:i5 K H v d A):o6 d=true->A=[]:=
 r.ind (P:=λ_ d A=>o6 d=true->A=[]) (λ_=>rfl) λh _ j e=>by
  simp[o6] at e;rw[h.C3 e.1,j e.2];rfl
theorem i5.length{v:List V}{d:List D}{A:GG}(r:i5 K H v d A):v.length=d.length:=r.ind (P:=λv d _=>v.length=d.length) rfl λ_ _ e=>tz (·+1) e
theorem i5.get{vs:List V}{ds:List D}{A:GG}{i:Nat}{d:D}(r:i5 K H vs ds A):ds[i]?=some d->∃v B,vs[i]?=some v/\Rep K H v d B/\B.Sublist A:=by
 revert i
 refine r.ind (P:=λvs ds A=>∀{i:Nat},ds[i]?=some d->∃v B,vs[i]?=some v/\Rep K H v d B/\B.Sublist A) (λ{i} e=>by simp at e) λ{_ _ A _ _ _} h _ a {i} e=>?_
 cases i with
 | zero=>simp at e;subst e;exact⟨_,A,rfl,h,Fg _ _⟩
 | succ i=>
  obtain⟨v,B,g,c,b⟩:=a (by simpa using e);exact⟨v,B,by simpa using g,c,b.trans (List.sublist_append_right _ _)⟩
theorem i5.append{vs a:List V}{ds b:List D}{A B:GG}(r:i5 K H vs ds A)(q:i5 K H a b B):i5 K H (vs++a) (ds++b) (A++B):=r.ind (P:=λvs ds A=>i5 K H (vs++a) (ds++b) (A++B)) q λh _ c=>by rw[AT];exact .cons h c
theorem i5.split{vs:List V}{ds:List D}{A:GG}(n:Nat)(r:i5 K H vs ds A):∃B C,A=B++C/\i5 K H (vs.take n) (ds.take n) B/\i5 K H (vs.drop n) (ds.drop n) C:=by
 revert n
 refine r.ind (P:=λvs ds A=>∀n:Nat,∃B C,A=B++C/\i5 K H (vs.take n) (ds.take n) B/\i5 K H (vs.drop n) (ds.drop n) C) (λn=>⟨[],[],rfl,by rw[List.take_nil,List.take_nil];exact .nil,by rw[List.drop_nil,List.drop_nil];exact .nil⟩) λh r a n=>?_
 cases n with
 | zero=>exact⟨[],_,rfl,.nil,.cons h r⟩
 | succ n=>
  obtain⟨B,C,e,c,b⟩:=a n;exact⟨_++B,C,by rw[e,AT],.cons h c,b⟩
theorem i5.cut{vs:List V}{ds:List D}{A:GG}(i j:Nat)(r:i5 K H vs ds A):∃B,B.Sublist A/\i5 K H ((vs.drop i).take j) ((ds.drop i).take j) B:=by
 obtain⟨B,C,e,_,b⟩:=r.split i;obtain⟨d,g,c,a,_⟩:=b.split j;exact⟨d,by rw[e,c];exact(Fg _ _).trans (EZ _ _),a⟩
theorem i5.set:∀{vs:List V} {ds:List D} {A:GG} {v:V} {d:D} {B:GG} (i:Nat),i5 K H vs ds A->Rep K H v d B->∃C,i5 K H (vs.set i v) (ds.set i d) C/\(∀a∈C,a∈A\/a∈B)/\(A.Nodup->B.Nodup->(∀a∈B,a∉A)->C.Nodup)
 | _,_,_,_,_,_,_,.nil,_=>⟨[],.nil,(λ_ h=>absurd h (by simp)),λ_ _ _=>lc⟩
 | _,_,_,_,_,B,0,.cons (A:=p) (B:=o) h r,q=>⟨B++o,.cons q r,λa c=>(List.mem_append.mp c).elim .inr λz=>.inl (hH _ z),λn1 n2 g=>by
   refine List.nodup_append.mpr ⟨n2,(List.nodup_append.mp n1).2.1,λa c b j e=>?_⟩;subst e;exact g a c (hH _ j)⟩
 | _,_,_,_,_,B,i+1,.cons (A:=p) (B:=o) h r,q=>by
  obtain⟨C,x,l,u⟩:=i5.set i r q;refine⟨p++C,.cons h x,λa c=>?_,λn1 n2 g=>?_⟩
  ·rcases List.mem_append.mp c with z | z
   ·exact .inl (mr _ z)
   ·exact(l a z).elim (λy=>.inl (hH _ y)) .inr
  ·have:=List.nodup_append.mp n1;refine List.nodup_append.mpr ⟨this.1,u this.2.1 n2 λa c z=>g a c (hH _ z),λa c b j e=>?_⟩;subst e;rcases l a j with z | z
   ·exact this.2.2 a c a z rfl
   ·exact g a z (mr _ c)
end
inductive Cl where | own | bor | loc | mk (H:Hp)
abbrev Ev:=List (Option D)
structure Ent where
 H₀:Hp
 L:Nat->GG
 vs:List V
 cl:List Cl
 /-- what is frozen meanwhile (a loop's list),and how it stands -/
 Z:Addr->Prop
 Hz:Hp
def Ent.own(G:Ent)(i:Nat):Prop:=G.cl[i]?=some .own
structure Ent.Po(G:Ent):Prop where
 one:∀i,i<G.vs.length->G.own i->i=0
 lk:∀(j:Nat) (H':Hp),G.cl[j]?=some (.mk H')->∀a o,H' a=some o->G.H₀ a=some o/\∀i,i<G.vs.length->G.own i->a∉G.L i
structure E3(K:GR)(G:Ent)(ρ:Ev)(σ:St)(H:Hp)(fa:GQ):Prop where
 rep:∀i d,ρ[i]?=some (some d)->∃v,σ[i]?=some (some v)/\Rep K H v d (fa i)
 emp:∀i,(∀d,ρ[i]?≠some (some d))->fa i=[]
 len:ρ.length=σ.length
 nd:∀i,(G.own i\/G.cl[i]?=some .loc)->(fa i).Nodup
 dj:∀i j,i≠j->G.own i->∀a∈fa i,a∉fa j
 par:∀i,i<G.vs.length->G.own i->σ[i]?=some G.vs[i]?
 old:∀i,i<G.vs.length->G.own i->∀a∈fa i,a∈G.L i\/G.H₀ a=none
 new:∀i,(G.cl[i]?=some .loc\/(G.own i/\¬i<G.vs.length))->∀a∈fa i,G.H₀ a=none
 frm:∀a o,G.H₀ a=some o->(∀i,i<G.vs.length->G.own i->a∉G.L i)->H a=some o
 stb:V0 G.H₀ H
 zk:∀a,G.Z a->H a=G.Hz a
 zn:∀a,G.Z a->G.Hz a≠none
 zo:∀i,G.own i->∀a∈fa i,¬G.Z a
 po:G.Po
theorem E3.kept{K:GR}{G:Ent}{c:Ev}{σ:St}{H:Hp}{i:GQ}(E:E3 K G c σ H i){j:Nat}{b:Hp}(h:G.cl[j]?=some (.mk b)):e9 b H:=λa o e=>let ⟨g,d⟩:=E.po.lk j b h a o e;E.frm a o g d
section
variable{K:GR}{G:Ent}{ρ:Ev}{σ:St}{H H':Hp}{fa:GQ}
theorem E3.dC(E:E3 K G ρ σ H fa)(i:Nat):∀a∈fa i,cV (H a):=λa b=>by
 cases e:ρ[i]? with
 | none=>rw[E.emp i (λd z=>by rw[e] at z;cases z)] at b;cases b
 | some o=>
  cases o with
  | none=>rw[E.emp i (λd z=>by rw[e] at z;cases z)] at b;cases b
  | some d=>
   obtain⟨v,_,r⟩:=E.rep i d e;exact r.dC a b
theorem E3.there(E:E3 K G ρ σ H fa)(i:Nat){a:Addr}(b:a∈fa i):H a≠none:=λz=>by
 have:=E.dC i a b;rw[z] at this;exact this
theorem E3.same(E:E3 K G ρ σ H fa)(s:e9 H H'):E3 K G ρ σ H' fa:=
 ⟨λi d e=>let ⟨v,c,b⟩:=E.rep i d e;⟨v,c,b.same s⟩,E.emp,E.len,E.nd,E.dj,E.par,E.old,E.new,λa o h n=>s a o (E.frm a o h n),E.stb.trans (V0.of s),λa z=>(by
  obtain⟨o,e⟩:=Option.ne_none_iff_exists'.mp (E.zn a z);have h:=E.zk a z;rw[e] at h ⊢;exact s a o h),E.zn,E.zo,E.po⟩
inductive Fl where | any | stab | locl | fresh
def p3(G:Ent)(H:Hp)(fa:GQ)(B:GG):Fl->Prop
 | .any=>True
 | .stab=>∀i,G.own i->∀a∈B,a∉fa i
 | .locl=>(∀i,G.own i->∀a∈B,a∉fa i)/\(∀a∈B,G.H₀ a=none)/\B.Nodup
 | .fresh=>B.Nodup/\∀a∈B,H a=none
def aK:Fl->Fl->Bool
 | _,.any=>true
 | .any,_=>false
 | _,.stab=>true
 | .stab,_=>false
 | _,.locl=>true
 | .locl,_=>false
 | .fresh,.fresh=>true
theorem p3.V5(E:E3 K G ρ σ H fa){B:GG}(h:p3 G H fa B .fresh):p3 G H fa B .stab:=λi _ a b z=>E.there i z (h.2 a b)
theorem p3.er(E:E3 K G ρ σ H fa){B:GG}(h:p3 G H fa B .fresh):p3 G H fa B .locl:=⟨p3.V5 E h,λa b=>E.stb.dom a (h.2 a b),h.1⟩
theorem p3.weak(E:E3 K G ρ σ H fa){B:GG}{f g:Fl}(h:p3 G H fa B f)(a:aK f g=true):p3 G H fa B g:=by
 cases f<;>cases g<;>first | trivial | exact h | (cases a;done) | exact h.1 | exact p3.V5 E h | exact p3.er E h
theorem p3.nil(f:Fl):p3 G H fa [] f:=by
 cases f with
 | any=>trivial
 | stab=>intro i _ a b;cases b
 | locl=>exact⟨λi _ a b=>(by cases b),λa b=>(by cases b),lc⟩
 | fresh=>exact⟨lc,λa b=>(by cases b)⟩
theorem p3.sub{B C:GG}{f:Fl}(h:p3 G H fa B f)(s:C.Sublist B):p3 G H fa C f:=by
 cases f with
 | any=>trivial
 | stab=>exactλi o a b=>h i o a (s.mem b)
 | locl=>exact⟨λi o a b=>h.1 i o a (s.mem b),λa b=>h.2.1 a (s.mem b),h.2.2.sublist s⟩
 | fresh=>exact⟨h.1.sublist s,λa b=>h.2 a (s.mem b)⟩
end
abbrev TU:=Ev->(D->Prop)->Prop
structure PU(X:Cx)(cl:List Cl)(e:Expr)(f:Fl)(u:TU):Prop where
 of ::
 run:∃t,PE X e t/\∀(G:Ent) (ρ:Ev) (σ:St) (H:Hp) (fa:GQ) (Q:D->Prop) (R:VK),G.cl=cl->E3 X.K G ρ σ H fa->u ρ Q ->
  (∀v H' d B,e9 H H'->Rep X.K H' v d B->p3 G H fa B f->Q d->R v H')->t σ H R
abbrev TM:=Ev->(D->Ev->Prop)->Prop
structure gz(K:GR)(G:Ent)(H:Hp)(fa:GQ)(H':Hp)(fa':GQ):Prop where
 frm:∀a o,H a=some o->(∀i,G.own i->a∉fa i)->H' a=some o
 stb:V0 H H'
 new:∀i,G.own i->∀a∈fa' i,a∈fa i\/H a=none
 bor:∀i,¬G.own i->fa' i=fa i
section
variable{K:GR}{G:Ent}{ρ ρ':Ev}{σ:St}{H H' H2:Hp}{fa fa' fa2:GQ}
theorem gz.same(s:e9 H H'):gz K G H fa H' fa:=⟨λ_ _ h _=>s _ _ h,V0.of s,λ_ _ _ h=>.inl h,λ_ _=>rfl⟩
theorem gz.trans(a:gz K G H fa H' fa')(b:gz K G H' fa' H2 fa2):gz K G H fa H2 fa2:=
  ⟨λx o h n=>b.frm x o (a.frm x o h n) λi c z=>(a.new i c x z).elim (n i c) (λe=>by rw[h] at e;cases e),a.stb.trans b.stb,
   λi c x d=>(b.new i c x d).elim (a.new i c x) (λe=>.inr (a.stb.dom x e)),λi c=>(b.bor i c).trans (a.bor i c)⟩
theorem gz.keep(c:gz K G H fa H' fa'){v:V}{d:D}{B:GG}(r:Rep K H v d B)(n:∀i,G.own i->∀a∈B,a∉fa i):Rep K H' v d B:=
 r.mono c.stb λa b=>by
  obtain⟨o,e⟩:=cV.some (r.dC a b);rw[e];exact c.frm a o e λi g=>n i g a b
end
structure PM(X:Cx)(cl:List Cl)(e:Expr)(u:TM):Prop where
 of ::
 run:∃t,PE X e t/\∀(G:Ent) (ρ:Ev) (σ:St) (H:Hp) (fa:GQ) (Q:D->Ev->Prop) (R:VK),G.cl=cl->E3 X.K G ρ σ H fa->u ρ Q ->
  (∀v H' d B ρ' fa',E3 X.K G ρ' σ H' fa'->gz X.K G H fa H' fa'->Rep X.K H' v d B->B.Nodup->(∀a∈B,H a=none/\∀i,a∉fa' i)->Q d ρ'->R v H')->t σ H R
structure bU where
 nx:Ev->Prop
 rt:D->Ev->Prop
 bk:Ev->Prop:=λ_=>False
 ct:Ev->Prop:=λ_=>False
abbrev i7:=bU->Ev->Prop
def uS(K:GR)(G:Ent)(N:Ev->Prop):St->Hp->Prop:=λb H=>∃a c,E3 K G a b H c/\N a
def DK(K:GR)(G:Ent)(N:D->Ev->Prop):VK:=λv H=>∃d b e c B,E3 K G b e H c/\Rep K H v d B/\B.Nodup/\(∀a∈B,G.H₀ a=none)/\(∀i,i<G.vs.length->G.own i->∀a∈B,a∉c i)/\N d b
def low(K:GR)(G:Ent)(T:bU):Ends:={ nx:=uS K G T.nx,rt:=DK K G T.rt,bk:=uS K G T.bk,ct:=uS K G T.ct }
structure Eo(A B:Ends):Prop where
 nx:∀σ H,A.nx σ H->B.nx σ H
 rt:∀v H,A.rt v H->B.rt v H
 bk:∀σ H,A.bk σ H->B.bk σ H
 ct:∀σ H,A.ct σ H->B.ct σ H
structure B3(X:Cx)(cl:List Cl)(e:Expr)(u:Ev->(Bool->Prop)->Prop):Prop where
 of ::
 run:∃t,PT X e t/\∀(G:Ent) (ρ:Ev) (σ:St) (H:Hp) (fa:GQ) (Q:Bool->Prop) (R:Bool->Hp->Prop),G.cl=cl->E3 X.K G ρ σ H fa->u ρ Q ->
  (∀b H',e9 H H'->Q b->R b H')->t σ H R
structure M4(X:Cx)(cl:List Cl)(st:Stmt)(s:i7):Prop where
 of ::
 run:∃t,PS X st t/\∀(G:Ent) (T:bU) (ρ:Ev) (σ:St) (H:Hp) (fa:GQ) (R:Ends),G.cl=cl->E3 X.K G ρ σ H fa->s T ρ->Eo (low X.K G T) R->t R σ H
structure gb(X:Cx)(cl:List Cl)(st:GO)(s:i7):Prop where
 of ::
 run:∃t,ig X st t/\∀(G:Ent) (T:bU) (ρ:Ev) (σ:St) (H:Hp) (fa:GQ) (R:Ends),G.cl=cl->E3 X.K G ρ σ H fa->s T ρ->Eo (low X.K G T) R->t R σ H
section
variable{X:Cx}{cl:List Cl}{e a b c:Expr}{f:Fl}{pos:Pos}
def uC(d:D):TU:=λ_ Q=>Q d
def c7(i:Nat):TU:=λg Q=>match g[i]? with
 | some (some d)=>Q d
 | _=>False
def zJ:Option Cl->Fl
 | some .bor=>.stab
 | some .loc=>.locl
 | _=>.any
theorem E3.mQ{K:GR}{G:Ent}{l:Ev}{σ:St}{H:Hp}{d:GQ}(E:E3 K G l σ H d){i:Nat}(h:¬G.own i):∀j,G.own j->∀a∈d i,a∉d j:=λj g a o z=>
 E.dj j i (λe=>h (e▸g)) g a z o
theorem E3.var{K:GR}{G:Ent}{g:Ev}{σ:St}{H:Hp}{d:GQ}(E:E3 K G g σ H d)(i:Nat):p3 G H d (d i) (zJ G.cl[i]?):=by
 cases e:G.cl[i]? with
 | none=>trivial
 | some k=>
  cases k with
  | own=>trivial
  | mk _=>trivial
  | bor=>exact E.mQ (λz=>by unfold Ent.own at z;rw[e] at z;cases z)
  | loc=>exact⟨E.mQ (λz=>by unfold Ent.own at z;rw[e] at z;cases z),E.new i (.inl e),E.nd i (.inr e)⟩
theorem AA(i:Nat){x:Str}(h:PE X (.Name x pos) (Q6 i))(l:zJ cl[i]?=f):PU X cl (.Name x pos) f (c7 i):=.of<|by
 refine⟨_,h,λG j y H q Q R p E g k=>?_⟩;unfold c7 at g
 cases e:j[i]? with
 | none=>rw[e] at g;cases g
 | some o=>
  cases o with
  | none=>rw[e] at g;cases g
  | some d=>
   rw[e] at g;obtain⟨v,u,r⟩:=E.rep i d e;refine⟨v,u,k v H d (q i) (e9.refl H) r ?_ g⟩;rw[<-l,<-p];exact E.var i
theorem c6{i:Int}{j}:PU X cl (.Constant (.int i) j pos) .fresh (uC (.int i)):=.of ⟨_,zt,λG h g H l Q R _ E d k=>k _ H _ _ (e9.refl H) .int (p3.nil _) d⟩
theorem l9{i:Bool}{j}:PU X cl (.Constant (.bool i) j pos) .fresh (uC (.bl i)):=.of ⟨_,yj,λG h g H l Q R _ E d k=>k _ H _ _ (e9.refl H) .bl (p3.nil _) d⟩
theorem M7{j}:PU X cl (.Constant .none j pos) .fresh (uC .l4):=.of ⟨_,zB,λG h g H i Q R _ E d k=>k _ H _ _ (e9.refl H) .l4 (p3.nil _) d⟩
theorem j2{x:Str}{j}:PU X cl (.Constant (.str x) j pos) .fresh (uC (.str x)):=.of ⟨_,yQ,λG h g H i Q R _ E d k=>k _ H _ _ (e9.refl H) .str (p3.nil _) d⟩
theorem O9{x:Str}{d:D}{v:V}{B:GG}(h:PE X (.Name x pos) (tC v))(r:∀H,Rep X.K H v d []):PU X cl (.Name x pos) .fresh (uC d):=.of ⟨_,h,λG j i H l Q R _ E g k=>k _ H _ _ (e9.refl H) (r H) (p3.nil _) g⟩
def gv(u:TU):TU:=λg Q=>u g λd=>y4 d=true/\Q d
theorem PU.y4{u:TU}(h:PU X cl e f u):PU X cl e .fresh (gv u):=.of<|by
 obtain⟨t,l,h⟩:=h.run;refine⟨t,l,λG i g H p Q R o E j k=>h G i g H p _ R o E j λv x d B s r y q=>k v x d B s r ?_ q.2⟩;rw[r.C3 q.1];exact p3.nil _
section
variable{K:GR}{G:Ent}{H H':Hp}{fa:GQ}{B:GG}{f:Fl}
theorem p3.back(s:e9 H H')(h:p3 G H' fa B f):p3 G H fa B f:=by
 cases f with
 | any=>trivial
 | stab=>exact h
 | locl=>exact h
 | fresh=>exact⟨h.1,λa d=>s.free (h.2 a d)⟩
end
theorem u2{C z:TU}{O M:Fl}(q:PU X cl a O C)(p:PU X cl b M z):∃j i,PE X a j/\PE X b i/\∀(G:Ent) (g:Ev) (σ:St) (H:Hp) (h:GQ) (Q:D->D->Prop) (R:V->V->Hp->Prop),G.cl=cl->E3 X.K G g σ H h->(C g λx=>z g λy=>Q x y) ->
  (∀v w l d e A B,e9 H l->Rep X.K l v d A->Rep X.K l w e B->p3 G H h A O->p3 G H h B M->Q d e->R v w l)->j σ H λx u=>i σ u λy r=>R x y r:=by
 obtain⟨j,pa,q⟩:=q.run;obtain⟨i,pb,p⟩:=p.run;refine⟨j,i,pa,pb,λG g σ H h Q R J E hu k=>?_⟩;refine q G g σ H h _ _ J E hu λv u d A o T f1 Y=>?_;refine p G g σ u h _ _ J (E.same o) Y λw r e B I S f2 U=>?_;exact k v w r d e A B (o.trans I) (T.same I) S f1 (f2.back o) U
def X0(X:Cx)(r:R2)(g:D->D->(D->Prop)->Prop):Prop:=∀(H:Hp) (v w:V) (d e:D) (A B:GG) (Q:D->Prop) (R:VK),Rep X.K H v d A->Rep X.K H w e B->g d e Q ->
 (∀x h y C,e9 H h->Rep X.K h x y C->C.Nodup->(∀a∈C,H a=none)->Q y->R x h)->r v w H R
def t8(g:D->D->(D->Prop)->Prop)(i h:TU):TU:=λd Q=>i d λx=>h d λy=>g x y Q
theorem Cb{u p:TU}{fa fb:Fl}{r:R2}{g:D->D->(D->Prop)->Prop}(o:X0 X r g){t:TE->TE->TE}(ht:t=Bb r)(l:PU X cl a fa u)(hb:PU X cl b fb p)(mk:∀{j i},PE X a j->PE X b i->PE X e (t j i)):PU X cl e .fresh (t8 g u p):=.of<|by
 obtain⟨j,i,Y,U,h⟩:=u2 l hb;subst ht;refine⟨_,mk Y U,λG I z H fo Q R hG E hu k=>?_⟩;refine h G I z H fo _ _ hG E hu λv w H' d e A B s S O _ _ q=>?_;exact o H' v w d e A B Q R S O q λx H2 y C J M n1 n2 T=>k x H2 y C (s.trans J) M ⟨n1,λa l=>s.free (n2 a l)⟩ T
theorem iE{h d:TU}{x v:Fl}{r:R2}{i:Operator}{g:D->D->(D->Prop)->Prop}(p:E7 X (binaryOp i) r)(o:X0 X r g)(u:PU X cl a x h)(q:PU X cl b v d):PU X cl (.BinOp a i b pos) .fresh (t8 g h d):=
 Cb o rfl u q λl j=>Bp p l j
theorem V9{i h:TU}{y x:Fl}{r:R2}{d:CmpOp}{g:D->D->(D->Prop)->Prop}(p:E7 X (compareOp d) r)(o:X0 X r g)(v:PU X cl a y i)(u:PU X cl b x h)(q:behindInMarks d b=false):PU X cl (.Compare a [d] [b] pos) .fresh (t8 g i h):=
 Cb o rfl v u λl j=>vS p l j q
def gI(C:Int->Int->Prop)(g:Int->Int->D):D->D->(D->Prop)->Prop
 | .int i,.int j,Q=>C i j/\Q (g i j)
 | _,_,_=>False
def vj(g:Int->Int->D):D->D->(D->Prop)->Prop
 | .int i,.int j,Q=>Q (g i j)
 | _,_,_=>False
theorem v9{K:GR}{H:Hp}{v:V}{i:Int}{A:GG}(h:Rep K H v (.int i) A):v=.int i:=by cases h;rfl
theorem D3{K:GR}{H:Hp}{v:V}{i:Str}{A:GG}(h:Rep K H v (.str i) A):v=.str i:=by cases h;rfl
theorem J7{K:GR}{H:Hp}{v:V}{i:Bool}{A:GG}(h:Rep K H v (.bl i) A):v=.bl i:=by cases h;rfl
theorem bC{K:GR}{H:Hp}{v:V}{A:GG}(h:Rep K H v .l4 A):v=.l4:=by cases h;rfl
theorem tu{C:Int->Int->Prop}{g:Int->Int->Int}:X0 X (rI C λi j=>.int (g i j)) (gI C λi j=>.int (g i j)):=by
 intro H v w d e A B Q R o l q k;cases d<;>cases e<;>first | exact q.elim | skip
 cases v9 o;cases v9 l;exact⟨_,_,rfl,rfl,q.1,k _ H _ _ (e9.refl H) .int lc (λ_ h=>(by cases h)) q.2⟩
theorem uz{g:Int->Int->Int}:X0 X (tE λi j=>.int (g i j)) (vj λi j=>.int (g i j)):=by
 intro H v w d e A B Q R o l q k;cases d<;>cases e<;>first | exact q.elim | skip
 cases v9 o;cases v9 l;exact⟨_,_,rfl,rfl,k _ H _ _ (e9.refl H) .int lc (λ_ h=>(by cases h)) q⟩
theorem cQ{g:Int->Int->Bool}:X0 X (tE λi j=>.bl (g i j)) (vj λi j=>.bl (g i j)):=by
 intro H v w d e A B Q R o l q k;cases d<;>cases e<;>first | exact q.elim | skip
 cases v9 o;cases v9 l;exact⟨_,_,rfl,rfl,k _ H _ _ (e9.refl H) .bl lc (λ_ h=>(by cases h)) q⟩
section
variable{ua ub:TU}{fa fb:Fl}
theorem zv(g:PU X cl a fa ua)(d:PU X cl b fb ub):PU X cl (.BinOp a .Sub b pos) .fresh (t8 (vj λi j=>.int (i-j)) ua ub):=iE yT uz g d
theorem hR(g:PU X cl a fa ua)(d:PU X cl b fb ub):PU X cl (.BinOp a .FloorDiv b pos) .fresh (t8 (gI U9 λi j=>.int (i/j)) ua ub):=iE vi tu g d
theorem gS(g:PU X cl a fa ua)(d:PU X cl b fb ub):PU X cl (.BinOp a .Mod b pos) .fresh (t8 (gI (λ_ j=>0<j) λi j=>.int (i%j)) ua ub):=iE zR tu g d
theorem kF(g:PU X cl a fa ua)(d:PU X cl b fb ub):PU X cl (.BinOp a .Pow b pos) .fresh (t8 (gI dX λi j=>.int (i^j.toNat)) ua ub):=iE AE tu g d
theorem yn(h:PU X cl a fa ua)(g:PU X cl b fb ub)(d:behindInMarks .Lt b=false):PU X cl (.Compare a [.Lt] [b] pos) .fresh (t8 (vj λi j=>.bl (decide (i<j))) ua ub):=V9 nr cQ h g d
theorem yp(h:PU X cl a fa ua)(g:PU X cl b fb ub)(d:behindInMarks .Gt b=false):PU X cl (.Compare a [.Gt] [b] pos) .fresh (t8 (vj λi j=>.bl (decide (j<i))) ua ub):=V9 yt cQ h g d
def CY:D->D->(D->Prop)->Prop
 | .str i,.str j,Q=>i.length+j.length<=sizeLine/\Q (.str (i++j))
 | _,_,_=>False
theorem BB:X0 X (λx y H Q=>∃i j,x=.str i/\y=.str j/\i.length+j.length<=sizeLine/\Q (.str (i++j)) H) CY:=by
 intro H v w d e A B Q R l g q k;cases d<;>cases e<;>first | exact q.elim | skip
 cases D3 l;cases D3 g;exact⟨_,_,rfl,rfl,q.1,k _ H _ _ (e9.refl H) .str lc (λ_ h=>(by cases h)) q.2⟩
def R4:D->Bool
 | .l4=>true
 | .bl _=>true
 | .int _=>true
 | .str _=>true
 | _=>false
def toV:D->V
 | .l4=>.l4
 | .bl b=>.bl b
 | .int i=>.int i
 | .str x=>.str x
 | _=>.l4
theorem O2{K:GR}{H:Hp}{v:V}{d:D}{A:GG}(h:Rep K H v d A)(f:R4 d=true):v=toV d/\A=[]:=by
 cases h<;>first | exact⟨rfl,rfl⟩ | cases f
def ng(d b:Bool):Bool:=match d with
 | true=>!b
 | false=>b
def CU:D->D->Option Bool
 | .int a,.int b=>some (decide (a=b))
 | .str a,.str b=>some (decide (a=b))
 | .bl a,.bl b=>some (decide (a=b))
 | .l4,.l4=>some true
 | .l4,.int _=>some false
 | .int _,.l4=>some false
 | .l4,.bl _=>some false
 | .bl _,.l4=>some false
 | .l4,.str _=>some false
 | .str _,.l4=>some false
 | .int _,.str _=>some false
 | .str _,.int _=>some false
 | .bl _,.str _=>some false
 | .str _,.bl _=>some false
 | _,_=>none
theorem rE{d e:D}{b:Bool}(h:CU d e=some b):R4 d=true/\R4 e=true/\yx (toV d) (toV e)=true/\decide (toV d=toV e)=b:=by
 cases d<;>cases e<;>first | (cases h;done) | skip
 all_goals cases h
 all_goals refine⟨rfl,rfl,rfl,?_⟩
 all_goals first | rfl | (simp[toV];done)
def AI(g:Bool):D->D->(D->Prop)->Prop:=λd e Q=>match CU d e with
 | some b=>Q (.bl (ng g b))
 | none=>False
theorem vh{g:Bool}{d e:D}{Q:D->Prop}(h:AI g d e Q):∃b,CU d e=some b/\Q (.bl (ng g b)):=by
 unfold AI at h;split at h
 ·exact⟨_,by assumption,h⟩
 ·exact h.elim
theorem BY:X0 X Em (AI false):=by
 intro H v w d e A B Q R i g q k;obtain⟨b,r,q⟩:=vh q;obtain⟨p,o,l,j⟩:=rE r;obtain⟨rfl,rfl⟩:=O2 i p;obtain⟨rfl,rfl⟩:=O2 g o;refine⟨l,?_⟩;rw[j];exact k _ H _ _ (e9.refl H) .bl lc (λ_ h=>(by cases h)) q
theorem Dj:X0 X Eh (AI true):=by
 intro H v w d e A B Q R i g q k;obtain⟨b,r,q⟩:=vh q;obtain⟨p,o,l,j⟩:=rE r;obtain⟨rfl,rfl⟩:=O2 i p;obtain⟨rfl,rfl⟩:=O2 g o;refine⟨l,?_⟩;rw[j];exact k _ H _ _ (e9.refl H) .bl lc (λ_ h=>(by cases h)) q
def N6:D->Bool
 | .l4=>true
 | _=>false
def DV(g:Bool):D->D->(D->Prop)->Prop
 | d,.l4,Q=>Q (.bl (ng g (N6 d)))
 | _,_,_=>False
theorem nW{K:GR}{H:Hp}{v:V}{d:D}{A:GG}(h:Rep K H v d A):decide (v=.l4)=N6 d:=by
 cases h<;>first | rfl | simp[N6]
theorem Dh:X0 X (λx y H Q=>y=.l4/\Q (.bl (decide (x=.l4))) H) (DV false):=by
 intro H v w d e A B Q R i g q k;cases e<;>first | exact q.elim | skip
 cases bC g;refine⟨rfl,?_⟩;rw[nW i];refine k _ H _ _ (e9.refl H) .bl lc (λ_ h=>(by cases h)) ?_;exact q
theorem zf:X0 X (λx y H Q=>y=.l4/\Q (.bl (!decide (x=.l4))) H) (DV true):=by
 intro H v w d e A B Q R i g q k;cases e<;>first | exact q.elim | skip
 cases bC g;refine⟨rfl,?_⟩;rw[nW i];refine k _ H _ _ (e9.refl H) .bl lc (λ_ h=>(by cases h)) ?_;exact q
def oU:D->Option (List D)
 | .lst d=>some d
 | .tup d=>some d
 | .fz d=>some d
 | _=>none
theorem bJ{K:GR}{H:Hp}{v:V}{d:D}{A:GG}{xs:List D}(h:Rep K H v d A)(e:oU d=some xs):∃p vs B,v=.ref p/\(G1 K H p vs\/G8 K H p vs)/\i5 K H vs xs B/\B.Sublist A:=by
 cases h with
 | tup h r=>cases e;exact⟨_,_,_,rfl,.inr (G8.of h),r,v1 _⟩
 | lst h r=>cases e;exact⟨_,_,_,rfl,.inl (G1.of h),r,wr _ _⟩
 | frz h r=>cases e;exact⟨_,_,_,rfl,.inl h.sq,r,v1 _⟩
 | _=>cases e
theorem jq{d:D}(h:R4 d=true):R3 (toV d)=true:=by cases d<;>first | rfl | cases h
theorem i5.flat{K:GR}{H:Hp}{vs:List V}{ds:List D}{A:GG}(r:i5 K H vs ds A):ds.all R4=true->vs=ds.map toV/\vs.all R3=true:=by
 refine r.ind (P:=λvs ds _=>ds.all R4=true->vs=ds.map toV/\vs.all R3=true) (λ_=>⟨rfl,rfl⟩) λh _ i f=>?_;rw[v4,eH] at f;obtain⟨j,_⟩:=O2 h f.1;obtain⟨g,d⟩:=i f.2;subst j;refine⟨by rw[nj,<-g],?_⟩;rw[v4,d,Bool.and_true];exact jq f.1
def inD(x:D)(xs:List D):Bool:=xs.any λy=>wy (toV y) (toV x)
def Ea(h:Bool):D->D->(D->Prop)->Prop:=λd e Q=>R4 d=true/\∃g,oU e=some g/\g.all R4=true/\Q (.bl (ng h (inD d g)))
theorem Dr{g:Bool}:X0 X (Cv X.K g) (Ea g):=by
 intro H v w d e A B Q R o l q k;obtain⟨j,i,E,y,q⟩:=q;obtain⟨rfl,rfl⟩:=O2 o j;obtain⟨p,vs,C,rfl,u,r,_⟩:=bJ l E;obtain⟨rfl,x⟩:=r.flat y;refine⟨p,_,rfl,u,jq j,x,k _ H _ _ (e9.refl H) .bl lc (λ_ h=>(by cases h)) ?_⟩;have z:CI (toV d) (i.map toV)=inD d i:=by unfold CI inD;rw[List.any_map];rfl
 rw[z];cases g
 ·exact q
 ·exact q
theorem i5.Z2{K:GR}{H:Hp}{vs:List V}{ds:List D}{A:GG}{i:Int}{d:D}(r:i5 K H vs ds A)(h:L2.Z2 ds i=some d):∃v B,L2.Z2 vs i=some v/\Rep K H v d B/\B.Sublist A:=by
 unfold L2.Z2 at h ⊢;rw[r.length]
 cases e:tq ds.length i with
 | none=>rw[e] at h;cases h
 | some j=>
  rw[e] at h;exact r.get h
def Ek:D->D->(D->Prop)->Prop
 | .str z,.int i,Q=>z.length<=sizeLine/\∃c,L2.Z2 z.cps.toList i=some c/\Q (.str ⟨#[c]⟩)
 | .lst g,.int i,Q=>∃d,L2.Z2 g i=some d/\Q d
 | .tup g,.int i,Q=>∃d,L2.Z2 g i=some d/\Q d
 | .fz g,.int i,Q=>∃d,L2.Z2 g i=some d/\Q d
 | _,_,_=>False
end
end
section
variable{X:Cx}{cl:List Cl}{e a b c:Expr}{es:GJ}{f:Fl}{pos:Pos}{ua ub uc:TU}{fa fb fc:Fl}
abbrev X1:=Ev->(List D->Prop)->Prop
structure BP(X:Cx)(cl:List Cl)(es:GJ)(u:X1):Prop where
 of ::
 run:∃t,PA X es t/\∀(G:Ent) (ρ:Ev) (σ:St) (H:Hp) (fa:GQ) (Q:List D->Prop) (R:List V->Hp->Prop),G.cl=cl->E3 X.K G ρ σ H fa->u ρ Q ->
  (∀vs H' ds A,e9 H H'->i5 X.K H' vs ds A->A.Nodup->(∀a∈A,H a=none)->ds.length=es.length->Q ds->R vs H')->t σ H R
structure vm(X:Cx)(cl:List Cl)(es:GJ)(u:X1):Prop where
 of ::
 run:∃t,PA X es t/\∀(G:Ent) (ρ:Ev) (σ:St) (H:Hp) (fa:GQ) (Q:List D->Prop) (R:List V->Hp->Prop),G.cl=cl->E3 X.K G ρ σ H fa->u ρ Q ->
  (∀vs H' ds A,e9 H H'->i5 X.K H' vs ds A->ds.length=es.length->Q ds->R vs H')->t σ H R
def c9:X1:=λ_ Q=>Q []
def a8(ua:TU)(h:X1):X1:=λd Q=>ua d λx=>h d λg=>Q (x::g)
theorem h8:BP X cl [] c9:=.of ⟨_,P0,λG i g H fa Q R _ E d k=>k [] H [] [] (e9.refl H) .nil lc (λ_ h=>(by cases h)) rfl d⟩
theorem c8:vm X cl [] c9:=.of ⟨_,P0,λG h g H fa Q R _ E d k=>k [] H [] [] (e9.refl H) .nil rfl d⟩
theorem Rep.there{K:GR}{H:Hp}{v:V}{d:D}{A:GG}(r:Rep K H v d A){x:Addr}(g:x∈A):H x≠none:=λz=>by
 have:=r.dC x g;rw[z] at this;exact this
theorem c5{l:X1}(ha:PU X cl e .fresh ua)(Y:BP X cl es l)(U:isStar e=false):BP X cl (e::es) (a8 ua l):=.of<|by
 obtain⟨t1,M,h1⟩:=ha.run;obtain⟨t2,J,h2⟩:=Y.run;refine⟨_,lP M J U,λG j i H fa Q R q E T k=>?_⟩;refine h1 G j i H fa _ _ q E T λv H1 d A g p r I=>?_;refine h2 G j i H1 fa _ _ q (E.same g) I λvs H2 ds B o u n1 n2 O C=>?_;refine k (v::vs) H2 (d::ds) (A++B) (g.trans o) (.cons (p.same o) u) ?_ (λx h=>?_) (by simp[O]) C
 ·refine List.nodup_append.mpr ⟨r.1,n1,λx h y S e=>?_⟩;subst e;exact p.there h (n2 x S)
 ·rcases List.mem_append.mp h with z | z
  ·exact r.2 x z
  ·exact g.free (n2 x z)
theorem a9{i:X1}(M:PU X cl e f ua)(J:vm X cl es i)(I:isStar e=false):vm X cl (e::es) (a8 ua i):=.of<|by
 obtain⟨t1,y,S⟩:=M.run;obtain⟨t2,x,O⟩:=J.run;refine⟨_,lP y x I,λG h g H fa Q R o E C k=>?_⟩;refine S G h g H fa _ _ o E C λv Y d A l q f1 u=>?_;refine O G h g Y fa _ _ o (E.same l) u λvs U T B j p z r=>?_;exact k (v::vs) U (d::T) (A++B) (l.trans j) (.cons (q.same j) p) (by simp[z]) r
def W2(h:X1):TU:=λd Q=>h d λg=>Q (.lst g)
def p5(h:X1):TU:=λd Q=>h d λg=>Q (.tup g)
theorem jC{n:Nat}(h:n<=1000):n<=sizeLine:=ES (qw h)
theorem B6{g:X1}(h:BP X cl es g)(v:Nat.ble es.length 1000=true):PU X cl (.List es pos) .fresh (W2 g):=.of<|by
 obtain⟨t,p,h⟩:=h.run;refine⟨_,za p,λG j i H fa Q R B E u k=>?_⟩;refine h G j i H fa _ _ B E u λvs I C A s r n1 n2 l q=>⟨by rw[r.length,l];exact jC (rc v),λx d=>?_⟩
 refine k _ _ (.lst C) (x::A) (s.trans (e9.i6 d)) (.lst g6 (r.same (e9.i6 d))) ⟨List.nodup_cons.mpr ⟨λz=>?_,n1⟩,λy o=>?_⟩ q
 ·have:=r.dC x z;rw[d] at this;exact this
 ·rcases List.mem_cons.mp o with z | z
  ·rw[z];exact s.free d
  ·exact n2 y z
theorem i3{d:X1}{l}(h:BP X cl es d)(v:Nat.ble es.length 1000=true):PU X cl (.Tuple es l pos) .fresh (p5 d):=.of<|by
 obtain⟨t,p,h⟩:=h.run;refine⟨_,sR p,λG j i H fa Q R y E u k=>?_⟩;refine h G j i H fa _ _ y E u λvs B z A s r n1 n2 o q=>⟨by rw[r.length,o];exact jC (rc v),λx g=>?_⟩
 exact k _ _ (.tup z) A (s.trans (e9.i6 g)) (.tup g6 (r.same (e9.i6 g))) ⟨n1,n2⟩ q
def Call3(X:Cx)(r:List V->Hp->VK->Prop)(g:List D->(D->Prop)->Prop):Prop:=∀(H:Hp) (vs:List V) (h:List D) (A:GG) (Q:D->Prop) (R:VK),i5 X.K H vs h A->g h Q ->
 (∀x d y C,e9 H d->Rep X.K d x y C->C.Nodup->(∀a∈C,H a=none)->Q y->R x d)->r vs H R
def C4(g:List D->(D->Prop)->Prop)(h:X1):TU:=λd Q=>h d λi=>g i Q
theorem Ec{d:X1}{r:List V->Hp->VK->Prop}{g:List D->(D->Prop)->Prop}(o:Call3 X r g)(h:vm X cl es d)(mk:∀{t},PA X es t->PE X e (Dl r t)):PU X cl e .fresh (C4 g d):=.of<|by
 obtain⟨t,p,h⟩:=h.run;refine⟨_,mk p,λG j i H fa Q R I E z k=>?_⟩;refine h G j i H fa _ _ I E z λvs O J A s r S q=>?_;exact o O vs J A Q R r q λx M y C l u n1 n2 v=>k x M y C (s.trans l) u ⟨n1,λa B=>s.free (n2 a B)⟩ v
section
variable{id T:String}{r:List V->Hp->VK->Prop}{g:List D->(D->Prop)->Prop}{x:Str}{p:Pos}{us:X1}
theorem e7 (v:C5 X (.builtin id) r) (o:Call3 X r g) (q:Gl X x) (l:X.mg x=none) (i:bootBuiltins x=some (.builtin id)) (y:vm X cl (e::es) us) (j:x ≠ "__name__":=by decide) (hd:(x == ("__debug__" : Str))=false:=by decide)
  (u:starEach (e::es) X.env=(false,eval e X.env)::starEach es X.env:=by rfl) (d:(backTo pos (starEach es X.env)).any (·.1)=false:=by rfl):PU X cl (.Call (.Name x p) (e::es) [] pos) .fresh (C4 g us):=
 Ec o y λh=>cD v q l i h j hd u d
theorem U1 (v:C5 X (.type T) r) (o:Call3 X r g) (q:Gl X x) (l:X.mg x=none) (i:bootBuiltins x=some (.type T)) (y:vm X cl (e::es) us) (j:x ≠ "__name__":=by decide) (hd:(x == ("__debug__" : Str))=false:=by decide)
  (u:starEach (e::es) X.env=(false,eval e X.env)::starEach es X.env:=by rfl) (d:(backTo pos (starEach es X.env)).any (·.1)=false:=by rfl):PU X cl (.Call (.Name x p) (e::es) [] pos) .fresh (C4 g us):=
 Ec o y λh=>pT v q l i h j hd u d
end
theorem i5.one{K:GR}{H:Hp}{vs:List V}{d:D}{A:GG}(r:i5 K H vs [d] A):∃v,vs=[v]/\Rep K H v d A:=by
 cases r with
 | cons h t=>cases t;exact⟨_,rfl,by rw[n4];exact h⟩
theorem i5.two{K:GR}{H:Hp}{vs:List V}{d e:D}{A:GG}(r:i5 K H vs [d,e] A):∃v w B C,vs=[v,w]/\Rep K H v d B/\Rep K H w e C/\A=B++C:=by
 cases r with
 | cons h t=>
  cases t with
  | cons i g=>cases g;exact⟨_,_,_,_,rfl,h,i,by rw[n4]⟩
theorem D4{K:GR}{H:Hp}{v:V}{xs:List D}{A:GG}(h:Rep K H v (.lst xs) A):∃p vs B,v=.ref p/\H p=some (.lst vs)/\i5 K H vs xs B/\A=p::B:=by
 cases h with
 | lst h r=>exact⟨_,_,_,rfl,h,r,rfl⟩
theorem cX{K:GR}{H:Hp}{v:V}{xs:List D}{A:GG}(h:Rep K H v (.fz xs) A):∃p vs,v=.ref p/\Ax K H p vs/\i5 K H vs xs A:=by
 cases h with
 | frz h r=>exact⟨_,_,rfl,h,r⟩
theorem A4{K:GR}{H:Hp}{v:V}{xs:List D}{A:GG}(h:Rep K H v (.tup xs) A):∃p vs,v=.ref p/\H p=some (.tup vs)/\i5 K H vs xs A:=by
 cases h with
 | tup h r=>exact⟨_,_,rfl,h,r⟩
def G7:List D->(D->Prop)->Prop
 | [.lst d],Q=>Q (.int d.length)
 | [.tup d],Q=>Q (.int d.length)
 | [.fz d],Q=>Q (.int d.length)
 | [.str z],Q=>z.length<=sizeLine/\Q (.int z.length)
 | _,_=>False
theorem y7:Call3 X (λxs H Q=>∃x n,xs=[x]/\Ad X.K x H n/\Q (.int n) H) G7:=by
 intro H vs C A Q R r q k;have i:∀{n:Nat},Q (.int n)->R (.int n) H:=λq=>k _ H _ _ (e9.refl H) .int lc (λ_ h=>(by cases h)) q
 have sq:∀{d:D} {xs:List D},C=[d]->oU d=some xs->Q (.int xs.length)->∃x n,vs=[x]/\Ad X.K x H n/\R (.int n) H:=λ{d xs} z y u=>by
  subst z;obtain⟨v,rfl,j⟩:=r.one;obtain⟨p,l,B,rfl,g,o,_⟩:=bJ j y;refine⟨_,l.length,rfl,?_,i (by rw[o.length];exact u)⟩;rcases g with g | g
  ·exact .inl ⟨_,g,rfl⟩
  ·exact .inr ⟨_,g,rfl⟩
 unfold G7 at q;split at q
 ·exact sq rfl rfl q
 ·exact sq rfl rfl q
 ·exact sq rfl rfl q
 ·obtain⟨v,rfl,j⟩:=r.one;cases D3 j;exact⟨_,_,rfl,⟨q.1,rfl⟩,i q.2⟩
 ·exact q.elim
def yb:List D->(D->Prop)->Prop:=λh Q=>∃d g,h=[d]/\oU d=some g/\o6 g=true/\Q (.lst g)
theorem Ac:Call3 X (λxs H Q=>∃p g,xs=[.ref p]/\(G1 X.K H p g\/G8 X.K H p g)/\∀l,H l=none->Q (.ref l) (upd H l (.lst g))) yb:=by
 intro H vs z A Q R r q k;obtain⟨d,xs,rfl,e,im,q⟩:=q;obtain⟨v,rfl,o⟩:=r.one;obtain⟨p,j,B,rfl,u,i,_⟩:=bJ o e;have y:=i.C3 im;subst y;refine⟨p,j,rfl,u,λl h=>k _ _ (.lst xs) [l] (e9.i6 h) (.lst g6 (i.same (e9.i6 h))) (by simp) (λa x=>?_) q⟩;have:a=l:=by simpa using x
 rw[this];exact h
def lx:List D->(D->Prop)->Prop:=λh Q=>∃d g,h=[d]/\oU d=some g/\o6 g=true/\Q (.tup g)
theorem oq:Call3 X (λxs H Q=>∃p h,xs=[.ref p]/\((G1 X.K H p h/\∀l,H l=none->Q (.ref l) (upd H l (.tup h)))\/(G8 X.K H p h/\Q (.ref p) H))) lx:=by
 intro H vs z A Q R r q k;obtain⟨d,xs,rfl,e,im,q⟩:=q;obtain⟨v,rfl,y⟩:=r.one
 cases d with
 | lst h=>
  cases e;obtain⟨p,x,B,rfl,i,g,_⟩:=D4 y;have u:=g.C3 im;subst u;exact⟨p,x,rfl,.inl ⟨G1.of i,λl j=>k _ _ (.tup xs) [] (e9.i6 j) (.tup g6 (g.same (e9.i6 j))) lc (λa o=>(by cases o)) q⟩⟩
 | fz h=>
  cases e;obtain⟨p,x,rfl,i,g⟩:=cX y;have u:=g.C3 im;subst u;exact⟨p,x,rfl,.inl ⟨i.sq,λl j=>k _ _ (.tup xs) [] (e9.i6 j) (.tup g6 (g.same (e9.i6 j))) lc (λa o=>(by cases o)) q⟩⟩
 | tup h=>
  cases e;obtain⟨p,x,rfl,i,g⟩:=A4 y;have u:=g.C3 im;subst u;exact⟨_,_,rfl,.inr ⟨G8.of i,k _ H (.tup xs) [] (e9.refl H) y lc (λa o=>(by cases o)) q⟩⟩
 | _=>cases e
def Dq(g:Int->Int->Int):List D->(D->Prop)->Prop
 | [.int i,.int j],Q=>Q (.int (g i j))
 | _,_=>False
theorem Dg{g:Int->Int->Int}:Call3 X (λxs H Q=>∃i j,xs=[.int i,.int j]/\Q (.int (g i j)) H) (Dq g):=by
 intro H vs o A Q R r q k;unfold Dq at q;split at q
 ·obtain⟨v,w,B,C,rfl,l,d,_⟩:=r.two;cases v9 l;cases v9 d;exact⟨_,_,rfl,k _ H _ _ (e9.refl H) .int lc (λ_ h=>(by cases h)) q⟩
 ·exact q.elim
end
structure Br(b:Bool)(P Q:Prop):Prop where
 t:b=true->P
 f:b=false->Q
theorem Br.yes{b:Bool}{P Q:Prop}(h:b=true)(p:P):Br b P Q:=⟨λ_=>p,λe=>by rw[h] at e;cases e⟩
theorem Br.no{b:Bool}{P Q:Prop}(h:b=false)(p:Q):Br b P Q:=⟨λe=>(by rw[h] at e;cases e),λ_=>p⟩
abbrev aJ:=Ev->(Bool->Prop)->Prop
section
variable{X:Cx}{cl:List Cl}{e a b c:Expr}{es:GJ}{f:Fl}{pos:Pos}{ua ub uc:TU}{fa fb fc:Fl}
def uT(u:TU):aJ:=λg Q=>u g λd=>match d with
 | .bl k=>Q k
 | _=>False
theorem S4{r:R2}{i:CmpOp}{g:D->D->(D->Prop)->Prop}(T:E7 X (compareOp i) r)(o:X0 X r g)(ha:PU X cl a fa ua)(Y:PU X cl b fb ub)(U:behindInMarks i b=false):B3 X cl (.Compare a [i] [b] pos) (uT (t8 g ua ub)):=.of<|by
 obtain⟨ta,tb,O,M,h⟩:=u2 ha Y;refine⟨_,xl T O M U,λG p l H fo Q R hG E S k=>?_⟩;refine h G p l H fo (λd e=>g d e λd=>match d with | .bl k=>Q k | _=>False) _ hG E S λv w H' d e A B s J I _ _ q=>?_;refine o H' v w d e A B _ _ J I q λx H2 y C u z n1 n2 j=>?_;cases y<;>first | exact(show False from j).elim | skip
 cases J7 z;exact⟨_,rfl,k _ H2 (s.trans u) j⟩
theorem Cg(h:PU X cl a fa ua)(g:PU X cl b fb ub)(d:behindInMarks .Lt b=false):B3 X cl (.Compare a [.Lt] [b] pos) (uT (t8 (vj λi j=>.bl (decide (i<j))) ua ub)):=S4 nr cQ h g d
theorem nc(h:PU X cl a fa ua)(g:PU X cl b fb ub)(d:behindInMarks .Gt b=false):B3 X cl (.Compare a [.Gt] [b] pos) (uT (t8 (vj λi j=>.bl (decide (j<i))) ua ub)):=S4 yt cQ h g d
def E9(g g':D->D->(D->Prop)->Prop)(ua ub uc:TU):TU:=λd Q=>ua d λx=>ub d λy=>g x y λz=>match z with
 | .bl k=>Br k (uc d λw=>g' y w Q) (Q (.bl false))
 | _=>False
theorem Eb{r T:R2}{g g':D->D->(D->Prop)->Prop}(o:X0 X r g)(o':X0 X T g')(O:PU X cl a fa ua)(hb:PU X cl b fb ub)(M:PU X cl c fc uc):∃I z tc,PE X a I/\PE X b z/\PE X c tc/\∀(G:Ent) (i:Ev) (σ:St) (H:Hp) (p:GQ) (Q:D->Prop) (R:VK),G.cl=cl->E3 X.K G i σ H p->E9 g g' ua ub uc i Q ->
  (∀v u d B,e9 H u->Rep X.K u v d B->p3 G H p B .fresh->Q d->R v u)->mF r T I z tc σ H R:=by
 obtain⟨I,z,pa,pb,h⟩:=u2 O hb;obtain⟨tc,pc,M⟩:=M.run;refine⟨I,z,tc,pa,pb,pc,λG i σ H p Q R Y E hu k=>?_⟩;refine h G i σ H p _ _ Y E hu λv w u d e A B s r1 S _ _ q=>?_;refine o u v w d e A B _ _ r1 S q λx H2 y C j r3 n1 n2 l=>?_;cases y<;>first | exact(show False from l).elim | skip
 rename_i U
 cases J7 r3;refine⟨_,rfl,?_⟩;have l:Br U (uc i λw=>g' e w Q) (Q (.bl false)):=l
 cases U with
 | false=>
  rw[ln kt];exact k _ H2 _ [] (s.trans j) .bl (p3.nil _) (l.f rfl)
 | true=>
  rw[l7 rfl];refine M G i σ H2 p _ _ Y (E.same (s.trans j)) (l.t rfl) λw' H3 d' B' J r4 _ q3=>?_;exact o' H3 w w' e d' B B' _ _ (S.same (j.trans J)) r4 q3 λx H4 y C s4 r5 n1 n2 q4=>k x H4 y C (((s.trans j).trans J).trans s4) r5 ⟨n1,λa O=>((s.trans j).trans J).free (n2 a O)⟩ q4
theorem R8{r l:R2}{i d:CmpOp}{g g':D->D->(D->Prop)->Prop}(v:E7 X (compareOp i) r)(j:E7 X (compareOp d) l)(o:X0 X r g)(u:X0 X l g')(B:PU X cl a fa ua)(z:PU X cl b fb ub)(y:PU X cl c fc uc)(x:lastMarks [i,d] [b,c]=false):PU X cl (.Compare a [i,d] [b,c] pos) .fresh (E9 g g' ua ub uc):=.of<|by
 obtain⟨G,E,C,q,p,pc,h⟩:=Eb o u B z y;exact⟨_,tU v j q p pc x,h⟩
theorem Z0{r p:R2}{j i:CmpOp}{g g':D->D->(D->Prop)->Prop}(J:E7 X (compareOp j) r)(l:E7 X (compareOp i) p)(o:X0 X r g)(C:X0 X p g')(T:PU X cl a fa ua)(S:PU X cl b fb ub)(O:PU X cl c fc uc)(M:lastMarks [j,i] [b,c]=false):B3 X cl (.Compare a [j,i] [b,c] pos) (uT (E9 g g' ua ub uc)):=.of<|by
 obtain⟨ta,tb,tc,z,y,pc,h⟩:=Eb o C T S O;refine⟨_,uY J l z y pc M,λG x u H Y Q R U E I k=>h G x u H Y _ _ U E I λv H' d B s r _ q=>?_⟩;cases d<;>first | exact(show False from q).elim | skip
 cases J7 r;exact⟨_,rfl,k _ H' s q⟩
def u7(u:TU):aJ:=λj Q=>u j λd=>match d with
 | .l4=>Q false
 | .bl k=>Q k
 | .int i=>Q (i != 0)
 | .str y=>y.length<=sizeLine/\Q ((y.length:Int) != 0)
 | .lst g=>Q (!g.isEmpty)
 | .tup g=>Q (!g.isEmpty)
 | .fz g=>Q (!g.isEmpty)
 | .dic h=>Q (!h.isEmpty)
 | _=>False
theorem o9.empty{K:GR}{H:Hp}{kvs:List (Key×V)}{d:List (Key×D)}{A:GG}(r:o9 K H kvs d A):kvs.isEmpty=d.isEmpty:=by cases r<;>rfl
theorem i5.empty{K:GR}{H:Hp}{kvs:List V}{d:List D}{A:GG}(r:i5 K H kvs d A):kvs.isEmpty=d.isEmpty:=by cases r<;>rfl
theorem h9(h:PU X cl e f ua)(I:∀g,isTrue e X.env g=(do let v <-g;standAt e.pos;holding [v] (truthy v))):B3 X cl e (u7 ua):=.of<|by
 obtain⟨t,p,h⟩:=h.run;refine⟨_,uL p I,λG y x H M Q R J E C k=>h G y x H M _ _ J E C λv j d B s r _ q=>?_⟩
 cases d with
 | l4=>cases bC r;exact⟨_,rfl,k _ j s q⟩
 | bl i=>cases J7 r;exact⟨_,rfl,k _ j s q⟩
 | int i=>cases v9 r;exact⟨_,rfl,k _ j s q⟩
 | str i=>cases D3 r;exact⟨_,⟨q.1,rfl⟩,k _ j s q.2⟩
 | lst u=>
  obtain⟨p,vs,B,rfl,o,l,_⟩:=D4 r;exact⟨_,.inl ⟨vs,G1.of o,rfl⟩,by rw[l.empty];exact k _ j s q⟩
 | tup u=>
  obtain⟨p,vs,rfl,o,l⟩:=A4 r;exact⟨_,.inr (.inl ⟨vs,G8.of o,rfl⟩),by rw[l.empty];exact k _ j s q⟩
 | fz u=>
  obtain⟨p,vs,rfl,o,l⟩:=cX r;exact⟨_,.inl ⟨vs,o.sq,rfl⟩,by rw[l.empty];exact k _ j s q⟩
 | dic z=>
  cases r with
  | dic o l=>exact⟨_,.inr (.inr ⟨_,.inr ⟨_,o⟩,rfl⟩),by rw[l.empty];exact k _ j s q⟩
 | _=>exact(show False from q).elim
structure R6(X:Cx)(cl:List Cl)(e:Expr)(u:aJ):Prop where
 of ::
 run:∃t,PW X e t/\∀(G:Ent) (ρ:Ev) (σ:St) (H:Hp) (fa:GQ) (Q:Bool->Prop) (R:Bool->Hp->Prop),G.cl=cl->E3 X.K G ρ σ H fa->u ρ Q ->
  (∀b H',e9 H H'->Q b->R b H')->t σ H R
theorem R6.pt{u:aJ}(h:R6 X cl e u):B3 X cl e u:=.of<|let ⟨t,p,h⟩:=h.run;⟨t,PW.pt p,h⟩
def t9(c:aJ):aJ:=λd Q=>c d λk=>Q (!k)
def Bw(c d:aJ):aJ:=λg Q=>c g λk=>Br k (d g Q) (Q false)
def U8(c d:aJ):aJ:=λg Q=>c g λk=>Br k (Q true) (d g Q)
variable{tc td:aJ}{rest:GJ}
theorem j0(h:B3 X cl a tc):B3 X cl (.UnaryOp .Not a pos) (t9 tc):=.of<|by
 obtain⟨t,p,h⟩:=h.run;exact⟨_,zN p,λG g d H l Q R j E i k=>h G g d H l _ _ j E i λb o s q=>k _ o s q⟩
theorem vI(h:B3 X cl a tc):R6 X cl (.BoolOp .And [a] pos) tc:=.of<|let ⟨t,p,h⟩:=h.run;⟨t,vY p,h⟩
theorem p4(h:B3 X cl a tc):R6 X cl (.BoolOp .Or [a] pos) tc:=.of<|let ⟨t,p,h⟩:=h.run;⟨t,AB p,h⟩
theorem zd(h:B3 X cl a tc)(d:R6 X cl (.BoolOp .And (b::rest) pos) td):R6 X cl (.BoolOp .And (a::b::rest) pos) (Bw tc td):=.of<|by
 obtain⟨t,p,h⟩:=h.run;obtain⟨z,v,d⟩:=d.run;refine⟨_,yU p v,λG i g H l Q R j E x k=>h G i g H l _ _ j E x λb o s q=>?_⟩
 cases b with
 | true=>
  rw[l7 rfl];exact d G i g o l Q R j (E.same s) (q.t rfl) λb y r u=>k b y (s.trans r) u
 | false=>rw[ln kt];exact k _ o s (q.f rfl)
theorem p9(h:B3 X cl a tc)(d:R6 X cl (.BoolOp .Or (b::rest) pos) td):R6 X cl (.BoolOp .Or (a::b::rest) pos) (U8 tc td):=.of<|by
 obtain⟨t,p,h⟩:=h.run;obtain⟨z,v,d⟩:=d.run;refine⟨_,Ci p v,λG i g H l Q R j E x k=>h G i g H l _ _ j E x λb o s q=>?_⟩
 cases b with
 | true=>rw[l7 rfl];exact k _ o s (q.t rfl)
 | false=>
  rw[ln kt];exact d G i g o l Q R j (E.same s) (q.f rfl) λb y r u=>k b y (s.trans r) u
def F0(ua ub:TU):TU:=λd Q=>ua d λx=>match x with
 | .bl k=>Br k (ub d Q) (Q (.bl false))
 | _=>False
def Ds(ua ub:TU):TU:=λd Q=>ua d λx=>match x with
 | .bl k=>Br k (Q (.bl true)) (ub d Q)
 | _=>False
def vO(ua:TU):TU:=λd Q=>ua d λx=>match x with
 | .bl k=>Q (.bl (!k))
 | _=>False
theorem v7{d}(h:PU X cl a f ua):PU X cl (.BoolOp d [a] pos) f ua:=.of<|let ⟨t,p,h⟩:=h.run;⟨t,Az p,h⟩
theorem p7(h:PU X cl a fa ua)(i:PU X cl (.BoolOp .And (b::rest) pos) fb ub):PU X cl (.BoolOp .And (a::b::rest) pos) fb (F0 ua ub):=.of<|by
 obtain⟨t,p,h⟩:=h.run;obtain⟨O,C,i⟩:=i.run;refine⟨_,Ab p C,λG g j H o Q R l E I k=>h G g j H o _ _ l E I λv u d B s r _ q=>?_⟩;cases d<;>first | exact(show False from q).elim | skip
 rename_i b
 cases J7 r;refine⟨_,rfl,?_⟩;have q:Br b (ub g Q) (Q (.bl false)):=q
 cases b with
 | true=>
  rw[l7 rfl];exact i G g j u o Q R l (E.same s) (q.t rfl) λv M d B x y J z=>k v M d B (s.trans x) y (J.back s) z
 | false=>rw[ln kt];exact k _ u _ [] s .bl (p3.nil _) (q.f rfl)
theorem yr(h:PU X cl a fa ua)(i:PU X cl (.BoolOp .Or (b::rest) pos) fb ub):PU X cl (.BoolOp .Or (a::b::rest) pos) fb (Ds ua ub):=.of<|by
 obtain⟨t,p,h⟩:=h.run;obtain⟨O,C,i⟩:=i.run;refine⟨_,Cj p C,λG g j H o Q R l E I k=>h G g j H o _ _ l E I λv u d B s r _ q=>?_⟩;cases d<;>first | exact(show False from q).elim | skip
 rename_i b
 cases J7 r;refine⟨_,rfl,?_⟩;have q:Br b (Q (.bl true)) (ub g Q):=q
 cases b with
 | true=>rw[l7 rfl];exact k _ u _ [] s .bl (p3.nil _) (q.t rfl)
 | false=>
  rw[ln kt];exact i G g j u o Q R l (E.same s) (q.f rfl) λv M d B x y J z=>k v M d B (s.trans x) y (J.back s) z
theorem kD(h:PU X cl a fa ua):PU X cl (.UnaryOp .Not a pos) .fresh (vO ua):=.of<|by
 obtain⟨t,p,h⟩:=h.run;refine⟨_,Aw p,λG i g H o Q R l E j k=>h G i g H o _ _ l E j λv u d B s r _ q=>?_⟩;cases d<;>first | exact(show False from q).elim | skip
 cases J7 r;exact⟨_,rfl,k _ u _ [] s .bl (p3.nil _) q⟩
end
structure PN(X:Cx)(cl:List Cl)(e:Expr)(u:TM):Prop where
 of ::
 run:∃t,PE X e t/\∀(G:Ent) (ρ:Ev) (σ:St) (H:Hp) (fa:GQ) (Q:D->Ev->Prop) (R:VK),G.cl=cl->E3 X.K G ρ σ H fa->u ρ Q ->
  (∀v H' d B ρ' fa',E3 X.K G ρ' σ H' fa'->gz X.K G H fa H' fa'->Rep X.K H' v d B->(∀i,G.own i->∀a∈B,a∉fa' i)->Q d ρ'->R v H')->t σ H R
section
variable{X:Cx}{cl:List Cl}{e a b c:Expr}{es:GJ}{f:Fl}{pos:Pos}{ua ub uc:TU}{fa fb fc:Fl}{ma mb:TM}
def mP(u:TU):TM:=λg Q=>u g λd=>Q d g
theorem PU.m(h:PU X cl e .fresh ua):PM X cl e (mP ua):=.of<|by
 obtain⟨t,p,h⟩:=h.run;exact⟨t,p,λG g o H l Q R y E u k=>h G g o H l _ _ y E u λv C d B s r f q=>k v C d B g l (E.same s) (gz.same s) r f.1 (λx j=>⟨f.2 x j,λi z=>E.there i z (f.2 x j)⟩) q⟩
theorem PU.n(h:PU X cl e f ua)(o:aK f .stab=true):PN X cl e (mP ua):=.of<|by
 obtain⟨t,p,h⟩:=h.run;exact⟨t,p,λG g j H i Q R u E l k=>h G g j H i _ _ u E l λv x d B s r f q=>k v x d B g i (E.same s) (gz.same s) r (f.weak E o) q⟩
theorem PM.n(h:PM X cl e ma):PN X cl e ma:=.of<|by
 obtain⟨t,p,h⟩:=h.run;exact⟨t,p,λG o l H z Q R y E u k=>h G o l H z _ _ y E u λv C d B g j I c r n1 n2 q=>k v C d B g j I c r (λi _ a x=>(n2 a x).2 i) q⟩
def DD(u:TM):TM:=λh Q=>u h λd g=>y4 d=true/\Q d g
theorem PN.y4(h:PN X cl e ma):PM X cl e (DD ma):=.of<|by
 obtain⟨t,p,h⟩:=h.run;refine⟨t,p,λG l j H y Q R x E o k=>h G l j H y _ _ x E o λv z d B g i C c r n q=>?_⟩;have e:=r.C3 q.1;subst e;exact k v z d [] g i C c r lc (λa u=>(by cases u)) q.2
theorem zE{v w:V}{H:Hp}{d e:D}{A B:GG}{Q:D->Prop}{R:VK}(y:Rep X.K H v d A)(u:Rep X.K H w e B)(q:Ek d e Q)(k:∀x z C,Rep X.K H x z C->C.Sublist A->Q z->R x H):CG X.K v w H R:=by
 have go:∀{l:List D} {i:Int} {z:D},oU d=some l->e=.int i->L2.Z2 l i=some z->Q z->CG X.K v w H R:=λ{l i z} U T S E=>by
  subst T;cases v9 u;obtain⟨p,vs,C,rfl,j,r,o⟩:=bJ y U;obtain⟨x,M,J,I,G⟩:=r.Z2 S;rcases j with j | j
  ·exact .inl ⟨p,vs,i,x,rfl,rfl,j,J,k x z M I (G.trans o) E⟩
  ·exact .inr (.inl ⟨p,vs,i,x,rfl,rfl,j,J,k x z M I (G.trans o) E⟩)
 cases d<;>cases e<;>first | exact(show False from q).elim | skip
 ·obtain⟨O,c,h,g⟩:=q;cases D3 y;cases v9 u;exact .inr (.inr ⟨_,_,c,rfl,rfl,O,h,k _ _ [] .str (Fp _) g⟩)
 ·obtain⟨z,h,g⟩:=q;exact go rfl rfl h g
 ·obtain⟨z,h,g⟩:=q;exact go rfl rfl h g
 ·obtain⟨z,h,g⟩:=q;exact go rfl rfl h g
theorem N4{i:Nat}{g:Ev}{Q:D->Prop}(h:c7 i g Q):∃d,g[i]?=some (some d)/\Q d:=by
 unfold c7 at h;split at h
 ·exact⟨_,by assumption,h⟩
 ·exact h.elim
abbrev xT:=Ev->(Bool->Ev->Prop)->Prop
structure CW(X:Cx)(cl:List Cl)(e:Expr)(u:xT):Prop where
 of ::
 run:∃t,PT X e t/\∀(G:Ent) (ρ:Ev) (σ:St) (H:Hp) (fa:GQ) (Q:Bool->Ev->Prop) (R:Bool->Hp->Prop),G.cl=cl->E3 X.K G ρ σ H fa->u ρ Q ->
  (∀b H' ρ' fa',E3 X.K G ρ' σ H' fa'->gz X.K G H fa H' fa'->Q b ρ'->R b H')->t σ H R
def tP(u:aJ):xT:=λd Q=>u d λb=>Q b d
variable{tc td:aJ}{mc md:xT}{rest:GJ}
theorem B3.m(h:B3 X cl e tc):CW X cl e (tP tc):=.of<|by
 obtain⟨t,p,h⟩:=h.run;exact⟨t,p,λG d i H g Q R l E j k=>h G d i H g _ _ l E j λb o s q=>k b o d g (E.same s) (gz.same s) q⟩
section
variable{id T:String}{r:List V->Hp->VK->Prop}{g:List D->(D->Prop)->Prop}{x:Str}{p:Pos}{ms:TMs}
end
end
end L3
namespace L3
open PySem PySem.Spec L2 PyProof.Rows
abbrev Cp:=List D->(D->Prop)->Prop
def X2(K:GR)(c:Cp):Sp:=λvs H Q _=>∃d A e,i5 K H vs d A/\c d e/\∀r v b B,e r->e9 H b->Rep K b v r B->B.Nodup->(∀a∈B,H a=none)->Q v b
structure CV(P:Program)(w:World)(K:GR)(mg:GN)(base:Heap)(x:Str)(k:Nat)(ps:GH)(sp:Sp)(f:Addr)(fd:FuncData):Prop where
 ok:p6 P w K mg base P6 k f fd ps sp
 mgf:mg x=some (.ref f)
 kp:PySem.W.keepIn K (.ref f)=true
 bd:Binds K fd ps []
section
variable{X:Cx}{cl:List Cl}{e a b:Expr}{es:GJ}{f:Fl}{pos:Pos}{ua:TU}{ma mb:TM}{us:X1}{ms:TMs}{k:Nat}{fn:Addr}{fd:FuncData}{ps:GH}{x:Str}{p:Pos}
def j5(c:Cp)(us:X1):TU:=λd Q=>us d λg=>c g Q
theorem wY {c:Cp} (C:CV X.prog X.w X.K X.mg X.base x k ps (X2 X.K c) fn fd) (M:x5 k X.A) (O:Gl X x) (j:vm X cl (e::es) us) (d:isStar e=false) (i:(x == ("__debug__" : Str))=false:=by decide)
  (g:(backTo pos (starEach es X.env)).any (·.1)=false:=by rfl):PU X cl (.Call (.Name x p) (e::es) [] pos) .fresh (j5 c us):=.of<|by
 obtain⟨t,pt,h⟩:=j.run;refine⟨_,xg C.ok M O C.mgf C.kp C.bd .nil AR pt i (T3 d) g,λG o l H T Q R S E J I=>?_⟩;refine h G o l H T _ _ S E J λvs H1 U A s r n3 q=>?_;rw[n4];exact⟨U,A,Q,r,q,λr v Y B z u y n1 n2=>I v Y r B (s.trans u) y ⟨n1,λa j=>s.free (n2 a j)⟩ z⟩
end
def j3(n:Nat)(ds:List D):Ev:=ds.map some++List.replicate (n-ds.length) none
theorem i5.each{K:GR}{H:Hp}:∀{vs:List V} {ds:List D} {A:GG},i5 K H vs ds A->∃a:Nat->GG,(∀i d,ds[i]?=some d->∃v,vs[i]?=some v/\Rep K H v d (a i))/\∀i,ds.length<=i->a i=[]
 | _,_,_,.nil=>⟨λ_=>[],λi d e=>(by simp at e),λ_ _=>rfl⟩
 | _,_,_,.cons (A:=A) h r=>by
  obtain⟨a,g,c⟩:=r.each;refine⟨λi=>match i with | 0=>A | i+1=>a i,λi d e=>?_,λi b=>?_⟩
  ·cases i with
   | zero=>simp at e;subst e;exact⟨_,rfl,h⟩
   | succ i=>
    obtain⟨v,l,j⟩:=g i d (by simpa using e);exact⟨v,by simpa using l,j⟩
  ·cases i with
   | zero=>simp at b
   | succ i=>exact c i (by simpa using b)
theorem cY{n:Nat}{ds:List D}{i:Nat}{d:D}(h:(j3 n ds)[i]?=some (some d)):ds[i]?=some d:=by
 unfold j3 at h
 by_cases a:i<ds.length
 ·rw[pp (by simpa using a),qq] at h
  cases e:ds[i]? with
  | none=>rw[e] at h;cases h
  | some x=>rw[e] at h;cases h;rfl
 ·rw[sK (by simpa using a),List.getElem?_replicate] at h;split at h<;>cases h
theorem J5{N:GH}{vs:List V}{i:Nat}{v:V}(h:vs[i]?=some v):(L2.start N vs)[i]?=some (some v):=by
 unfold L2.start;have a:=(List.getElem?_eq_some_iff.mp h).1;rw[pp (by simpa using a),qq,h];rfl
theorem bT{N:GH}{ds:List D}{vs:List V}(h:ds.length=vs.length):(j3 N.length ds).length=(L2.start N vs).length:=by
 unfold j3 L2.start;simp[h]
theorem fB{n:Nat}{ds:List D}{i:Nat}{d:D}(h:ds[i]?=some d):(j3 n ds)[i]?=some (some d):=by
 unfold j3;have a:=(List.getElem?_eq_some_iff.mp h).1;rw[pp (by simpa using a),qq,h];rfl
section
variable{P:Program}{w:World}{K:GR}{mg:GN}{base:Heap}
def Aa:List Cl->Bool
 | []=>true
 | .mk _::_=>false
 | _::r=>Aa r
theorem js:∀{cl:List Cl} {j:Nat} {a:Hp},Aa cl=true->cl[j]?=some (.mk a)->False
 | [],j,_,_,e=>by cases j<;>cases e
 | c::r,0,a,h,e=>by
  cases e;cases h
 | c::r,j+1,a,h,e=>by
  rw[wh] at e;cases c<;>first | cases h | exact js (cl:=r) h e
def noOwn:List Cl->Nat->Bool
 | cl,0=>Aa cl
 | .bor::r,n+1=>noOwn r n
 | _,_=>false
theorem aB:∀{cl:List Cl} {n i:Nat},noOwn cl n=true->i<n->cl[i]?=some .bor
 | _,0,i,_,h=>by omega
 | .bor::r,n+1,0,h,_=>rfl
 | .bor::r,n+1,i+1,h,a=>by
  rw[wh];exact aB (cl:=r) (n:=n) (i:=i) h (by omega)
 | [],n+1,i,h,_=>by cases h
 | .own::r,n+1,i,h,_=>by cases h
 | .loc::r,n+1,i,h,_=>by cases h
 | .mk _::r,n+1,i,h,_=>by cases h
theorem cS:∀{cl:List Cl} {n j:Nat} {a:Hp},noOwn cl n=true->cl[j]?=some (.mk a)->False
 | cl,0,j,_,h,e=>by
  rw[noOwn] at h;exact js h e
 | .bor::r,n+1,0,_,h,e=>by cases e
 | .bor::r,n+1,j+1,_,h,e=>cS (cl:=r) (n:=n) (show noOwn r n=true from h) (by rw[wh] at e;exact e)
 | [],n+1,j,_,h,_=>by cases h
 | .own::r,n+1,j,_,h,_=>by cases h
 | .loc::r,n+1,j,_,h,_=>by cases h
 | .mk _::r,n+1,j,_,h,_=>by cases h
theorem bF{x l:Str}{st:Stmt}{f:Addr}{fd:FuncData}{N ps:GH}{k:Nat}{c:Cp}{s:i7}{cl:List Cl}(F:T2 K x l st f fd)(S:j1 N ps (e6 st))(Y:noOwn cl ps.length=true)
  (hl:∀ds Q,c ds Q->ds.length=ps.length)
  (hb:∀(y:Value) (A:Around) (outer:List Env) (s0:Shared) (H:Hp) (E:XK),x5 k (A.deeper (envOfC l (e6 st) s0.heap.objs.size f y))->gb (ar P6 P w K mg base N l (e6 st) f y A outer s0 H E).AJ cl (x9 st) s)
  (hc:∀ds Q,c ds Q->s { nx:=λ_=>Q .l4,rt:=λd _=>Q d } (j3 N.length ds)):p6 P w K mg base P6 (k+1) f fd ps (X2 K c):=by
 refine F.ok S (λvs H Q E h=>?_) (λy A outer s0 H vs Q E hr h=>?_)
 ·obtain⟨ds,A,T,r,q,_⟩:=h;rw[r.length];exact hl ds T q
 ·obtain⟨ds,B,T,r,q,kk⟩:=h;have X:=hl ds T q;obtain⟨t,pt,h⟩:=(hb y A outer s0 H E hr).run;obtain⟨fa,h1,h2⟩:=r.each
  let G:Ent:=⟨H,λ_=>[],vs,cl,λ_=>False,H⟩
  have vl:vs.length=ps.length:=r.length.trans X;have bor:∀i,i<vs.length->cl[i]?=some .bor:=λi b=>aB Y (by omega)
  have g:∀i,i<vs.length->¬G.own i:=λi b z=>by
   have C:cl[i]?=some .own:=z;rw[bor i b] at C;cases C
  have a0:∀i,G.own i->fa i=[]:=λi b=>h2 i (by
   have q1:¬i<vs.length:=λq=>g i q b;have q2:=r.length;omega)
  have E0:E3 K G (j3 N.length ds) (L2.start N vs) H fa:=by
   refine⟨λi d e=>?_,λi e=>h2 i ?_,bT r.length.symm,λi b=>?_,λi j _ b a u=>?_,λi b p=>absurd p (g i b),λi b p=>absurd p (g i b),λi b a u=>?_,λa o h _=>h,V0.refl H,λa z=>z.elim,λa z=>z.elim,λi _ a _ z=>z,⟨λi b p=>absurd p (g i b),λj U e=>(cS Y e).elim⟩⟩
   ·obtain⟨v,e1,r1⟩:=h1 i d (cY e);exact⟨v,J5 e1,r1⟩
   ·by_cases b:i<ds.length
    ·exact absurd (fB (mv b)) (e _)
    ·omega
   ·rw[h2 i (by
     by_cases q:i<ds.length
     ·have q2:=r.length;rcases b with b | b
      ·exact absurd b (g i (by omega))
      ·have C:cl[i]?=some .loc:=b;rw[bor i (by omega)] at C;cases C
     ·omega)];exact lc
   ·rw[a0 i b] at u;cases u
   ·rcases b with b | b
    ·have:¬i<vs.length:=λq=>by
      have C:cl[i]?=some .loc:=b;rw[bor i q] at C;cases C
     rw[h2 i (by have:=r.length;omega)] at u;cases u
    ·rw[a0 i b.1] at u;cases u
  refine⟨t,pt,h G { nx:=λ_=>T .l4,rt:=λd _=>T d } _ _ H fa _ rfl E0 (hc ds T q) ⟨λI U O=>?_,λv U O=>?_,λI U O=>?_,λI U O=>?_⟩⟩
  ·obtain⟨J,R,E',M⟩:=O;exact kk .l4 .l4 U [] M (λa o h=>E'.frm a o h λi b p=>absurd p (g i b)) .l4 lc λa u=>(by cases u)
  ·obtain⟨d,J,I,R,B',E',r',n1,n2,_,M⟩:=O;exact kk d v U B' M (λa o h=>E'.frm a o h λi b p=>absurd p (g i b)) r' n1 n2
  ·obtain⟨J,R,E',M⟩:=O;exact M
  ·obtain⟨J,R,E',M⟩:=O;exact M
end
end L3
namespace L3
open PySem PySem.Spec L2
section
variable{K:GR}{G:Ent}{ρ:Ev}{σ:St}{H:Hp}{fa:GQ}
def lz(G:Ent)(fa:GQ)(B:GG)(i:Nat):Prop:=
 (∀j,j≠i->G.own j->∀a∈B,a∉fa j) /\
 match G.cl[i]? with
 | some .own=>i≠0/\B.Nodup/\(∀a∈B,G.H₀ a=none/\¬G.Z a/\∀j,j≠i->a∉fa j)
 | some .loc=>B.Nodup/\∀a∈B,G.H₀ a=none
 | _=>True
theorem E3.set{v:V}{d:D}{B:GG}{i:Nat}(E:E3 K G ρ σ H fa)(x:i<ρ.length)(r:Rep K H v d B)(h:lz G fa B i):E3 K G (ρ.set i (some d)) (σ.set i (some v)) H (λj=>if j=i then B else fa j):=by
 have I:i<σ.length:=by rw[<-E.len];exact x
 have c:G.own i->i≠0/\B.Nodup/\(∀a∈B,G.H₀ a=none/\¬G.Z a/\∀j,j≠i->a∉fa j):=λo=>by
  have q:=h.2;unfold Ent.own at o;rw[o] at q;exact q
 have p:G.cl[i]?=some .loc->B.Nodup/\∀a∈B,G.H₀ a=none:=λo=>by
  have q:=h.2;rw[o] at q;exact q
 refine⟨λj M e=>?_,λj e=>?_,by simp[E.len],λj b=>?_,λj l n b a g=>?_,λj b u=>?_,λj b u a g=>?_,λj b a g=>?_,E.frm,E.stb,E.zk,E.zn,λj b a g=>?_,E.po⟩
 ·by_cases q:j=i
  ·subst q;rw[p0 x] at e;cases e;exact⟨v,p0 I,by rw[l7 rfl];exact r⟩
  ·rw[nA (tt q)] at e;obtain⟨w,J,C⟩:=E.rep j M e;exact⟨w,by rw[nA (tt q)];exact J,by rw[ln q];exact C⟩
 ·by_cases q:j=i
  ·subst q;exact absurd (p0 x) (e d)
  ·rw[ln q];exact E.emp j λd z=>e d (by rw[nA (tt q)];exact z)
 ·by_cases q:j=i
  ·subst q;rw[l7 rfl];rcases b with b | b
   ·exact(c b).2.1
   ·exact(p b).1
  ·rw[ln q];exact E.nd j b
 ·by_cases q:j=i
  ·subst q;rw[l7 rfl] at g;rw[ln (tt n)];exact((c b).2.2 a g).2.2 l (tt n)
  ·rw[ln q] at g
   by_cases y:l=i
   ·subst y;rw[l7 rfl];exactλz=>h.1 j q b a z g
   ·rw[ln y];exact E.dj j l n b a g
 ·have q:j≠i:=λe=>(c (e▸u)).1 (e▸E.po.one j b u);rw[nA (tt q)];exact E.par j b u
 ·have q:j≠i:=λe=>(c (e▸u)).1 (e▸E.po.one j b u);rw[ln q] at g;exact E.old j b u a g
 ·by_cases q:j=i
  ·subst q;rw[l7 rfl] at g;rcases b with b | b
   ·exact(p b).2 a g
   ·exact((c b.1).2.2 a g).1
  ·rw[ln q] at g;exact E.new j b a g
 ·by_cases q:j=i
  ·subst q;rw[l7 rfl] at g;exact((c b).2.2 a g).2.1
  ·rw[ln q] at g;exact E.zo j b a g
def wq(c:Option Cl)(f:Fl)(i:Nat):Bool:=match c,f with
 | some .own,.fresh=>decide (i≠0)
 | some .own,_=>false
 | some .loc,.fresh=>true
 | some .loc,.locl=>true
 | some .loc,_=>false
 | _,.any=>false
 | _,_=>true
theorem E3.tX(E:E3 K G ρ σ H fa){a:Addr}(h:H a=none):¬G.Z a:=λz=>by
 have q:=E.zk a z;rw[h] at q;exact E.zn a z q.symm
theorem lz.of(E:E3 K G ρ σ H fa){B:GG}{f:Fl}{i:Nat}(h:p3 G H fa B f)(b:wq G.cl[i]? f i=true):lz G fa B i:=by
 have st:f≠.any->p3 G H fa B .stab:=λn=>h.weak E (by cases f<;>first | rfl | exact absurd rfl n)
 have l:f≠.any:=λe=>by
  subst e;generalize G.cl[i]?=c at b
  cases c with
  | none=>cases b
  | some c=>cases c<;>cases b
 refine⟨λj _ o a d=>st l j o a d,?_⟩
 cases e:G.cl[i]? with
 | none=>trivial
 | some c=>
  rw[e] at b
  cases c with
  | own=>
   cases f with
   | fresh=>exact⟨n7 b,h.1,λa d=>⟨E.stb.dom a (h.2 a d),E.tX (h.2 a d),λj _ z=>E.there j z (h.2 a d)⟩⟩
   | _=>cases b
  | loc=>
   have q:=h.weak E (g:=.locl) (by cases f<;>first | rfl | cases b);exact⟨q.2.2,q.2.1⟩
  | bor=>trivial
  | mk _=>trivial
theorem lz.new(E:E3 K G ρ σ H fa){l:Hp}{h:GQ}{g:Ev}{d:St}(E0:E3 K G g d l h){B:GG}{i:Nat}(n1:B.Nodup)(n2:∀a∈B,l a=none/\∀j,a∉fa j)(o:G.cl[i]?≠some .own\/i≠0):lz G fa B i:=by
 refine⟨λj _ p a b=>(n2 a b).2 j,?_⟩
 cases e:G.cl[i]? with
 | none=>trivial
 | some c=>
  cases c with
  | own=>exact⟨o.resolve_left (λz=>z e),n1,λa b=>⟨E0.stb.dom a (n2 a b).1,E0.tX (n2 a b).1,λj _=>(n2 a b).2 j⟩⟩
  | loc=>exact⟨n1,λa b=>E0.stb.dom a (n2 a b).1⟩
  | bor=>trivial
  | mk _=>trivial
end
section
variable{X:Cx}{cl:List Cl}{e a b:Expr}{es:GJ}{f:Fl}{pos pos':Pos}{ua ub:TU}{ma mb:TM}{x:Str}{i:Nat}{st:Stmt}{sts:GO}{s s2:i7}
def n9:i7:=λT c=>T.nx c
def i9(s u:i7):i7:=λT c=>s { nx:=u T,rt:=T.rt,bk:=T.bk,ct:=T.ct } c
theorem o4:gb X cl [] n9:=.of ⟨_,mR,λG T d c H g R j E h le=>le.nx c H ⟨d,g,E,h⟩⟩
theorem u3(j:M4 X cl st s)(g:gb X cl sts s2):gb X cl (st::sts) (i9 s s2):=.of<|by
 obtain⟨I,v,j⟩:=j.run;obtain⟨C,u,g⟩:=g.run;refine⟨_,cR v u,λG T r p H y R o E h le=>?_⟩;refine j G _ r p H y _ o E h ⟨λc z q=>?_,le.rt,le.bk,le.ct⟩;obtain⟨d,l,B,q⟩:=q;exact g G T d c z l R o B q le
theorem cg(c:M4 X cl st s):gb X cl [st] s:=.of<|let ⟨g,d,c⟩:=c.run;⟨_,xj d,c⟩
def G3(i:Nat)(u:TU):i7:=λT c=>u c λd=>Nat.blt i c.length=true/\T.nx (c.set i (some d))
theorem BS(J:X.N.Nodup)(y:X.N[i]?=some x)(l:Loc X.env.scope x)(C:PU X cl e f ua)(I:wq cl[i]? f i=true)(u:swapsWith e (some (.Name x pos')) pos.line X.env=pure false:=by rfl)(z:X.fn x=true\/X.env.scope.names.lookup x=some .local:=by first | exact .inl rfl | exact .inr rfl | assumption) :
  M4 X cl (.Assign [.Name x pos'] e pos) (G3 i ua):=.of<|by
 obtain⟨t,p,h⟩:=C.run;refine⟨_,zM J y l p u z,λG T j g H O R c E o le=>?_⟩;refine h G j g H O _ _ c E o λv Q d B s r M q=>?_;exact le.nx _ _ ⟨_,_,(E.same s).set (rc q.1) r (lz.of E M (by rw[c];exact I)),q.2⟩
def N8(c:xT)(s u:i7):i7:=λT g=>c g λk d=>Br k (s T d) (u T d)
theorem u9{c:Expr}{A B:GO}{o:xT}(j:CW X cl c o)(J:gb X cl A s)(I:gb X cl B s2):M4 X cl (.If c A B pos) (N8 o s s2):=.of<|by
 obtain⟨t,p,j⟩:=j.run;obtain⟨U,z,O⟩:=J.run;obtain⟨S,y,M⟩:=I.run;refine⟨_,Bm p z y,λG T v h H Q R l E C le=>j G v h H Q _ _ l E C λb r d g u c q=>?_⟩
 cases b with
 | true=>rw[l7 rfl];exact O G T d h r g R l u (q.t rfl) le
 | false=>rw[ln kt];exact M G T d h r g R l u (q.f rfl) le
def l8(u:TU):i7:=λT c=>u c λd=>T.rt d c
theorem i8(z:PU X cl e f ua)(y:aK f .locl=true):M4 X cl (.Return (some e) pos) (l8 ua):=.of<|by
 obtain⟨t,p,h⟩:=z.run;refine⟨_,uQ p,λG T j g H l R I E o le=>h G j g H l _ _ I E o λv M d B s r J q=>?_⟩;have c:=J.weak E y;exact le.rt v M ⟨d,j,g,l,B,E.same s,r,c.2.2,c.2.1,λi _ u a C=>c.1 i u a C,q⟩
theorem zF(i:Nat){c:Pos}(h:PE X (.Name x c) (Q6 i))(g:i≠0)(I:cl[i]?=some .own):M4 X cl (.Return (some (.Name x c)) pos) (l8 (c7 i)):=.of<|by
 refine⟨_,uQ h,λG T u p H l R M E y le=>?_⟩;obtain⟨d,e,q⟩:=N4 y;obtain⟨v,O,r⟩:=E.rep i d e;have o:G.own i:=by unfold Ent.own;rw[M];exact I
 refine⟨v,O,le.rt v H ⟨d,u,p,l,l i,E,r,E.nd i (.inl o),E.new i (.inr ⟨o,λz=>g (E.po.one i z o)⟩),λj C B a J z=>?_,q⟩⟩;exact E.dj i j (λe=>g (e▸E.po.one j C B)) o a J z
def ym(u:TM):i7:=λT d=>u d λ_ c=>T.nx c
theorem Av(z:PN X cl e ma)(y:swapsWith e none pos.line X.env=pure false:=by rfl):M4 X cl (.Expr e pos) (ym ma):=.of<|by
 obtain⟨t,p,h⟩:=z.run;refine⟨_,xh p y,λG T o l H I R C E u le=>h G o l H I _ _ C E u λv M d B g j J c r n q=>?_⟩;exact le.nx _ _ ⟨g,j,J,q⟩
end
section
variable{K:GR}{G:Ent}{ρ:Ev}{σ:St}{H H1 H2:Hp}{fa fa1:GQ}
theorem E3.put{i:Nat}{v:V}{d:D}{p:Addr}{A:GG}(E:E3 K G ρ σ H1 fa1)(o:G.own i)(M:i<ρ.length)(T:σ[i]?=some (some v))(x:p∈fa1 i)(k:∀a,a≠p->H2 a=H1 a)(I:H2 p≠none)
  (r:Rep K H2 v d A) (n1:A.Nodup) (n2:∀a∈A,a∈fa1 i\/(G.H₀ a=none/\¬G.Z a/\∀j,a∉fa1 j)):E3 K G (ρ.set i (some d)) σ H2 (λj=>if j=i then A else fa1 j):=by
 have B:=E.dC i p x
 have stb:V0 H1 H2:=⟨λb Y h=>by
   by_cases e:b=p
   ·subst e;rw[h] at B;exact B.elim
   ·rw[k b e];exact h,λb u w h=>by
   by_cases e:b=p
   ·subst e;rw[h] at B;exact B.elim
   ·rw[k b e];exact h,λb h=>by
   by_cases e:b=p
   ·subst e;exact absurd h I
   ·rw[k b e] at h;exact h⟩
 have S:∀j,j≠i->p∉fa1 j:=λj n z=>E.dj i j (tt n) o p x z;have hs:i<σ.length:=by rw[<-E.len];exact M
 refine⟨λj X e=>?_,λj e=>?_,by simp[E.len],λj g=>?_,λj l n g a c=>?_,E.par,λj g Q a c=>?_,λj g a c=>?_,λa u h n=>?_,E.stb.trans stb,λa z=>?_,E.zn,λj g a c=>?_,E.po⟩
 ·by_cases q:j=i
  ·subst q;rw[p0 M] at e;cases e;exact⟨v,T,by rw[l7 rfl];exact r⟩
  ·rw[nA (tt q)] at e;obtain⟨w,U,R⟩:=E.rep j X e;refine⟨w,U,?_⟩;rw[ln q];exact R.mono stb λa c=>k a λe=>S j q (e▸c)
 ·by_cases q:j=i
  ·subst q;exact absurd (p0 M) (e d)
  ·rw[ln q];exact E.emp j λd z=>e d (by rw[nA (tt q)];exact z)
 ·by_cases q:j=i
  ·rw[l7 q];exact n1
  ·rw[ln q];exact E.nd j g
 ·by_cases q:j=i
  ·subst q;rw[l7 rfl] at c;rw[ln (tt n)];rcases n2 a c with y | y
   ·exact E.dj j l n o a y
   ·exact y.2.2 l
  ·rw[ln q] at c
   by_cases O:l=i
   ·subst O;rw[l7 rfl];intro z;rcases n2 a z with y | y
    ·exact E.dj j l q g a c y
    ·exact y.2.2 j c
   ·rw[ln O];exact E.dj j l n g a c
 ·by_cases q:j=i
  ·subst q;rw[l7 rfl] at c;rcases n2 a c with y | y
   ·exact E.old j g Q a y
   ·exact .inr y.1
  ·rw[ln q] at c;exact E.old j g Q a c
 ·by_cases q:j=i
  ·subst q;rw[l7 rfl] at c;rcases n2 a c with y | y
   ·exact E.new j g a y
   ·exact y.1
  ·rw[ln q] at c;exact E.new j g a c
 ·have J:a≠p:=λe=>by
   subst e
   by_cases C:i<G.vs.length
   ·rcases E.old i C o a x with y | y
    ·exact n i C o y
    ·rw[h] at y;cases y
   ·have y:=E.new i (.inr ⟨o,C⟩) a x;rw[h] at y;cases y
  rw[k a J];exact E.frm a u h n
 ·rw[k a (λe=>E.zo i o p x (e▸z))];exact E.zk a z
 ·by_cases q:j=i
  ·subst q;rw[l7 rfl] at c;rcases n2 a c with y | y
   ·exact E.zo j g a y
   ·exact y.2.1
  ·rw[ln q] at c;exact E.zo j g a c
theorem gz.put{i:Nat}{p:Addr}{A:GG}(c:gz K G H fa H1 fa1)(E:E3 K G ρ σ H1 fa1)(o:G.own i)(x:p∈fa1 i)(k:∀a,a≠p->H2 a=H1 a)(r:H2 p≠none)(n2:∀a∈A,a∈fa1 i\/H a=none):gz K G H fa H2 (λj=>if j=i then A else fa1 j):=by
 have g:=E.dC i p x;refine⟨λa u h n=>?_,c.stb.trans ⟨λb z h=>?_,λb u w h=>?_,λb h=>?_⟩,λj d a l=>?_,λj d=>?_⟩
 ·have v:a≠p:=λe=>by
   subst e;rcases c.new i o a x with y | y
   ·exact n i o y
   ·rw[h] at y;cases y
  rw[k a v];exact c.frm a u h n
 ·by_cases e:b=p
  ·subst e;rw[h] at g;exact g.elim
  ·rw[k b e];exact h
 ·by_cases e:b=p
  ·subst e;rw[h] at g;exact g.elim
  ·rw[k b e];exact h
 ·by_cases e:b=p
  ·subst e;exact absurd h r
  ·rw[k b e] at h;exact h
 ·by_cases q:j=i
  ·subst q;rw[l7 rfl] at l;rcases n2 a l with y | y
   ·exact c.new j d a y
   ·exact .inr y
  ·rw[ln q] at l;exact c.new j d a l
 ·exact(ln λe:j=i=>d (by rw[e];exact o)).trans (c.bor j d)
theorem gi{H:Hp}{p:Addr}{o:HO}:∀a,a≠p->upd H p o a=H a:=λa n=>g9 n
end
section
variable{X:Cx}{cl:List Cl}{e a b:Expr}{es:GJ}{f:Fl}{pos pos':Pos}{ua ub:TU}{ma mb:TM}{x:Str}{i:Nat}{st:Stmt}{sts:GO}{s s2:i7}
def BL:D->Bool
 | .lst _=>true
 | _=>false
def An(i:Nat)(d:D)(g:Ev)(Q:Ev->Prop):D->Prop
 | .lst c=>c.length<sizeLine/\Q (g.set i (some (.lst (c++[d]))))
 | _=>False
def BU(i:Nat)(ma:TM):TM:=λg Q=>c7 i g λl=>BL l=true/\ma g λd c=>c7 i c (An i d c (Q .l4))
theorem oN{r:V->List V->Hp->VK->Prop}{j Y:Pos}(i:Nat)(hv:PE X (.Name x Y) (Q6 i))(hi:cl[i]?=some .own)(he:PM X cl e ma)(a2:isStar e=false)
  (mk:∀{t},PA X [e] t->PE X (.Call (.Attribute (.Name x Y) "append" j) [e] [] pos) (El X.K "list" gK (Q6 i) t)):PM X cl (.Call (.Attribute (.Name x Y) "append" j) [e] [] pos) (BU i ma):=.of<|by
 obtain⟨t,p,h⟩:=he.run;refine⟨_,mk (lP p P0 a2),λG ρ σ H fa Q R hG E hu k=>?_⟩;obtain⟨l0,e0,il,hu⟩:=N4 hu;have own:G.own i:=by unfold Ent.own;rw[hG];exact hi
 obtain⟨v,J,r0⟩:=E.rep i l0 e0;cases l0<;>first | cases il | skip
 obtain⟨p,vs,B,rfl,hp,_,_⟩:=D4 r0;refine⟨_,J,.inl ⟨rfl,vs,G1.of hp⟩,h G ρ σ H fa _ _ hG E hu λw H1 d O I M T c1 r1 n1 n2 q=>?_⟩;obtain⟨l1,e1,q⟩:=N4 q;obtain⟨v',o,r2⟩:=T.rep i l1 e1;have ev:v'=.ref p:=by rw[J] at o;cases o;rfl
 subst ev;cases l1<;>first | exact(show False from q).elim | skip
 rename_i U
 obtain⟨p',l,B',ep,C,rs,S⟩:=D4 r2;cases ep;have q:U.length<sizeLine/\Q .l4 (I.set i (some (.lst (U++[d])))):=q;have nd:=T.nd i (.inl own);have pin:p∈M i:=by rw[S];exact lm
 rw[S] at nd;obtain⟨np,a1⟩:=List.nodup_cons.mp nd;have g:p∉O:=λz=>(n2 p z).2 i pin
 have st:V0 H1 (upd H1 p (.lst (l++[w]))):=⟨λb ys h=>by
   by_cases e:b=p
   ·subst e;rw[C] at h;cases h
   ·rw[g9 e];exact h,λb u w' h=>by
   by_cases e:b=p
   ·subst e;rw[C] at h;cases h
   ·rw[g9 e];exact h,λb h=>by
   by_cases e:b=p
   ·subst e;rw[g6] at h;cases h
   ·rw[g9 e] at h;exact h⟩
 have rn:Rep X.K (upd H1 p (.lst (l++[w]))) (.ref p) (.lst (U++[d])) (p::(B'++(O++[]))):=
  .lst g6 ((rs.mono st λa c=>g9 λe=>np (e▸c)).append (.cons (r1.mono st λa c=>g9 λe=>g (e▸c)) .nil))
 rw[n4] at rn
 have n3:∀a∈p::(B'++O),a∈M i\/a∈O:=λa c=>by
  rcases List.mem_cons.mp c with z | z
  ·exact .inl (z▸pin)
  ·rcases List.mem_append.mp z with y | y
   ·exact .inl (by rw[S];exact lf _ y)
   ·exact .inr y
 have a0:(p::(B'++O)).Nodup:=List.nodup_cons.mpr ⟨λz=>(List.mem_append.mp z).elim np g,List.nodup_append.mpr ⟨a1,n1,λa c b hb e=>(n2 b hb).2 i (by rw[S,<-e];exact lf _ c)⟩⟩;have li:i<I.length:=(List.getElem?_eq_some_iff.mp e1).1;refine⟨p,l,w,rfl,rfl,C,by rw[rs.length];exact q.1,?_⟩;refine k .l4 _ .l4 [] _ _ (T.put own li o pin gi (by rw[g6];exactλz=>nomatch z) rn a0 λa c=>(n3 a c).imp id λy=>⟨E.stb.dom a (n2 a y).1,E.tX (n2 a y).1,(n2 a y).2⟩) (c1.put T own pin gi (by rw[g6];exactλz=>nomatch z) λa c=>(n3 a c).imp id λy=>(n2 a y).1) .l4 lc (λa c=>(by cases c)) q.2
end
def dR(K:GR)(J:It)(xs:List D)(C:GG)(H:Hp):Prop:=∀b,Tf H b->(∀a∈C,b a=H a)->∀i,(xs.length=i->J.stop i b) /\
 ∀d,xs[i]?=some d->J.go i b/\∀x c,J.yld i b x c->e9 b c/\∃B,Rep K c x d B/\B.Sublist C
abbrev qQ:=Ev->(List D->Prop)->Prop
abbrev Cq:=Ev->(List D->Ev->Prop)->Prop
structure fq(X:Cx)(cl:List Cl)(tg iter:Expr)(f:Fl)(u:qQ):Prop where
 of ::
 run:∃wi,PI X tg iter wi/\∀(G:Ent) (ρ:Ev) (σ:St) (H:Hp) (fa:GQ) (Q:List D->Prop) (R:It->Hp->Prop),G.cl=cl->E3 X.K G ρ σ H fa->u ρ Q ->
  (∀J H1 xs C,e9 H H1->dR X.K J xs C H1->(∀a∈C,H1 a≠none)->p3 G H fa C f->Q xs->R J H1)->wi σ H R
structure DZ(X:Cx)(cl:List Cl)(tg iter:Expr)(u:Cq):Prop where
 of ::
 run:∃wi,PI X tg iter wi/\∀(G:Ent) (ρ:Ev) (σ:St) (H:Hp) (fa:GQ) (Q:List D->Ev->Prop) (R:It->Hp->Prop),G.cl=cl->E3 X.K G ρ σ H fa->u ρ Q ->
  (∀J H1 xs C ρ1 fa1,E3 X.K G ρ1 σ H1 fa1->gz X.K G H fa H1 fa1->dR X.K J xs C H1->(∀a∈C,H1 a≠none)->(∀i,G.own i->∀a∈C,a∉fa1 i)->Q xs ρ1->R J H1)->wi σ H R
section
variable{X:Cx}{cl:List Cl}{tg e a b:Expr}{es:GJ}{f:Fl}{pos pos':Pos}{ua ub:TU}{ma mb:TM}{x:Str}{i:Nat}
def iP(u:qQ):Cq:=λc Q=>u c λd=>Q d c
theorem fq.m{u:qQ}(h:fq X cl tg e f u)(v:aK f .stab=true):DZ X cl tg e (iP u):=.of<|by
 obtain⟨t,p,h⟩:=h.run;exact⟨t,p,λG c g H d Q R y E r k=>h G c g H d _ _ y E r λJ B j C s o l z q=>k J B j C c d (E.same s) (gz.same s) o l (z.weak E v) q⟩
theorem T9{K:GR}{H c:Hp}{vs:List V}{xs:List D}{C:GG}(r:i5 K H vs xs C)(tf:Tf H c)(k:∀a∈C,c a=H a){i:Nat}{d:D}(e:xs[i]?=some d):∃v B,vs[i]?=some v/\Rep K c v d B/\B.Sublist C:=(r.Y1 tf k).get e
theorem EJ{K:GR}{H:Hp}{p:Addr}{vs:List V}{xs:List D}{C:GG}(h:H p=some (.lst vs))(r:i5 K H vs xs C):dR K (Cw K p) xs (p::C) H:=λo tf k i=>by
 have g:o p=some (.lst vs):=(k p lm).trans h;have z:∀a∈C,o a=H a:=λa G=>k a (lf _ G);refine⟨λE=>⟨vs,G1.of g,by rw[r.length];exact ET E⟩,λd e=>?_⟩;obtain⟨v,B,l,u,q⟩:=T9 r tf z e;refine⟨⟨vs,v,G1.of g,l⟩,λy J c=>?_⟩;obtain⟨I,c⟩:=c;subst I;have j:=c vs (G1.of g);rw[l] at j;cases j;exact⟨e9.refl _,B,u,q.trans (wr _ _)⟩
theorem Er{K:GR}{H:Hp}{p:Addr}{vs:List V}{xs:List D}{C:GG}(h:Ax K H p vs)(r:i5 K H vs xs C):dR K (Cw K p) xs C H:=λE tf k i=>by
 have g:G1 K E p vs:=(tf.DR h).sq;refine⟨λu=>⟨vs,g,by rw[r.length];exact ET u⟩,λd e=>?_⟩;obtain⟨v,B,l,q,o⟩:=T9 r tf k e;refine⟨⟨vs,v,g,l⟩,λy G c=>?_⟩;obtain⟨z,c⟩:=c;subst z;have j:=c vs g;rw[l] at j;cases j;exact⟨e9.refl _,B,q,o⟩
theorem CC{K:GR}{H:Hp}{p:Addr}{vs:List V}{xs:List D}{C:GG}(h:H p=some (.tup vs))(r:i5 K H vs xs C):dR K (Dt K p) xs C H:=λE tf k i=>by
 have g:G8 K E p vs:=G8.of (tf.C0 _ _ h);refine⟨λu=>⟨vs,g,by rw[r.length];exact ET u⟩,λd e=>?_⟩;obtain⟨v,B,l,q,o⟩:=T9 r tf k e;refine⟨⟨vs,v,g,l⟩,λy G c=>?_⟩;obtain⟨z,c⟩:=c;subst z;have j:=c vs g;rw[l] at j;cases j;exact⟨e9.refl _,B,q,o⟩
theorem i5.there{K:GR}{H:Hp}{v:List V}{d:List D}{A:GG}(r:i5 K H v d A):∀x∈A,H x≠none:=λx c z=>by
 have:=r.dC x c;rw[z] at this;exact this
def pk(lo:Int)(n:Nat):List D:=(List.range n).map λ(k:Nat)=>D.int (lo+(k:Int))
theorem itR{K:GR}{H:Hp}(lo:Int)(n:Nat):dR K (CH lo n) (pk lo n) [] H:=λo tf k i=>by
 refine⟨λc=>by unfold pk at c;rw[mo,FN] at c;exact ET c,λd e=>?_⟩;unfold pk at e;rw[qq] at e
 by_cases g:i<n
 ·rw[List.getElem?_range g] at e;cases e;refine⟨g,λy l h=>?_⟩;obtain⟨j,rfl⟩:=h;subst j;exact⟨e9.refl _,[],.int,Fp _⟩
 ·rw[List.getElem?_eq_none (by rw[FN];omega)] at e;cases e
def xR(u:TU):qQ:=λc Q=>u c λd=>match d with
 | .int j=>(-(2^62)<=j/\j<2^62)/\Q (pk 0 j.toNat)
 | _=>False
theorem uE {p:Pos} (J:Gl X "range") (I:X.mg "range"=none) (h:PU X cl e f ua) (c:isStar e=false)
  (mk:∀{t},PA X [e] t->PI X tg (.Call (.Name "range" p) [e] [] pos) (xX t)):fq X cl tg (.Call (.Name "range" p) [e] [] pos) .fresh (xR ua):=.of<|by
 obtain⟨t,pt,h⟩:=h.run;refine⟨_,mk (lP pt P0 c),λG l g H z Q R y E o k=>h G l g H z _ _ y E o λv C d B s r M q=>?_⟩;cases d<;>first | exact(show False from q).elim | skip
 rename_i j
 cases v9 r;have q:(-(2^62)<=j/\j<2^62)/\Q (pk 0 j.toNat):=q;exact⟨j,rfl,q.1.1,q.1.2,k _ C _ [] s (itR 0 _) (λa u=>(by cases u)) (p3.nil _) q.2⟩
def bp:Nat->List D->List D
 | _,[]=>[]
 | k,x::c=>.tup [.int k,x]::bp (k+1) c
theorem N5:∀{xs:List D} {k i:Nat} {d:D},(bp k xs)[i]?=some d->∃x,xs[i]?=some x/\d=.tup [.int ((k+i:Nat):Int),x]
 | [],_,_,_,e=>by simp[bp] at e
 | x::xs,k,0,d,e=>by simp[bp] at e;exact⟨x,rfl,e.symm⟩
 | x::xs,k,i+1,d,e=>by
  rw[bp,wh] at e;obtain⟨y,g,c⟩:=N5 e;exact⟨y,by simpa using g,by rw[c];congr 3;omega⟩
theorem w5:∀{xs:List D} {k:Nat},(bp k xs).length=xs.length
 | [],_=>rfl
 | x::xs,k=>by simp[bp,w5]
def aA:List D->List D->List D
 | x::d,y::c=>.tup [x,y]::aA d c
 | _,_=>[]
theorem cW:∀{xs c:List D} {i:Nat} {d:D},(aA xs c)[i]?=some d->∃x y,xs[i]?=some x/\c[i]?=some y/\d=.tup [x,y]
 | [],c,_,_,e=>by simp[aA] at e
 | x::xs,[],_,_,e=>by simp[aA] at e
 | x::xs,y::c,0,d,e=>by simp[aA] at e;exact⟨x,y,rfl,rfl,e.symm⟩
 | x::xs,y::c,i+1,d,e=>by
  rw[aA,wh] at e;obtain⟨h,g,o,l,j⟩:=cW e;exact⟨h,g,by simpa using o,by simpa using l,j⟩
theorem jT:∀{xs c:List D},(aA xs c).length=min xs.length c.length
 | [],c=>by simp[aA]
 | x::xs,[]=>by simp[aA]
 | x::xs,y::c=>by simp[aA,jT]
def ED(K:GR)(b:Bool)(H:Hp)(p:Addr)(xs:List D)(C:GG):Prop:=∃vs B,i5 K H vs xs B/\B.Sublist C/\∀c,Tf H c->(∀a∈C,c a=H a)->qP b K c p vs
def kindB(b:Bool)(d:D):Option (List D):=match b,d with
 | false,.lst c=>some c
 | false,.fz c=>some c
 | true,.tup c=>some c
 | _,_=>none
theorem uy{K:GR}{H:Hp}{v:V}{d:D}{A:GG}{xs:List D}(r:Rep K H v d A)(b:Bool)(e:kindB b d=some xs):∃p,v=.ref p/\ED K b H p xs A:=by
 cases b with
 | false=>
  cases d<;>first | cases e | skip
  ·obtain⟨p,vs,C,rfl,g,c,rfl⟩:=D4 r;exact⟨p,rfl,vs,C,c,wr _ _,λh tf k=>G1.of ((k p lm).trans g)⟩
  ·obtain⟨p,vs,rfl,g,c⟩:=cX r;exact⟨p,rfl,vs,A,c,v1 _,λh tf k=>(tf.DR g).sq⟩
 | true=>
  cases d<;>first | cases e | skip
  obtain⟨p,vs,rfl,g,c⟩:=A4 r;exact⟨p,rfl,vs,A,c,v1 _,λh tf k=>G8.of (tf.C0 _ _ g)⟩
def Cd(j h:Bool)(ua ub:TU):qQ:=λg Q=>ua g λx=>ub g λy=>∃d c,kindB j x=some d/\kindB h y=some c/\o6 d=true/\o6 c=true/\Q (aA d c)
theorem Bt{p:Pos}{fa fb:Fl}(b1 b2:Bool)(c:PU X cl a fa ua)(hb:PU X cl b fb ub)(g:Fl)(hg:aK .stab g=true)(a1:aK fa g=true)(a0:aK fb g=true)(h1:isStar a=false)(h2:isStar b=false)
  (mk:∀{t},PA X [a,b] t->PI X tg (.Call (.Name "zip" p) [a,b] [] pos) (Cf X.K b1 b2 t)):fq X cl tg (.Call (.Name "zip" p) [a,b] [] pos) g (Cd b1 b2 ua ub):=.of<|by
 obtain⟨ta,pa,c⟩:=c.run;obtain⟨tb,pb,hb⟩:=hb.run;refine⟨_,mk (lP pa (lP pb P0 h2) h1),λG ρ σ H fo Q R hG E hu k=>c G ρ σ H fo _ _ hG E hu λv H1 d A S r1 f1 C=>hb G ρ σ H1 fo _ _ hG (E.same S) C λw H2 e B O r2 f2 u=>?_⟩;obtain⟨xs,ys,e1,e2,i1,i2,q⟩:=u;obtain⟨p1,rfl,vs,B1,l,a5,r⟩:=uy (r1.same O) b1 e1;obtain⟨p2,rfl,I,B2,j,a4,o⟩:=uy r2 b2 e2;have a3:=l.C3 i1;have a2:=j.C3 i2;subst a3;subst a2;refine⟨p1,p2,rfl,⟨vs,r H2 ⟨λ_ _ h=>h,λ_ _ _ h=>h⟩ λ_ _=>rfl⟩,⟨I,o H2 ⟨λ_ _ h=>h,λ_ _ _ h=>h⟩ λ_ _=>rfl⟩,?_⟩;refine k _ H2 (aA xs ys) (A++B) (S.trans O) (λH' tf kk i=>?_) (λx hx=>?_) ?_ q
 ·have C:=r H' tf λa c=>kk a (mr _ c);have u:=o H' tf λa c=>kk a (hH _ c);refine⟨λhl=>⟨vs,I,C,u,by rw[l.length,j.length,<-jT];exact hl.symm⟩,λd e=>?_⟩;obtain⟨x,y,ex,ey,ed⟩:=cW e;obtain⟨M,C1,g1,r3,s3⟩:=T9 l tf (λa c=>(by cases c)) ex;obtain⟨J,C2,g2,r4,s4⟩:=T9 j tf (λa c=>(by cases c)) ey;refine⟨⟨vs,I,M,J,C,u,g1,g2⟩,λz H3 hz=>?_⟩;obtain⟨p',z1,z2,rfl,Y,rfl,U,T⟩:=hz;have e3:=U vs C;have e4:=T I u;rw[g1] at e3;rw[g2] at e4;cases e3;cases e4;have c1:C1=[]:=List.sublist_nil.mp s3;have c2:C2=[]:=List.sublist_nil.mp s4;subst c1;subst c2;refine⟨e9.i6 Y,[],?_,Fp _⟩;rw[ed];have rr:i5 X.K (upd H' p' (.tup [M,J])) [M,J] [x,y] ([]++([]++[])):=.cons (r3.same (e9.i6 Y)) (.cons (r4.same (e9.i6 Y)) .nil);exact .tup g6 rr
 ·rcases List.mem_append.mp hx with z | z
  ·exact(r1.same O).there z
  ·exact r2.there z
 ·have w1:=f1.weak E a1;have w2:=(f2.back S).weak E a0;cases g<;>first | trivial | (cases hg;done) | exactλi hi a c=>(List.mem_append.mp c).elim (w1 i hi a) (w2 i hi a)
end
end L3
namespace L2
open PySem PySem.Spec PyProof.Rows
theorem qp{X:Cx}{N:GH}{scope:Scope}{cap:GC}{a:GG}{pins:GA}{σ:St}{H:Hp}{s:Shared}{Y l a2:Expr}{a6:GJ}{an:Pos}{g:GD->GG->Shared->Hp->TG}{tc:GD->GG->Shared->Hp->TT}{te:GD->GG->Shared->Hp->TE}{J:It}{it:Addr}{tn:Nat->Heap->Prop}
  {E:GP} {RR:Value->Addr->Result->Shared->Prop} {Q:VK} (S:X.calm=true) (cf:E6 X N scope cap) (hk:scope.kind=.function)
  (hg:∀cl a s H,PG (Q2 X N scope cl a s H) l (g cl a s H)) (hc:∀cl a s H,AK (Q2 X N scope cl a s H) a6 (tc cl a s H)) (he:∀cl a s H,PE (Q2 X N scope cl a s H) Y (te cl a s H))
  (I:Inv X pins σ H s) (T:Turn X.prog X.w X.K l J a it tn) (st:tn 0 s.heap) (hf:∀b∈a,K9 X pins H b) (q:∀cl a s z,CO J (g cl a s z) (tc cl a s z) (te cl a s z) (N7 cap σ) Q H)
  (b4:∀d C z s' m,Inv X pins σ z s'->s'.heap.Ns C m->K9 X pins z C->Q (.ref d) z->RR (.ref d) C (.ok .next) s') :
  wpAny (model X.prog X.w) X.A (newList []) (λacc B=>wpAny (model X.prog X.w) X.A (newFunctionEnv scope X.env.globals (v8 X.env scope.names []) [] X.env.qual none .none (some X.env)) (λa3 s4=>
   codeAny (model X.prog X.w) X.A (.compStart (.ListComp Y [⟨l,a2,a6,0⟩] scope an) 0 (.ref it) acc { a3 with scope:=relabel scope X.env }) (RR acc a3.locals) s4) E B) E s:=by
 refine qc (wpAny_newFunctionEnv cf.nocell (by intro y hy;simp at hy) (λh1 ab a7=>?_) hk);have I3:Inv X pins σ (upd H s.heap.objs.size (.lst [])) { s with heap:=s.heap.push { cls:=.type "list",data:=.seq ([]:GI).toArray } }:=I.AX (its:=[]) (t':=s.toks) .nil (vv _);have b3:H s.heap.objs.size=none:=I.fresh;obtain⟨W,⟨m0,w0⟩,a0⟩:=q (v8 X.env scope.names []) a { s with heap:=s.heap.push { cls:=.type "list",data:=.seq ([]:GI).toArray } } (upd H s.heap.objs.size (.lst [])) s.heap.objs.size b3
 have ap:∀b∈a,b<s.heap.objs.size:=λb j=>by
  obtain⟨o,e,_⟩:=T.obj 0 _ st b j;exact hW e
 have ac:∀b∈a,K9 X pins (upd H s.heap.objs.size (.lst [])) b:=λb j=>⟨by rw[g9 (mC (ap b j))];exact(hf b j).1,(hf b j).2⟩
 have R:∀b∈a,b<(s.heap.push { cls:=.type "list",data:=.seq ([]:GI).toArray }).objs.size:=λb j=>by
  rw[ut];exact Nat.lt_succ_of_lt (ap b j)
 dsimp only at ab a7 ⊢;generalize U:({ s with heap:=s.heap.push { cls:=.type "list",data:=.seq ([]:GI).toArray } }:Shared)=B at I3 a0;have G:B.heap=s.heap.push { cls:=.type "list",data:=.seq ([]:GI).toArray }:=by rw[<-U]
 have bg:B.toks=s.toks:=by rw[<-U]
 rw[<-G] at ab a7 R;have O:∀b o,B.heap.get? b=some o->h1.get? b=some o:=λb o e=>a7.extBut b o (mC (hW e)) (cC _ e);have keep:∀b o,s.heap.get? b=some o->h1.get? b=some o:=λb o e=>O b o (by rw[G];exact cC _ e);have Ic:=iH (tk:=s.toks) I3 cf hk ac R ab O;have am:tn 0 h1:=T.keep 0 _ _ st λb _ o e=>keep b o e;have b6:∀b∈a,(upd H s.heap.objs.size (.lst [])) b=none:=λb j=>(ac b j).1
 have M:∀{z:Hp},(∀b∈a,z b=none)->∀b∈a,K9 (Q2 X N scope (v8 X.env scope.names []) a B (upd H s.heap.objs.size (.lst []))) [] z b:=λhn b j=>
  ⟨hn b j,mC (R b j),Ic.ok.exfs b j,.inl j,λx c h=>(hf b j).2.2.2.2.1 x c (S5 h),λp hp=>absurd (show p∈([]:GA) from hp) (by simp)⟩
 have bm:B.os=s.os:=by rw[<-U]
 have bn:B.gens=s.gens:=by rw[<-U]
 have a1:codeAny (model X.prog X.w) X.A (.compLoop (.ListComp Y [⟨l,a2,a6,0⟩] scope an) 0 (.ref it) (.ref s.heap.objs.size) (compEnvC scope (v8 X.env scope.names []) B.heap.objs.size X.env))
   (RR (.ref s.heap.objs.size) B.heap.objs.size) { B with heap:=h1,toks:=s.toks }:=by
  refine fP (λn s'=>∃i z,Inv (Q2 X N scope (v8 X.env scope.names []) a B (upd H s.heap.objs.size (.lst []))) [] (N7 cap σ) z s'/\tn i s'.heap/\(∀b∈a,z b=none)/\W i n z) ?_ m0 ⟨0,_,Ic,am,b6,w0⟩;rintro n s4 ⟨i,H4,I4,al,b1,w4⟩;rcases a0 i n H4 w4 with⟨stop,qn⟩ | ⟨go,step⟩
  ·refine r8 (T.done (Q2 X N scope (v8 X.env scope.names []) a B (upd H s.heap.objs.size (.lst []))) rfl rfl rfl S i [] s4 _ H4 (λ_ _=>False) I4 (M b1) al stop) λr s5 ⟨hr,I5⟩=>?_;subst hr;obtain⟨m,b2,_⟩:=I5.loc;refine b4 _ _ H4 s5 m ?_ b2 (I3.dD (hI _) I5.free) qn;exact I3.ft I5.os I5.base I5.hok I5.bare λb j=>⟨(hf b j).2.2.2.1,(hf b j).2.1,(hf b j).2.2.2.2.1,(hf b j).2.2.2.2.2⟩
  ·refine r8 (T.item (Q2 X N scope (v8 X.env scope.names []) a B (upd H s.heap.objs.size (.lst []))) rfl rfl rfl S i [] s4 _ H4 (λ_ _=>False) I4 (M b1) al go) λr s5 ⟨u,hr,h5⟩=>?_;subst hr;refine r8 h5 λ_ s6 ⟨x,H6,I6,r6,y6,a5,b5⟩=>?_;have b8:=I6.pinned (M b5) (T.obj _ _ a5);refine r8 (hg _ _ _ _ _ s6 _ H6 x u _ b8 r6 (step x H6 y6)) λ_ s7 ⟨a4,H7,I7,q7⟩=>?_;refine r8 (hc _ _ _ _ _ s7 a4 H7 _ I7 q7) λok s8 ⟨H8,I8,q8⟩=>?_
   have again:∀{ad:St} {H9:Hp} {s9:Shared},Inv (Q2 X N scope (v8 X.env scope.names []) a B (upd H s.heap.objs.size (.lst []))) ([]++ag a s6.heap) ad H9 s9->(∃m',m'<n/\W (i+1) m' H9) ->
     ∃m,m<n/\∃i z,Inv (Q2 X N scope (v8 X.env scope.names []) a B (upd H s.heap.objs.size (.lst []))) [] (N7 cap σ) z s9/\tn i s9.heap/\(∀b∈a,z b=none)/\W i m z:=λ{ad H9 s9} I9 ⟨m',hm,w9⟩=>by
    refine⟨m',hm,i+1,H9,eM I3 cf ac I9.R9,T.keep _ _ _ a5 λb j o e=>(I9.pin (b,o) (hH _ (hH _ (C8 j e)))).1,λb j=>?_,w9⟩;obtain⟨o,e,d⟩:=T.obj _ _ a5 b j;exact(I9.pin (b,o) (hH _ (hH _ (C8 j e)))).2.1
   cases ok with
   | false=>exact again I8 q8
   | true=>
    show wpAny _ _ (eval Y _) _ _ s8;refine r8 (he _ _ _ _ _ s8 a4 H8 _ I8 q8) λy s9 ⟨v,H9,I9,r9,acc,b0,ax,m',hm,w9⟩=>?_;refine r8 (eE _ s9 a4 H9 (.ref s.heap.objs.size) [v] (.ref s.heap.objs.size) [y] (λ_ z=>z=upd H9 s.heap.objs.size (.lst (acc++[v]))) I9 rfl (.cons r9 .nil) ⟨_,acc,v,rfl,rfl,b0,ax,rfl⟩) λ_ bi ⟨_,bu,b9,_,b7⟩=>?_;subst b7;exact again b9 ⟨m',hm,w9⟩
 have e4:({ s with heap:=h1,toks:=s.toks+([]:GF).length }:Shared)={ B with heap:=h1,toks:=s.toks }:=by rw[<-U];rfl
 rw[<-G,e4];exact codeAny_compStart_list a1 (T.self _ 0 _ _ _ am a1)
def DJ(cap:GC)(d:TI)(g:GD->GG->Shared->Hp->TG)(tc:GD->GG->Shared->Hp->TT)(te:GD->GG->Shared->Hp->TE):TE:=λc H Q=>d c H λJ e=>∀cl a s b,CO J (g cl a s b) (tc cl a s b) (te cl a s b) (N7 cap c) Q e
theorem zL{X:Cx}{XN N:GH}{XS scope:Scope}{cap:GC}{o a b:Expr}{j:GJ}{r:Pos}{B:TI}{g:GD->GG->Shared->Hp->TG}{tc:GD->GG->Shared->Hp->TT}{te:GD->GG->Shared->Hp->TE}
  (l:eK XN N XS scope cap=true) (hN:X.N=XN) (hS:X.env.scope=XS) (E:scope.kind=.function) (i:X.calm=true) (U:PI X a b B)
  (Y:∀cl c s H,PG (Q2 X N scope cl c s H) a (g cl c s H)) (hc:∀cl c s H,AK (Q2 X N scope cl c s H) j (tc cl c s H)) (he:∀cl c s H,PE (Q2 X N scope cl c s H) o (te cl c s H))
  (R:∀x,foldedSetIterable b X.env x=pure x:=by intro _;rfl):PE X (.ListComp o [⟨a,b,j,0⟩] scope r) (DJ cap B g tc te):=by
 refine .of ?_;intro e s z H Q I h;have u:=aR hN hS l;rw[eval_ListComp];refine wpAny_comprehension_free (use:=none) rfl R (cK (I.Y6 u)) E u.loc (r8 (U e s z H _ I h) λv s1 h1=>r8 h1 λO s2 h2=>?_);obtain⟨it,c,tn,J,H2,rfl,I2,T,p,f2,q⟩:=h2;exact qp (RR:=λy C=>compPost (model X.prog X.w) X.A X.xe none (EP X e z Q) y C) i u E Y hc he I2 T p f2 q λd C H' s' m I' S hC M=>⟨m,S,λh' G=>⟨.ref d,H',I'.yi hC G,rfl,M⟩⟩
end L2
namespace L3
open PySem PySem.Spec L2
abbrev cU:=D->Ev->(Ev->Prop)->Prop
abbrev lO:=List D->Ev->(Ev->Prop)->Prop
structure xV(X:Cx)(cl:List Cl)(tg:Expr)(g:cU):Prop where
 of ::
 run:∃t,PG X tg t/\∀(G:Ent) (ρ:Ev) (σ:St) (H:Hp) (fa:GQ) (v:V) (d:D) (B:GG) (Q:Ev->Prop) (R:St->Hp->Prop),G.cl=cl->E3 X.K G ρ σ H fa->Rep X.K H v d B->(∀i,G.own i->∀a∈B,a∉fa i)->g d ρ Q ->
  (∀σ' ρ' fa',E3 X.K G ρ' σ' H fa'->(∀i,G.own i->fa' i=fa i/\σ'[i]?=σ[i]?)->(∀i,G.own i->ρ'[i]?=ρ[i]?)->Q ρ'->R σ' H)->t v σ H R
structure xx(X:Cx)(cl:List Cl)(tgs:GJ)(g:lO):Prop where
 of ::
 run:∃t,vo X tgs t/\∀(G:Ent) (ρ:Ev) (σ:St) (H:Hp) (fa:GQ) (vs:List V) (ds:List D) (B:GG) (Q:Ev->Prop) (R:St->Hp->Prop),G.cl=cl->E3 X.K G ρ σ H fa->i5 X.K H vs ds B->(∀i,G.own i->∀a∈B,a∉fa i)->g ds ρ Q ->
  (∀σ' ρ' fa',E3 X.K G ρ' σ' H fa'->(∀i,G.own i->fa' i=fa i/\σ'[i]?=σ[i]?)->(∀i,G.own i->ρ'[i]?=ρ[i]?)->Q ρ'->R σ' H)->t vs σ H R
section
variable{X:Cx}{cl:List Cl}{tg e a b:Expr}{es:GJ}{f:Fl}{pos pos':Pos}{ua ub:TU}{ma mb:TM}{x:Str}{i:Nat}
def g1(i:Nat):cU:=λd c Q=>Nat.blt i c.length=true/\Q (c.set i (some d))
theorem zb(h:PG X (.Name x pos) (nY i))(l:cl[i]?=some .bor):xV X cl (.Name x pos) (g1 i):=.of<|by
 refine⟨_,h,λG y u H C v d B Q R p E r n q k=>?_⟩;have g:G.cl[i]?=some .bor:=by rw[p];exact l
 have no:¬G.own i:=λz=>by unfold Ent.own at z;rw[g] at z;cases z
 refine k _ _ _ (E.set (rc q.1) r ⟨λj _ c a o=>n j c a o,by rw[g];trivial⟩) (λj c=>?_) (λj c=>?_) q.2
 ·exact⟨ln λe:j=i=>no (by rw[<-e];exact c),nA λe=>no (by rw[e];exact c)⟩
 ·exact nA λe=>no (by rw[e];exact c)
def L8:lO:=λd c Q=>match d with
 | []=>Q c
 | _=>False
def j6(g:cU)(gs:lO):lO:=λh j Q=>match h with
 | d::h=>g d j λc=>gs h c Q
 | _=>False
theorem O8:xx X cl [] L8:=.of<|by
 refine⟨_,wH,λG d c H g vs h B Q R j E r n q k=>?_⟩
 cases h with
 | cons _ _=>exact(show False from q).elim
 | nil=>
  cases r;exact⟨rfl,k c d g E (λ_ _=>⟨rfl,rfl⟩) (λ_ _=>rfl) q⟩
theorem n6{g:cU}{gs:lO}(C:xV X cl e g)(z:xx X cl es gs)(hs:(assignEach (e::es) X.env).map (·.2)=assign e X.env::(assignEach es X.env).map (·.2):=by rfl):xx X cl (e::es) (j6 g gs):=.of<|by
 obtain⟨t1,p1,C⟩:=C.run;obtain⟨t2,p2,z⟩:=z.run;refine⟨_,qY p1 p2 hs,λG U T H fa vs M B Q R S E r n q k=>?_⟩
 cases M with
 | nil=>exact(show False from q).elim
 | cons d M=>
  cases r with
  | cons r1 Y=>
   refine⟨_,_,rfl,C G U T H fa _ d _ _ _ S E r1 (λi c a y=>n i c a (mr _ y)) q λj o J E' v u q'=>?_⟩;exact z G o j H J _ M _ Q R S E' Y (λi c a y=>by rw[(v i c).1];exact n i c a (hH _ y)) q' λh l I E2 O p q2=>k h l I E2 (λi c=>⟨(O i c).1.trans (v i c).1,(O i c).2.trans (v i c).2⟩) (λi c=>(p i c).trans (u i c)) q2
def gT(gs:lO):cU:=λd c Q=>match d with
 | .tup g=>gs g c Q
 | _=>False
theorem vo.len{X:Cx}{c:GJ}{t:wg}(h:vo X c t):True:=trivial
theorem Z7{gs:lO}{k n:Nat}(h:xx X cl es gs)(u:∀ds c Q,gs ds c Q->ds.length=n)(mk:∀{t},vo X es t->PG X (.Tuple es k pos) (BO X.K n t)):xV X cl (.Tuple es k pos) (gT gs):=.of<|by
 obtain⟨t,p,h⟩:=h.run;refine⟨_,mk p,λG c j H C v d B Q R z E r l q o=>?_⟩;cases d<;>first | exact(show False from q).elim | skip
 rename_i ds
 have q:gs ds c Q:=q;obtain⟨a,vs,rfl,y,g⟩:=A4 r;exact⟨a,vs,rfl,G8.of y,by rw[g.length];exact u ds c Q q,h G c j H C vs ds B Q R z E g l q o⟩
structure wz(g:cU)(body:i7)(xs:List D)(T:bU)(ρ:Ev):Prop where
 of ::
 ex:∃W:Nat->Ev->Prop,W 0 ρ/\(∀i d ρ,xs[i]?=some d->W i ρ->g d ρ λρ1=>body { nx:=W (i+1),rt:=T.rt,bk:=T.nx,ct:=W (i+1) } ρ1)/\∀ρ,W xs.length ρ->T.nx ρ
def ak(j:Cq)(g:cU)(body:i7):i7:=λT d=>j d λh c=>wz g body h T c
def frozen(G:Ent)(H:Hp)(C:GG):Ent:={ G with Z:=λa=>G.Z a\/a∈C\/(H a≠none/\¬cV (H a)),Hz:=H }
theorem E3.freeze{K:GR}{G:Ent}{g:Ev}{σ:St}{H:Hp}{d:GQ}{C:GG}(E:E3 K G g σ H d)(l:∀a∈C,H a≠none)(j:∀i,G.own i->∀a∈C,a∉d i):E3 K (frozen G H C) g σ H d:=
 ⟨E.rep,E.emp,E.len,E.nd,E.dj,E.par,E.old,E.new,E.frm,E.stb,λa _=>rfl,λa z=>by
  rcases z with z | z | z
  ·show H a≠none;rw[E.zk a z];exact E.zn a z
  ·exact l a z
  ·exact z.1,λi h a c z=>by
  rcases z with z | z | z
  ·exact E.zo i h a c z
  ·exact j i h a z c
  ·exact z.2 (E.dC i a c),⟨E.po.one,E.po.lk⟩⟩
theorem E3.Ah{K:GR}{G:Ent}{d h:Ev}{c σ:St}{l H:Hp}{g j:GQ}{C:GG}(E0:E3 K G d c l g)(E:E3 K (frozen G l C) h σ H j):E3 K G h σ H j:=
 ⟨E.rep,E.emp,E.len,E.nd,E.dj,E.par,E.old,E.new,E.frm,E.stb,λa z=>(E.zk a (.inl z)).trans (E0.zk a z),E0.zn,λi o a p z=>E.zo i o a p (.inl z),⟨E.po.one,E.po.lk⟩⟩
theorem Q3{l:Expr}{body:GO}{ui:Cq}{g:cU}{sb:i7}(hi:DZ X cl tg l ui)(hg:xV X cl tg g)(hb:gb X cl body sb)
  (mk:∀{wi g tb},PI X tg l wi->PG X tg g->ig X body tb->PS X (.For tg l body [] pos) (BA wi g tb)):M4 X cl (.For tg l body [] pos) (ak ui g sb):=.of<|by
 obtain⟨wi,pi,hi⟩:=hi.run;obtain⟨al,pg,hg⟩:=hg.run;obtain⟨tb,pb,hb⟩:=hb.run;refine⟨_,mk pi pg pb,λG T ρ σ H fa R hG E hu le=>hi G ρ σ H fa _ _ hG E hu λJ Q r C a5 ab E1 c1 it tr ap q=>?_⟩;have F1:=E1.freeze tr ap;obtain⟨W,w0,step,done⟩:=q.ex;refine⟨λi m I S=>m=r.length-i/\i<=r.length/\∃c p,E3 X.K (frozen G Q C) c I S p/\W i c,⟨r.length,by simp,vv _,a5,ab,F1,w0⟩,?_⟩;rintro i m I S ⟨rfl,am,c,p,U,q'⟩
 have tf:Tf Q S:=⟨λb ys h=>by
   rw[U.zk b (.inr (.inr ⟨(by rw[h];intro z;cases z),(by rw[h];exactλz=>z)⟩))];exact h,λb o u h=>by
   rw[U.zk b (.inr (.inr ⟨(by rw[h];intro z;cases z),(by rw[h];exactλz=>z)⟩))];exact h⟩
 have kC:∀a∈C,S a=Q a:=λa ha=>U.zk a (.inr (.inl ha))
 by_cases Y:i<r.length
 ·right
  have ex:r[i]?=some r[i]:=mv Y;obtain⟨go,yl⟩:=(it S tf kC i).2 _ ex;refine⟨go,uS X.K (frozen G Q C) (W (i+1)),λad H2 hn=>?_,λy H2 hy=>?_⟩
  ·obtain⟨a4,a7,E2,q2⟩:=hn;exact⟨r.length-(i+1),by omega,rfl,Y,a4,a7,E2,q2⟩
  ·obtain⟨s2,B,rB,sB⟩:=yl y H2 hy;refine hg (frozen G Q C) c I H2 p y _ B _ _ hG (U.same s2) rB (λj hj a ha z=>U.zo j hj a z (.inr (.inl (sB.mem ha)))) (step i _ c ex q') λa2 a3 a6 ac _ _ q3=>?_;refine hb (frozen G Q C) _ a3 a2 H2 a6 _ hG ac q3 ⟨λ_ _ h=>h,λv H3 h=>?_,λa1 H4 h=>?_,λ_ _ h=>h⟩
   ·obtain⟨d,M,a0,O,B5,E5,r5,n5,m5,l5,q5⟩:=h;exact le.rt v H3 ⟨d,M,a0,O,B5,E1.Ah E5,r5,n5,m5,l5,q5⟩
   ·obtain⟨M,O,E5,q5⟩:=h;exact le.nx a1 H4 ⟨M,O,E1.Ah E5,q5⟩
 ·have ei:i=r.length:=by omega
  subst ei
  left
  exact⟨(it S tf kC _).1 rfl,le.nx _ _ ⟨c,p,E1.Ah U,done c q'⟩⟩
def tm(j:xT)(body:i7):i7:=λT h=>∃W:Nat->Ev->Prop,(∃m,W m h)/\∀m h,W m h->j h λb d=>Br b (body { nx:=λc=>∃g,g<m/\W g c,rt:=T.rt,bk:=T.nx,ct:=λc=>∃g,g<m/\W g c } d) (T.nx d)
theorem xy{c:Expr}{body:GO}{M:xT}{J:i7}(hp:PassesOwn (model X.prog X.w) X.A X.env X.xe)(v:CW X cl c M)(y:gb X cl body J):M4 X cl (.While c body [] pos) (tm M J):=.of<|by
 obtain⟨tc,pc,v⟩:=v.run;obtain⟨tb,pb,y⟩:=y.run;refine⟨_,uX hp pc pb,λG T U σ H fa R O E hu le=>?_⟩;obtain⟨W,⟨m0,w0⟩,step⟩:=hu;refine⟨λm r H'=>∃l C,E3 X.K G l r H' C/\W m l,⟨m0,U,fa,E,w0⟩,?_⟩;rintro m g H1 ⟨j,B,E1,w1⟩;refine v G j g H1 B _ _ O E1 (step m j w1) λb H2 d o Q c2 q=>?_
 cases b with
 | true=>
  rw[l7 rfl];refine⟨uS X.K G (λd=>∃p,p<m/\W p d),λS H3 h=>?_,y G _ d g H2 o _ O Q (q.t rfl) ⟨λ_ _ h=>h,le.rt,le.nx,λ_ _ h=>h⟩⟩;obtain⟨u,z,I,p,hm,Y⟩:=h;exact⟨p,hm,u,z,I,Y⟩
 | false=>rw[ln kt];exact le.nx _ _ ⟨d,o,Q,q.f rfl⟩
def aY(cap:GC)(c:Ev):Ev:=cap.map λo=>match o with
 | some j=>(c[j]?).join
 | none=>none
def M6(cap:GC):List Cl:=cap.map λ_=>.bor
theorem rq{cap:GC}{σ:St}{p j:Nat}{v:V}(h:cap[p]?=some (some j))(e:σ[j]?=some (some v)):(N7 cap σ)[p]?=some (some v):=by
 unfold N7;rw[qq,h];show some ((σ[j]?).join)=_;rw[e];rfl
theorem tw{cap:GC}{c:Ev}{p:Nat}{d:D}(h:(aY cap c)[p]?=some (some d)):∃j,cap[p]?=some (some j)/\c[j]?=some (some d):=by
 unfold aY at h;rw[qq] at h
 cases e:cap[p]? with
 | none=>rw[e] at h;cases h
 | some o=>
  rw[e] at h
  cases o with
  | none=>cases h
  | some j=>
   have h:some ((c[j]?).join)=some (some d):=h
   cases g:c[j]? with
   | none=>rw[g] at h;cases h
   | some o=>rw[g] at h;cases h;exact⟨j,rfl,g⟩
def yA(cap:GC)(c:Ev)(d:GQ)(p:Nat):GG:=match (aY cap c)[p]? with
 | some (some _)=>match cap[p]? with
  | some (some j)=>d j
  | _=>[]
 | _=>[]
def bP(cap:GC):Ent:=⟨λ_=>none,λ_=>[],[],M6 cap,λ_=>False,λ_=>none⟩
theorem B8{cap:GC}{i:Nat}(h:(bP cap).own i):False:=by
 have h:(M6 cap)[i]?=some .own:=h;unfold M6 at h;rw[qq] at h
 cases e:cap[i]? with
 | none=>rw[e] at h;cases h
 | some o=>rw[e] at h;cases h
theorem jc{cap:GC}{i:Nat}(h:(bP cap).cl[i]?=some .loc):False:=by
 have h:(M6 cap)[i]?=some .loc:=h;unfold M6 at h;rw[qq] at h
 cases e:cap[i]? with
 | none=>rw[e] at h;cases h
 | some o=>rw[e] at h;cases h
theorem wZ{cap:GC}{i:Nat}{c:Hp}(h:(bP cap).cl[i]?=some (.mk c)):False:=by
 have h:(M6 cap)[i]?=some (.mk c):=h;unfold M6 at h;rw[qq] at h
 cases e:cap[i]? with
 | none=>rw[e] at h;cases h
 | some o=>rw[e] at h;cases h
theorem E3.comp{K:GR}{G:Ent}{c:Ev}{σ:St}{H:Hp}{g:GQ}(cap:GC)(E:E3 K G c σ H g):E3 K (bP cap) (aY cap c) (N7 cap σ) H (yA cap c g):=by
 refine⟨λi d e=>?_,λi e=>?_,by unfold aY N7;simp,λi h=>h.elim (λz=>(B8 z).elim) λz=>(jc z).elim,λi j _ h=>(B8 h).elim,λi _ h=>(B8 h).elim,λi _ h=>(B8 h).elim,λi h=>h.elim (λz=>(jc z).elim) λz=>(B8 z.1).elim,
  λa o h=>(nomatch h),⟨λb y h=>(nomatch h),λb o u h=>(nomatch h),λ_ _=>rfl⟩,λa z=>z.elim,λa z=>z.elim,λi h=>(B8 h).elim,⟨λi _ h=>(B8 h).elim,λj B h=>(wZ h).elim⟩⟩
 ·obtain⟨j,l,q⟩:=tw e;obtain⟨v,p,r⟩:=E.rep j d q;refine⟨v,rq l p,?_⟩;unfold yA;rw[e,l];exact r
 ·unfold yA;split
  ·rename_i d h
   exact absurd h (e d)
  ·rfl
def mh(g:cU)(tc:aJ)(te:TU)(h:Ev):List D->List D->(List D->Prop)->Prop
 | [],c,Q=>Q c
 | x::l,c,Q=>g x h λj=>tc j λb=>Br b (te j λd=>mh g tc te h l (c++[d]) Q) (mh g tc te h l c Q)
def CJ(cap:GC)(h:qQ)(g:cU)(tc:aJ)(te:TU):TU:=λc Q=>h c λd=>d.length<sizeLine/\mh g tc te (aY cap c) d [] λj=>Q (.lst j)
structure Af(X:Cx)(cl:List Cl)(es:GJ)(u:aJ):Prop where
 of ::
 run:∃t,AK X es t/\∀(G:Ent) (ρ:Ev) (σ:St) (H:Hp) (fa:GQ) (Q:Bool->Prop) (R:Bool->Hp->Prop),G.cl=cl->E3 X.K G ρ σ H fa->u ρ Q ->
  (∀b H',e9 H H'->Q b->R b H')->t σ H R
def oP:aJ:=λ_ Q=>Q true
theorem hZ:Af X cl [] oP:=.of ⟨_,xu,λG g d H h Q R _ E c k=>k true H (e9.refl H) c⟩
theorem Et{K:GR}{cap:GC}{g3:cU}{a5:aJ}{a4:TU}{J:It}{g:TG}{tc:TT}{te:TE}{xs:List D}{C:GG}{I:Ev}{σ:St}{G:Ent}{M:Hp}{O:GQ}{Q:List D->Prop}{R:VK}
  (hg:∀(G:Ent) (I:Ev) (σ:St) (H:Hp) (O:GQ) (v:V) (d:D) (B:GG) (Q:Ev->Prop) (R:St->Hp->Prop),G.cl=M6 cap->E3 K G I σ H O->Rep K H v d B->(∀i,G.own i->∀a∈B,a∉O i)->g3 d I Q ->
   (∀a2 a3 ac,E3 K G a3 a2 H ac->(∀i,G.own i->ac i=O i/\a2[i]?=σ[i]?)->(∀i,G.own i->a3[i]?=I[i]?)->Q a3->R a2 H)->g v σ H R)
  (hc:∀(G:Ent) (I:Ev) (σ:St) (H:Hp) (O:GQ) (Q:Bool->Prop) (R:Bool->Hp->Prop),G.cl=M6 cap->E3 K G I σ H O->a5 I Q->(∀b S,e9 H S->Q b->R b S)->tc σ H R)
  (he:∀(G:Ent) (I:Ev) (σ:St) (H:Hp) (O:GQ) (Q:D->Prop) (R:VK),G.cl=M6 cap->E3 K G I σ H O->a4 I Q->(∀v S d B,e9 H S->Rep K S v d B->p3 G H O B .fresh->Q d->R v S)->te σ H R)
  (E:E3 K G I σ M O) (it:dR K J xs C M) (tr:∀a∈C,M a≠none) (hn:xs.length<sizeLine) (q:mh g3 a5 a4 (aY cap I) xs [] Q)
  (k:∀d S ds B,e9 M S->Rep K S (.ref d) (.lst ds) B->B.Nodup->(∀a∈B,M a=none)->Q ds->R (.ref d) S):CO J g tc te (N7 cap σ) R M:=by
 intro d hd
 refine⟨λi m H=>m=xs.length-i/\i<=xs.length/\e9 M H/\∃c ds B,H d=some (.lst c)/\c.length<=i/\i5 K H c ds B/\B.Nodup/\d∉B/\(∀a∈B,M a=none)/\mh g3 a5 a4 (aY cap I) (xs.drop i) ds Q,
  ⟨xs.length,by simp,vv _,e9.i6 hd,[],[],[],g6,hI _,.nil,lc,(by simp),(λa r=>by cases r),q⟩,?_⟩
 rintro i m H ⟨rfl,an,s1,c,ds,B,a1,ap,rs,nB,dB,hB,q⟩;have tf:Tf M H:=⟨λb ys h=>s1 _ _ h,λb o u h=>s1 _ _ h⟩
 have kC:∀a∈C,H a=M a:=λa r=>by
  obtain⟨o,eo⟩:=Option.ne_none_iff_exists'.mp (tr a r);rw[eo];exact s1 a o eo
 by_cases T:i<xs.length
 ·right
  obtain⟨go,yl⟩:=(it H tf kC i).2 _ (mv T);rw[sf T] at q;refine⟨go,λy H2 hy=>?_⟩;obtain⟨Y,By,rB,sB⟩:=yl y H2 hy;have E2:=(E.same (s1.trans Y)).comp cap;refine hg (bP cap) _ _ H2 _ y _ By _ _ rfl E2 rB (λj hj=>(B8 hj).elim) q λa6 a7 ab ad _ _ q3=>?_;refine hc (bP cap) a7 a6 H2 ab _ _ rfl ad q3 λb H3 U q4=>?_;have l:H3 d=some (.lst c):=U _ _ (Y _ _ a1)
  cases b with
  | false=>
   rw[ln kt];exact⟨xs.length-(i+1),by omega,rfl,T,(s1.trans Y).trans U,c,ds,B,l,by omega,(rs.same Y).same U,nB,dB,hB,q4.f rfl⟩
  | true=>
   rw[l7 rfl];refine he (bP cap) a7 a6 H3 ab _ _ rfl (ad.same U) (q4.t rfl) λv H4 dv Bv s4 rv fo q5=>?_;have p:H4 d=some (.lst c):=s4 _ _ l;have al:e9 M H4:=((s1.trans Y).trans U).trans s4;have a0:d∉Bv:=λz=>by rw[fo.2 d z] at l;cases l
   have st:V0 H4 (upd H4 d (.lst (c++[v]))):=⟨λb ys h=>by
     by_cases e:b=d
     ·subst e;rw[p] at h;cases h
     ·rw[g9 e];exact h,λb u w' h=>by
     by_cases e:b=d
     ·subst e;rw[p] at h;cases h
     ·rw[g9 e];exact h,λb h=>by
     by_cases e:b=d
     ·subst e;rw[g6] at h;cases h
     ·rw[g9 e] at h;exact h⟩
   have am:=((rs.same Y).same U).same s4;refine⟨c,p,by omega,xs.length-(i+1),by omega,rfl,T,λb o e=>?_,c++[v],ds++[dv],B++(Bv++[]),g6,by rw[nT,o0];omega,?_,?_,?_,λa r=>?_,q5⟩
   ·rw[g9 (o5 e hd)];exact al _ _ e
   ·exact(am.mono st λa r=>g9 λe=>dB (e▸r)).append (.cons (rv.mono st λa r=>g9 λe=>a0 (e▸r)) .nil)
   ·rw[n4];refine List.nodup_append.mpr ⟨nB,fo.1,λa r b hb e=>?_⟩;subst e;exact((rs.same Y).same U).there a r (fo.2 a hb)
   ·rw[n4];exactλz=>(List.mem_append.mp z).elim dB a0
   ·rw[n4] at r;rcases List.mem_append.mp r with z | z
    ·exact hB a z
    ·exact((s1.trans Y).trans U).free (fo.2 a z)
 ·have ei:i=xs.length:=by omega
  subst ei
  left
  rw[wT] at q;refine⟨(it H tf kC _).1 rfl,k d H ds (d::B) s1 (.lst a1 rs) (List.nodup_cons.mpr ⟨dB,nB⟩) (λa r=>?_) q⟩;rcases List.mem_cons.mp r with z | z
  ·rw[z];exact hd
  ·exact hB a z
section
variable{XN N:GH}{XS scope:Scope}{cap:GC}{elt target iter:Expr}{ifs:GJ}{ui:qQ}{g3:cU}{tc3:aJ}{te3:TU}
theorem sO(l:eK XN N XS scope cap=true)(hN:X.N=XN)(hS:X.env.scope=XS)(hk:scope.kind=.function)(j:X.calm=true)(p:fq X cl target iter f ui)
  (u:∀c h s H,xV (Q2 X N scope c h s H) (M6 cap) target g3) (y:∀c h s H,Af (Q2 X N scope c h s H) (M6 cap) ifs tc3) (v:∀c h s H,PU (Q2 X N scope c h s H) (M6 cap) elt .fresh te3)
  (hs:∀x,foldedSetIterable iter X.env x=pure x:=by intro _;rfl):PU X cl (.ListComp elt [⟨target,iter,ifs,0⟩] scope pos) .fresh (CJ cap ui g3 tc3 te3):=.of<|by
 obtain⟨wi,U,p⟩:=p.run
 refine⟨_,zL (g:=λc h s H=>Classical.choose (u c h s H).run) (tc:=λc h s H=>Classical.choose (y c h s H).run) (te:=λc h s H=>Classical.choose (v c h s H).run) l hN hS hk j U
  (λc h s H=>(nl (u c h s H).run).1) (λc h s H=>(nl (y c h s H).run).1) (λc h s H=>(nl (v c h s H).run).1) hs,λG M I H fa Q R hG E hu k=>?_⟩
 refine p G M I H fa _ _ hG E hu λJ H1 xs C s Y O fo q=>λc h o z=>?_;refine Et (K:=X.K) (nl (u c h o z).run).2 (nl (y c h o z).run).2 (nl (v c h o z).run).2 (E.same s) Y O q.1 q.2 λd H2 ds B S r n1 n2 T=>?_;exact k _ H2 _ B (s.trans S) r ⟨n1,λa ha=>s.free (n2 a ha)⟩ T
end
end
end L3
namespace L2
open PySem PySem.Spec PyProof.Rows
section
variable{X:Cx}
theorem aH:∀{bs:List Bool} {a:GI},Vals (bs.map V.bl) a->LSm.BoolsAre a bs
 | [],_,r=>by cases r;exact .nil
 | b::bs,_,r=>by
  cases r with
  | cons h t=>cases h;exact .cons b (aH t)
theorem jN(C:X.calm=true):C5 X (.builtin "all") (λxs H Q=>∃(p:Addr) (bs:List Bool),xs=[.ref p]/\G1 X.K H p (bs.map V.bl)/\Q (.bl (bs.all id)) H):=by
 intro g s G H xs J Q I r h;obtain⟨p,bs,rfl,z,q⟩:=h;obtain⟨u,rfl,x⟩:=vals1 r;cases x;obtain⟨a,o,y,O⟩:=I.list z;have d:=y.isList;have j:=aH o;have c:p<s.heap.objs.size:=by obtain⟨_,e,_⟩:=d;exact hW e
 refine call_all_walk (Ge d ?_)
 refine⟨s.heap.objs.size,[s.heap.objs.size,p],[s.heap.objs.size],a.toArray.size,_,_,λi=>(bs[i]?).getD true,rfl,Walks.list (A:=X.A.in1) (I.ok.hd C) _ p (mC c) a.toArray,
  ⟨⟨_,me _ rfl,rfl,rfl⟩,d.push _⟩,λi v M S T E l=>?_,λR tk B=>?_⟩
 ·obtain⟨b,e,rfl⟩:=j.get i v (by simpa using E);simp only[e,Option.getD_some] at l;exact ti l
 ·have e:((List.range a.toArray.size).all λi=>(bs[i]?).getD true)=bs.all id:=by
   rw[lw,j.length];exact LSm.range_all bs
  rw[e];exact⟨.bl _,H,I.kept (t':=tk) (LSm.kept_iter B),rfl,q⟩
end
end L2
namespace L3
open PySem PySem.Spec L2
section
variable{X:Cx}{cl:List Cl}{e a b:Expr}{es:GJ}{f:Fl}{pos:Pos}{ua ub:TU}{ma mb:TM}{fa fb:Fl}
def zQ:List D->(D->Prop)->Prop:=λg Q=>∃(d:D) (c:List D) (bs:List Bool),g=[d]/\kindB false d=some c/\c=bs.map D.bl/\Q (.bl (bs.all id))
theorem i5.DT{K:GR}{H:Hp}:∀{bs:List Bool} {vs:List V} {A:GG},i5 K H vs (bs.map D.bl) A->vs=bs.map V.bl
 | [],_,_,r=>by cases r;rfl
 | b::bs,_,_,r=>by
  cases r with
  | cons h t=>rw[J7 h,t.DT];rfl
theorem hV{K:GR}{H:Hp}{v:V}{d:D}{A:GG}{xs:List D}(r:Rep K H v d A)(e:kindB false d=some xs):∃p vs B,v=.ref p/\G1 K H p vs/\i5 K H vs xs B/\B.Sublist A:=by
 cases d<;>first | cases e | skip
 ·obtain⟨p,vs,C,rfl,g,c,rfl⟩:=D4 r;exact⟨p,vs,C,rfl,G1.of g,c,wr _ _⟩
 ·obtain⟨p,vs,rfl,g,c⟩:=cX r;exact⟨p,vs,A,rfl,g.sq,c,v1 _⟩
theorem yk:Call3 X (λxs H Q=>∃(p:Addr) (bs:List Bool),xs=[.ref p]/\G1 X.K H p (bs.map V.bl)/\Q (.bl (bs.all id)) H) zQ:=by
 intro H vs l A Q R r q k;obtain⟨d,xs,bs,rfl,e,rfl,q⟩:=q;obtain⟨v,rfl,c⟩:=r.one;obtain⟨p,j,B,rfl,i,g,_⟩:=hV c e;cases g.DT;exact⟨p,bs,rfl,i,k _ H _ _ (e9.refl H) .bl lc (λ_ h=>(by cases h)) q⟩
def zZ:HO->Bool
 | .dE [] _=>true
 | _=>false
def tyName:D->Option String
 | .l4=>some "NoneType"
 | .bl _=>some "bool"
 | .int _=>some "int"
 | .str _=>some "str"
 | .lst _=>some "list"
 | .tup _=>some "tuple"
 | .dic _=>some "dict"
 | .fz _=>some "list"
 | .ob u=>bif zZ u then some "dict" else none
 | _=>none
def Ce(a T:String):Bool:=a == T||(a =="bool" && T =="int")
def kM:List String:=["int","bool","str","list","tuple","dict"]
def L5:List D->(D->Prop)->Prop:=λc Q=>∃d a T,c=[d,.ty T]/\tyName d=some a/\kM.contains T=true/\Q (.bl (Ce a T))
theorem vz (K:GR) {a T:String} (c:["NoneType","bool","int","str","list","tuple","dict"].contains a=true) (d:kM.contains T=true):PySem.W.kitOne K (.type a) (.type T)=some (Ce a T):=by
 have h:a="NoneType" \/ a="bool" \/ a="int" \/ a="str" \/ a="list" \/ a="tuple" \/ a="dict":=by simpa using c
 have g:T="int" \/ T="bool" \/ T="str" \/ T="list" \/ T="tuple" \/ T="dict":=by simpa[kM] using d
 rcases h with rfl | rfl | rfl | rfl | rfl | rfl | rfl<;>rcases g with rfl | rfl | rfl | rfl | rfl | rfl<;>first | rfl | decide +kernel
theorem BM{K:GR}{H:Hp}{v:V}{d:D}{A:GG}{n:String}(r:Rep K H v d A)(e:tyName d=some n):S6 K H v (.type n)/\["NoneType","bool","int","str","list","tuple","dict"].contains n=true:=by
 cases r<;>first | (cases e;done) | skip
 ·cases e;exact⟨.l4,rfl⟩
 ·cases e;exact⟨.bl _,rfl⟩
 ·cases e;exact⟨.int _,rfl⟩
 ·cases e;exact⟨.str _,rfl⟩
 ·cases e;rename_i h _;exact⟨.tup h,rfl⟩
 ·cases e;rename_i h _;exact⟨.lst h,rfl⟩
 ·cases e;rename_i h _;rcases h with⟨o,h⟩ | ⟨o,_,_,h,g,_⟩;exact⟨.frz h,rfl⟩;exact⟨.kl h g,rfl⟩
 ·cases e;rename_i h _;exact⟨.dK (.inr ⟨_,h⟩),rfl⟩
 ·rename_i u h
  cases u with
  | dE c i=>
   cases c with
   | nil=>cases e;exact⟨.frzD h,rfl⟩
   | cons=>cases e
  | _=>cases e
theorem z0:Call3 X (λxs H Q=>∃x c t cv b,xs=[x,c]/\kE c=some cv/\S6 X.K H x t/\PySem.W.kitOne X.K t cv=some b/\Q (.bl b) H) L5:=by
 intro H vs p A Q R r q k;obtain⟨d,n,T,rfl,e,o,q⟩:=q;obtain⟨v,w,B,C,rfl,l,j,_⟩:=r.two;cases j;obtain⟨i,g⟩:=BM l e;exact⟨_,_,_,_,_,rfl,rfl,i,vz X.K g o,k _ H _ _ (e9.refl H) .bl lc (λ_ h=>(by cases h)) q⟩
theorem y9{x:Str}{T:String}(h:PE X (.Name x pos) (tC (.ty T))):PU X cl (.Name x pos) .fresh (uC (.ty T)):=.of ⟨_,h,λG g d H fa Q R _ E c k=>k _ H _ _ (e9.refl H) .ty (p3.nil _) c⟩
def CN:D->D->(D->Prop)->Prop
 | .lst d,.lst c,Q=>o6 d=true/\o6 c=true/\d.length+c.length<=sizeLine/\Q (.lst (d++c))
 | _,_,_=>False
theorem Bs:X0 X yC CN:=by
 intro H v w d e A B Q R o j q k;cases d<;>cases e<;>first | exact q.elim | skip
 obtain⟨r,vs,M,rfl,E,g,_⟩:=D4 o;obtain⟨p,i,J,rfl,C,c,_⟩:=D4 j;obtain⟨x,u,y,q⟩:=q;have I:=g.C3 x;have G:=c.C3 u;subst I;subst G;refine⟨r,p,vs,i,rfl,rfl,E,C,by rw[g.length,c.length];exact y,λl h=>k _ _ _ [l] (e9.i6 h) (.lst g6 ((g.same (e9.i6 h)).append (c.same (e9.i6 h)))) (by simp) (λa z=>?_) q⟩;have:a=l:=by simpa using z
 rw[this];exact h
def cutD(xs:List D)(lo c:Option Int):List D:=(xs.drop (HT.u6 xs.length 0 lo)).take (HT.u6 xs.length xs.length c-HT.u6 xs.length 0 lo)
abbrev yc:=Ev->(Option Int->Prop)->Prop
structure AM(X:Cx)(cl:List Cl)(e:Option Expr)(u:yc):Prop where
 of ::
 run:∃t,PO X e t/\∀(G:Ent) (ρ:Ev) (σ:St) (H:Hp) (fa:GQ) (Q:Option Int->Prop) (R:Option Int->Hp->Prop),G.cl=cl->E3 X.K G ρ σ H fa->u ρ Q->(∀o H',e9 H H'->Q o->R o H')->t σ H R
def Q1:yc:=λ_ Q=>Q none
def M1(u:TU):yc:=λc Q=>u c λd=>match d with
 | .int i=>Q (some i)
 | _=>False
theorem B4:AM X cl none Q1:=.of ⟨_,vR,λG g d H fa Q R _ E c k=>k none H (e9.refl H) c⟩
theorem A2(h:PU X cl e f ua):AM X cl (some e) (M1 ua):=.of<|by
 obtain⟨t,p,h⟩:=h.run;refine⟨_,xr p,λG g c H fa Q R j E i k=>h G g c H fa _ _ j E i λv l d B s r _ q=>?_⟩;cases d<;>first | exact(show False from q).elim | skip
 cases v9 r;exact⟨_,rfl,k _ l s q⟩
end
section
variable{X:Cx}{cl:List Cl}{e:Expr}{pos:Pos}{XN N:GH}{XS scope:Scope}{cap:GC}{elt target iter:Expr}{ifs:GJ}{ui:Cq}{g3:cU}{tc3:xT}{te3:TM}
end
end L3
namespace L2
open PySem PySem.Spec PyProof.Rows
section
variable{κ:Type}[DecidableEq κ]
def W6(kvs:List (κ×V))(k:κ):Option V:=(kvs.find? λa=>decide (a.1=k)).map (·.2)
def putK(kvs:List (κ×V))(k:κ)(v:V):List (κ×V):=
 if (kvs.any λa=>decide (a.1=k))=true then kvs.map (λa=>if a.1=k then(a.1,v) else a) else kvs++[(k,v)]
theorem Y5{p:κ×V}{r:List (κ×V)}{k:κ}(e:p.1=k):W6 (p::r) k=some p.2:=by simp[W6,ry,e]
theorem R7{p:κ×V}{r:List (κ×V)}{k:κ}(e:¬p.1=k):W6 (p::r) k=W6 r k:=by simp[W6,ry,e]
theorem jx(k:κ):∀kvs:List (κ×V),(kvs.any λa=>decide (a.1=k))=(W6 kvs k).isSome
 | []=>rfl
 | p::r=>by
  rw[v3]
  by_cases e:p.1=k
  ·simp only[Y5 e,hD e,Bool.true_or,Option.isSome_some]
  ·rw[R7 e,hL e,Bool.false_or];exact jx k r
theorem B0(kvs:List (κ×V))(k:κ)(v:V):(putK kvs k v).length<=kvs.length+1:=by
 unfold putK;split
 ·rw[mo];omega
 ·rw[nT,na,Fx];omega
theorem Q8.N9{o:Option V}{u:GS}(r:Q8 o u):o.isSome=u.isSome:=by
 cases o with
 | none=>cases u with
  | none=>rfl
  | some _=>exact(show False from r).elim
 | some _=>cases u with
  | none=>exact(show False from r).elim
  | some _=>rfl
theorem Q8.getD{o:Option V}{u:GS}{d:V}{d':Value}(r:Q8 o u)(a:RelV d d'):RelV (o.getD d) (u.getD d'):=by
 cases o with
 | none=>cases u with
  | none=>exact a
  | some _=>exact(show False from r).elim
 | some _=>cases u with
  | none=>exact(show False from r).elim
  | some _=>exact r
theorem KV.val{kvs:List (κ×V)}{vs:List (κ×Value)}(r:KV kvs vs)(k:κ):Q8 (W6 kvs k) (valueAt vs k):=by
 unfold KV at r
 induction r with
 | nil=>exact True.intro
 | @cons p q j a h t g=>
  obtain⟨d,i⟩:=h
  by_cases e:p.1=k
  ·have c:q.1=k:=d.symm.trans e;have b:valueAt (q::a) k=some q.2:=by simp[valueAt,ry,c]
   rw[Y5 e,b];exact i
  ·have c:¬q.1=k:=λz=>e (d.trans z);have b:valueAt (q::a) k=valueAt a k:=by simp[valueAt,ry,c]
   rw[R7 e,b];exact g
theorem KV.any{kvs:List (κ×V)}{vs:List (κ×Value)}(r:KV kvs vs)(k:κ):(kvs.any λa=>decide (a.1=k))=vs.any λa=>decide (a.1=k):=by
 unfold KV at r
 induction r with
 | nil=>rfl
 | cons h t b=>rw[v3,v3,b,h.1]
theorem KV.oO{kvs:List (κ×V)}{vs:List (κ×Value)}(r:KV kvs vs)(k:κ){y:V}{u:Value}(c:RelV y u) :
  KV (kvs.map λa=>if a.1=k then(a.1,y) else a) (vs.map λa=>if a.1=k then(a.1,u) else a):=by
 unfold KV at r ⊢
 induction r with
 | nil=>exact .nil
 | @cons p q j i h t d=>
  rw[nj,nj];refine .cons ?_ d;obtain⟨b,g⟩:=h
  by_cases e:p.1=k
  ·rw[l7 e,l7 (b.symm.trans e)];exact⟨b,c⟩
  ·rw[ln e,ln (λz=>e (b.trans z))];exact⟨b,g⟩
theorem KV.put{kvs:List (κ×V)}{vs:List (κ×Value)}(r:KV kvs vs)(k:κ){y:V}{u:Value}(a:RelV y u):KV (putK kvs k y) (stored vs k u):=by
 unfold putK stored;rw[r.any k]
 by_cases e:(vs.any λb=>decide (b.1=k))=true
 ·rw[l7 e,l7 e];exact r.oO k a
 ·rw[ln e,ln e];exact Paired.snoc r ⟨rfl,a⟩
theorem KV.length{kvs:List (κ×V)}{vs:List (κ×Value)}(r:KV kvs vs):kvs.length=vs.length:=FT r
end
theorem aD{P:Program}{w:World}{k:Key}{u:Value}(r:RelV (kV k) u):(n8 P w).is k u=true:=by
 cases k with
 | inl i=>obtain⟨t,e⟩:=(show ∃t,u=Value.int i t from r);subst e;exact jO P w i t
 | inr x=>obtain⟨t,e⟩:=(show ∃t,u=Value.str x t from r);subst e;exact iK P w x t
theorem eY{P:Program}{w:World}:∀{a:List Key} {b:GI},Vals (a.map kV) b->ItemsAre (n8 P w) a b
 | [],_,r=>by rw[List.map_nil] at r;cases r;exact .nil
 | k::a,_,r=>by
  rw[nj] at r
  cases r with
  | cons h t=>exact .cons (aD h) (eY t)
abbrev KT(H:Hp):List (List Key×V)->List (List Key×Addr×Value)->Prop:=Paired λp q=>p.1=q.1/\H q.2.1=some (.tup (p.1.map kV))/\RelV p.2 q.2.2
theorem KT.val{H:Hp}{kvs:List (List Key×V)}{xs:List (List Key×Addr×Value)}(r:KT H kvs xs)(k:List Key):Q8 (W6 kvs k) ((atKey xs k).map (·.2)):=by
 induction r with
 | nil=>exact True.intro
 | @cons p q j a h t g=>
  obtain⟨d,_,i⟩:=h
  by_cases e:p.1=k
  ·have c:q.1=k:=d.symm.trans e;have b:atKey (q::a) k=some q.2:=by simp[atKey,ry,c]
   rw[Y5 e,b];exact i
  ·have c:¬q.1=k:=λz=>e (d.trans z);have b:atKey (q::a) k=atKey a k:=by simp[atKey,ry,c]
   rw[R7 e,b];exact g
theorem KT.oO{H:Hp}{kvs:List (List Key×V)}{xs:List (List Key×Addr×Value)}(r:KT H kvs xs)(k:List Key){y:V}{u:Value}(d:RelV y u) :
  KT H (kvs.map λb=>if b.1=k then(b.1,y) else b) (xs.map (putAt k u)):=by
 induction r with
 | nil=>exact .nil
 | @cons p q l j h t g=>
  rw[nj,nj];refine .cons ?_ g;obtain⟨a,c,i⟩:=h;unfold putAt
  by_cases e:p.1=k
  ·rw[l7 e,l7 (a.symm.trans e)];exact⟨a,c,d⟩
  ·rw[ln e,ln (λz=>e (a.trans z))];exact⟨a,c,i⟩
theorem KT.put{H:Hp}{kvs:List (List Key×V)}{xs:List (List Key×Addr×Value)}(r:KT H kvs xs)(k:List Key){b:Addr}{y:V}{u:Value}(d:H b=some (.tup (k.map kV)))(a:RelV y u) :
  KT H (putK kvs k y) (storedH xs k b u):=by
 have e:(kvs.any λc=>decide (c.1=k))=(atKey xs k).isSome:=by
  rw[jx,(r.val k).N9,FM]
 unfold putK storedH;rw[e]
 by_cases q:(atKey xs k).isSome=true
 ·rw[l7 q,l7 q];exact r.oO k a
 ·rw[ln q,ln q];exact Paired.snoc r ⟨rfl,d,a⟩
theorem KT.keeps{H c:Hp}{kvs:List (List Key×V)}{xs:List (List Key×Addr×Value)}(r:KT H kvs xs)(d:∀b a,H b=some (.tup a)->c b=some (.tup a)):KT c kvs xs:=
 Paired.zC r λ_ _ z=>⟨z.1,d _ _ z.2.1,z.2.2⟩
section
variable{P:Program}{w:World}{H:Hp}{h:Heap}{a:Addr}
theorem BI{u:HO}(ok:J4 P w H h)(e:Rd H a u):j7 P w H h a u:=e.ok ok
def yW(H:Hp)(a:Addr)(kvs:List (Key×V)):Prop:=Rd H a (.dK kvs)\/∃b,H a=some (.dE kvs b)
theorem yW.of{H:Hp}{a:Addr}{kvs:List (Key×V)}(r:Dd H a kvs):yW H a kvs:=r.elim (λh=>.inl (.inl h)) .inr
theorem yW.ok{P:Program}{w:World}{H:Hp}{h:Heap}{a:Addr}{kvs:List (Key×V)}(r:yW H a kvs)(x:J4 P w H h):j7 P w H h a (.dK kvs):=r.elim (λh=>h.ok x) λh=>(show Dd H a kvs from .inr h).ok x
theorem V2{kvs:List (Key×V)}(ok:J4 P w H h)(e:yW H a kvs):kvs.length<=sizeLine/\(a == sysModules)=false/\∃vs,KV kvs vs/\h.DictOf (n8 P w) a vs:=
 show j7 P w H h a (.dK kvs) from e.ok ok
theorem rf{kvs:List (Key×V)}(ok:J4 P w H h)(e:H a=some (.dK kvs)):kvs.length<=sizeLine/\(a == sysModules)=false/\∃vs,KV kvs vs/\h.DictOf (n8 P w) a vs:=V2 ok (.inl (.inl e))
theorem af{b:List Key}(ok:J4 P w H h)(e:H a=some (.tup (b.map kV))):(tupleKind (n8 P w)).is h b a:=by
 obtain⟨_,c,r,o,i,g,n,d⟩:=(show j7 P w H h a (.tup (b.map kV)) from ok a _ e)
 exact⟨o,c.toArray,n,i,g,d,by simpa using eY r⟩
theorem dh{kvs:List (List Key×V)}(ok:J4 P w H h)(e:Rd H a (.dT kvs)):kvs.length<=sizeLine/\(a == sysModules)=false /\
  ∃xs,KT H kvs xs/\h.DictOfH (tupleKind (n8 P w)) a xs:=by
 obtain⟨z,y,xs,r,o,B,C,v,u,j,i,g⟩:=(show j7 P w H h a (.dT kvs) from BI ok e)
 refine⟨z,y,xs,r,o,B,C,v,u,j,i,λx b=>?_,g⟩
 have all:∀{l:List (List Key×V)} {m:List (List Key×Addr×Value)},KT H l m->∀x∈m,(tupleKind (n8 P w)).is h x.1 x.2.1:=by
  intro l m q
  induction q with
  | nil=>intro x b;exact nomatch b
  | @cons p q G E c t d=>
   intro x b;rcases List.mem_cons.mp b with e | b
   ·subst e;exact af ok (by rw[<-c.1];exact c.2.1)
   ·exact d x b
 exact all r x b
theorem BJ{kvs:List (List Key×V)}(ok:J4 P w H h)(e:H a=some (.dT kvs)):kvs.length<=sizeLine/\(a == sysModules)=false /\
  ∃xs,KT H kvs xs/\h.DictOfH (tupleKind (n8 P w)) a xs:=dh ok (.inl e)
end
def Q7(H:Hp)(a:Addr)(y:V)(r:Option V):Prop:=
 (∃c k,yW H a c/\y=kV k/\r=W6 c k)\/∃c k b,Rd H a (.dT c)/\y=.ref b/\H b=some (.tup (k.map kV))/\r=W6 c k
def lQ(H:Hp)(a:Addr)(y v:V)(d:Hp):Prop:=
 (∃c k,Dd H a c/\y=kV k/\c.length<sizeLine/\d=upd H a (.dK (putK c k v))) \/
 ∃c k b,H a=some (.dT c)/\y=.ref b/\H b=some (.tup (k.map kV))/\c.length<sizeLine/\d=upd H a (.dT (putK c k v))
theorem Q7.k{H:Hp}{a:Addr}{kvs:List (Key×V)}{k:Key}(e:Dd H a kvs):Q7 H a (kV k) (W6 kvs k):=.inl ⟨kvs,k,.of e,rfl,rfl⟩
theorem Q7.t{H:Hp}{a b:Addr}{kvs:List (List Key×V)}{k:List Key}(e:H a=some (.dT kvs))(c:H b=some (.tup (k.map kV))):Q7 H a (.ref b) (W6 kvs k):=.inr ⟨kvs,k,b,.inl e,rfl,c,rfl⟩
theorem lQ.k{H:Hp}{a:Addr}{kvs:List (Key×V)}{k:Key}{v:V}(e:Dd H a kvs)(b:kvs.length<sizeLine):lQ H a (kV k) v (upd H a (.dK (putK kvs k v))):=.inl ⟨kvs,k,e,rfl,b,rfl⟩
theorem lQ.t{H:Hp}{a b:Addr}{kvs:List (List Key×V)}{k:List Key}{v:V}(e:H a=some (.dT kvs))(d:H b=some (.tup (k.map kV)))(c:kvs.length<sizeLine) :
  lQ H a (.ref b) v (upd H a (.dT (putK kvs k v))):=.inr ⟨kvs,k,b,e,rfl,d,c,rfl⟩
section
variable{X:Cx}{pins:GA}{σ:St}{H:Hp}{s:Shared}{a:Addr}{y v:V}{u r:Value}{o:Option V}{A:Around}{E:GP}
theorem Inv.big(I:Inv X pins σ H s):sysModules<s.heap.objs.size:=by
 have h:mainGlobals<s.heap.objs.size:=(I.mod.glob.keeps I.bk).lt;exact Nat.lt_trans (by decide) h
theorem oM{Q:GP}(J:A.units+1<cLine)(I:Inv X pins σ H s)(g:Q7 H a y (some v))(C:RelV y u)(h:∀i s',Inv X pins σ H s'->RelV v i->Q i s') :
  wpAny (model X.prog X.w) A (getItem (.ref a) u) Q E s:=by
 rcases g with⟨j,k,e,x,l⟩ | ⟨j,k,b,e,x,O,l⟩
 ·subst x;obtain⟨z,hd,vs,d,B⟩:=V2 I.hok e;obtain⟨i,hw,c⟩:=Q8.some_of (v:=v) (o:=valueAt vs k) (by rw[l];exact d.val k);exact wpAny_getItem_of (aD C) B.mapOf hw (h i _ (I.tok _) c)
 ·subst x;cases(show u=Value.ref b from C);obtain⟨z,hd,G,d,B⟩:=dh I.hok e;obtain⟨i,hw,c⟩:=Q8.some_of (v:=v) (o:=(atKey G k).map (·.2)) (by rw[l];exact d.val k);obtain⟨p,M,q⟩:=Option.map_eq_some_iff.mp hw;refine wpAny_getItem_heap (Ch J) (af I.hok O) B M ?_;rw[q];exact h i _ (I.tok _) c
theorem DA{Q:GP}(x:A.units+1<cLine)(I:Inv X pins σ H s)(g:Q7 H a y o)(p:RelV y u)(h:∀s',Inv X pins σ H s'->Q (.bool o.isSome) s') :
  wpAny (model X.prog X.w) A (compareOp .In u (.ref a)) Q E s:=by
 rcases g with⟨d,k,e,i,l⟩ | ⟨d,k,b,e,i,B,l⟩
 ·subst i;obtain⟨z,hd,vs,c,j⟩:=V2 I.hok e;refine wpAny_in_of (aD p) hd j.mapOf ?_;rw[<-(c.val k).N9,<-l];exact h _ (I.tok _)
 ·subst i;cases(show u=Value.ref b from p);obtain⟨z,hd,C,c,j⟩:=dh I.hok e;refine wpAny_in_heap (Ch x) (af I.hok B) hd j ?_;have q:=(c.val k).N9;rw[FM] at q;rw[<-q,<-l];exact h _ (I.tok _)
theorem xI{Q:GP}(x:A.units+1<cLine)(I:Inv X pins σ H s)(g:Q7 H a y o)(p:RelV y u)(h:∀s',Inv X pins σ H s'->Q (.bool (!o.isSome)) s') :
  wpAny (model X.prog X.w) A (compareOp .NotIn u (.ref a)) Q E s:=by
 rcases g with⟨d,k,e,i,l⟩ | ⟨d,k,b,e,i,B,l⟩
 ·subst i;obtain⟨z,hd,vs,c,j⟩:=V2 I.hok e;refine wpAny_notIn_of (aD p) hd j.mapOf ?_;rw[<-(c.val k).N9,<-l];exact h _ (I.tok _)
 ·subst i;cases(show u=Value.ref b from p);obtain⟨z,hd,C,c,j⟩:=dh I.hok e;refine wpAny_notIn_heap (Ch x) (af I.hok B) hd j ?_;have q:=(c.val k).N9;rw[FM] at q;rw[<-q,<-l];exact h _ (I.tok _)
theorem bA{h':Heap}{t':Nat}{ob:HO}(I:Inv X pins σ H s)(c:cV (H a))(d:Heap.SameBut a s.heap h')(g:∃q,h'.get? a=some q)(new:j7 X.prog X.w (upd H a ob) h' a ob) :
  Inv X pins σ (upd H a ob) { s with heap:=h',toks:=t' }:=
 I.write (x:=a) (e:=a) c (.inl rfl) (λb q h z=>(d.2 b h).trans z) g new
theorem iw{P:Program}{w:World}{c:Hp}{h':Heap}{kvs:List (Key×V)}{vs:List (Key×Value)}(z:kvs.length<=sizeLine)(hd:(a == sysModules)=false)(b:KV kvs vs)(dd:h'.DictOf (n8 P w) a vs) :
  j7 P w c h' a (.dK kvs):=⟨z,hd,vs,b,dd⟩
theorem Inv.sY{kvs:List (Key×V)}(I:Inv X pins σ H s)(e:H a=some (.dK kvs)):∃ep,Inv X pins σ (upd H a (.dE kvs ep)) s:=by
 obtain⟨z,hd,vs,c,d⟩:=rf I.hok e;obtain⟨ep,h⟩:=d.dictAt;exact⟨ep,I.write (x:=a) (e:=a) (h':=s.heap) (t':=s.toks) (o:=.dE kvs ep) (by rw[e];exact True.intro) (.inl rfl) (λb q i z=>z) (let ⟨q,_,_,g,_⟩:=d;⟨q,g⟩) ⟨z,hd,vs,c,h⟩⟩
theorem pA{Y:Hp}{Q:Unit->Shared->Prop}(hu:A.units+1<cLine)(I:Inv X pins σ H s)(g:lQ H a y v Y)(O:RelV y u)(R:RelV v r)(h:∀s',Inv X pins σ Y s'->Q () s') :
  wpAny (model X.prog X.w) A (setItem (.ref a) u r) Q E s:=by
 rcases g with⟨i,k,e,G,l,J⟩ | ⟨i,k,b,e,G,U,l,J⟩
 ·subst G J;obtain⟨z,hd,vs,d,M⟩:=V2 I.hok (.of e);have x:vs.length<=sizeLine:=by rw[<-d.length];exact z
  have C:(putK i k v).length<=sizeLine:=by have:=B0 i k v;omega
  refine wpAny_setItem_pairs (hsz:=x) (aD O) M λS j B=>h _ ?_;have he:∃q,S.get? a=some q:=let ⟨q,_,_,p,_⟩:=j;⟨q,p⟩;exact bA I e.mut B he (iw C hd (d.put k R) j)
 ·subst G J;cases(show u=Value.ref b from O);obtain⟨z,hd,xs,d,M⟩:=BJ I.hok e;have x:xs.length<=sizeLine:=by rw[<-FT d];exact z
  have C:(putK i k v).length<=sizeLine:=by have:=B0 i k v;omega
  refine wpAny_setItem_heap (hsz:=x) (Ch hu) (af I.hok U) M λS j B=>h _ ?_;obtain⟨q,es,ep,p,h2,h3,h4,_,h5⟩:=j;refine bA I (by rw[e];exact True.intro) B ⟨q,p⟩ ⟨C,hd,_,(d.put k U R).keeps λc ys T=>?_,q,es,ep,p,h2,h3,h4,h5⟩;rw[g9 (uA T e (λz=>nomatch z))];exact T
end
section
variable{X:Cx}{pins:GA}{σ:St}{H:Hp}{s:Shared}{a:Addr}{kvs:List (Key×V)}{k:Key}{u:Value}{A:Around}{E:GP}
end
theorem jP{X:Cx}{pins:GA}{σ:St}{H:Hp}{s:Shared}{a:Addr}{y:V}{o:Option V}(I:Inv X pins σ H s)(g:Q7 H a y o):s.TypeIs (.ref a) "dict":=by
 rcases g with⟨c,k,e,_,_⟩ | ⟨c,k,b,e,_,_,_⟩
 ·obtain⟨_,_,vs,_,d⟩:=V2 I.hok e;exact d.typeIs
 ·obtain⟨_,_,h,_,d⟩:=dh I.hok e;exact d.typeIs
def BX(e ty d:TE):TS:=λD b H=>d b H λv i=>e b i λx h=>ty b h λy g=>∃a c,x=.ref a/\lQ g a y v c/\D.nx b c
section
variable{X:Cx}{o i e value:Expr}{pos pos' tpos:Pos}{td ty tv:TE}
theorem wA(G:X.A.units+1<cLine)(M:PE X o td)(O:PE X i ty)(E:PE X value tv)(J:swapsWith value (some (.Subscript o i pos')) pos.line X.env=pure false) :
  PS X (.Assign [.Subscript o i pos'] value pos) (BX td ty tv):=by
 refine .of ?_;intro b s c H D I h;refine wpAny_Assign_Subscript (r8 (E b s c H _ I h) λr j ⟨v,H1,T,q,C⟩=>r8 (M b j c H1 _ T C) λu d ⟨x,Y,S,p,B⟩=>r8 (O b d c Y _ S B) λiv s3 ⟨y,H3,R,l,a,U,ex,g,z⟩=>?_) J;subst ex;obtain rfl:u=Value.ref a:=p;exact pA G R g l q λs4 Q=>⟨c,U,Q,z⟩
end
theorem X3{P:Program}{w:World}{H:Hp}(h:Heap)(a:sysModules<h.objs.size):j7 P w H (h.push { cls:=.type "dict",data:=.dict #[] }) h.objs.size (.dK []):=
 ⟨vv _,beq_eq_false_iff_ne.mpr (tt (mC a)),[],.nil,Heap.DictOf.new h⟩
def yG:TE:=λ_ H Q=>∀p,H p=none->Q (.ref p) (upd H p (.dK []))
section
variable{X:Cx}{pos:Pos}
theorem rX:PE X (.Dict [] [] pos) yG:=.of <| λb s c H Q I h=>
 wpAny_Dict_empty ⟨.ref s.heap.objs.size,_,I.laid (a:=s.heap.objs.size) (o:=.dK []) (t':=s.toks) (λ_ _ q=>cC _ q) (hI _) (X3 s.heap I.big),rfl,h _ (I.hok.fresh (hI _))⟩
end
def x6(kvs a:List (Key×V)):List (Key×V):=a.foldl (λb c=>putK b c.1 c.2) kvs
theorem V6:∀(a kvs:List (Key×V)),(x6 kvs a).length<=kvs.length+a.length
 | [],kvs=>by show kvs.length<=kvs.length+0;omega
 | p::r,kvs=>by
  have c:=V6 r (putK kvs p.1 p.2);have b:=B0 kvs p.1 p.2;show(x6 (putK kvs p.1 p.2) r).length<=_;rw[na];omega
structure M2(X:Cx)(o:Expr)(m:Str)(apos:Pos)(e f:Expr)(cpos:Pos):Prop where
 base:attributeBase o m X.env (eval o X.env)=eval o X.env
 few:((backTo cpos (starEach [e,f] X.env)).all (λx=>!x.1)&&(backToKw cpos (keywordEach [] X.env)).all (λx=>x.1.isSome)
  && decide (([e,f]:GJ).length+([]:List Keyword).length+(if ([]:List Keyword).isEmpty then 0 else 1)<30))=true
 line:(apos.endLine == cpos.line)=true
 trees:backTo cpos (starEach [e,f] X.env)=[(false,eval e X.env),(false,eval f X.env)]
def En(H:Hp)(a:Addr):Prop:=(∃b,yW H a b)\/∃b,Rd H a (.dT b)
theorem zK{X:Cx}{pins:GA}{σ:St}{H:Hp}{s:Shared}{a:Addr}(I:Inv X pins σ H s)(d:En H a) :
  s.TypeIs (.ref a) "dict" /\ (∀b,Value.ref a=.ref b->∃ob,s.heap.get? b=some ob/\ob.dict=none)/\(a == sysModules)=false:=by
 rcases d with⟨g,e⟩ | ⟨g,e⟩
 ·obtain⟨_,hd,vs,_,c⟩:=V2 I.hok e;refine⟨c.typeIs,λb q=>?_,hd⟩;cases q;obtain⟨ob,_,_,i,h,_⟩:=c;exact⟨ob,i,h.2.1⟩
 ·obtain⟨_,hd,j,_,c⟩:=dh I.hok e;refine⟨c.typeIs,λb q=>?_,hd⟩;cases q;obtain⟨ob,_,_,i,h,_⟩:=c;exact⟨ob,i,h.2.1⟩
section
variable{X:Cx}{pins:GA}{σ:St}{H:Hp}{s:Shared}{a:Addr}{y d:V}{u r:Value}{o:Option V}{A:Around}{E:GP}
theorem zh{Q:GP}(C:A.units+1<cLine)(I:Inv X pins σ H s)(g:Q7 H a y o)(v:RelV y u)(x:RelV d r)(h:∀q s',Inv X pins σ H s'->RelV (o.getD d) q->Q q s') :
  wpAny (model X.prog X.w) A (call (.builtin "dict.get") [.ref a,u,r]) Q E s:=by
 rcases g with⟨j,k,e,p,l⟩ | ⟨j,k,b,e,p,G,l⟩
 ·subst p;obtain⟨z,hd,vs,c,i⟩:=V2 I.hok e;refine call_meetsIn Da i.typeIs Ft (Fk _ _ _) (meets_dict_get_default (n8 X.prog X.w) a (aD v) hd r) ⟨_,i.mapOf,h _ _ (I.tok _) ?_⟩;rw[l];exact(c.val k).getD x
 ·subst p;cases(show u=Value.ref b from v);obtain⟨z,hd,B,c,i⟩:=dh I.hok e;refine call_meetsIn Da i.typeIs Ft (Fk _ _ _) (meetsH_dict_get_default (tupleKind (n8 X.prog X.w)) a b hd r) ⟨Ch C,k,B,af I.hok G,i,h _ _ (I.tok _) ?_⟩;rw[l];exact(c.val k).getD x
end
section
variable{X:Cx}{o e f:Expr}{apos cpos:Pos}{td ty tx:TE}
end
section
variable{X:Cx}{pins:GA}{σ:St}{H:Hp}{s:Shared}{a:Addr}{kvs:List (Key×V)}{A:Around}{E:GP}
end
section
variable{X:Cx}{pins:GA}{σ:St}{H:Hp}{s:Shared}{a:Addr}{y:V}{u:Value}{A:Around}{E:GP}
end
section
variable{X:Cx}
end
section
variable{κ:Type}[DecidableEq κ]
end
theorem Ag{P:Program}{w:World}{h:Heap}{a:Addr}{f:Key->GS}(m:h.MapOf (n8 P w) a f):h.MapOf (du P w) a (λk=>k.bind f):=by
 obtain⟨o,d,u,r,p,l,g,j⟩:=m;refine⟨o,d,u,r,p,l,λe c=>?_,λk=>?_⟩
 ·obtain⟨k,b,v⟩:=g e c;exact⟨some k,b,v⟩
 ·cases k with
  | some k=>exact j k
  | none=>
   show findBy cE d none=none
   have no:∀e∈d,cE none e.key=false:=λe c=>by
    cases q:cE none e.key with
    | false=>rfl
    | true=>
     obtain⟨k,b,_⟩:=g e c;rw[u0 q] at b;rcases l6 (show aU k Value.none=true from b) with⟨i,t,_,e⟩ | ⟨x,t,_,e⟩<;>cases e
   unfold findBy;simp;exact no
def uI(H:Hp)(a:Addr)(y:V)(r:Option V):Prop:=Q7 H a y r\/(y=.l4/\(∃b,Dd H a b)/\r=none)
def xH(e ty tx:TE):TE:=λb H Q=>e b H λx d=>∃a,x=.ref a/\En d a/\ty b d λy g=>tx b g λz c=>∃o,uI c a y o/\Q (o.getD z) c
theorem oJ {X:Cx} {o e f:Expr} {i c:Pos} {q ty tx:TE} (hu:X.A.units+1<cLine) (ho:PE X o q) (he:PE X e ty) (hf:PE X f tx) (m:M2 X o "get" i e f c):PE X (.Call (.Attribute o "get" i) [e,f] [] c) (xH q ty tx):=by
 refine .of ?_;intro b s j H Q I h;refine wpAny_Call_method m.base m.few m.line PySem.F.plainAttrs_dict Da PySem.F.type_dict_get (r8 (ho b s j H _ I h) λu R ⟨x,H1,E,S,a,ex,d,Y⟩=>?_);subst ex;obtain rfl:u=Value.ref a:=S;obtain⟨M,J,_⟩:=zK E d;refine⟨M,J,?_⟩;rw[m.trees]
 refine Calls.callWith_builtin rfl (FO (Gb (r8 (he b R j H1 _ E Y) λiv O ⟨y,H2,I2,v,U⟩=>
  Gb (r8 (hf b O j H2 _ I2 U) λfv s3 ⟨z,G,p,r,ov,g,B⟩=>Calls.spliced_nil ?_))))
 rcases g with g | ⟨rfl,⟨a0,hk⟩,rfl⟩
 ·exact zh hu p g v r λw' s4 I4 l=>⟨_,G,I4,l,B⟩
 ·cases v;obtain⟨zz,hd,vs,T,C⟩:=V2 p.hok (.of hk);refine call_meetsIn Da C.typeIs Ft (Fk _ _ _) (meets_dict_get_default (du X.prog X.w) (k:=none) a (by rfl) hd fv) ⟨_,Ag C.mapOf,⟨_,G,p.tok _,r,B⟩⟩
def AH(Q:VK):VK:=λv b=>∃p a,v=.ref p/\b p=some (.dK a)/\∀c,Q v (upd b p (.dE a c))
def Ends.AH(D:Ends):Ends:={ D with nx:=λb c=>∃p a,c p=some (.dK a)/\∀d,D.nx b (upd c p (.dE a d)) }
section
variable{X:Cx}
theorem zS{e:Expr}{t:TE}(h:PE X e t):PE X e (λσ H Q=>t σ H (AH Q)):=by
 refine .of ?_;intro a s σ H Q I q;exact r8 (h a s σ H _ I q) λv o ⟨x,u,l,b,p,d,r,i,c⟩=>let ⟨g,j⟩:=l.sY i;⟨x,_,j,b,c g⟩
theorem qS{f:Value}{r:List V->Hp->VK->Prop}(h:C5 X f r):C5 X f (λxs H Q=>r xs H (AH Q)):=by
 intro a s b H xs c Q I d q;exact r8 (h a s b H xs c _ I d q) λv y ⟨x,B,u,e,p,i,z,l,g⟩=>let ⟨j,o⟩:=u.sY l;⟨x,_,o,e,g j⟩
theorem rh{st:Stmt}{t:TS}(h:PS X st t):PS X st (λD σ H=>t D.AH σ H):=by
 refine .of ?_;intro a s σ H D I q;refine r8 (h a s σ H _ I q) λf o b=>?_
 cases f with
 | next=>
  obtain⟨c,r,l,p,g,e,d⟩:=b;obtain⟨i,j⟩:=l.sY e;exact⟨_,_,j,d i⟩
 | brk=>exact b
 | cont=>exact b
 | ret v=>exact b
end
end L2
namespace L3
open PySem PySem.Spec L2
def aC:D->Option Key
 | .int i=>some (.inl i)
 | .str x=>some (.inr x)
 | _=>none
def u5(kvs:List (Key×D))(k:Key):Option D:=(kvs.find? λa=>decide (a.1=k)).map (·.2)
def putD(kvs:List (Key×D))(k:Key)(v:D):List (Key×D):=
 if (kvs.any λa=>decide (a.1=k))=true then kvs.map (λa=>if a.1=k then(a.1,v) else a) else kvs++[(k,v)]
section
variable{K:GR}{H:Hp}
theorem o9.val:∀{kvs:List (Key×V)} {a:List (Key×D)} {A:GG} (k:Key),o9 K H kvs a A->(∀d,u5 a k=some d->∃v B,W6 kvs k=some v/\Rep K H v d B/\B.Sublist A)/\(u5 a k=none->W6 kvs k=none)
 | _,_,_,k,.nil=>⟨λd e=>by simp[u5] at e,λ_=>rfl⟩
 | _,_,_,k,.cons (k:=c) (A:=A) (B:=B) h r=>by
  obtain⟨i,g⟩:=r.val k
  by_cases e:c=k
  ·subst e;refine⟨λd e=>?_,λe=>?_⟩
   ·simp[u5,ry] at e;subst e;exact⟨_,_,Y5 rfl,h,Fg _ _⟩
   ·simp[u5,ry] at e
  ·have l:∀(x:D) (j:List (Key×D)),u5 ((c,x)::j) k=u5 j k:=λx j=>by simp[u5,ry,e]
   refine⟨λd b=>?_,λb=>?_⟩
   ·rw[l] at b;obtain⟨v,B,u,q,o⟩:=i d b;exact⟨v,B,by rw[R7 (p:=(c,_)) e];exact u,q,o.trans (EZ _ _)⟩
   ·rw[l] at b;rw[R7 (p:=(c,_)) e];exact g b
theorem o9.any{kvs:List (Key×V)}{a:List (Key×D)}{A:GG}(k:Key)(r:o9 K H kvs a A):(kvs.any λb=>decide (b.1=k))=a.any λb=>decide (b.1=k):=
 r.ind (P:=λkvs a _=>(kvs.any λb=>decide (b.1=k))=a.any λb=>decide (b.1=k)) rfl λ_ _ e=>by rw[v3,v3,e]
theorem o9.length{kvs:List (Key×V)}{c:List (Key×D)}{A:GG}(r:o9 K H kvs c A):kvs.length=c.length:=r.ind (P:=λa b _=>a.length=b.length) rfl λ_ _ e=>tz (·+1) e
theorem o9.C3{kvs:List (Key×V)}{a:List (Key×D)}{A:GG}(r:o9 K H kvs a A):(a.all λb=>y4 b.2)=true->A=[]:=
 r.ind (P:=λ_ a A=>(a.all λb=>y4 b.2)=true->A=[]) (λ_=>rfl) λh _ j e=>by
  rw[v4,eH] at e;rw[h.C3 e.1,j e.2];rfl
theorem o9.oO{v:V}{d:D}(k:Key)(g:Rep K H v d []):∀{kvs:List (Key×V)} {b:List (Key×D)} {A:GG},o9 K H kvs b A->∃C,o9 K H (kvs.map λa=>if a.1=k then(a.1,v) else a) (b.map λa=>if a.1=k then(a.1,d) else a) C/\C.Sublist A
 | _,_,_,.nil=>⟨[],.nil,v1 _⟩
 | _,_,_,.cons (k:=j) (A:=A) (B:=B) h r=>by
  obtain⟨C,i,c⟩:=o9.oO k g r;rw[nj,nj]
  by_cases e:j=k
  ·rw[l7 e,l7 e];exact⟨[]++C,.cons g i,c.trans (EZ _ _)⟩
  ·rw[ln e,ln e];exact⟨A++C,.cons h i,c.append_left A⟩
theorem o9.snoc{kvs:List (Key×V)}{c:List (Key×D)}{A B:GG}{k:Key}{v:V}{d:D}(r:o9 K H kvs c A)(e:Rep K H v d B):o9 K H (kvs++[(k,v)]) (c++[(k,d)]) (A++B):=by
 refine r.ind (P:=λa b A=>o9 K H (a++[(k,v)]) (b++[(k,d)]) (A++B)) ?_ λh _ i=>by rw[AT];exact .cons h i
 have q:=o9.cons (k:=k) e o9.nil;rw[n4] at q;exact q
theorem o9.put{kvs:List (Key×V)}{a:List (Key×D)}{A:GG}{v:V}{d:D}(k:Key)(r:o9 K H kvs a A)(b:Rep K H v d []):∃C,o9 K H (putK kvs k v) (putD a k d) C/\C.Sublist A:=by
 unfold putK putD;rw[r.any k]
 by_cases e:(a.any λc=>decide (c.1=k))=true
 ·rw[l7 e,l7 e];exact r.oO k b
 ·rw[ln e,ln e];have q:=r.snoc (k:=k) b;rw[n4] at q;exact⟨A,q,v1 _⟩
theorem U4{v:V}{a:List (Key×D)}{A:GG}(h:Rep K H v (.dic a) A):∃p kvs B,v=.ref p/\Dd H p kvs/\o9 K H kvs a B/\A=p::B:=by
 cases h with
 | dic h r=>exact⟨_,_,_,rfl,.inr ⟨_,h⟩,r,rfl⟩
theorem V0.Co{p:Addr}{o:HO}(m:cV (H p)):V0 H (upd H p o):=⟨λb a h=>by
  by_cases e:b=p
  ·subst e;rw[h] at m;exact m.elim
  ·rw[g9 e];exact h,λb u c h=>by
  by_cases e:b=p
  ·subst e;rw[h] at m;exact m.elim
  ·rw[g9 e];exact h,λb h=>by
  by_cases e:b=p
  ·subst e;rw[g6] at h;cases h
  ·rw[g9 e] at h;exact h⟩
theorem vD{c:Hp}{d ep:Nat}{acc:List (Key×V)}{ds:List (Key×D)}(g:e9 c H)(hd:c d=none)(i:H d=some (.dK acc))(r:o9 K H acc ds []):e9 c (upd H d (.dE acc ep))/\Rep K (upd H d (.dE acc ep)) (.ref d) (.dic ds) [d]:=by
 refine⟨λb o e=>?_,.dic g6 (r.mono (V0.Co (by rw[i];exact True.intro)) λa h=>by cases h)⟩;rw[g9 (o5 e hd)];exact g _ _ e
theorem T8{v:V}{d:D}{A:GG}{k:Key}(h:Rep K H v d A)(e:aC d=some k):v=kV k:=by
 cases h<;>first | cases e | skip
 ·rfl
 ·rfl
end
section
variable{X:Cx}{cl:List Cl}{e a b c:Expr}{f:Fl}{pos:Pos}{ua ub uc:TU}{ma mb mc:TM}{fa fb fc:Fl}{x:Str}{i:Nat}
theorem nO:PU X cl (.Dict [] [] pos) .fresh (uC (.dic [])):=.of<|by
 refine⟨_,zS rX,λG l j H o Q R _ E g k=>λp d=>⟨p,[],rfl,g6,λq=>?_⟩⟩;rw[Y2];refine k _ _ _ [p] (e9.i6 d) (.dic g6 .nil) ⟨by simp,λa h=>?_⟩ g;have:a=p:=by simpa using h
 rw[this];exact d
def yv:D->D->(D->Prop)->Prop:=λd y Q=>match d with
 | .dic g=>∃k v,aC y=some k/\u5 g k=some v/\Q v
 | _=>False
theorem vP{H:Hp}{v w:V}{d e:D}{A B:GG}{Q:D->Prop}(r:Rep X.K H v d A)(o:Rep X.K H w e B)(q:yv d e Q):∃a u z C,v=.ref a/\Q7 H a w (some u)/\Rep X.K H u z C/\C.Sublist A/\Q z:=by
 cases d<;>first | exact(show False from q).elim | skip
 rename_i g
 obtain⟨k,z,I,E,q⟩:∃k v,aC e=some k/\u5 g k=some v/\Q v:=q;obtain⟨p,y,M,rfl,G,j,rfl⟩:=U4 r;cases T8 o I;obtain⟨u,C,J,l,h⟩:=(j.val k).1 z E;refine⟨p,u,z,C,rfl,?_,l,h.trans (wr _ _),q⟩;rw[<-J];exact Q7.k G
def tY:D->D->D->(D->Prop)->Prop:=λd y z Q=>match d with
 | .dic g=>match y with
  | .l4=>y4 z=true/\Q z
  | y=>∃k,aC y=some k/\y4 ((u5 g k).getD z)=true/\Q ((u5 g k).getD z)
 | _=>False
def Bc:D->Bool
 | .dic _=>true
 | _=>false
def lg(ua ub uc:TU):TU:=λd Q=>ua d λx=>Bc x=true/\ub d λy=>uc d λz=>tY x y z Q
theorem uZ{H:Hp}{v w u:V}{d e z:D}{A B C:GG}{Q:D->Prop}(O:Rep X.K H v d A)(J:Rep X.K H w e B)(r:Rep X.K H u z C)(q:tY d e z Q):∃a o y,v=.ref a/\uI H a w o/\Rep X.K H (o.getD u) y []/\Q y:=by
 cases d<;>first | exact(show False from q).elim | skip
 rename_i g
 obtain⟨p,j,U,rfl,M,G,rfl⟩:=U4 O
 have go:∀k,aC e=some k->y4 ((u5 g k).getD z)=true->Q ((u5 g k).getD z)->∃a o y,V.ref p=.ref a/\uI H a w o/\Rep X.K H (o.getD u) y []/\Q y:=λk h im q=>by
  cases T8 J h;refine⟨p,W6 j k,_,rfl,.inl (Q7.k M),?_,q⟩
  cases E:u5 g k with
  | none=>
   rw[(G.val k).2 E];rw[E] at im;have l:=r.C3 im;subst l;exact r
  | some y=>
   obtain⟨S,T,R,I,_⟩:=(G.val k).1 y E;rw[R];rw[E] at im;have l:=I.C3 im;subst l;exact I
 cases e with
 | l4=>
  have q:y4 z=true/\Q z:=q;cases bC J;have l:=r.C3 q.1;subst l;exact⟨p,none,z,rfl,.inr ⟨rfl,⟨j,M⟩,rfl⟩,r,q.2⟩
 | int i=>obtain⟨k,h,im,q⟩:=q;exact go k h im q
 | str i=>obtain⟨k,h,im,q⟩:=q;exact go k h im q
 | _=>obtain⟨k,h,im,q⟩:=q;cases h
theorem iL {h:Pos} (hu:X.A.units+1<cLine) (Y:PU X cl a fa ua) (U:PU X cl b fb ub) (T:PU X cl c fc uc) (m:M2 X a "get" h b c pos):PU X cl (.Call (.Attribute a "get" h) [b,c] [] pos) .fresh (lg ua ub uc):=.of<|by
 obtain⟨ta,pa,Y⟩:=Y.run;obtain⟨tb,pb,U⟩:=U.run;obtain⟨tc,pc,T⟩:=T.run;refine⟨_,oJ hu pa pb pc m,λG l j H fo Q R hG E S k=>Y G l j H fo _ _ hG E S λv H1 d A I r1 f1 M=>?_⟩;obtain⟨hd,M⟩:=M;cases d<;>first | cases hd | skip
 have J:=r1;obtain⟨p,O,B',rfl,hp,rs,rfl⟩:=U4 r1;refine⟨p,rfl,.inl ⟨O,.of hp⟩,U G l j H1 fo _ _ hG (E.same I) M λw H2 e B r r2 f2 q2=>T G l j H2 fo _ _ hG (E.same (I.trans r)) q2 λu H3 z C q r3 f3 q3=>?_⟩;obtain⟨p',o,y,ep,g,r4,q4⟩:=uZ ((J.same r).same q) (r2.same q) r3 q3;cases ep;exact⟨o,g,k _ H3 y [] ((I.trans r).trans q) r4 (p3.nil _) q4⟩
def zH(i:Nat)(y d:D)(h:Ev)(Q:Ev->Prop):D->Prop
 | .dic g=>∃k,aC y=some k/\g.length<sizeLine/\Q (h.set i (some (.dic (putD g k d))))
 | _=>False
def mq(i:Nat)(l mk:TM):i7:=λT j=>l j λd h=>y4 d=true/\c7 i h λ_=>mk h λy g=>c7 i g (zH i y d g T.nx)
theorem tN{M tp:Pos}{Y:Expr}{mk:TM}(hu:X.A.units+1<cLine)(i:Nat)(hv:PE X (.Name x M) (Q6 i))(hi:cl[i]?=some .own)(he:PN X cl e ma)(hk:PN X cl Y mk)(hs:swapsWith e (some (.Subscript (.Name x M) Y tp)) pos.line X.env=pure false:=by rfl) :
  M4 X cl (.Assign [.Subscript (.Name x M) Y tp] e pos) (mq i ma mk):=.of<|by
 obtain⟨t,p,h⟩:=he.run;obtain⟨t2,p2,h2⟩:=hk.run;refine⟨_,rh (wA hu hv p2 p hs),λG T ρ σ H fa R hG E a0 le=>?_⟩;have own:G.own i:=by unfold Ent.own;rw[hG];exact hi
 refine h G ρ σ H fa _ _ hG E a0 λw H1 d B1 J a1 E1 c1 r1 n1 q=>?_;obtain⟨im,q⟩:=q;have eB:=r1.C3 im;subst eB;obtain⟨l0,e0,q⟩:=N4 q;obtain⟨v,r,r0⟩:=E1.rep i l0 e0;refine⟨_,r,h2 G J σ H1 a1 _ _ hG E1 q λwk H2 dk Bk o y E2 c2 rk nk q=>?_⟩;obtain⟨l1,e1,q⟩:=N4 q;obtain⟨v',j,r2⟩:=E2.rep i l1 e1;have ev:v'=v:=by rw[r] at j;cases j;rfl
 subst ev;cases l1<;>first | exact(show False from q).elim | skip
 rename_i g
 obtain⟨k,hk,hn,q⟩:∃k,aC dk=some k/\g.length<sizeLine/\T.nx (o.set i (some (.dic (putD g k d)))):=q;obtain⟨p,U,B,rfl,hp,rs,eA⟩:=U4 r2;cases T8 rk hk;have Q:Rep X.K H2 w d []:=c2.keep r1 λi _ a l=>(by cases l)
 have nd:=E2.nd i (.inl own);have pin:p∈y i:=by rw[eA];exact lm
 rw[eA] at nd;obtain⟨np,S⟩:=List.nodup_cons.mp nd;obtain⟨C,rC,O⟩:=rs.put k Q;have u:p∉C:=λz=>np (O.mem z);have rn:∀I,Rep X.K (upd H2 p (.dE (putK U k w) I)) (.ref p) (.dic (putD g k d)) (p::C):=λI=>.dic g6 (rC.mono (V0.Co hp.mut) λa l=>g9 λe=>u (e▸l))
 have n3:∀a∈p::C,a∈y i:=λa l=>by
  rcases List.mem_cons.mp l with z | z
  ·exact z▸pin
  ·rw[eA];exact lf _ (O.mem z)
 have li:i<o.length:=(List.getElem?_eq_some_iff.mp e1).1;refine⟨p,_,rfl,lQ.k hp (by rw[rs.length];exact hn),p,_,g6,λI=>?_⟩;rw[Y2];exact le.nx _ _ ⟨_,_,E2.put own li j pin gi (by rw[g6];exactλz=>nomatch z) (rn I) (List.nodup_cons.mpr ⟨u,S.sublist O⟩) λa l=>.inl (n3 a l),q⟩
theorem i5.rev{K:GR}{H:Hp}:∀{vs:List V} {ds:List D} {A:GG},i5 K H vs ds A->∃B,i5 K H vs.reverse ds.reverse B/\(∀a,a∈B ↔ a∈A)/\(A.Nodup->B.Nodup)
 | _,_,_,.nil=>⟨[],.nil,λ_=>Iff.rfl,λh=>h⟩
 | _,_,_,.cons (A:=A) (B:=B) h r=>by
  obtain⟨C,g,d,n1⟩:=r.rev;refine⟨C++(A++[]),by rw[Fb,Fb];exact g.append (.cons h .nil),λa=>?_,λn=>?_⟩
  ·rw[n4,Fw,Fw,d a];exact Or.comm
  ·rw[n4];obtain⟨l,j,dj⟩:=List.nodup_append.mp n;exact List.nodup_append.mpr ⟨n1 j,l,λa p b o e=>dj b o a ((d a).mp p) e.symm⟩
end
section
variable{X:Cx}{cl:List Cl}
theorem G2{b:GO}{c:Stmt}{a:i7}(e:b=[c])(d:M4 X cl c a):gb X cl b a:=by
 rw[e];exact(cg d)
theorem xS{b:GO}{g d:Stmt}{c a:i7}(e:b=[g,d])(i:M4 X cl g c)(h:M4 X cl d a):gb X cl b (i9 c a):=by
 rw[e];exact(u3 i (cg h))
theorem zc{b:GO}{i h g:Stmt}{d c a:i7}(e:b=[i,h,g])(o:M4 X cl i d)(l:M4 X cl h c)(j:M4 X cl g a):gb X cl b (i9 d (i9 c a)):=by
 rw[e];exact(u3 o (u3 l (cg j)))
theorem yR{b:GO}{l j i h:Stmt}{g d c a:i7}(e:b=[l,j,i,h])(r:M4 X cl l g)(q:M4 X cl j d)(p:M4 X cl i c)(o:M4 X cl h a):gb X cl b (i9 g (i9 d (i9 c a))):=by
 rw[e];exact(u3 r (u3 q (u3 p (cg o))))
theorem DW{b:GO}{p o l j i:Stmt}{h g d c a:i7}(e:b=[p,o,l,j,i])(x:M4 X cl p h)(v:M4 X cl o g)(u:M4 X cl l d)(r:M4 X cl j c)(q:M4 X cl i a):gb X cl b (i9 h (i9 g (i9 d (i9 c a)))):=by
 rw[e];exact(u3 x (u3 v (u3 u (u3 r (cg q)))))
theorem EL{b:GO}{r q p o l j:Stmt}{i h g d c a:i7}(e:b=[r,q,p,o,l,j])(B:M4 X cl r i)(z:M4 X cl q h)(y:M4 X cl p g)(x:M4 X cl o d)(v:M4 X cl l c)(u:M4 X cl j a):gb X cl b (i9 i (i9 h (i9 g (i9 d (i9 c a))))):=by
 rw[e];exact(u3 B (u3 z (u3 y (u3 x (u3 v (cg u))))))
theorem Ei{b:GO}{v u r q p o l:Stmt}{j i h g d c a:i7}(e:b=[v,u,r,q,p,o,l])(G:M4 X cl v j)(E:M4 X cl u i)(C:M4 X cl r h)(B:M4 X cl q g)(z:M4 X cl p d)(y:M4 X cl o c)(x:M4 X cl l a):gb X cl b (i9 j (i9 i (i9 h (i9 g (i9 d (i9 c a)))))):=by
 rw[e];exact(u3 G (u3 E (u3 C (u3 B (u3 z (u3 y (cg x)))))))
end
section
variable{X:Cx}{cl:List Cl}{a:Expr}{f:Fl}{pos:Pos}{ua:TU}
def aV:D->(D->Prop)->Prop
 | .int i,Q=>Q (.int (-i))
 | _,_=>False
def qO(g:D->(D->Prop)->Prop)(ua:TU):TU:=λb Q=>ua b λd=>g d Q
theorem K3(g:PU X cl a f ua):PU X cl (.UnaryOp .USub a pos) .fresh (qO aV ua):=.of<|by
 obtain⟨t,p,h⟩:=g.run;refine⟨_,AQ Ay p,λG c b H j Q R i E e k=>h G c b H j _ _ i E e λv l d B s r _ q=>?_⟩;cases d<;>first | exact(show False from q).elim | skip
 cases v9 r;exact⟨_,rfl,k _ l _ [] s .int (p3.nil _) q⟩
end
abbrev BR:=vj λi j=>D.int (i-j)
abbrev yX:=gI U9 λi j=>D.int (i/j)
abbrev wK:=gI (λ_ j=>0<j) λi j=>D.int (i%j)
abbrev yF:=gI dX λi j=>D.int (i^j.toNat)
abbrev BV:=vj λi j=>D.bl (decide (i<j))
abbrev AL:=vj λi j=>D.bl (decide (j<i))
theorem cn{i j:Nat}{ds:List D}{a:Ev}{Q:Ev->Prop}(h:j6 (g1 i) (j6 (g1 j) L8) ds a Q):ds.length=2:=by
 match ds,h with
 | [_,_],_=>rfl
 | [_],h=>exact h.2.elim
 | _::_::_::_,h=>exact h.2.2.elim
section
variable{X:Cx}{cl:List Cl}{e a b tg:Expr}{es:GJ}{f:Fl}{pos pos':Pos}{ua ub:TU}{ma mb:TM}{fa fb:Fl}{x:Str}{i:Nat}
def rO(g:cU)(u:TU):i7:=λT c=>u c λd=>g d c T.nx
theorem om{g:cU}(O:PU X cl e f ua)(M:aK f .stab=true)(J:xV X cl tg g)(mk:∀{te g},PE X e te->PG X tg g->PS X (.Assign [tg] e pos) (vt te g)):M4 X cl (.Assign [tg] e pos) (rO g ua):=.of<|by
 obtain⟨t,p,h⟩:=O.run;obtain⟨t2,C,Q⟩:=J.run;refine⟨_,mk p C,λG T o l H fa R u E I le=>h G o l H fa _ _ u E I λv U d B s r S q=>?_⟩;exact Q G o l U fa v d B _ _ u (E.same s) r (S.weak E M) q λy c j Y _ _ z=>le.nx _ _ ⟨c,j,Y,z⟩
def Cc:D->D->(D->Prop)->Prop
 | .tup d,.tup c,Q=>o6 d=true/\o6 c=true/\d.length+c.length<=sizeLine/\Q (.tup (d++c))
 | _,_,_=>False
theorem zP:X0 X rT Cc:=by
 intro H v w d e A B Q R l j q k;cases d<;>cases e<;>first | exact q.elim | skip
 obtain⟨p,vs,rfl,I,g⟩:=A4 l;obtain⟨o,h,rfl,G,c⟩:=A4 j;obtain⟨y,u,C,q⟩:=q;have M:=g.C3 y;have J:=c.C3 u;subst M;subst J;exact⟨p,o,vs,h,rfl,rfl,I,G,by rw[g.length,c.length];exact C,λr O s z=>k _ _ _ [] s (.tup z ((g.same s).append (c.same s))) lc (λa E=>(by cases E)) q⟩
end
end L3
namespace L2
open PySem PySem.Spec PyProof.Rows
theorem dS{prog:Program}{w:World}{A:Around}{R:Result->Shared->Prop}{s:Shared}{q j a d:Expr}{e:GJ}{scope:Scope}{i:Pos}{it:Value}{D:Addr}{env:Env}(I:Nat->Shared->Prop)
  (g:∀n s,I n s->wpAny (model prog w) A (pyNext it) (λr p=>match r with
   | none=>R (.ok .next) p
   | some v=>wpAny (model prog w) A (letOwnedTupleGo a it v) (λ_ C=>wpAny (model prog w) A (assign a env v) (λ_ B=>
     wpAny (model prog w) A (forIn e true λc r=>if r=true then do let ok <-isTrue c env (eval c env);pure (ForInStep.yield ok) else pure (ForInStep.yield r)) (λok o=>
      if ok=true then wpAny (model prog w) A (eval q env) (λE z=>wpAny (model prog w) A (eval j env) (λu l=>
       wpAny (model prog w) A (dictSet D E u) (λ_ y=>∃m,m<n/\I m y) (λ_ _=>False) l) (λ_ _=>False) z) (λ_ _=>False) o
      else ∃m,m<n/\I m o) (λ_ _=>False) B) (λ_ _=>False) C) (λ_ _=>False) p) (λ_ _=>False) s)
  (n:Nat) (h:I n s) :
  codeAny (model prog w) A (.compLoop (.DictComp q j [⟨a,d,e,0⟩] scope i) 0 it (.ref D) env) R s:=by
 refine codeAny_loop rfl I (λn s J=>?_) n h;show wpAny _ A ((compTurn (.DictComp q j [⟨a,d,e,0⟩] scope i) 0 it (.ref D) env).onRaise (λx=>do noteFrame x env;theTreesLotGoes x)) _ _ s;refine wpAny_noted ?_;rw[compTurn_dict];refine cB (x0 (cB (o1 (g n s J) (λr p H=>?_) λ_ _ b=>b.elim)))
 cases r with
 | none=>exact dL H
 | some v=>
  refine cB (o1 H (λ_ C T=>?_) λ_ _ b=>b.elim);refine cB (o1 T (λ_ B S=>cB (o1 S (λok o G=>?_) λ_ _ b=>b.elim)) λ_ _ b=>b.elim)
  cases ok with
  | false=>exact dL ⟨rfl,G⟩
  | true=>
   exact cB (cB (o1 G (λE z Q=>cB (qs (o1 Q (λu y O=>cB (x0 (qs (o1 O (λ_ U M=>dL ⟨rfl,M⟩) λ_ _ b=>b.elim)))) λ_ _ b=>b.elim))) λ_ _ b=>b.elim))
theorem qu{X:Cx}{pins:GA}{σ:St}{H:Hp}{s:Shared}{a:Addr}{v:V}{u r:Value}{A:Around}{E:GP}{kvs:List (Key×V)}{k:Key}{Q:Unit->Shared->Prop}(I:Inv X pins σ H s)(e:H a=some (.dK kvs))(l:kvs.length<sizeLine)(d:RelV (kV k) u)(g:RelV v r)
  (h:∀s',Inv X pins σ (upd H a (.dK (putK kvs k v))) s'->Q () s'):wpAny (model X.prog X.w) A (dictSet a u r) Q E s:=by
 obtain⟨z,hd,vs,b,B⟩:=rf I.hok e;have i:vs.length<=sizeLine:=by rw[<-b.length];exact z
 have p:(putK kvs k v).length<=sizeLine:=by have:=B0 kvs k v;omega
 refine wpAny_dictSet_pairs (hsz:=i) (aD d) B λy c j=>h _ ?_;have x:∃q,y.get? a=some q:=let ⟨q,_,_,o,_⟩:=c;⟨q,o⟩;exact bA I (by rw[e];exact True.intro) j x (iw p hd (b.put k g) c)
def Dy(J:It)(g:TG)(tc:TT)(tk te:TE)(h:St)(Q:VK)(o:Hp):Prop:=∀d,o d=none ->
 ∃W:Nat->Nat->Hp->Prop,(∃m,W 0 m (upd o d (.dK [])))/\∀i m H,W i m H ->
  (J.stop i H/\Q (.ref d) H) \/
  (J.go i H/\∀x p,J.yld i H x p->g x h p λa u=>tc a u λb l=>
   if b=true then tk a l λq r=>te a r λv j=>∃c k,q=kV k/\j d=some (.dK c)/\c.length<sizeLine/\∃e,e<m/\W (i+1) e (upd j d (.dK (putK c k v)))
   else ∃e,e<m/\W (i+1) e l)
theorem pX{X:Cx}{N:GH}{scope:Scope}{cap:GC}{j:GG}{pins:GA}{σ:St}{H:Hp}{s:Shared}{kx vx z a2:Expr}{a6:GJ}{an:Pos}{g:GD->GG->Shared->Hp->TG}{tc:GD->GG->Shared->Hp->TT}{tk te:GD->GG->Shared->Hp->TE}{J:It}{it:Addr}{tn:Nat->Heap->Prop}
  {E:GP} {RR:Value->Addr->Result->Shared->Prop} {Q:VK} (U:X.calm=true) (cf:E6 X N scope cap) (hk:scope.kind=.function)
  (hg:∀cl j s H,PG (Q2 X N scope cl j s H) z (g cl j s H)) (hc:∀cl j s H,AK (Q2 X N scope cl j s H) a6 (tc cl j s H)) (hx:∀cl j s H,PE (Q2 X N scope cl j s H) kx (tk cl j s H)) (he:∀cl j s H,PE (Q2 X N scope cl j s H) vx (te cl j s H))
  (I:Inv X pins σ H s) (T:Turn X.prog X.w X.K z J j it tn) (st:tn 0 s.heap) (hf:∀b∈j,K9 X pins H b) (q:∀cl j s B,Dy J (g cl j s B) (tc cl j s B) (tk cl j s B) (te cl j s B) (N7 cap σ) Q H)
  (b7:∀d C B s' m,Inv X pins σ B s'->s'.heap.Ns C m->K9 X pins B C->Q (.ref d) B->RR (.ref d) C (.ok .next) s') :
  wpAny (model X.prog X.w) X.A newDict (λacc G=>wpAny (model X.prog X.w) X.A (newFunctionEnv scope X.env.globals (v8 X.env scope.names []) [] X.env.qual none .none (some X.env)) (λa3 s4=>
   codeAny (model X.prog X.w) X.A (.compStart (.DictComp kx vx [⟨z,a2,a6,0⟩] scope an) 0 (.ref it) acc { a3 with scope:=relabel scope X.env }) (RR acc a3.locals) s4) E G) E s:=by
 refine qc (wpAny_newFunctionEnv cf.nocell (by intro y hy;simp at hy) (λh1 ab a7=>?_) hk);have I3:Inv X pins σ (upd H s.heap.objs.size (.dK [])) { s with heap:=s.heap.push { cls:=.type "dict",data:=.dict #[] } }:=I.laid (a:=s.heap.objs.size) (o:=.dK []) (t':=s.toks) (λ_ _ q=>cC _ q) (hI _) (X3 s.heap I.big);have b6:H s.heap.objs.size=none:=I.fresh;obtain⟨W,⟨m0,w0⟩,a0⟩:=q (v8 X.env scope.names []) j { s with heap:=s.heap.push { cls:=.type "dict",data:=.dict #[] } } (upd H s.heap.objs.size (.dK [])) s.heap.objs.size b6
 have ap:∀b∈j,b<s.heap.objs.size:=λb l=>by
  obtain⟨o,e,_⟩:=T.obj 0 _ st b l;exact hW e
 have ac:∀b∈j,K9 X pins (upd H s.heap.objs.size (.dK [])) b:=λb l=>⟨by rw[g9 (mC (ap b l))];exact(hf b l).1,(hf b l).2⟩
 have S:∀b∈j,b<(s.heap.push { cls:=.type "dict",data:=.dict #[] }).objs.size:=λb l=>by
  rw[ut];exact Nat.lt_succ_of_lt (ap b l)
 dsimp only at ab a7 ⊢;generalize Y:({ s with heap:=s.heap.push { cls:=.type "dict",data:=.dict #[] } }:Shared)=G at I3 a0;have M:G.heap=s.heap.push { cls:=.type "dict",data:=.dict #[] }:=by rw[<-Y]
 have bu:G.toks=s.toks:=by rw[<-Y]
 rw[<-M] at ab a7 S;have R:∀b o,G.heap.get? b=some o->h1.get? b=some o:=λb o e=>a7.extBut b o (mC (hW e)) (cC _ e);have keep:∀b o,s.heap.get? b=some o->h1.get? b=some o:=λb o e=>R b o (by rw[M];exact cC _ e);have Ic:=iH (tk:=s.toks) I3 cf hk ac S ab R;have am:tn 0 h1:=T.keep 0 _ _ st λb _ o e=>keep b o e;have b9:∀b∈j,(upd H s.heap.objs.size (.dK [])) b=none:=λb l=>(ac b l).1
 have O:∀{B:Hp},(∀b∈j,B b=none)->∀b∈j,K9 (Q2 X N scope (v8 X.env scope.names []) j G (upd H s.heap.objs.size (.dK []))) [] B b:=λhn b l=>
  ⟨hn b l,mC (S b l),Ic.ok.exfs b l,.inl l,λx c h=>(hf b l).2.2.2.2.1 x c (S5 h),λp hp=>absurd (show p∈([]:GA) from hp) (by simp)⟩
 have c0:G.os=s.os:=by rw[<-Y]
 have c1:G.gens=s.gens:=by rw[<-Y]
 have a1:codeAny (model X.prog X.w) X.A (.compLoop (.DictComp kx vx [⟨z,a2,a6,0⟩] scope an) 0 (.ref it) (.ref s.heap.objs.size) (compEnvC scope (v8 X.env scope.names []) G.heap.objs.size X.env))
   (RR (.ref s.heap.objs.size) G.heap.objs.size) { G with heap:=h1,toks:=s.toks }:=by
  refine dS (λn s'=>∃i B,Inv (Q2 X N scope (v8 X.env scope.names []) j G (upd H s.heap.objs.size (.dK []))) [] (N7 cap σ) B s'/\tn i s'.heap/\(∀b∈j,B b=none)/\W i n B) ?_ m0 ⟨0,_,Ic,am,b9,w0⟩;rintro n s4 ⟨i,H4,I4,al,b1,w4⟩;rcases a0 i n H4 w4 with⟨stop,qn⟩ | ⟨go,step⟩
  ·refine r8 (T.done (Q2 X N scope (v8 X.env scope.names []) j G (upd H s.heap.objs.size (.dK []))) rfl rfl rfl U i [] s4 _ H4 (λ_ _=>False) I4 (O b1) al stop) λr s5 ⟨hr,I5⟩=>?_;subst hr;obtain⟨m,b5,_⟩:=I5.loc;refine b7 _ _ H4 s5 m ?_ b5 (I3.dD (hI _) I5.free) qn;exact I3.ft I5.os I5.base I5.hok I5.bare λb l=>⟨(hf b l).2.2.2.1,(hf b l).2.1,(hf b l).2.2.2.2.1,(hf b l).2.2.2.2.2⟩
  ·refine r8 (T.item (Q2 X N scope (v8 X.env scope.names []) j G (upd H s.heap.objs.size (.dK []))) rfl rfl rfl U i [] s4 _ H4 (λ_ _=>False) I4 (O b1) al go) λr s5 ⟨u,hr,h5⟩=>?_;subst hr;refine r8 h5 λ_ s6 ⟨x,H6,I6,r6,y6,a5,b8⟩=>?_;have bi:=I6.pinned (O b8) (T.obj _ _ a5);refine r8 (hg _ _ _ _ _ s6 _ H6 x u _ bi r6 (step x H6 y6)) λ_ s7 ⟨a4,H7,I7,q7⟩=>?_;refine r8 (hc _ _ _ _ _ s7 a4 H7 _ I7 q7) λok s8 ⟨H8,I8,q8⟩=>?_
   have again:∀{ad:St} {H9:Hp} {s9:Shared},Inv (Q2 X N scope (v8 X.env scope.names []) j G (upd H s.heap.objs.size (.dK []))) ([]++ag j s6.heap) ad H9 s9->(∃m',m'<n/\W (i+1) m' H9) ->
     ∃m,m<n/\∃i B,Inv (Q2 X N scope (v8 X.env scope.names []) j G (upd H s.heap.objs.size (.dK []))) [] (N7 cap σ) B s9/\tn i s9.heap/\(∀b∈j,B b=none)/\W i m B:=λ{ad H9 s9} I9 ⟨m',hm,w9⟩=>by
    refine⟨m',hm,i+1,H9,eM I3 cf ac I9.R9,T.keep _ _ _ a5 λb l o e=>(I9.pin (b,o) (hH _ (hH _ (C8 l e)))).1,λb l=>?_,w9⟩;obtain⟨o,e,d⟩:=T.obj _ _ a5 b l;exact(I9.pin (b,o) (hH _ (hH _ (C8 l e)))).2.1
   cases ok with
   | false=>exact again I8 q8
   | true=>
    show wpAny _ _ (eval kx _) _ _ s8;refine r8 (hx _ _ _ _ _ s8 a4 H8 _ I8 q8) λy0 b2 ⟨v0,bn,bg,b3,b4⟩=>?_;refine r8 (he _ _ _ _ _ b2 a4 bn _ bg b4) λy s9 ⟨v,H9,I9,r9,acc,k,ek,b0,ax,m',hm,w9⟩=>?_;subst ek;exact qu (X:=Q2 X N scope (v8 X.env scope.names []) j G (upd H s.heap.objs.size (.dK []))) I9 b0 ax b3 r9 λbv bm=>again bm ⟨m',hm,w9⟩
 have e4:({ s with heap:=h1,toks:=s.toks+([]:GF).length }:Shared)={ G with heap:=h1,toks:=s.toks }:=by rw[<-Y];rfl
 rw[<-M,e4];exact codeAny_compStart_dict a1 (T.self _ 0 _ _ _ am a1)
def CM(cap:GC)(d:TI)(g:GD->GG->Shared->Hp->TG)(tc:GD->GG->Shared->Hp->TT)(tk te:GD->GG->Shared->Hp->TE):TE:=λc H Q=>d c H λJ e=>∀cl a s b,Dy J (g cl a s b) (tc cl a s b) (tk cl a s b) (te cl a s b) (N7 cap c) Q e
theorem oK{X:Cx}{i:Nat}{y:Str}{XN N:GH}{XS scope:Scope}{cap:GC}{O M b c:Expr}{o:GJ}{r p E:Pos}{wi:TI}{g:GD->GG->Shared->Hp->TG}{tc:GD->GG->Shared->Hp->TT}{tk te:GD->GG->Shared->Hp->TE}
  (a0:X.N.Nodup) (Y:X.N[i]?=some y) (hy:X.env.scope.names.lookup y=some .local)
  (G:eK XN N XS scope cap=true) (hN:X.N=XN) (hS:X.env.scope=XS) (hk:scope.kind=.function) (u:X.calm=true) (hi:PI X b c wi)
  (hg:∀cl j s H,PG (Q2 X N scope cl j s H) b (g cl j s H)) (hc:∀cl j s H,AK (Q2 X N scope cl j s H) o (tc cl j s H)) (hx:∀cl j s H,PE (Q2 X N scope cl j s H) O (tk cl j s H)) (he:∀cl j s H,PE (Q2 X N scope cl j s H) M (te cl j s H))
  (U:swapsWith (.DictComp O M [⟨b,c,o,0⟩] scope r) (some (.Name y E)) p.line X.env=pure true:=by rfl)
  (hs:∀x,foldedSetIterable c X.env x=pure x:=by intro _;rfl):PS X (.Assign [.Name y E] (.DictComp O M [⟨b,c,o,0⟩] scope r) p) (vt (CM cap wi g tc tk te) (nY i)):=by
 refine .of ?_;intro l s σ H D I h;have cf:=aR hN hS G;rw[exec_Assign_Name_used _ _ _ _ U];refine cB (x0 (cB ?_));show wpAny _ X.A (do let _ <-comprehension (.DictComp O M [⟨b,c,o,0⟩] scope r) scope X.env _ newDict false (eval c X.env) (some (assign (.Name y E) X.env))) _ _ s
 refine cB (o1 (wpAny_comprehension_free (use:=some (assign (.Name y E) X.env)) (Q:=λ_ B=>SP X l D .next B) rfl hs (cK (I.Y6 cf)) hk cf.loc (r8 (hi l s σ H _ I h) λv s1 h1=>r8 h1 λa2 s2 h2=>?_))
  (λ_ B hq=>dL (dL hq)) λ_ _ e=>e)
 obtain⟨it,j,tn,J,H2,rfl,I2,T,R,f2,q⟩:=h2;refine pX (RR:=λa1 C=>compPost (model X.prog X.w) X.A X.xe (some (assign (.Name y E) X.env)) (λ_ B=>SP X l D .next B) a1 C) u cf hk hg hc hx he I2 T R f2 q λd C H' B m I' hn hC q'=>?_;show wpAny _ _ (assign (.Name y E) X.env (.ref d)) _ _ B;refine wpAny_assign_Name (N1 (v:=.ref d) I' a0 Y (.inl hy) rfl (λs2 I2 ⟨a,sb,ha⟩=>⟨m,hn.sameBut sb ?_,λh' S=>⟨_,H',I2.yi hC S,q'⟩⟩) (.inr hy));rcases ha with z | z
 ·rw[z];exact hC.2.1
 ·exactλe=>hC.2.2.2.2.1 y a z e.symm
end L2
namespace L3
open PySem PySem.Spec L2
theorem o9.same{K:GR}{H b:Hp}(s:e9 H b){v:List (Key×V)}{d:List (Key×D)}{A:GG}(r:o9 K H v d A):o9 K b v d A:=
 r.mono (V0.of s) λa c=>by
  obtain⟨o,e⟩:=cV.some (r.dC a c);rw[e];exact s a o e
def mK(g:cU)(tc:aJ)(tk te:TU)(e:Ev):List D->List (Key×D)->(List (Key×D)->Prop)->Prop
 | [],a,Q=>Q a
 | x::h,a,Q=>g x e λc=>tc c λb=>Br b (tk c λy=>te c λd=>∃k,aC y=some k/\y4 d=true/\mK g tc tk te e h (putD a k d) Q) (mK g tc tk te e h a Q)
def Ef(cap:GC)(c:qQ)(g:cU)(tc:aJ)(tk te:TU):TU:=λa Q=>c a λb=>b.length<sizeLine/\mK g tc tk te (aY cap a) b [] λd=>Q (.dic d)
theorem EF{K:GR}{cap:GC}{g3:cU}{a0:aJ}{X Y:TU}{fk fv:Fl}{J:It}{g:TG}{tc:TT}{tk te:TE}{xs:List D}{C:GG}{c:Ev}{σ:St}{G:Ent}{z:Hp}{r:GQ}{Q:List (Key×D)->Prop}{R:VK}
  (hg:∀(G:Ent) (c:Ev) (σ:St) (H:Hp) (r:GQ) (v:V) (d:D) (B:GG) (Q:Ev->Prop) (R:St->Hp->Prop),G.cl=M6 cap->E3 K G c σ H r->Rep K H v d B->(∀i,G.own i->∀a∈B,a∉r i)->g3 d c Q ->
   (∀S U a3,E3 K G U S H a3->(∀i,G.own i->a3 i=r i/\S[i]?=σ[i]?)->(∀i,G.own i->U[i]?=c[i]?)->Q U->R S H)->g v σ H R)
  (hc:∀(G:Ent) (c:Ev) (σ:St) (H:Hp) (r:GQ) (Q:Bool->Prop) (R:Bool->Hp->Prop),G.cl=M6 cap->E3 K G c σ H r->a0 c Q->(∀b p,e9 H p->Q b->R b p)->tc σ H R)
  (hk:∀(G:Ent) (c:Ev) (σ:St) (H:Hp) (r:GQ) (Q:D->Prop) (R:VK),G.cl=M6 cap->E3 K G c σ H r->X c Q->(∀v p d B,e9 H p->Rep K p v d B->p3 G H r B fk->Q d->R v p)->tk σ H R)
  (he:∀(G:Ent) (c:Ev) (σ:St) (H:Hp) (r:GQ) (Q:D->Prop) (R:VK),G.cl=M6 cap->E3 K G c σ H r->Y c Q->(∀v p d B,e9 H p->Rep K p v d B->p3 G H r B fv->Q d->R v p)->te σ H R)
  (E:E3 K G c σ z r) (it:dR K J xs C z) (tr:∀a∈C,z a≠none) (hn:xs.length<sizeLine) (q:mK g3 a0 X Y (aY cap c) xs [] Q)
  (k:∀d p acc ds,e9 z p->z d=none->p d=some (.dK acc)->o9 K p acc ds []->Q ds->R (.ref d) p):Dy J g tc tk te (N7 cap σ) R z:=by
 intro d hd
 refine⟨λi m H=>m=xs.length-i/\i<=xs.length/\e9 z H/\∃acc ds,H d=some (.dK acc)/\acc.length<=i/\o9 K H acc ds []/\mK g3 a0 X Y (aY cap c) (xs.drop i) ds Q,
  ⟨xs.length,by simp,vv _,e9.i6 hd,[],[],g6,hI _,.nil,q⟩,?_⟩
 rintro i m H ⟨rfl,a6,s1,acc,ds,M,a7,rs,q⟩;have tf:Tf z H:=⟨λb ys h=>s1 _ _ h,λb o u h=>s1 _ _ h⟩
 have kC:∀a∈C,H a=z a:=λa ha=>by
  obtain⟨o,eo⟩:=Option.ne_none_iff_exists'.mp (tr a ha);rw[eo];exact s1 a o eo
 by_cases I:i<xs.length
 ·right
  obtain⟨go,yl⟩:=(it H tf kC i).2 _ (mv I);rw[sf I] at q;refine⟨go,λy H2 hy=>?_⟩;obtain⟨s2,By,rB,sB⟩:=yl y H2 hy;have E2:=(E.same (s1.trans s2)).comp cap;refine hg (bP cap) _ _ H2 _ y _ By _ _ rfl E2 rB (λj hj=>(B8 hj).elim) q λO T a1 a2 _ _ q3=>?_;refine hc (bP cap) T O H2 a1 _ _ rfl a2 q3 λb H3 s3 q4=>?_;have x:H3 d=some (.dK acc):=s3 _ _ (s2 _ _ M)
  cases b with
  | false=>
   rw[ln kt];exact⟨xs.length-(i+1),by omega,rfl,I,(s1.trans s2).trans s3,acc,ds,x,by omega,(rs.same s2).same s3,q4.f rfl⟩
  | true=>
   rw[l7 rfl];refine hk (bP cap) T O H3 a1 _ _ rfl (a2.same s3) (q4.t rfl) λvk H4 dk Bk s4 rk ab q5=>?_;refine he (bP cap) T O H4 a1 _ _ rfl ((a2.same s3).same s4) q5 λv H5 dv Bv s5 rv fo q6=>?_;obtain⟨kk,ek,im,q6⟩:=q6;have l:H5 d=some (.dK acc):=s5 _ _ (s4 _ _ x);have a4:e9 z H5:=(((s1.trans s2).trans s3).trans s4).trans s5
   have st:V0 H5 (upd H5 d (.dK (putK acc kk v))):=⟨λb ys h=>by
     by_cases e:b=d
     ·subst e;rw[l] at h;cases h
     ·rw[g9 e];exact h,λb u w' h=>by
     by_cases e:b=d
     ·subst e;rw[l] at h;cases h
     ·rw[g9 e];exact h,λb h=>by
     by_cases e:b=d
     ·subst e;rw[g6] at h;cases h
     ·rw[g9 e] at h;exact h⟩
   have a5:=(((rs.same s2).same s3).same s4).same s5;have eB:=rv.C3 im;subst eB;obtain⟨C',rp,sC⟩:=a5.put kk rv;have eC:C'=[]:=List.sublist_nil.mp sC;subst eC;refine⟨acc,kk,T8 rk ek,l,by omega,xs.length-(i+1),by omega,rfl,I,λb o e=>?_,putK acc kk v,putD ds kk dv,g6,by have:=B0 acc kk v;omega,?_,q6⟩
   ·rw[g9 (o5 e hd)];exact a4 _ _ e
   ·exact rp.mono st λa ha=>by cases ha
 ·have ei:i=xs.length:=by omega
  subst ei
  left
  rw[wT] at q;refine⟨(it H tf kC _).1 rfl,k d H acc ds s1 hd M rs q⟩
section
variable{X:Cx}{cl:List Cl}{pos:Pos}{f fk fv:Fl}{XN N:GH}{XS scope:Scope}{cap:GC}{kx vx target iter:Expr}{ifs:GJ}{ui:qQ}{g3:cU}{tc3:aJ}{tk3 te3:TU}
theorem wC{i:Nat}{y:Str}{e py:Pos}(S:X.N.Nodup)(z:X.N[i]?=some y)(hy:X.env.scope.names.lookup y=some .local)(O:wq cl[i]? .fresh i=true)
  (l:eK XN N XS scope cap=true) (hN:X.N=XN) (hS:X.env.scope=XS) (hk:scope.kind=.function) (j:X.calm=true) (B:fq X cl target iter f ui)
  (I:∀c b s H,xV (Q2 X N scope c b s H) (M6 cap) target g3) (Q:∀c b s H,Af (Q2 X N scope c b s H) (M6 cap) ifs tc3) (u:∀c b s H,PU (Q2 X N scope c b s H) (M6 cap) kx fk tk3) (M:∀c b s H,PU (Q2 X N scope c b s H) (M6 cap) vx fv te3)
  (v:swapsWith (.DictComp kx vx [⟨target,iter,ifs,0⟩] scope pos) (some (.Name y py)) e.line X.env=pure true:=by rfl)
  (hs:∀x,foldedSetIterable iter X.env x=pure x:=by intro _;rfl):M4 X cl (.Assign [.Name y py] (.DictComp kx vx [⟨target,iter,ifs,0⟩] scope pos) e) (G3 i (Ef cap ui g3 tc3 tk3 te3)):=.of<|by
 obtain⟨wi,pi,B⟩:=B.run
 refine⟨_,rh<|oK (g:=λc b s H=>Classical.choose (I c b s H).run) (tc:=λc b s H=>Classical.choose (Q c b s H).run) (tk:=λc b s H=>Classical.choose (u c b s H).run) (te:=λc b s H=>Classical.choose (M c b s H).run) S z hy l hN hS hk j pi
  (λc b s H=>(nl (I c b s H).run).1) (λc b s H=>(nl (Q c b s H).run).1) (λc b s H=>(nl (u c b s H).run).1) (λc b s H=>(nl (M c b s H).run).1) v hs,λG T ρ σ H fa R hG E hu le=>?_⟩
 refine B G ρ σ H fa _ _ hG E hu λJ H1 xs C s it tr fo q=>λc b o p=>?_;refine EF (K:=X.K) (nl (I c b o p).run).2 (nl (Q c b o p).run).2 (nl (u c b o p).run).2 (nl (M c b o p).run).2 (E.same s) it tr q.1 q.2 λd H2 U ds s2 hd h rs Y=>⟨d,U,h,λep=>?_⟩
 obtain⟨s3,r⟩:=vD (ep:=ep) s2 hd h rs;exact le.nx _ _ ⟨_,_,(E.same (s.trans s3)).set (rc Y.1) r (lz.of (f:=.fresh) E ⟨by simp,λa ha=>by cases List.mem_singleton.mp ha;exact s.free hd⟩ (by rw[hG];exact O)),Y.2⟩
end
mutual
def pyd:D->PyData
 | .bl b=>.bool b
 | .int i=>.int i
 | .str x=>.str x
 | .tup xs=>.tuple (D5 xs)
 | .lst xs=>.list (D5 xs)
 | .fz xs=>.list (D5 xs)
 | .ob u=>bif zZ u then .dict [] else .none
 | _=>.none
def D5:List D->List PyData
 | []=>[]
 | x::xs=>pyd x::D5 xs
end
mutual
def rH:D->Bool
 | .l4=>true
 | .bl _=>true
 | .int _=>true
 | .str _=>true
 | .tup xs=>dI xs
 | .lst xs=>dI xs
 | .fz xs=>dI xs
 | .ob u=>zZ u
 | _=>false
def dI:List D->Bool
 | []=>true
 | x::xs=>rH x&&dI xs
end
section
variable{X:Cx}{pins:GA}{σ:St}{H:Hp}{s:Shared}
theorem DI(I:Inv X pins σ H s)(a:X.K.lookup sysModules=none){p:Addr}{vs:List V}(h:G1 X.K H p vs)(e:p=sysModules):False:=by
 subst e;rcases h with(h | ⟨o,h⟩) | ⟨o,_,_,h,_⟩
 ·rw[I.sys] at h;cases h
 ·rw[I.sys] at h;cases h
 ·rw[a] at h;cases h
theorem S7(I:Inv X pins σ H s){v:V}{d:D}{A:GG}{u:Value}(h:Rep X.K H v d A):rH d=true->RelV v u->∃as,Reads s.heap u (pyd d) as/\(X.K.lookup sysModules=none->sysModules∉as):=by
 revert u
 have sq:∀{p:Addr} {vs:List V} {l:List D},G1 X.K H p vs->(∀u:GI,dI l=true->Vals vs u->∃as,ReadsAll s.heap u (D5 l) as/\(X.K.lookup sysModules=none->sysModules∉as))->∀u:Value,dI l=true->RelV (.ref p) u->∃as,Reads s.heap u (.list (D5 l)) as/\(X.K.lookup sysModules=none->sysModules∉as):=λ{p vs l} h i u q r=>by
  cases r;obtain⟨E,x,T,_⟩:=I.list h;obtain⟨o,g,J,n,hd⟩:=T.isList;obtain⟨as,q,z⟩:=i _ q x;exact⟨_,.list g J hd (by simpa using q),λc y=>(List.mem_cons.mp y).elim (λe=>DI I c h e.symm) (z c)⟩
 intro u
 refine Rep.rec (motive_1:=λv d _ _=>∀u:Value,rH d=true->RelV v u->∃as,Reads s.heap u (pyd d) as/\(X.K.lookup sysModules=none->sysModules∉as)) (motive_2:=λv d _ _=>∀u:GI,dI d=true->Vals v u->∃as,ReadsAll s.heap u (D5 d) as/\(X.K.lookup sysModules=none->sysModules∉as)) (motive_3:=λ_ _ _ _=>True)
  (λ_ _ r=>by cases r;exact⟨_,.none,λ_=>u8⟩) (λ_ _ r=>by cases r;exact⟨_,.bool _,λ_=>u8⟩) (λ_ _ r=>by obtain⟨t,rfl⟩:=r;exact⟨_,.int _ t,λ_=>u8⟩) (λ_ _ r=>by obtain⟨t,rfl⟩:=r;exact⟨_,.str _ t,λ_=>u8⟩) (λh _ i u q r=>?_)
  (λh _ i=>sq (G1.of h) i) (λh _ i=>sq h.sq i) ?_ ?_ ?_ ?_ ?_ ?_ ?_ (λ_ _ r=>by cases r;exact⟨_,.nil,λ_=>u8⟩) (λ_ _ i j u q r=>?_) trivial (λ_ _ _ _=>trivial) h u
 case refine_1=>
  cases r;obtain⟨E,x,⟨o,g,J,n,hd⟩,_⟩:=I.tuple (G8.of h);obtain⟨as,q,z⟩:=i _ (by simpa[rH] using q) x;exact⟨_,.tuple g J hd (by simpa using q),z⟩
 case refine_8=>
  intro p o w U u q r;cases r
  cases w with
  | dE C Y=>
   cases C with
   | nil=>
    obtain⟨_,_,M,vs,B,ob,O,g,hd,G,_,pr,_⟩:=(show j7 X.prog X.w H s.heap p (.frz o (.dE [] Y)) from I.hok p _ U)
    cases B
    have Q:O.toList=[]:=by cases h:O.toList with
     | nil=>rfl
     | cons=>rw[h] at pr;cases pr
    exact⟨_,.dict (kvs:=[]) (as:=[]) (bs:=[]) g hd.1 G (by rw[Q];exact .nil) (by rw[Q];exact .nil),λ_ y=>(List.mem_cons.mp y).elim (λe=>by rw[<-e] at M;cases M) (λe=>by cases e)⟩
   | cons=>cases q
  | _=>cases q
 case refine_9=>
  cases r with
  | cons a b=>
   simp only[dI,eH] at q;obtain⟨as,S,z1⟩:=i _ q.1 a;obtain⟨bs,R,z2⟩:=j _ q.2 b;exact⟨_,.cons S R,λc y=>(List.mem_append.mp y).elim (z1 c) (z2 c)⟩
 all_goals intros;rename_i q _;simp[rH] at q
end
mutual
def D1:D->Bool
 | .l4=>true
 | .bl _=>true
 | .int i=>decide (i.natAbs<10^150)
 | .str x=>x.cps.toList.all λc=>decide (c<16^8)
 | .tup xs=>br xs
 | .lst xs=>br xs
 | .fz xs=>br xs
 | .ob u=>zZ u
 | _=>false
def br:List D->Bool
 | []=>true
 | x::xs=>D1 x&&br xs
end
mutual
theorem oh:∀d:D,D1 d=true->rH d=true
 | .l4,_=>rfl
 | .bl _,_=>rfl
 | .int _,_=>rfl
 | .str _,_=>rfl
 | .tup xs,h=>by rw[rH];exact Y3 xs (by simpa[D1] using h)
 | .lst xs,h=>by rw[rH];exact Y3 xs (by simpa[D1] using h)
 | .fz xs,h=>by rw[rH];exact Y3 xs (by simpa[D1] using h)
 | .dic _,h=>by simp[D1] at h
 | .st _,h=>by simp[D1] at h
 | .dn _,h=>by simp[D1] at h
 | .xc _ _ _,h=>by simp[D1] at h
 | .ty _,h=>by simp[D1] at h
 | .adr _,h=>by simp[D1] at h
 | .ob u,h=>by simpa[D1,rH] using h
theorem Y3:∀d:List D,br d=true->dI d=true
 | [],_=>rfl
 | x::xs,h=>by
  simp only[br,eH] at h;simp only[dI,eH];exact⟨oh x h.1,Y3 xs h.2⟩
end
theorem sg{i:Int}(h:i.natAbs<10^150):i.natAbs.log2<1920:=by
 by_cases e:i.natAbs=0
 ·rw[e];decide
 ·exact(Nat.log2_lt e).mpr (lv h (by decide +kernel))
mutual
theorem cj:∀d:D,D1 d=true->(pyd d).showable=true/\(pyd d).leavesShort 151=true 
 | .l4,_=>⟨by simp[pyd,PyData.showable],by simp[pyd,PyData.leavesShort]⟩
 | .bl _,_=>⟨by simp[pyd,PyData.showable],by simp[pyd,PyData.leavesShort]⟩
 | .int i,h=>by
  have h:i.natAbs<10^150:=by simpa[D1] using h
  refine⟨?_,?_⟩
  ·simp only[pyd,PyData.showable];exact hD (sg h)
  ·simp only[pyd,PyData.leavesShort,PyData.shown];refine hD ?_;rw[ofString_length];exact int_text_length_le10 (by decide) h
 | .str x,h=>⟨by simp[pyd,PyData.showable],by simpa[pyd,PyData.leavesShort,D1] using h⟩
 | .tup xs,h=>by
  have:=T7 xs (by simpa[D1] using h);exact⟨by simpa[pyd,PyData.showable] using this.1,by simpa[pyd,PyData.leavesShort] using this.2⟩
 | .lst xs,h=>by
  have:=T7 xs (by simpa[D1] using h);exact⟨by simpa[pyd,PyData.showable] using this.1,by simpa[pyd,PyData.leavesShort] using this.2⟩
 | .fz xs,h=>by
  have:=T7 xs (by simpa[D1] using h);exact⟨by simpa[pyd,PyData.showable] using this.1,by simpa[pyd,PyData.leavesShort] using this.2⟩
 | .dic _,h=>by simp[D1] at h
 | .st _,h=>by simp[D1] at h
 | .dn _,h=>by simp[D1] at h
 | .xc _ _ _,h=>by simp[D1] at h
 | .ty _,h=>by simp[D1] at h
 | .adr _,h=>by simp[D1] at h
 | .ob u,h=>by
  have e:zZ u=true:=by simpa[D1] using h
  simp[pyd,e,PyData.showable,PyData.leavesShort,PyData.showableKv,PyData.leavesShortKv]
theorem T7:∀d:List D,br d=true->PyData.showableAll (D5 d)=true/\PyData.leavesShortAll 151 (D5 d)=true
 | [],_=>⟨by simp[D5,PyData.showableAll],by simp[D5,PyData.leavesShortAll]⟩
 | x::xs,h=>by
  simp only[br,eH] at h;have a:=cj x h.1;have b:=T7 xs h.2;exact⟨by simp[D5,PyData.showableAll,a.1,b.1],by simp[D5,PyData.leavesShortAll,a.2,b.2]⟩
end
def bb(d:D):Prop:=D1 d=true/\(pyd d).weight<=100000/\(pyd d).depth<=150
theorem bb.fits{d:D}(h:bb d):(pyd d).shown.length<=sizeLine:=by
 have:=PyData.shown_le 151 (by decide) (pyd d) (cj d h.1).2;rw[sd];have:=h.2.1;omega
section
variable{X:Cx}{cl:List Cl}{e a b:Expr}{es:GJ}{f:Fl}{pos:Pos}{ua ub:TU}{ma mb:TM}{fa fb:Fl}
def yf(X:Cx):List V->Hp->VK->Prop:=λc H Q=>∃v d A,c=[v]/\Rep X.K H v d A/\bb d/\Q (.str (pyd d).shown) H
theorem T5{k:Nat}(B:x5 k X.A)(p:X.K.lookup sysModules=none):C5 X (.builtin "repr") (yf X):=by
 intro j s y H J M Q I r h;obtain⟨v,d,A,rfl,z,c,q⟩:=h;obtain⟨u,rfl,i⟩:=vals1 r
 have g:∀(x:Heap) (u:Tok) (tk:Nat),(∀b o,s.heap.get? b=some o->x.get? b=some o)->EP X j y Q (.str (pyd d).shown u) { s with heap:=x,toks:=tk }:=λx u tk G=>
  ⟨.str _,H,I.kept (t':=tk) G,⟨_,rfl⟩,q⟩
 obtain⟨R,E,l⟩:=S7 I z (oh d c.1) i;have l:=l p;have C:=cj d c.1;have O:=B.un;have hd:=c.2.2
 have big:∀{a:Addr},u=.ref a->wpAny (model X.prog X.w) X.A (call (.builtin "repr") [u]) (EP X j y Q) X.xe s:=λ{a} e=>by
  subst e;exact repr_of_reads' E C.1 (λ_=>l) B.gd (by omega) (λ_ _ e=>e) g c.fits
 cases z with
 | l4=>cases i;exact PySem.P.repr_of_none (g _ _ _ λ_ _ e=>e)
 | bl=>cases i;exact PySem.P.repr_of_bool (g _ _ _ λ_ _ e=>e)
 | int=>obtain⟨t,rfl⟩:=i;exact PySem.P.repr_of_int (sg (by simpa[D1] using c.1)) (g _ _ _ λ_ _ e=>e)
 | str=>obtain⟨t,rfl⟩:=i;exact PySem.P.repr_of_str (g _ _ _ λ_ _ e=>e) c.fits
 | tup _ _=>cases i;exact big rfl
 | lst _ _=>cases i;exact big rfl
 | frz _ _=>cases i;exact big rfl
 | dic _ _=>have:=c.1;simp[D1] at this
 | st _ _=>have:=c.1;simp[D1] at this
 | dn _=>have:=c.1;simp[D1] at this
 | xc _=>have:=c.1;simp[D1] at this
 | ty=>have:=c.1;simp[D1] at this
 | adr=>have:=c.1;simp[D1] at this
 | ob _=>cases i;exact big rfl
def fF:List D->(D->Prop)->Prop
 | [d],Q=>bb d/\Q (.str (pyd d).shown)
 | _,_=>False
theorem iy:Call3 X (yf X) fF:=by
 intro H vs d A Q R r q k;unfold fF at q;split at q
 ·obtain⟨v,rfl,c⟩:=r.one;exact⟨v,_,_,rfl,c,q.1,k _ H _ _ (e9.refl H) .str lc (λ_ h=>(by cases h)) q.2⟩
 ·exact q.elim
def xb(d:D):Prop:=rH d=true/\(pyd d).canLay0=true/\(pyd d).depth<=64
def xG(X:Cx)(c:Bool):R2:=λx y H Q=>∃d e A B,Rep X.K H x d A/\Rep X.K H y e B/\xb d/\xb e/\Q (.bl (ng c (PyData.eqv (pyd d) (pyd e)))) H
theorem uM{k:Nat}(E:x5 k X.A):E7 X (compareOp .Eq) (xG X false):=by
 intro i s G H x y v u Q I l j h;obtain⟨d,e,A,B,z,r,g,c,q⟩:=h;obtain⟨J,p,_⟩:=S7 I z g.1 l;obtain⟨bs,o,_⟩:=S7 I r c.1 j;have C:=E.units;exact PySem.SeqAt.compareEq_shaped p o (by unfold PySem.SeqAt.shaped;rw[g.2.1,hD g.2.2];rfl) (by unfold PySem.SeqAt.shaped;rw[c.2.1,hD c.2.2];rfl) C ⟨.bl _,H,I,rfl,q⟩
theorem zA{k:Nat}(E:x5 k X.A):E7 X (compareOp .NotEq) (xG X true):=by
 intro i s G H x y v u Q I l j h;obtain⟨d,e,A,B,z,r,g,c,q⟩:=h;obtain⟨J,p,_⟩:=S7 I z g.1 l;obtain⟨bs,o,_⟩:=S7 I r c.1 j;have C:=E.units;exact PySem.SeqAt.compareNe_shaped p o (by unfold PySem.SeqAt.shaped;rw[g.2.1,hD g.2.2];rfl) (by unfold PySem.SeqAt.shaped;rw[c.2.1,hD c.2.2];rfl) C ⟨.bl _,H,I,rfl,q⟩
def AO(c:Bool):D->D->(D->Prop)->Prop:=λd e Q=>xb d/\xb e/\Q (.bl (ng c (PyData.eqv (pyd d) (pyd e))))
theorem Bq{c:Bool}:X0 X (xG X c) (AO c):=by
 intro H v w d e A B Q R i g q k;exact⟨d,e,A,B,i,g,q.1,q.2.1,k _ H _ _ (e9.refl H) .bl lc (λ_ h=>(by cases h)) q.2.2⟩
end
end L3
namespace L2
open PySem PySem.Spec PySem.Builtin PySem.Builtin.Str PyProof.Rows
section
variable{X:Cx}
variable{e:Expr}{es:GJ}{te:TE}{pos:Pos}
end
end L2
namespace L3
open PySem PySem.Spec L2
section
variable{X:Cx}{cl:List Cl}{e a b:Expr}{es:GJ}{f:Fl}{pos:Pos}{ua ub:TU}{ma mb:TM}{fa fb:Fl}
end
end L3
namespace L2
open PySem PySem.Spec PyProof.Rows
section
variable{X:Cx}
def Bz:R2:=λx y H Q=>∃a v,x=.ref a/\Q7 H a y (some v)/\Q v H
theorem wJ(l:X.A.units+1<cLine):vn X Bz:=by
 intro b c e s r H x y v u Q I j i h o;obtain⟨a,z,rfl,g,q⟩:=h;cases j;exact tail_any (jP I g) PySem.F.slot_dict_getitem.lookup (oM l I g i λB C p d=>⟨z,H,p,d,q⟩) o
def xK(b:Bool):R2:=λy x H Q=>∃a o,x=.ref a/\Q7 H a y o/\Q (.bl (match b with | true=>!o.isSome | false=>o.isSome)) H
theorem sV(e:X.A.units+1<cLine):E7 X (compareOp .In) (xK false):=by
 intro b s j H x y v u Q I d c h;obtain⟨a,o,rfl,g,q⟩:=h;cases c;exact DA e I g d λl i=>⟨.bl o.isSome,H,i,rfl,q⟩
theorem ff(e:X.A.units+1<cLine):E7 X (compareOp .NotIn) (xK true):=by
 intro b s j H x y v u Q I d c h;obtain⟨a,o,rfl,g,q⟩:=h;cases c;exact xI e I g d λl i=>⟨.bl (!o.isSome),H,i,rfl,q⟩
end
end L2
namespace L3
open PySem PySem.Spec L2
section
variable{X:Cx}{cl:List Cl}{e a b tg:Expr}{es:GJ}{f:Fl}{pos:Pos}{ua ub:TU}{ma mb:TM}{fa fb:Fl}
def L9:D->D->(D->Prop)->Prop:=λd e Q=>match d,e with
 | .int i,.int j=>Q (.int (i+j))
 | .str i,.str j=>i.length+j.length<=sizeLine/\Q (.str (i++j))
 | .lst g,.lst c=>o6 g=true/\o6 c=true/\g.length+c.length<=sizeLine/\Q (.lst (g++c))
 | .tup g,.tup c=>o6 g=true/\o6 c=true/\g.length+c.length<=sizeLine/\Q (.tup (g++c))
 | _,_=>False
abbrev AZ:R2:=λx y H Q=>∃i j,x=.str i/\y=.str j/\i.length+j.length<=sizeLine/\Q (.str (i++j)) H
def xN:R2:=λx y H Q=>(tE λi j=>.int (i+j)) x y H Q\/AZ x y H Q\/yC x y H Q\/rT x y H Q
theorem xJ:E7 X (binaryOp .Add) xN:=yM.or (lX.or (zx.or xa))
theorem zg:X0 X xN L9:=by
 intro H v w d e A B Q R g c q k;cases d<;>cases e<;>first | exact(show False from q).elim | skip
 ·exact .inl (uz H v w _ _ A B Q R g c q k)
 ·exact .inr (.inl (BB H v w _ _ A B Q R g c q k))
 ·exact .inr (.inr (.inr (zP H v w _ _ A B Q R g c q k)))
 ·exact .inr (.inr (.inl (Bs H v w _ _ A B Q R g c q k)))
theorem A3(d:PU X cl a fa ua)(c:PU X cl b fb ub):PU X cl (.BinOp a .Add b pos) .fresh (t8 L9 ua ub):=iE xJ zg d c
def G5(c:Bool):D->D->(D->Prop)->Prop:=λd e Q=>match R4 d&&R4 e with
 | true=>AI c d e Q
 | false=>AO c d e Q
theorem rS{c:Bool}{r:R2}(o:X0 X r (AI c)):X0 X (λx y H Q=>r x y H Q\/xG X c x y H Q) (G5 c):=by
 intro H v w d e A B Q R h g q k;unfold G5 at q;split at q
 ·exact .inl (o H v w d e A B Q R h g q k)
 ·exact .inr (Bq H v w d e A B Q R h g q k)
section
variable{kr:Nat}(hr:x5 kr X.A)
include hr
theorem ra(g:PU X cl a fa ua)(d:PU X cl b fb ub)(c:behindInMarks .Eq b=false):PU X cl (.Compare a [.Eq] [b] pos) .fresh (t8 (G5 false) ua ub):=V9 (yg.or (uM hr)) (rS BY) g d c
theorem T1(g:PU X cl a fa ua)(d:PU X cl b fb ub)(c:behindInMarks .Eq b=false):B3 X cl (.Compare a [.Eq] [b] pos) (uT (t8 (G5 false) ua ub)):=S4 (yg.or (uM hr)) (rS BY) g d c
theorem S3(g:PU X cl a fa ua)(d:PU X cl b fb ub)(c:behindInMarks .NotEq b=false):B3 X cl (.Compare a [.NotEq] [b] pos) (uT (t8 (G5 true) ua ub)):=S4 (AY.or (zA hr)) (rS Dj) g d c
def Cm(c:Bool):D->D->(D->Prop)->Prop:=λd e Q=>match e with
 | .dic g=>∃k,aC d=some k/\Q (.bl (ng c (u5 g k).isSome))
 | _=>Ea c d e Q
end
theorem Bx{c:Bool}:X0 X (λx y H Q=>Cv X.K c x y H Q\/xK c x y H Q) (Cm c):=by
 intro H v w d e A B Q R o l q k
 cases e with
 | dic g=>
  obtain⟨j,I,q⟩:∃k,aC d=some k/\Q (.bl (ng c (u5 g k).isSome)):=q;obtain⟨p,vs,S,rfl,E,G,rfl⟩:=U4 l;cases T8 o I;have r:=G.val j;refine .inr ?_
  cases i:u5 g j with
  | none=>
   rw[i] at q;exact⟨p,none,rfl,(by have:=Q7.k (k:=j) E;rwa [r.2 i] at this),k _ H _ _ (e9.refl H) .bl lc (λ_ h=>(by cases h)) (by cases c<;>exact q)⟩
  | some z=>
   rw[i] at q;obtain⟨u,C,J,O,M⟩:=r.1 z i;exact⟨p,some u,rfl,(by have:=Q7.k (k:=j) E;rwa [J] at this),k _ H _ _ (e9.refl H) .bl lc (λ_ h=>(by cases h)) (by cases c<;>exact q)⟩
 | _=>exact .inl (Dr H v w _ _ A B Q R o l q k)
def Bu:D->D->(D->Prop)->Prop:=λd y Q=>match d with
 | .dic c=>∃k v,aC y=some k/\u5 c k=some v/\Q v
 | _=>Ek d y Q
theorem vM{v w:V}{H:Hp}{d e:D}{A B:GG}{Q:D->Prop}{R:VK}(i:Rep X.K H v d A)(h:Rep X.K H w e B)(q:Bu d e Q)(k:∀x z C,Rep X.K H x z C->C.Sublist A->Q z->R x H):CG X.K v w H R\/Bz v w H R:=by
 cases d with
 | dic c=>
  obtain⟨a,u,z,C,p,g,l,j,o⟩:=vP i h (show yv (.dic c) e Q from q);exact .inr ⟨a,u,p,g,k u z C l j o⟩
 | _=>exact .inl (zE i h q k)
def o8(ua ub:TU):TU:=λc Q=>ua c λx=>ub c λy=>Bu x y Q
theorem ze(y:X.A.units+1<cLine)(O:PU X cl a fa ua)(M:PU X cl b fb ub)(I:ij b):PU X cl (.Subscript a b pos) fa (o8 ua ub):=.of<|by
 obtain⟨ta,tb,u,p,h⟩:=u2 O M;refine⟨_,Bf (Aj.or (wJ y)) u p I,λG g c H T Q R S E J k=>?_⟩;refine h G g c H T _ _ S E J λv w Y d e A B s l j U f2 q=>?_;exact vM l j q λx z C r i o=>k x Y z C s r (U.sub i) o
def ej(ua:TU)(lo i:yc):TU:=λg Q=>ua g λd=>lo g λl=>i g λh=>match d with
 | .tup c=>o6 c=true/\Q (.tup (cutD c l h))
 | .lst c=>o6 c=true/\Q (.lst (cutD c l h))
 | .fz c=>o6 c=true/\Q (.lst (cutD c l h))
 | _=>False
theorem O6{lo hi:Option Expr}{ul uh:yc}{p2:Pos}(z:PU X cl a fa ua)(x:AM X cl lo ul)(hh:AM X cl hi uh):PU X cl (.Subscript a (.Slice lo hi none p2) pos) .fresh (ej ua ul uh):=.of<|by
 obtain⟨ta,pa,z⟩:=z.run;obtain⟨tl,pl,x⟩:=x.run;obtain⟨th,ph,hh⟩:=hh.run;refine⟨_,jF (nZ.or sv) pa pl ph,λG J I H fo Q R hG E hu k=>z G J I H fo _ _ hG E hu λv H1 d A S r1 f1 q1=>x G J I H1 fo _ _ hG (E.same S) q1 λh H2 C q2=>hh G J I H2 fo _ _ hG (E.same (S.trans C)) q2 λu H3 O i=>?_⟩;have j:=(S.trans C).trans O
 have g:∀{c:List D},kindB false d=some c->o6 c=true->Q (.lst (cutD c h u))->BF X.K v h u H3 R:=λ{c} e1 im q=>by
  obtain⟨p,vs,B,rfl,hq,o,_⟩:=hV ((r1.same C).same O) e1;have y:=o.C3 im;subst y;refine⟨p,vs,rfl,hq,λl x=>?_⟩;obtain⟨B,M,Y⟩:=o.cut (HT.u6 c.length 0 h) (HT.u6 c.length c.length u-HT.u6 c.length 0 h);have y:B=[]:=List.sublist_nil.mp M;subst y;refine k _ _ _ [l] (j.trans (e9.i6 x)) (.lst g6 ?_) ⟨by simp,λa z=>?_⟩ q
  ·have T:i5 X.K H3 (bq vs h u) (cutD c h u) []:=by
    unfold bq cutD;rw[o.length];exact Y
   exact T.same (e9.i6 x)
  ·have:a=l:=by simpa using z
   rw[this];exact j.free x
 cases d<;>first | exact(show False from i).elim | skip
 ·rename_i c
  obtain⟨im,i⟩:=i;obtain⟨p,vs,rfl,hq,o⟩:=A4 ((r1.same C).same O);have y:=o.C3 im;subst y;refine .inr ⟨p,vs,rfl,hq,λr H4 s4 hr=>?_⟩;obtain⟨B,M,Y⟩:=o.cut (HT.u6 c.length 0 h) (HT.u6 c.length c.length u-HT.u6 c.length 0 h);have y:B=[]:=List.sublist_nil.mp M;subst y;refine k _ _ (.tup (cutD c h u)) [] (j.trans s4) (.tup hr ?_) (p3.nil _) i;have U:=Y.same s4;unfold bq cutD;rw[o.length];exact U
 ·exact .inl (g rfl i.1 i.2)
 ·exact .inl (g rfl i.1 i.2)
end
theorem xW{i j k l m:Nat}{ds:List D}{g:Ev}{Q:Ev->Prop}(h:j6 (g1 i) (j6 (g1 j) (j6 (g1 k) (j6 (g1 l) (j6 (g1 m) L8)))) ds g Q):ds.length=5:=by
 rcases ds with _ | ⟨a,_ | ⟨b,_ | ⟨c,_ | ⟨d,_ | ⟨e,_ | ⟨f,r⟩⟩⟩⟩⟩⟩<;>first | rfl | (simp[j6,L8,g1] at h)
end L3
namespace L2
open PySem PySem.Spec PySem.Builtin PySem.Builtin.Str PyProof.Rows
section
variable{X:Cx}
def BK:R2:=λx y H Q=>∃i j,x=.str i/\y=.str j/\Q (.bl (!decide (j.cps.toList<i.cps.toList))) H
theorem pq:E7 X (compareOp .LtE) BK:=by
 intro a s d H x y v u Q I c b h;obtain⟨i,j,rfl,rfl,q⟩:=h;obtain⟨t,rfl⟩:=c;obtain⟨e,rfl⟩:=b;exact PySem.P.le_str ⟨.bl _,H,I,rfl,q⟩
def xk(a:Bool):R2:=λx y H Q=>∃b,y=.bl b/\Q (.bl (match a with | true=>!decide (x=.bl b) | false=>decide (x=.bl b))) H
def DO(x:Str):It:=⟨λi _=>i<x.cps.size,λi H v a=>a=H/\∃c,x.cps[i]?=some c/\v=.str ⟨#[c]⟩,λi _=>i=x.cps.size⟩
theorem jm{P:Program}{w:World}{K:GR}{Y:Expr}{x:Str}{ty:String}{t:Tok}(it:Addr)
  (W:∀A:Around,A.handled=none->Walks P w A it [it] [it] x.cps.size (SignAt x) (λi h=>h.IsStrIter it ty x t i)) (B:["enumerate","zip","dict_itemiterator","dict_reverseitemiterator","odict_iterator","itertools.zip_longest","itertools.pairwise"].contains ty=false)
  (hs:∀(A:Around) (i:Nat) (s:Shared) (Q:GP) (E:GP),s.heap.IsStrIter it ty x t i->Q (.ref it) s->wpAny (model P w) A (pyIter (.ref it)) Q E s):Turn P w K Y (DO x) [it] it (λi h=>h.IsStrIter it ty x t i) where
 mem:=by simp
 obj:=λi h st b g=>by
  have e:b=it:=by simpa using g
  subst e;obtain⟨o,e,c,d⟩:=st;exact⟨o,e,λv z=>by rw[d] at z;cases z⟩
 keep:=λi h q st k=>let ⟨o,ho,r⟩:=st;⟨o,k it (by simp) o ho,r⟩
 item:=by
  intro X G hw J C i a s U H E I p st l;subst G hw J;obtain⟨T,S,f2,R,O,M⟩:=p it (by simp);refine(W X.A (I.ok.hd C)).item i s _ _ l st λv q tk hv j y=>?_;obtain⟨c,u,hx,rfl⟩:=hv;have I1:Inv X a U H { s with heap:=q,toks:=tk }:=I.turned (λb o g e=>y b o (by simpa using g) e) T S R O M;obtain⟨o,e,cc,d⟩:=id j;exact⟨_,rfl,oo (s:={ s with heap:=q,toks:=tk }) e cc d B ⟨.str ⟨#[c]⟩,H,I1,⟨u,rfl⟩,⟨rfl,c,hx,rfl⟩,j,λb g=>(p b g).1⟩⟩
 done:=by
  intro X G hw J C i a s U H E I p st l;subst G hw J;obtain⟨T,S,f2,R,O,M⟩:=p it (by simp);have l:i=x.cps.size:=l;subst l;exact(W X.A (I.ok.hd C)).done s _ _ st λq tk y=>⟨rfl,I.turned (λb o g e=>y b o (by simpa using g) e) T S R O M⟩
 self:=hs
def DE(K:GR)(e:TE):TI:=λd H R=>e d H λx b=>(∃z,x=.str z/\R (DO z) b)\/∃a,x=.ref a/\((∃c,G1 K b a c/\R (Cw K a) b)\/∃c,G8 K b a c/\R (Dt K a) b)
theorem yI{U l:Expr}{G:TE}(hl:PE X l G):PI X U l (DE X.K G):=.of λg s S H R I q=>by
 refine r8 (hl g s S H _ I q) λv c ⟨x,u,d,J,y⟩=>?_;rcases y with⟨z,rfl,q⟩ | ⟨a,rfl,y⟩
 ·obtain⟨t,rfl⟩:=J
  have O:∀b∈[c.heap.objs.size],K9 X g u b:=λb r=>by
   have e:b=c.heap.objs.size:=by simpa using r
   subst e;exact d.dD (hI _) (d.hok.fresh (hI _))
  cases M:z.cps.all (·<128)
  ·exact wpAny_pyIter_wide M ⟨c.heap.objs.size,[c.heap.objs.size],_,_,u,rfl,d.kept (t':=c.toks) λb o e=>cC _ e,jm (t:=t) _ (λA C=>Walks.strWide C _ z t) (by decide) (λA i s Q E st h=>wpAny_pyIter_striter_wide st h),⟨_,me _ rfl,rfl,rfl⟩,O,q⟩
  ·exact wpAny_pyIter_ascii M ⟨c.heap.objs.size,[c.heap.objs.size],_,_,u,rfl,d.kept (t':=c.toks) λb o e=>cC _ e,jm (t:=t) _ (λA C=>Walks.strAscii C _ z t) (by decide) (λA i s Q E st h=>wpAny_pyIter_striter_ascii st h),⟨_,me _ rfl,rfl,rfl⟩,O,q⟩
 ·cases J;rcases y with⟨T,B,q⟩ | ⟨T,B,q⟩
  ·obtain⟨j,Y,p,hz⟩:=d.list B;refine Ge p.isList ?_;refine⟨c.heap.objs.size,[c.heap.objs.size],_,_,u,rfl,d.kept (t':=c.toks) λb o e=>cC _ e,oB a _,⟨_,me _ rfl,rfl,rfl⟩,λb r=>?_,q⟩;have e:b=c.heap.objs.size:=by simpa using r
   subst e;exact d.dD (hI _) (d.hok.fresh (hI _))
  ·obtain⟨j,Y,p,hz⟩:=d.tuple B;refine wpAny_pyIter_tuple (show c.heap.IsTuple a j.toArray from p) ?_;refine⟨c.heap.objs.size,[c.heap.objs.size],_,_,u,rfl,d.kept (t':=c.toks) λb o e=>cC _ e,lC a _,⟨_,me _ rfl,rfl,rfl⟩,λb r=>?_,q⟩;have e:b=c.heap.objs.size:=by simpa using r
   subst e;exact d.dD (hI _) (d.hok.fresh (hI _))
end
end L2
namespace L2
open PySem PySem.Spec PyProof.Rows
section
variable{X:Cx}
theorem jI{x:V}{v:Value}(r:RelV x v)(b:Bool):(v == .bool b)=decide (x=.bl b):=by
 cases x<;>first
  | (cases r;first | rfl | (rename_i c;cases b<;>cases c<;>rfl))
  | (obtain⟨t,rfl⟩:=r;rfl)
theorem rQ:E7 X (compareOp .Is) (xk false):=by
 intro a s d H x y v u Q I c e h;obtain⟨b,rfl,q⟩:=h;cases e;have f:EP X a d Q (.bool (v == .bool b)) s:=⟨.bl _,H,I,by rw[jI c];rfl,q⟩
 cases x<;>first
  | (cases c;exact dL f)
  | (obtain⟨t,rfl⟩:=c;exact dL f)
theorem su:E7 X (compareOp .IsNot) (xk true):=by
 intro a s d H x y v u Q I c e h;obtain⟨b,rfl,q⟩:=h;cases e;have f:EP X a d Q (.bool (!(v == .bool b))) s:=⟨.bl _,H,I,by rw[jI c];rfl,q⟩
 cases x<;>first
  | (cases c;exact dL f)
  | (obtain⟨t,rfl⟩:=c;exact dL f)
end
end L2
namespace L3
open PySem PySem.Spec L2
section
variable{X:Cx}{cl:List Cl}{e a b tg:Expr}{es:GJ}{f:Fl}{pos:Pos}{ua ub uc:TU}{ma mb:TM}{fa fb fc:Fl}
def M9:D->D->(D->Prop)->Prop:=λd e Q=>match d,e with
 | .int i,.int j=>Q (.bl (decide (i<=j)))
 | .str x,.str y=>Q (.bl (!decide (y.cps.toList<x.cps.toList)))
 | _,_=>False
abbrev Bi:R2:=λx y H Q=>(tE λi j=>.bl (decide (i<=j))) x y H Q\/BK x y H Q
theorem x4:E7 X (compareOp .LtE) Bi:=Ca.or pq
theorem D7:X0 X Bi M9:=by
 intro H v w d e A B Q R g c q k;cases d<;>cases e<;>first | exact(show False from q).elim | skip
 ·exact .inl (cQ H v w _ _ A B Q R g c q k)
 ·cases D3 g;cases D3 c;exact .inr ⟨_,_,rfl,rfl,k _ H _ _ (e9.refl H) .bl lc (λ_ h=>(by cases h)) q⟩
theorem rF(g:PU X cl a fa ua)(d:PU X cl b fb ub)(c:behindInMarks .LtE b=false):PU X cl (.Compare a [.LtE] [b] pos) .fresh (t8 M9 ua ub):=V9 x4 D7 g d c
def E4(d:D)(b:Bool):Bool:=match d with
 | .bl c=>c == b
 | _=>false
def aX(c:Bool):D->D->(D->Prop)->Prop:=λd e Q=>match e with
 | .l4=>Q (.bl (ng c (N6 d)))
 | .bl b=>Q (.bl (ng c (E4 d b)))
 | _=>False
theorem oi{K:GR}{H:Hp}{v:V}{d:D}{A:GG}(h:Rep K H v d A)(b:Bool):decide (v=.bl b)=E4 d b:=by
 cases h<;>first | (simp[E4];done) | skip
 rename_i c
 cases b<;>cases c<;>rfl
abbrev Dz:R2:=λx y H Q=>y=.l4/\Q (.bl (decide (x=.l4))) H
abbrev Ar:R2:=λx y H Q=>y=.l4/\Q (.bl (!decide (x=.l4))) H
theorem ya:X0 X (λx y H Q=>Dz x y H Q\/xk false x y H Q) (aX false):=by
 intro H v w d e A B Q R g c q k;cases e<;>first | exact(show False from q).elim | skip
 ·exact .inl (Dh H v w d .l4 A B Q R g c q k)
 ·cases J7 c;refine .inr ⟨_,rfl,?_⟩;show R (.bl (decide (v=.bl _))) H;rw[oi g];exact k _ H _ _ (e9.refl H) .bl lc (λ_ h=>(by cases h)) q
theorem xm:X0 X (λx y H Q=>Ar x y H Q\/xk true x y H Q) (aX true):=by
 intro H v w d e A B Q R g c q k;cases e<;>first | exact(show False from q).elim | skip
 ·exact .inl (zf H v w d .l4 A B Q R g c q k)
 ·cases J7 c;refine .inr ⟨_,rfl,?_⟩;show R (.bl (!decide (v=.bl _))) H;rw[oi g];exact k _ H _ _ (e9.refl H) .bl lc (λ_ h=>(by cases h)) q
theorem mE(g:PU X cl a fa ua)(d:PU X cl b fb ub)(c:behindInMarks .Is b=false):PU X cl (.Compare a [.Is] [b] pos) .fresh (t8 (aX false) ua ub):=V9 (sI.or rQ) ya g d c
theorem sx(g:PU X cl a fa ua)(d:PU X cl b fb ub)(c:behindInMarks .Is b=false):B3 X cl (.Compare a [.Is] [b] pos) (uT (t8 (aX false) ua ub)):=S4 (sI.or rQ) ya g d c
theorem iC(g:PU X cl a fa ua)(d:PU X cl b fb ub)(c:behindInMarks .IsNot b=false):B3 X cl (.Compare a [.IsNot] [b] pos) (uT (t8 (aX true) ua ub)):=S4 (wB.or su) xm g d c
def DY(x y:Str):Bool:=!(Builtin.Str.occurrences x y 0 x.length 1).isEmpty
def aq(c:Bool):D->D->(D->Prop)->Prop:=λd e Q=>match e with
 | .str z=>(match d with | .str y=>Q (.bl (ng c (DY z y))) | _=>False)
 | _=>Cm c d e Q
abbrev yy(c:Bool):R2:=λx y H Q=>∃i j,x=.str i/\y=.str j/\Q (.bl (ng c (DY j i))) H
theorem uO:E7 X (compareOp .In) (yy false):=pW
theorem eQ:E7 X (compareOp .NotIn) (yy true):=fQ
theorem mV{c:Bool}:X0 X (λx y H Q=>(Cv X.K c x y H Q\/xK c x y H Q)\/yy c x y H Q) (aq c):=by
 intro H v w d e A B Q R i g q k
 cases e with
 | str z=>
  cases d<;>first | exact(show False from q).elim | skip
  cases D3 i;cases D3 g;exact .inr ⟨_,_,rfl,rfl,k _ H _ _ (e9.refl H) .bl lc (λ_ h=>(by cases h)) q⟩
 | _=>exact .inl (Bx H v w _ _ A B Q R i g q k)
theorem yS(c:X.A.units+1<cLine)(h:PU X cl a fa ua)(g:PU X cl b fb ub)(d:behindInMarks .In b=false):PU X cl (.Compare a [.In] [b] pos) .fresh (t8 (aq false) ua ub):=V9 ((eG.or (sV c)).or uO) mV h g d
theorem eF(c:X.A.units+1<cLine)(h:PU X cl a fa ua)(g:PU X cl b fb ub)(d:behindInMarks .NotIn b=false):PU X cl (.Compare a [.NotIn] [b] pos) .fresh (t8 (aq true) ua ub):=V9 ((Z4.or (ff c)).or eQ) mV h g d
theorem kU(c:X.A.units+1<cLine)(h:PU X cl a fa ua)(g:PU X cl b fb ub)(d:behindInMarks .In b=false):B3 X cl (.Compare a [.In] [b] pos) (uT (t8 (aq false) ua ub)):=S4 ((eG.or (sV c)).or uO) mV h g d
theorem fH(c:X.A.units+1<cLine)(h:PU X cl a fa ua)(g:PU X cl b fb ub)(d:behindInMarks .NotIn b=false):B3 X cl (.Compare a [.NotIn] [b] pos) (uT (t8 (aq true) ua ub)):=S4 ((Z4.or (ff c)).or eQ) mV h g d
def oW(z:Str):List D:=z.cps.toList.map λc=>.str ⟨#[c]⟩
def Q4(u:TU):qQ:=λg Q=>u g λd=>match d with
 | .lst c=>Q c
 | .fz c=>Q c
 | .tup c=>Q c
 | .str z=>Q (oW z)
 | _=>False
theorem EA{K:GR}{H:Hp}(z:Str):dR K (DO z) (oW z) [] H:=λu tf k i=>by
 refine⟨λo=>?_,λd e=>?_⟩
 ·show i=z.cps.size;rw[<-o];simp[oW]
 ·unfold oW at e;rw[qq] at e
  cases g:z.cps.toList[i]? with
  | none=>rw[g] at e;cases e
  | some c=>
   rw[g] at e;cases e
   have p:i<z.cps.size:=by
    have:=(List.getElem?_eq_some_iff.mp g).1;simpa using this
   have h:z.cps[i]?=some c:=by simpa using g
   refine⟨p,λx r l=>?_⟩;obtain⟨rfl,q,j,rfl⟩:=l;rw[h] at j;cases j;exact⟨e9.refl _,[],.str,Fp _⟩
theorem M5(h:PU X cl e f ua):fq X cl tg e f (Q4 ua):=.of<|by
 obtain⟨t,p,h⟩:=h.run;refine⟨_,yI p,λG u o H fa Q R z E y k=>h G u o H fa _ _ z E y λv i d B s r l q=>?_⟩;cases d<;>first | exact(show False from q).elim | skip
 ·cases D3 r;exact .inl ⟨_,rfl,k _ i _ [] s (EA _) (λa j=>by cases j) (p3.nil _) q⟩
 ·obtain⟨p,vs,rfl,c,g⟩:=A4 r;exact .inr ⟨p,rfl,.inr ⟨vs,G8.of c,k _ i _ _ s (CC c g) g.there l q⟩⟩
 ·have x:=r;obtain⟨p,vs,C,rfl,c,g,rfl⟩:=D4 r;exact .inr ⟨p,rfl,.inl ⟨vs,G1.of c,k _ i _ _ s (EJ c g) (λa j=>x.there j) l q⟩⟩
 ·obtain⟨p,vs,rfl,c,g⟩:=cX r;exact .inr ⟨p,rfl,.inl ⟨vs,c.sq,k _ i _ _ s (Er c g) g.there l q⟩⟩
end
end L3
namespace L2
open PySem PySem.Spec PyProof.Rows
end L2
namespace L3
open PySem PySem.Spec L2
section
variable{X:Cx}{cl:List Cl}{e a b tg:Expr}{es:GJ}{f:Fl}{pos:Pos}{ua ub uc:TU}{ma mb:TM}{fa fb fc:Fl}
end
end L3
namespace L2
open PySem PySem.Spec PyProof.Rows
def BH(h:Heap)(e:Addr)(cls d:Value)(T:Addr):Prop:=
 ∃a vs c b,h.get? e=some a/\a.cls=cls/\vs[0]?=some d/\a.data=.fields vs/\vs[1]?=some (.ref T)/\T≠e/\h.get? T=some c/\c.data=.fields b/\b[3]?=some .none
structure zp(l:List Env)(old:GG)(h h':Heap)(e:Addr)(cls a0:Value)(T:Addr):Prop where
 keep:∀b o,h.get? b=some o->b≠e->b∉old->b∉O0 l->h'.get? b=some o
 slot:∀b o,h.get? b=some o->b∈O0 l->∃sl,h'.get? b=some { o with slots:=sl }
 dH:BH h' e cls a0 T
 new:T∈old\/h.get? T=none
section
variable{M:Model}{A:Around}{E:GP}{s:Shared}{base:Heap}{env:Env}{outer:List Env}{L e:Addr}{Q:Unit->Shared->Prop}
end
theorem j7.is{P:Program}{w:World}{H:Hp}{h:Heap}{a:Addr}{o:HO}(x:j7 P w H h a o):∃u,h.get? a=some u:=by
 cases o with
 | lst c=>obtain⟨_,_,_,_,e⟩:=x;exact⟨_,e⟩
 | tup c=>obtain⟨_,_,_,⟨o,e,_⟩⟩:=x;exact⟨_,e⟩
 | dK b=>obtain⟨_,_,_,_,o,_,_,e,_⟩:=x;exact⟨_,e⟩
 | dE b j=>obtain⟨_,_,_,_,o,_,e,_⟩:=x;exact⟨_,e⟩
 | dN b=>obtain⟨_,_,_,_,o,_,_,e,_⟩:=x;exact⟨_,e⟩
 | dT b=>obtain⟨_,_,_,_,o,_,_,e,_⟩:=x;exact⟨_,e⟩
 | set S n=>obtain⟨o,_,_,_,e,_⟩:=x;exact⟨_,e⟩
 | ins C l fs=>obtain⟨_,_,_,e,_⟩:=x;exact⟨_,e⟩
 | own y=>exact x
 | xd fs=>obtain⟨_,⟨_,_,_,e,_⟩,_⟩:=x;exact⟨_,e⟩
 | rng lo i=>obtain⟨_,_,_,e⟩:=x;exact⟨_,e⟩
 | frz ob u=>obtain⟨e,_⟩:=x;exact⟨_,e⟩
 | tbl g=>exact⟨_,(show h.get? a=some _ from x)⟩
 | met f y=>exact⟨_,(show h.get? a=some _ from x)⟩
 | ext d=>exact x.2.1
theorem J4.none_of{P:Program}{w:World}{H:Hp}{h:Heap}{a:Addr}(x:J4 P w H h)(e:h.get? a=none):H a=none:=by
 cases q:H a with
 | none=>rfl
 | some o=>
  obtain⟨u,b⟩:=(x a o q).is;rw[e] at b;cases b
theorem J4.nM{P:Program}{w:World}{H:Hp}{h h':Heap}(x:J4 P w H h)(k:∀b u,H b≠none->h.get? b=some u->h'.get? b=some u):J4 P w H h':=λa o e=>
 (x a o e).ix (λb u c q=>k b u (c.elim (λc=>by rw[c,e];intro z;cases z) λc=>by rw[c];intro z;cases z) q) (λ_ q=>q) λ_ _ q=>q
theorem vJ{P:Program}{w:World}{env:Env}{outer:List Env}{L e T:Addr}{old:GG}{H c:Hp}{h v r:Heap}{cls Y:Value}(M:env.frame=some L)(U:Un (O0 outer) [] H c h v)(ok:J4 P w c v)
  (X:h.get? L=none) (S:h.get? e=none) (J:∀b∈old,h.get? b=none) (O:c L=none) (te:c e=none) (I:∀b∈old,c b=none) (tf:∀b∈O0 outer,c b=none)
  (g:zp (env::outer) old v r e cls Y T):Un (O0 outer) [] H c h r/\J4 P w c r/\c T=none/\h.get? T=none:=by
 have y:∀b,b∈O0 (env::outer)->b=L\/b∈O0 outer:=λb a=>by
  unfold O0 at a;rw[ud,M] at a;exact List.mem_cons.mp a
 have l:∀b,b∈O0 outer->b∈O0 (env::outer):=λb a=>by
  unfold O0 at a ⊢;rw[ud,M];exact lf _ a
 have G:∀b o,v.get? b=some o->b≠L->b≠e->b∉old->b∉O0 outer->r.get? b=some o:=λb o a n1 n2 p Q=>g.keep b o a n2 p λz=>(y b z).elim n1 Q;have st:∀b o,h.get? b=some o->b≠L/\b≠e/\b∉old:=λb o a=>⟨λz=>(by rw[z,X] at a;cases a),λz=>(by rw[z,S] at a;cases a),λz=>(by rw[J b z] at a;cases a)⟩
 refine⟨⟨λb o a C d _=>?_,λb o a C d B=>?_,U.free,λb o a B=>?_,U.C0,U.frzs,U.tbls,U.low⟩,ok.nM λb u a R=>?_,?_,?_⟩
 ·obtain⟨n1,n2,p⟩:=st b o a;exact G b o (U.keep b o a C d (by simp)) n1 n2 p d
 ·obtain⟨sl,i⟩:=U.slot b o a C d B;obtain⟨j,E⟩:=g.slot b _ i (l b d);exact⟨j,E⟩
 ·obtain⟨n1,n2,p⟩:=st b o a;obtain⟨x,i⟩:=U.there b o a B
  by_cases d:b∈O0 outer
  ·obtain⟨j,E⟩:=g.slot b _ i (l b d);exact⟨_,E⟩
  ·exact⟨x,G b x i n1 n2 p d⟩
 ·exact G b u R (λz=>a (z▸O)) (λz=>a (z▸te)) (λz=>a (I b z)) λz=>a (tf b z)
 ·rcases g.new with z | z
  ·exact I T z
  ·exact ok.none_of z
 ·rcases g.new with z | z
  ·exact J T z
  ·cases q:h.get? T with
   | none=>rfl
   | some o=>
    obtain⟨x,i⟩:=U.there T o q (by simp);rw[z] at i;cases i
section
variable{P:Program}{w:World}{K:GR}{mg:GN}{base:Heap}{N:GH}{qual:Str}{scope:Scope}{f:Addr}{cd:Value}{A:Around}{outer:List Env}{s:Shared}{H:Hp}{E:XK}
 {pins:GA} {σ:St} {H1:Hp} {s1:Shared}
theorem qy:s.heap.get? s.heap.objs.size=none:=by
 cases e:s.heap.get? s.heap.objs.size with
 | none=>rfl
 | some o=>exact absurd (hW e) (wv _)
end
section
variable{M:Model}{A:Around}{E:GP}{s:Shared}{base:Heap}{env:Env}{outer:List Env}{L e:Addr}{Q:Unit->Shared->Prop}
end
theorem qr{P:Program}{w:World}{l:List Env}{e T:Addr}{old:GG}{H d:Hp}{h C B:Heap}{cls M:Value}(U:Un (O0 l) [] H d h C)(ok:J4 P w d C)
  (J:h.get? e=none) (G:∀b∈old,h.get? b=none) (te:d e=none) (E:∀b∈old,d b=none) (tf:∀b∈O0 l,d b=none)
  (g:zp l old C B e cls M T):Un (O0 l) [] H d h B/\J4 P w d B/\d T=none/\h.get? T=none:=by
 have st:∀b o,h.get? b=some o->b≠e/\b∉old:=λb o a=>⟨λz=>(by rw[z,J] at a;cases a),λz=>(by rw[G b z] at a;cases a)⟩
 refine⟨⟨λb o a x c _=>?_,λb o a x c v=>?_,U.free,λb o a v=>?_,U.C0,U.frzs,U.tbls,U.low⟩,ok.nM λb u a I=>?_,?_,?_⟩
 ·obtain⟨n2,r⟩:=st b o a;exact g.keep b o (U.keep b o a x c (by simp)) n2 r c
 ·obtain⟨O,i⟩:=U.slot b o a x c v;obtain⟨j,y⟩:=g.slot b _ i c;exact⟨j,y⟩
 ·obtain⟨n2,r⟩:=st b o a;obtain⟨p,i⟩:=U.there b o a v
  by_cases c:b∈O0 l
  ·obtain⟨j,y⟩:=g.slot b _ i c;exact⟨_,y⟩
  ·exact⟨p,g.keep b p i n2 r c⟩
 ·exact g.keep b u I (λz=>a (z▸te)) (λz=>a (E b z)) λz=>a (tf b z)
 ·rcases g.new with z | z
  ·exact E T z
  ·exact ok.none_of z
 ·rcases g.new with z | z
  ·exact G T z
  ·cases q:h.get? T with
   | none=>rfl
   | some o=>
    obtain⟨p,i⟩:=U.there T o q (by simp);rw[z] at i;cases i
section
variable{M:Model}{A:Around}{E:GP}{h:Heap}{g:Array GenState}{d:Drawn}{t:Nat}{os:OsState}{e C C':Addr}{oe:Obj}{Q:Bool->Shared->Prop}
 {nm q:Str} {N:Addr} {bs bm:GI} {hdct:Bool} {sn:GH} {sub:GI} {ab:Bool} {col:Option Bool} {dd:Option Addr} {k0 k1 k2 k3 k5:GS} {newId:String}
 {nm' q':Str} {N':Addr} {bs' bm':GI} {hdct':Bool} {sn':GH} {sub':GI} {ab':Bool} {col':Option Bool} {dd':Option Addr} {k0' k1' k2' k3' k5':GS} {newId':String}
theorem dM(p:h.get? C=some (excClassObj nm q C N bs bm hdct sn sub ab col dd k0 k1 k2 k3 k5 newId))(c:h.get? C'=some (excClassObj nm' q' C' N' bs' bm' hdct' sn' sub' ab' col' dd' k0' k1' k2' k3' k5' newId'))(l:h.get? e=some oe)(b:oe.cls=.ref C)
  (a:bm'.contains (.type "BaseException")=true) (j:Q ((Value.ref C::bm).contains (.ref C')) ⟨h,g,d,t,os⟩):wpAny M A (excMatches (.ref e) (.ref C')) Q E ⟨h,g,d,t,os⟩:=by
 have i:(Value.ref C'::bm').contains (.type "BaseException")=true:=by rw[FF,a,FP]
 have f:=tc_notTuple;unfold excMatches
 repeat (first | (with_reducible refine wf l ?_;rw[b]) | with_reducible refine wf c ?_ | (with_reducible refine Fa c ?_;rw[i]) | with_reducible refine Fa p ?_ | wp_step)
 cases o:(Value.ref C::bm).contains (.ref C')<;>(rw[o] at j;wp_walk;exact j)
end
def Cx.C9(X:Cx)(e:Addr)(a:Obj)(F:GP):Cx:={ X with A:=X.A.mark (some (.ref e)),calm:=false,pn:=X.pn++[(e,a)],xe:=F }
section
variable{X:Cx}{pins:GA}{σ:St}{H:Hp}{s:Shared}{e:Addr}{oe:Obj}{F:GP}
theorem Cx.Ok.C9(ok:X.Ok):(X.C9 e oe F).Ok:=
 ⟨ok.mod,ok.kind,ok.glob,ok.blt,ok.above,ok.inj,ok.has,ok.cab,λz=>absurd (show false=true from z) kt,ok.frames,ok.stk,ok.exf,ok.bs,ok.bsz,ok.noex,ok.exfs,ok.ae,ok.frf,ok.sy⟩
theorem Inv.C9(I:Inv X pins σ H s)(h:s.heap.get? e=some oe)(g:H e=none)(d:e≠X.env.locals)(c:e∉X.fs)(b:∀v,oe.data≠.cell v):Inv (X.C9 e oe F) pins σ H s:=by
 refine⟨I.ok.C9,I.os,I.bare,I.base,I.loc,I.cell,I.free,I.freeC,λp a=>?_,I.hok,I.len⟩;have a:p∈(X.pn++[(e,oe)])++pins:=a;rcases List.mem_append.mp a with z | z
 ·rcases List.mem_append.mp z with z | z
  ·exact I.pin p (mr _ z)
  ·rw[List.mem_singleton.mp z];exact⟨h,g,d,c,b⟩
 ·exact I.pin p (hH _ z)
theorem Inv.uncaught(ok:X.Ok)(I:Inv (X.C9 e oe F) pins σ H s):Inv X pins σ H s:=by
 refine⟨ok,I.os,I.bare,I.base,I.loc,I.cell,I.free,I.freeC,λp a=>I.pin p ?_,I.hok,I.len⟩;show p∈(X.pn++[(e,oe)])++pins;rcases List.mem_append.mp a with z | z
 ·exact mr _ (mr _ z)
 ·exact hH _ z
end
structure zi(X:Cx)(pins:GA)(σ:St)(H:Hp)(s:Shared)(e T:Addr)(cls a0:Value):Prop where
 inv:Inv X pins σ H s
 dH:BH s.heap e cls a0 T
 te:H e=none
 tT:H T=none
 from_:∃H1 s1,Inv X pins σ H1 s1/\s.os=s1.os/\AllBare s.gens/\Un (O0 X.stack) [] H1 H s1.heap s.heap/\s1.heap.get? e=none/\s1.heap.get? T=none
section
variable{X:Cx}{pins:GA}{σ:St}{H:Hp}{s:Shared}{e T:Addr}{cls a0:Value}{E:XK}{x:Value}{Q:Unit->Shared->Prop}{M:Model}{A:Around}{E2:GP}
theorem BH.apart{base:Heap}{l:List Env}{h:Heap}(f:BH h e cls a0 T)(d:h.FunFrames base l):e∉O0 l/\T∉O0 l:=by
 obtain⟨q,vs,r,g,i,u,B,hd,y,j,p,c,v⟩:=f;refine⟨λz=>?_,λz=>?_⟩
 ·obtain⟨_,o,a,b⟩:=d.mem z;rw[i] at a;cases a;exact b vs hd
 ·obtain⟨_,o,a,b⟩:=d.mem z;rw[p] at a;cases a;exact b g c
theorem zi.pin(a:zi X pins σ H s e T cls a0){F:GP}:∃c,c.cls=cls/\Inv (X.C9 e c F) pins σ H s:=by
 have y:=a.dH.apart a.inv.stack;obtain⟨c,vs,l,j,g,h,p,hd,_⟩:=a.dH;refine⟨c,h,a.inv.C9 g a.te (λz=>?_) (λz=>?_) λv z=>by rw[hd] at z;cases z⟩
 ·obtain⟨m,⟨o,r,u,d,b,_⟩,_⟩:=a.inv.loc;rw[<-z,g] at d;cases d;rw[hd] at b;cases b
 ·have i:s.heap.FunFrames X.base X.outer:=by
   rcases a.inv.ok.stk with q | ⟨q,_⟩
   ·rw[<-q];exact a.inv.stack
   ·have:=a.inv.stack;rw[q] at this;exact this.2.2
  exact(a.dH.apart i).1 z
end
section
variable{X:Cx}{pins:GA}{σ:St}{H:Hp}{s:Shared}{i:Nat}{n:Str}{M:Model}{A:Around}{E:GP}{Q:Unit->Shared->Prop}
theorem Inv.DC(I:Inv X pins σ H s)(hN:X.N.Nodup)(hi:X.N[i]?=some n)(G:X.env.scope.names.lookup n=some .local){v:V}(U:σ[i]?=some (some v))(h:∀s',Inv X pins (σ.set i none) H s'->Q () s'):wpAny M A (unbindName X.env n) Q E s:=by
 obtain⟨m,Y,hl⟩:=id I.loc;have B:(X.env.scope.kind == .class||(X.env.scope.kind == .module&&X.env.locals != X.env.globals))=false:=by rw[I.ok.kind];rfl
 have x:i<σ.length:=(List.getElem?_eq_some_iff.mp U).1;have uo:=I.uo;obtain⟨u,r,lk⟩:=hl i n v hi U (.inl G)
 have hm:m n=some u:=by
  rcases lk with⟨_,q⟩ | ⟨q,_⟩
  ·exact q
  ·rcases q with q | q
   ·rw[show X.env.kindOf n=X.env.scope.names.lookup n from rfl,G] at q;cases q
   ·rw[show X.env.kindOf n=X.env.scope.names.lookup n from rfl,G] at q;cases q
 refine wpAny_unbindName_local G Y hm B λh' O R a=>?_;obtain⟨oL,_,_,a0,_⟩:=id Y;refine h _ ⟨I.ok,I.os,I.bare,⟨λb o e n C l=>?_,λb o e n C l=>?_,I.base.free,λb o e l=>?_,I.base.C0,I.base.frzs,I.base.tbls,I.base.low⟩,⟨_,R,λj y v' g J e3=>?_⟩,λy c e=>?_,I.free,I.freeC,λp hp=>?_,J4.nM I.hok λb u C hu=>(a.2 b λz=>C (z▸I.free)).trans hu,by simpa using I.len⟩
 ·exact(a.2 b (mC (lv (hW e) I.ok.above))).trans (I.base.keep b o e n C l)
 ·obtain⟨sl,g⟩:=I.base.slot b o e n C l;exact⟨sl,(a.2 b (mC (lv (hW e) I.ok.above))).trans g⟩
 ·obtain⟨o',g⟩:=I.base.there b o e l;exact⟨o',(a.2 b (mC (lv (hW e) I.ok.above))).trans g⟩
 ·by_cases S:j=i
  ·subst S;rw[p0 x] at J;cases J
  ·rw[nA (tt S)] at J;obtain⟨T,r',q⟩:=hl j y v' g J e3;refine⟨T,r',?_⟩;rcases q with⟨k,e⟩ | ⟨k,c,e,z⟩
   ·refine .inl ⟨k,?_⟩;have:y≠n:=λe=>S (bM hN g (e▸hi));show(if y=n then O else m y)=some T;rw[ln this];exact e
   ·exact .inr ⟨k,c,e,z.sameBut a (uo y c e)⟩
 ·obtain⟨O,z⟩:=I.cell y c e;exact⟨O,z.sameBut a (uo y c e)⟩
 ·obtain⟨e,n,ne,nf,d⟩:=I.pin p hp;exact⟨(a.2 p.1 ne).trans e,n,ne,nf,d⟩
theorem Inv.X9{b:Pos}(I:Inv X pins σ H s)(e:X.N.Nodup)(d:X.N[i]?=some n)(c:X.env.scope.names.lookup n=some .local)(h:∀s',Inv X pins (σ.set i none) H s'->Q () s') :
  wpAny M A (do bindName X.env n .none;unbindBehindTheSuite X.env n b) Q E s:=by
 have a:i<σ.length:=by rw[I.len];exact(List.getElem?_eq_some_iff.mp d).1
 refine cB (wpAny_bindName (N1 (v:=.l4) I e d (.inl c) rfl (λl j _=>?_) (.inr c)));unfold unbindBehindTheSuite;refine Fz (j.DC e d c (p0 a) λs' g=>h s' ?_);rw[List.set_set] at g;exact g
end
def Under(base:Heap)(C B:Addr)(b:Bool):Prop:=
 (∃nm q N bs e c g sub r d p o l j i h a,base.get? C=some (excClassObj nm q C N bs e c g sub r d p o l j i h a)/\(Value.ref C::e).contains (.ref B)=b) /\
 ∃nm q N bs e c g sub r d p o l j i h a,base.get? B=some (excClassObj nm q B N bs e c g sub r d p o l j i h a)/\e.contains (.type "BaseException")=true
end L2
namespace L3
open PySem PySem.Spec PySem.Calls PyProof.Rows L2
abbrev EE:=List D->(D->Prop)->(Str->Prop)->Prop
def calm(c:EE):Cp:=λa Q=>c a Q λ_=>False
section
variable{X:Cx}{cl:List Cl}{e:Expr}{es:GJ}{pos p:Pos}{us:X1}{k:Nat}{fn:Addr}{fd:FuncData}{ps:GH}{x:Str}
end
theorem E3.unset{K:GR}{G:Ent}{p:Ev}{σ:L2.St}{H:Hp}{g:GQ}(E:E3 K G p σ H g)(i:Nat)(x:¬G.own i):E3 K G (p.set i none) (σ.set i none) H (λj=>if j=i then[] else g j):=by
 have o:∀j,G.own j->j≠i:=λj c e=>x (e▸c);refine⟨λj d e=>?_,λj e=>?_,by simp[E.len],λj c=>?_,λj l n c a b=>?_,λj c h=>?_,λj c h a b=>?_,λj c a b=>?_,E.frm,E.stb,E.zk,E.zn,λj c a b=>?_,E.po⟩
 ·by_cases q:j=i
  ·subst q
   by_cases u:j<p.length
   ·rw[p0 u] at e;cases e
   ·rw[List.getElem?_eq_none (by simpa using u)] at e;cases e
  ·rw[nA (tt q)] at e;obtain⟨v,y,r⟩:=E.rep j d e;refine⟨v,by rw[nA (tt q)];exact y,?_⟩;rw[ln q];exact r
 ·show(if j=i then[] else g j)=[]
  by_cases q:j=i
  ·rw[l7 q]
  ·rw[ln q];refine E.emp j λd z=>e d ?_;rw[nA (tt q)];exact z
 ·show(if j=i then[] else g j).Nodup
  by_cases q:j=i
  ·rw[l7 q];exact lc
  ·rw[ln q];exact E.nd j c
 ·have b:a∈(if j=i then[] else g j):=b;rw[ln (o j c)] at b;show a∉(if l=i then[] else g l)
  by_cases q:l=i
  ·rw[l7 q];intro z;cases z
  ·rw[ln q];exact E.dj j l n c a b
 ·rw[nA (tt (o j h))];exact E.par j c h
 ·have b:a∈(if j=i then[] else g j):=b;rw[ln (o j h)] at b;exact E.old j c h a b
 ·have b:a∈(if j=i then[] else g j):=b
  by_cases q:j=i
  ·rw[l7 q] at b;cases b
  ·rw[ln q] at b;exact E.new j c a b
 ·have b:a∈(if j=i then[] else g j):=b;rw[ln (o j c)] at b;exact E.zo j c a b
theorem EB{CX:lj}{Wt:Type}{Wi:Wt->Hp->XK->Prop}{P:Program}{w:World}{K:GR}{mg:GN}{base:Heap}{x p:Str}{st:Stmt}{f:Addr}{fd:FuncData}{N ps:GH}{k:Nat}{c:List D->(D->Prop)->Wt->Prop}{s:Wt->i7}{cl:List Cl}(F:T2 K x p st f fd)(S:j1 N ps (e6 st))(T:noOwn cl ps.length=true)
  (hl:∀ds Q W,c ds Q W->ds.length=ps.length)
  (hb:∀(W:Wt) (u:Value) (A:Around) (outer:List Env) (X:Shared) (H:Hp) (E:XK),x5 k (A.deeper (envOfC p (e6 st) X.heap.objs.size f u))->Wi W H E->gb (ar CX P w K mg base N p (e6 st) f u A outer X H E) (cl++[.mk H]) (x9 st) (s W))
  (hc:∀ds Q W,c ds Q W->s W { nx:=λ_=>Q .l4,rt:=λd _=>Q d } (j3 N.length ds)):p6 P w K mg base CX (k+1) f fd ps (λvs H Q E=>∃ds A M W,i5 K H vs ds A/\c ds M W/\(∀r v l B,M r->e9 H l->Rep K l v r B->B.Nodup->(∀a∈B,H a=none)->Q v l)/\Wi W H E):=by
 obtain⟨oc,od,kV,a7,pm,an,u,ct,a6,rfl,lk,a3⟩:=F.ex;refine yu lk a3 S (λvs H Q E h=>?_) λA outer X H vs Q E hr h=>?_
 ·obtain⟨ds,A,M,W,r,q,_⟩:=h;rw[r.length];exact hl ds M W q
 ·obtain⟨ds,B,M,W,r,q,kk,wi⟩:=h;have R:=hl ds M W q;obtain⟨t,pt,h⟩:=(hb W u A outer X H E hr wi).run;obtain⟨fa,h1,Y⟩:=r.each
  let G:Ent:=⟨H,λ_=>[],vs,cl++[.mk H],λ_=>False,H⟩
  have vl:vs.length=ps.length:=r.length.trans R
  have bor:∀i,i<vs.length->(cl++[Cl.mk H])[i]?=some .bor:=λi b=>by
   have q:=aB T (show i<ps.length by omega);rw[pp (List.getElem?_eq_some_iff.mp q).1];exact q
  have g:∀i,i<vs.length->¬G.own i:=λi b z=>by
   have y:(cl++[Cl.mk H])[i]?=some .own:=z;rw[bor i b] at y;cases y
  have U:∀i,G.own i->fa i=[]:=λi b=>Y i (by
   have q1:¬i<vs.length:=λq=>g i q b;have q2:=r.length;omega)
  have a2:∀(j:Nat) (l:Hp),(cl++[Cl.mk H])[j]?=some (.mk l)->l=H:=λj l e=>by
   by_cases hj:j<cl.length
   ·rw[pp hj] at e;exact(cS T e).elim
   ·rw[sK (by omega)] at e
    cases hk:j-cl.length with
    | zero=>rw[hk] at e;cases e;rfl
    | succ m=>rw[hk] at e;cases e
  have E0:E3 K G (j3 N.length ds) (L2.start N vs) H fa:=by
   refine⟨λi d e=>?_,λi e=>Y i ?_,bT r.length.symm,λi b=>?_,λi j _ b a J=>?_,λi b I=>absurd I (g i b),λi b I=>absurd I (g i b),λi b a J=>?_,λa o h _=>h,V0.refl H,λa z=>z.elim,λa z=>z.elim,λi _ a _ z=>z,⟨λi b I=>absurd I (g i b),λj l e a o a4=>?_⟩⟩
   ·obtain⟨v,e1,r1⟩:=h1 i d (cY e);exact⟨v,J5 e1,r1⟩
   ·by_cases b:i<ds.length
    ·exact absurd (fB (mv b)) (e _)
    ·omega
   ·rw[Y i (by
     by_cases q:i<ds.length
     ·rcases b with b | b
      ·exact absurd b (g i (by have:=r.length;omega))
      ·have y:(cl++[Cl.mk H])[i]?=some .loc:=b;rw[bor i (by have:=r.length;omega)] at y;cases y
     ·omega)];exact lc
   ·rw[U i b] at J;cases J
   ·rcases b with b | b
    ·have:¬i<vs.length:=λq=>by
      have y:(cl++[Cl.mk H])[i]?=some .loc:=b;rw[bor i q] at y;cases y
     rw[Y i (by have:=r.length;omega)] at J;cases J
    ·rw[U i b.1] at J;cases J
   ·have e:l=H:=a2 j l e;subst e;exact⟨a4,λi b I=>absurd I (g i b)⟩
  refine⟨t,pt,h G _ _ _ H fa _ rfl E0 (hc ds M W q) ⟨λa0 l C=>?_,λv l C=>?_,λ_ _ z=>?_,λ_ _ z=>?_⟩⟩
  ·obtain⟨a1,a5,E',C⟩:=C;exact kk .l4 .l4 l [] C (E'.kept (j:=cl.length) (show(cl++[Cl.mk H])[cl.length]?=some (.mk H) from by rw[sK (hI _),Nat.sub_self];rfl)) .l4 lc (λ_ h=>(by cases h))
  ·obtain⟨d,a1,a0,a5,B',E',r',n',O,_,C⟩:=C;exact kk d v l B' C (E'.kept (j:=cl.length) (show(cl++[Cl.mk H])[cl.length]?=some (.mk H) from by rw[sK (hI _),Nat.sub_self];rfl)) r' n' O
  ·obtain⟨_,_,_,z⟩:=z;exact z
  ·obtain⟨_,_,_,z⟩:=z;exact z
section
variable{X:Cx}{cl:List Cl}{e:Expr}{es:GJ}{pos cpos hpos np p:Pos}{us:X1}{k:Nat}{fn:Addr}{fd:FuncData}{ps:GH}{x y bn n:Str}{i:Nat}
end
end L3
namespace PySem.W
open PySem PySem.Calls PyProof.Rows Builtin Builtin.ObjectAttr Builtin.Getset_descriptor
section
variable{K:Frag}{prog:Program}{w:World}{A:Around}{E:GP}{s:Shared}{e D:Addr}{oe:Obj}
theorem tO {M:Model} {h:Heap} (X:K.In h) {name:Str} {a g:Value} (d:findIn K (.ref D) name=some (some a)) (c:specialIn K a "__get__"=some (some g)) (b:takesIn K a=some true) :
  Looks M h (find (.ref e) (.ref D) name) (.bind g a):=by
 have i:=Fi (M:=M) X d;have L2:Looks M h (getOf (some a)) (some g):=looks_specialIn X c;have L3:=looks_takesIn (M:=M) X b;refine i.andThen (L2.andThen ?_);exact(show Looks M h (dataDescriptor? (some a) (some g)) (some (g,a)) from L3.andThen .now).andThen (Looks.tag .now)
end
theorem tZ:builtinKind "BaseException.__getattribute__"=some .slot:=by decide +kernel
theorem oG:splitId "BaseException.__getattribute__"=some ("BaseException","__getattribute__"):=by decide +kernel
theorem fC:plainId "BaseException.__getattribute__"=true:=by decide +kernel
theorem kh(v:Value):bindSpecial (.builtin "BaseException.__getattribute__") v=pure (.builtin "BaseException.__getattribute__",[v]):=by kernel_rfl
section
variable{K:Frag}{prog:Program}{w:World}{A:Around}{E:GP}{s:Shared}{e D:Addr}{oe:Obj}
theorem eN {M:Model} {b:Value} {h:Heap} {g:Array GenState} {d:Drawn} {t:Nat} {os:OsState} {Q:Unit->Shared->Prop} (j:Looks M h (typeOf (.ref e)) (.ref D)) (i:Looks M h (isSubtype (.ref D) (.type "BaseException")) true)
  (c:Q () ⟨h,g,d,t,os⟩):wpAny M A (checkBuiltinCall "BaseException.__getattribute__" ⟨[.ref e,b],[]⟩) Q E ⟨h,g,d,t,os⟩:=by
 have a:=F.args_bexc_ga (.ref e) b;simp only[checkBuiltinCall,tZ,oG];refine cB ?_;unfold isInstance;refine cB (j.at (i.at ?_));refine wpAny_of_eq (show _=pure () from ?_) c;unfold argsOk at a
 revert a
 generalize Manifest.signature? "BaseException.__getattribute__"=o;intro a;cases o<;>exact a
theorem pL {Q:GS->Shared->Prop} (c:findIn K (.ref D) "__getattribute__"=some (some (.builtin "BaseException.__getattribute__"))) (b:findIn K (.ref D) "__getattr__"=some none)
  (r:findIn K (.ref D) "__class__"=some (some (.builtin "object.__class__")))
  (i:specialIn K (.builtin "object.__class__") "__get__"=some (some (.builtin "getset_descriptor.__get__"))) (a:takesIn K (.builtin "object.__class__")=some true) (j:mroIn K D (.type "object")=some true) (q:mroIn K D (.type "BaseException")=some true)
  (X:K.In s.heap) (o:s.heap.get? e=some oe) (p:oe.cls=.ref D) (h:Q (some (.ref D)) { s with toks:=s.toks+1 }):wpAny (model prog w) A (getAttr? (.ref e) "__class__") Q E s:=by
 obtain⟨l,y,d,t,os⟩:=s;have g:Looks (model prog w) l (typeOf (.ref e)) (.ref D):=p▸(Looks.ld o).andThen .now;have x:=Fi (M:=model prog w) X c;have L2:=Fi (M:=model prog w) X b;have u:=tO (e:=e) (M:=model prog w) X r i a;have z:=looks_mroIn (M:=model prog w) X j;have v:=looks_mroIn (M:=model prog w) X q;unfold getAttr? getAttrBy? getAttrBy;refine cB (wpAny_mkText (cB (EU (qs (cB (g.at (cB (x.at ?_))))))));show wpAny _ _ (getAttrByItsOwn _ _ _ _ _ _) _ _ _;unfold getAttrByItsOwn hookBefore;refine cB (L2.at ?_);refine cB (EU (qs ?_));show wpAny _ _ (boundAndCalled _ _ _) _ _ _;unfold boundAndCalled;refine cB (wpAny_of_eq (kh _) ?_);show wpAny _ _ (call (.builtin "BaseException.__getattribute__") [.ref e,.str "__class__" t]) _ _ _;refine EQ (EW fC F.entry_bexc_ga (eN g v ?_));unfold Builtin.«object.__getattribute__»;refine cB (dL (cB (dL (cB (g.at (cB (u.at ?_)))))));show wpAny _ _ (bindTo _ _ (.ref e) (.ref D)) _ _ _;unfold bindTo;refine cB (qs (EQ ?_));refine EW KF.slot_gs.plain KF.entry_gs (KF.slot_gs.check _ _ _ _ _ _ _ _ KF.type_class (KF.args_gs _ _ _) ?_);unfold Builtin.«getset_descriptor.__get__» descrGet;rw[dga_obj];refine cB (dL ?_);unfold descrGetter descrCheckInstance descrNameAndClass isInstance;simp only[KF.owner_class]
 repeat lk
 refine⟨Ga _ (by decide +kernel),codeAny_builtin KF.entry_class ?_⟩;unfold Builtin.«object.__class__» shownTypeOf
 repeat lk
 exact h
end
end PySem.W
namespace PySem.W
open PySem PySem.Calls PyProof.Rows
structure V1(K:Frag)(D:Addr):Prop where
 ga:findIn K (.ref D) "__getattribute__"=some (some (.builtin "BaseException.__getattribute__"))
 gn:findIn K (.ref D) "__getattr__"=some none
 cl:findIn K (.ref D) "__class__"=some (some (.builtin "object.__class__"))
 sp:specialIn K (.builtin "object.__class__") "__get__"=some (some (.builtin "getset_descriptor.__get__"))
 tk:takesIn K (.builtin "object.__class__")=some true
 ob:mroIn K D (.type "object")=some true
 be:mroIn K D (.type "BaseException")=some true
section
variable{K:Frag}{D e:Addr}
theorem V1.at(B:V1 K D):∃c d b a,K.lookup D=some ⟨c,d,.cls b,a⟩:=by
 have h:=B.ob;unfold mroIn clsIn at h;split at h
 ·rename_i c d b a g
  exact⟨_,_,_,_,g⟩
 ·cases h
theorem tI(B:V1 K D):KitX K (.ref e) (.ref D) (λh=>∃a,h.get? e=some a/\a.cls=.ref D) where
 ty:=λM h _ ⟨a,i,j⟩=>j▸(Looks.ld i).andThen .now
 it:=λ_ _ X _=>by
  obtain⟨c,d,r,o,g⟩:=B.at;intro E y C v k q;unfold isType loadHead;exact cB (Db (k _ _ (X _ _ g)) (dL q))
 ne:=λh u x p n o X b=>by
  obtain⟨c,d,r,l,g⟩:=B.at;refine Bool.eq_false_iff.mpr λq=>?_;cases Value.ref.inj (beq_iff_eq.mp q);have z:=(X _ _ g).symm.trans b;cases z
 ca:=λX ⟨a,i,j⟩ k=>pL B.ga B.gn B.cl B.sp B.tk B.ob B.be X i j k
theorem vT{h:Heap}{C:Addr}{c:GI}{newId:String}(X:K.In h)(q:excIn K C c newId=true) :
  ∃bm N nm d bs hd sn sub ab col dd k0 k1 k2 k3 k5 o,h.get? C=some (excClassObj nm d C N bs bm hd sn sub ab col dd k0 k1 k2 k3 k5 newId)/\h.Ns N o/\o "__init__"=none/\OwnTail h c bm/\∀v r,mroIn K C v=some r->(Value.ref C::bm).contains v=r:=by
 unfold excIn at q;split at q
 case h_2=>cases q
 rename_i dd E j p
 split at q
 case h_2=>cases q
 rename_i u bm k0 k1 k2 k3 n k5 i z
 simp only[eH,beq_iff_eq,Bool.not_eq_true'] at q;obtain⟨⟨⟨⟨⟨rfl,rfl⟩,a⟩,y⟩,hok⟩,b⟩:=q
 have x:∀v r,mroIn K u v=some r->(Value.ref u::bm).contains v=r:=λv r e=>by
  unfold mroIn clsIn at e;rw[p] at e;simp only[FQ,i,List.isEmpty_cons] at e;exact oD e
 obtain⟨nm,bs,mro,ns,d,hd,sn,sub,ab,col,B⟩:=E;dsimp only at i a hok b;subst i a
 have g:j=#[k0,k1,k2,k3,some (.builtin n),k5]:=by
  obtain⟨l⟩:=j;exact tz Array.mk z
 subst g;exact⟨bm,ns,nm,d,bs,hd,sn,sub,ab,col,dd,k0,k1,k2,k3,k5,_,X _ _ p,.of_isNs (isNs_of_in X hok),nsMap_none_of_in X hok b,tail_of_in X y,x⟩
end
end PySem.W
namespace L3
open PySem PySem.Spec PySem.Calls PyProof.Rows PySem.W L2
section
variable{X:Cx}{cl:List Cl}{e C:Addr}{oe:Obj}{pos p p1 p2:Pos}{n y:Str}{i:Nat}{b:Bool}
theorem uU(v:(e,oe)∈X.pn)(E:oe.cls=.ref C)(B:V1 X.K C):C5 X (.builtin "isinstance") (λxs H Q=>∃c cv b,xs=[.ref e,c]/\kE c=some cv/\kitOne X.K (.ref C) cv=some b/\Q (.bl b) H):=by
 intro j s J H xs M Q I r h;obtain⟨c,cv,b,rfl,d,x,q⟩:=h;obtain⟨u,l,rfl,o,g⟩:=vals2 r
 have G:l=cv:=by
  cases c with
  | ty n=>cases d;exact g
  | ref a=>cases d;exact g
  | _=>cases d
 subst G;cases(show u=Value.ref e from o);exact kia_one (tI B) I.Z8 ⟨oe,(I.pin _ (mr _ v)).1,E⟩ x (λz=>nomatch z) λtk=>⟨.bl b,H,I.tok tk,rfl,q⟩
theorem jY:∀{vs:List V} {d cs:GI},Vals vs d->vs.map kE=cs.map some->d=cs
 | [],_,[],.nil,_=>rfl
 | [],_,_::_,.nil,h=>by cases h
 | v::vs,_,[],.cons _ _,h=>by cases h
 | v::vs,_,c::cs,.cons r t,h=>by
  rw[nj,nj,List.cons.injEq] at h;rw[jY t h.2];congr 1
  cases v with
  | ty n=>cases h.1;exact r
  | ref a=>cases h.1;exact r
  | _=>cases h.1
theorem pI(M:(e,oe)∈X.pn)(R:oe.cls=.ref C)(B:V1 X.K C):C5 X (.builtin "isinstance") (λxs H Q=>∃a vs cs b,xs=[.ref e,.ref a]/\H a=some (.tup vs)/\vs.map kE=cs.map some/\kitAny X.K (.ref C) cs=some b/\Q (.bl b) H):=by
 intro j s Y H xs us Q I r h;obtain⟨a,vs,cs,b,rfl,J,g,O,q⟩:=h;obtain⟨u,l,rfl,v,E⟩:=vals2 r;cases(show u=Value.ref e from v);cases(show l=Value.ref a from E);obtain⟨_,G,x,o,U,T,n,S⟩:=(show j7 X.prog X.w H s.heap a (.tup vs) from I.hok a _ J)
 cases jY x g;obtain⟨c,d,dt,sl⟩:=o;cases T;cases S;exact kia_tup (tI B) I.Z8 ⟨oe,(I.pin _ (mr _ M)).1,R⟩ U O (λz=>nomatch z) λtk=>⟨.bl b,H,I.tok tk,rfl,q⟩
def CB(vs:List V):TA:=λ_ H Q=>Q vs H
theorem BD:PA X [] (CB []):=P0
theorem yz{a:GJ}{vs:List V}{v:V}(h:PE X (.Name y p) (tC v))(t:PA X a (CB vs)):PA X (.Name y p::a) (CB (v::vs)):=T6 h t
end
end L3
namespace L2
open PySem PySem.Spec PyProof.Rows
end L2
namespace L3
open PySem PySem.Spec PyProof.Rows L2
section
variable{X:Cx}{cl:List Cl}{tg e a kx:Expr}{f fb:Fl}{ua ub:TU}{pos p:Pos}
end
end L3
namespace PySem.SeqAt
open PySem MeetsSeq MeetsSeq2 MeetsSeq3 SeqRoads2
section
variable{A:Around}{s:Shared}
end
end PySem.SeqAt
namespace L2
open PySem PySem.Spec PyProof.Rows
section
variable{X:Cx}
end
end L2
namespace L3
open PySem PySem.Spec PyProof.Rows L2
section
variable{X:Cx}{cl:List Cl}{a b:Expr}{fa fb:Fl}{ua ub:TU}{pos:Pos}
end
end L3
namespace L2
open PySem PySem.Spec PyProof.Rows
section
variable{X:Cx}
end
end L2
namespace L3
open PySem PySem.Spec L2
section
variable{X:Cx}{cl:List Cl}{a:Expr}{fa:Fl}{ua:TU}{pos:Pos}
end
end L3
namespace PySem
theorem ib:typeLookup (.type "list") "keys"=pure none:=by rw[typeLookup_type,builtinLookup_eq_fast];kernel_rfl
theorem wV{prog:Program}{w:World}{A:Around}{E:GP}{s:Shared}{a:Addr}{o:Obj}{xs:GM}{k:Nat}{Q:GS->Shared->Prop}
  (l:s.heap.get? a=some o) (p:o.cls=.type "list") (b:o.data=.seq xs k) (hd:o.dict=none) (v:A.handled=none)
  (h:∀h' tk e,Heap.NewExcOf s.heap h' e "AttributeError"->Q none { s with heap:=h',toks:=tk }):wpAny (model prog w) A (getAttr? (.ref a) "keys") Q E s:=by
 obtain⟨c,x,y,r⟩:=o;simp only at p b hd;subst p b hd;obtain⟨u,g,d,tk,os⟩:=s;have q:∀i,(⟨u,g,d,i,os⟩:Shared).TypeIs (.ref a) "list":=λ_=>⟨_,l,rfl⟩
 have J:=sub_AttributeError;have I:=F.slot_list_getattribute.lookup;have H:=F.slot_list_getattribute.bind (.ref a);have G:=am_list_getattr_none;unfold getAttr? getAttrBy? getAttrBy
 repeat (any_goals (first | assumption | exact q _ | ((with_reducible show wpAny _ _ (call (Value.builtin "list.__getattribute__") _ _) _ _ _);refine call_meets F.slot_list_getattribute (q _) am_entry_list_getattribute (F.args_list_getattribute_2 _ _) (meets_getattribute_miss_list a xs k r "keys" _ ib (by decide +kernel) (by size_fits)) ⟨l,v,λh' i e j=>?_⟩) | wp_step))
 obtain⟨B,z,C⟩:=j.there;show wpAny _ _ (getattributeRaised _ _ _ _ _ _ _) _ _ _;unfold getattributeRaised
 repeat (any_goals (first | assumption | wp_step))
 exact h _ _ _ j.of
end PySem
namespace L2
open PySem PySem.Spec PyProof.Rows
theorem iZ:entryFor table "dict.update.loop"=some Builtin.«dict.update.loop»:=entryFor_of_tree (by kernel_rfl)
theorem Z3:plainId "dict.update.loop"=true:=by decide +kernel
def nG(H:Hp)(t:V)(b:Key×V):Prop:=∃a,t=.ref a/\H a=some (.tup [kV b.1,b.2])
theorem fD{d c:Type}{F:d->c->Prop}:∀{l:List d} {m:List c},Paired F l m->∀(i:Nat) (a:d) (b:c),l[i]?=some a->m[i]?=some b->F a b
 | _,_,.nil,i,a,b,h,_=>by simp at h
 | _,_,.cons r t,0,a,b,h,g=>by simp at h g;subst h g;exact r
 | _,_,.cons r t,i+1,a,b,h,g=>fD t i a b (by simpa using h) (by simpa using g)
section
variable{X:Cx}{pins:GA}{σ:St}
theorem lI{H:Hp}{s:Shared}{a:Addr}{v:V}{u r:Value}{A:Around}{E:GP}{kvs:List (Key×V)}{k:Key}{Q:Unit->Shared->Prop}(I:Inv X pins σ H s)(e:H a=some (.dK kvs))(l:kvs.length<sizeLine)(g:RelV (kV k) u)(i:RelV v r)
  (h:∀s',Inv X pins σ (upd H a (.dK (putK kvs k v))) s'->Heap.SameBut a s.heap s'.heap->Q () s'):wpAny (model X.prog X.w) A (dictSet a u r) Q E s:=by
 obtain⟨z,hd,vs,b,x⟩:=rf I.hok e;have j:vs.length<=sizeLine:=by rw[<-b.length];exact z
 have p:(putK kvs k v).length<=sizeLine:=by have:=B0 kvs k v;omega
 refine wpAny_dictSet_pairs (hsz:=j) (aD g) x λy c d=>h _ ?_ d;exact bA I (by rw[e];exact True.intro) d (let ⟨q,_,_,o,_⟩:=c;⟨q,o⟩) (iw p hd (b.put k i) c)
theorem xM{A:Around}{R:Result->Shared->Prop}{H:Hp}{d p it:Addr}{ts:List V}{kvs:List (Key×V)}(hh:A.handled=none)(hp:G1 X.K H p ts)(hd:H d=none)(E:Paired (nG H) ts kvs)(hl:kvs.length<sizeLine)(G:it≠d)(h:∀o,K9 X pins (upd H d o) it)(z:∀s',Inv X pins σ (upd H d (.dK (x6 [] kvs))) s'->R (.ok (.ret .none)) s') :
  ∀(n i:Nat) (s:Shared),kvs.length-i=n->i<=kvs.length->Inv X pins σ (upd H d (.dK (x6 [] (kvs.take i)))) s->s.heap.IsListIter it p i ->
   codeAny (model X.prog X.w) A (.builtin "dict.update.loop" ⟨[.ref d,.ref it,rawInt i,.none],[]⟩) R s:=by
 intro n
 induction n with
 | zero=>
  intro i s hn c I st;have e:i=kvs.length:=by omega
  subst e;rw[Fm] at I;have hq:G1 X.K (upd H d (.dK (x6 [] kvs))) p ts:=e9.seq (e9.i6 hd) hp;obtain⟨C,y,B,hz⟩:=I.list hq;obtain⟨T,S,f2,Q,O,M⟩:=h (.dK (x6 [] kvs));have e1:=E.length;have e2:=y.length;refine codeAny_builtin iZ ?_;rw[Around.under_plainId Z3 _];show wpAny _ A.in1 (pyNext (.ref it) >>= _) _ _ s;refine cB (wpAny_pyNext_list_end hh st B.isList (by simp;omega) λj eb=>?_);have l:=I.turned (t':=s.toks) (h':=j) (λb o J e=>eb b o J e) T S Q O M;exact cB (dL (dL (z _ l)))
 | succ n ih=>
  intro i s hn c I st;have c:i<kvs.length:=by omega
  have Y:e9 H (upd H d (.dK (x6 [] (kvs.take i)))):=e9.i6 hd;obtain⟨C,y,B,hz⟩:=I.list (e9.seq Y hp);obtain⟨T,S,f2,Q,O,M⟩:=h (.dK (x6 [] (kvs.take i)));have e1:=E.length;have hx:ts[i]?=some (ts[i]'(by omega)):=mv (by omega);have hk:kvs[i]?=some (kvs[i]'c):=mv c;obtain⟨a,ea,ha⟩:=fD E i _ _ hx hk;obtain⟨u,hu,ru⟩:=y.get hx;rw[ea] at ru;cases(show u=Value.ref a from ru);refine codeAny_builtin iZ ?_;rw[Around.under_plainId Z3 _];show wpAny _ A.in1 (pyNext (.ref it) >>= _) _ _ s;refine cB (wpAny_pyNext_list_item st B.isList (x:=.ref a) (by simpa using hu) λj q sb=>?_);have l:=I.turned (t':=s.toks) (h':=j) (λb o J e=>(sb.2 b J).trans e) T S Q O M;obtain⟨_,a0,r,o2,g1,g2,n2,g3⟩:=(show j7 X.prog X.w _ j a (.tup _) from l.hok a _ (Y _ _ ha))
  obtain⟨k1,U,rfl,rk,v⟩:=vals2 r
  have g:(x6 [] (kvs.take i)).length<sizeLine:=by
   have h1:=V6 (kvs.take i) [];rw[vc] at h1;simp at h1;omega
  have em:x6 [] (kvs.take (i+1))=putK (x6 [] (kvs.take i)) (kvs[i]'c).1 (kvs[i]'c).2:=by
   rw[wE,hk];unfold x6;rw[List.foldl_append];rfl
  refine cB (qs (cB (wpAny_tryCatch ?_)));unfold Builtin.Dict.pairItems;refine cB (Fd ⟨o2,g1,g2⟩ ?_);rw[l7 (by decide)];refine cB (vu g1 g3 (dL ?_));show wpAny _ _ (holding [k1,U] (dictSet d k1 U)) _ _ _;refine qs (lI l g6 g rk v λs' I2 hs=>?_);rw[Y2,<-em] at I2;exact dL ⟨plainId_quiet Z3 _,ih (i+1) s' (by omega) c I2 (q.at λo e=>(hs.2 it G).trans e)⟩
theorem mx(J:X.calm=true):C5 X (.type "dict") (λxs H Q=>∃p ts kvs,xs=[.ref p]/\G1 X.K H p ts/\Paired (nG H) ts kvs/\kvs.length<sizeLine/\∀d,H d=none->Q (.ref d) (upd H d (.dK (x6 [] kvs)))):=by
 intro pins s σ H xs us Q I r h;obtain⟨p,ts,kvs,rfl,G,T,U,q⟩:=h;obtain⟨u,rfl,R⟩:=vals1 r;cases(show u=Value.ref p from R);refine callType_codes (Q₁:=λobj C=>obj=.ref s.heap.objs.size/\C={ s with heap:=s.heap.push { cls:=.type "dict",data:=.dict #[] } }) F.kt_called_dict (F.kt_typeCall_dict_1 _) F.entry_dict_init (kt_code_dict_new _ ⟨rfl,rfl⟩) ?_;rintro obj C ⟨rfl,rfl⟩;have v:=I.hok.fresh (hI s.heap.objs.size);have O:=I.laid (a:=s.heap.objs.size) (o:=.dK []) (h':=s.heap.push { cls:=.type "dict",data:=.dict #[] }) (t':=s.toks) (λ_ _ q=>cC _ q) (hI _) (X3 s.heap I.big);obtain⟨x,rv,E,hz⟩:=O.list (e9.seq (e9.i6 v) G);have M:Shared.TypeIs { s with heap:=s.heap.push { cls:=.type "dict",data:=.dict #[] } } (.ref s.heap.objs.size) "dict":=⟨_,me _ rfl,rfl⟩
 refine⟨M,F.args_dict_init_2 _ _,?_⟩;unfold Builtin.«dict.__init__»;refine cB ?_;unfold Builtin.Dict.selfAndRest;refine cB (wpAny_notOrdered_dict M ?_);show wpAny _ _ (pure (s.heap.objs.size,[Value.ref p])) _ _ _;refine dL ?_;show wpAny _ _ (Builtin.Dict.updateFrom "dict.__init__" s.heap.objs.size (.ref p) [] .none) _ _ _;unfold Builtin.Dict.updateFrom;refine cB (Fd E.isList.typeIs ?_);rw[l7 (by decide)];obtain⟨ob,S,l,j,y,i⟩:=E;refine cB (wV l j i y (I.ok.hd J) λz c e2 nx=>?_);have B:=O.kept (t':=c) (h':=z) nx.keeps;rw[l7 (show(none:GS).isNone=true from rfl)];refine cB (FV ?_);refine cB (Ge (items:=x.toArray) ⟨ob,nx.keeps _ _ l,j,S,i⟩ ?_);refine dL ⟨plainId_quiet Z3 _,?_⟩
 have g:s.heap.objs.size<z.objs.size:=by
  have:=hW (nx.keeps _ _ (me s.heap (o:={ cls:=.type "dict",data:=.dict #[] }) rfl));exact this
 refine xM (X:=X) (pins:=pins) (σ:=σ) (A:=X.A.in1) (H:=H) (d:=s.heap.objs.size) (p:=p) (it:=z.objs.size) (ts:=ts) (kvs:=kvs) (I.ok.hd J) G v T U (wn g) (λo=>?_) (λs' Y=>?_) kvs.length 0 _ rfl (vv _) ?_ ?_
 ·exact B.dD (hI _) (by rw[g9 (wn g)];exact(e9.i6 v).free (B.hok.fresh (hI _)))
 ·exact⟨rfl,.ref s.heap.objs.size,_,Y,rfl,q _ v⟩
 ·exact B.kept (t':=c) λb o e=>cC _ e
 ·exact⟨_,me _ rfl,rfl,rfl⟩
end
end L2
namespace L3
open PySem PySem.Spec PyProof.Rows L2
def pairD:D->Option (Key×D)
 | .tup [k,v]=>(aC k).map λj=>(j,v)
 | _=>none
def dw:List D->Option (List (Key×D))
 | []=>some []
 | x::a=>match pairD x,dw a with
  | some p,some b=>some (p::b)
  | _,_=>none
def sQ(a:List (Key×D)):List (Key×D):=a.foldl (λb c=>putD b c.1 c.2) []
section
variable{X:Cx}
theorem iY{K:GR}{H:Hp}:∀{ts:List V} {xs:List D} {A:GG} {ps:List (Key×D)},i5 K H ts xs A->dw xs=some ps->o6 xs=true ->
  ∃kvs:List (Key×V),Paired (nG H) ts kvs/\o9 K H kvs ps []/\kvs.length=ps.length
 | _,_,_,_,.nil,e,_=>by cases e;exact⟨[],.nil,.nil,rfl⟩
 | _,_,_,ps,.cons (d:=d) (ds:=r) h t,e,im=>by
  have g:(y4 d&&o6 r)=true:=im;rw[eH] at g;unfold dw at e
  cases i:pairD d with
  | none=>rw[i] at e;cases e
  | some p=>
   cases l:dw r with
   | none=>rw[i,l] at e;cases e
   | some O=>
    rw[i,l] at e;cases e;obtain⟨kvs,a,b,c⟩:=iY t l g.2;unfold pairD at i;split at i
    ·rename_i k v
     obtain⟨j,J,rfl⟩:=Option.map_eq_some_iff.mp i;obtain⟨q,vs,rfl,I,u⟩:=A4 h;obtain⟨x,y,B,C,rfl,E,o,_⟩:=u.two;cases T8 E J
     have G:y4 v=true:=by
      have z:(y4 k&&(y4 v&&true))=true:=g.1;simp only[eH] at z;exact z.2.1
     have M:=o.C3 G;subst M;exact⟨(j,y)::kvs,.cons ⟨q,rfl,I⟩ a,o9.cons (A:=[]) (B:=[]) o b,by rw[na,na,c]⟩
    ·cases i
theorem eR{K:GR}{H:Hp}:∀{kvs:List (Key×V)} {ps:List (Key×D)} {A:GG} {acc:List (Key×V)} {ad:List (Key×D)},o9 K H kvs ps A->A=[]->o9 K H acc ad []->o9 K H (x6 acc kvs) (ps.foldl (λa c=>putD a c.1 c.2) ad) []
 | _,_,_,_,_,.nil,_,q=>q
 | _,_,_,acc,ad,.cons (k:=k) h t,e,q=>by
  obtain⟨i,g⟩:=List.append_eq_nil_iff.mp e;subst i;obtain⟨C,b,d⟩:=q.put k h;rw[List.sublist_nil.mp d] at b;show o9 K H (x6 (putK acc k _) _) (List.foldl _ (putD ad k _) _) [];exact eR t g b
def sX:List D->(D->Prop)->Prop:=λe Q=>(∃(d:D) (b:List D) (c:List (Key×D)),e=[d]/\kindB false d=some b/\o6 b=true/\dw b=some c/\c.length<sizeLine/\Q (.dic (sQ c))) \/
 ∃a:List (Key×D),e=[.dic a]/\(a.all λg=>y4 g.2)=true/\Q (.dic a)
def lG(K:GR)(xs:List V)(H:Hp)(Q:VK):Prop:=(∃p b a,xs=[.ref p]/\G1 K H p b/\Paired (nG H) b a/\a.length<sizeLine/\∀d,H d=none->Q (.ref d) (upd H d (.dK (x6 [] a)))) \/
  ∃p a,xs=[.ref p]/\Dd H p a/\∀d,H d=none->Q (.ref d) (upd H d (.dK a))
theorem kz(C:X.calm=true):C5 X (.type "dict") (lG X.K):=by
 intro c s g H i j Q I r h;rcases h with h | ⟨p,v,rfl,y,q⟩
 ·exact mx C c s g H i j Q I r h
 ·obtain⟨u,rfl,l⟩:=vals1 r;cases(show u=Value.ref p from l);obtain⟨z,hd,vs,a,J⟩:=V2 I.hok (.of y);refine kt_call_dict hd J (by rw[<-a.length];exact z) λG d x=>?_;have B:=I.hok.fresh (hI s.heap.objs.size)
  have kp:∀b o,s.heap.get? b=some o->G.get? b=some o:=λb o e=>by
   have E:b≠s.heap.objs.size:=mC (hW e);exact(x.2 b E).trans (cC _ e)
  have M:(s.heap.objs.size == sysModules)=false:=(X3 (P:=X.prog) (w:=X.w) (H:=H) s.heap I.big).2.1;exact⟨.ref s.heap.objs.size,_,I.laid (t':=s.toks) kp (hI _) (iw z M a d),rfl,q _ B⟩
theorem kQ(a:X.calm=true):C5 X (.type "dict") (λxs H Q=>lG X.K xs H (AH Q)):=qS (kz a)
theorem wN:Call3 X (λxs H Q=>lG X.K xs H (AH Q)) sX:=by
 intro H vs S A Q R r q k;rcases q with⟨d,xs,u,rfl,O,im,M,G,q⟩ | ⟨y,rfl,im,q⟩
 ·obtain⟨v,rfl,i⟩:=r.one;obtain⟨p,j,B,rfl,C,o,_⟩:=hV i O;obtain⟨c,x,h,el⟩:=iY o M im;refine .inl ⟨p,j,c,rfl,C,x,by rw[el];exact G,λa g=>?_⟩;have l:o9 X.K H (x6 [] c) (sQ u) []:=eR h rfl .nil;refine⟨a,_,rfl,g6,λJ=>?_⟩;rw[Y2];refine k _ _ _ [a] (e9.i6 g) (.dic g6 (l.mono (V0.of (e9.i6 g)) λb e=>by cases e)) (List.nodup_cons.mpr ⟨(λz=>nomatch z),lc⟩) (λb e=>by cases List.mem_singleton.mp e;exact g) q
 ·obtain⟨v,rfl,i⟩:=r.one;obtain⟨p,c,B,rfl,E,h,_⟩:=U4 i;have I:=h.C3 im;subst I;refine .inr ⟨p,c,rfl,E,λa g=>?_⟩;refine⟨a,_,rfl,g6,λJ=>?_⟩;rw[Y2];exact k _ _ _ [a] (e9.i6 g) (.dic g6 (h.mono (V0.of (e9.i6 g)) λb e=>by cases e)) (List.nodup_cons.mpr ⟨(λz=>nomatch z),lc⟩) (λb e=>by cases List.mem_singleton.mp e;exact g) q
end
end L3
namespace L2
open PySem PySem.Spec PyProof.Rows
section
variable{X:Cx}{e c:Expr}{te:TE}{pos p2:Pos}
end
end L2
namespace L3
open PySem PySem.Spec L2
section
variable{X:Cx}{cl:List Cl}{a c:Expr}{fa:Fl}{ua uc:TU}{pos p2:Pos}
theorem uq{K:GR}{H:Hp}{vs:List V}{ds:List D}(r:i5 K H vs ds []):i5 K H vs.reverse ds.reverse []:=by
 obtain⟨C,b,d,_⟩:=r.rev
 have e:C=[]:=by
  cases C with
  | nil=>rfl
  | cons a C=>exact absurd ((d a).mp lm) (by simp)
 rw[e] at b;exact b
end
end L3
namespace L2
open PySem PySem.Spec PySem.Calls PyProof.Rows
section
variable{X:Cx}{pins:GA}{σ:St}{H:Hp}{s:Shared}
end
end L2
namespace L3
open PySem PySem.Spec PySem.Calls PyProof.Rows L2
section
variable{X:Cx}{cl:List Cl}{e:Expr}{es:GJ}{pos cpos hpos np p:Pos}{us:X1}{k m:Nat}{x y bn n:Str}{i j:Nat}{AP:Addr->Prop}
end
section
variable{X:Cx}{cl:List Cl}{e:Expr}{es:GJ}{pos p:Pos}{us:X1}{k:Nat}{fn:Addr}{fd:FuncData}{ps:GH}{x:Str}{ua:TU}{f:Fl}{ma:TM}
end
end L3
namespace L2
open PySem PySem.Spec PyProof.Rows
section
variable{X:Cx}
end
end L2
namespace L3
open PySem PySem.Spec L2
section
variable{X:Cx}{cl:List Cl}{e a b tg:Expr}{es:GJ}{f:Fl}{pos:Pos}{ua ub:TU}{fa fb:Fl}{us:X1}{x y:Str}
end
end L3
namespace L2
open PySem PySem.Spec PyProof.Rows
namespace RT
end RT
def zG(h:Heap)(a t:Addr)(i:Int):Prop:=∃o,h.get? a=some o/\o.cls=.type "reversed" /\ o.data=.fields #[.ref t,rawInt i]
section
variable{prog:Program}{w:World}{A:Around}{E:GP}{s:Shared}
theorem zG.at{h h':Heap}{a t:Addr}{i:Int}(x:zG h a t i)(e:∀o,h.get? a=some o->h'.get? a=some o):zG h' a t i:=let ⟨o,b,r⟩:=x;⟨o,e _ b,r⟩
end
end L2
namespace L3
open PySem PySem.Spec PyProof.Rows L2
section
variable{X:Cx}{cl:List Cl}{tg e:Expr}{f:Fl}{ua:TU}{pos p:Pos}
end
end L3
namespace L2
open PySem PySem.Spec PyProof.Rows
section
variable{X:Cx}
end
end L2
namespace L3
open PySem PySem.Spec PySem.Calls PyProof.Rows L2
section
variable{X:Cx}{cl:List Cl}{e a b:Expr}{es:GJ}{pos cpos hpos np p:Pos}{us:X1}{ua ub:TU}{fa fb:Fl}{ma:TM}{k:Nat}{fn:Addr}{fd:FuncData}{ps:GH}{x y bn:Str}{i:Nat}
end
end L3
namespace L2
open PySem PySem.Spec PyProof.Rows
end L2
namespace L3
open PySem PySem.Spec PySem.Calls PyProof.Rows L2
section
variable{X:Cx}{cl:List Cl}{tg e a b:Expr}{es:GJ}{pos p2 vp:Pos}{ua ub:TU}{f fa fb:Fl}{ma mb:TM}{x:Str}{i:Nat}
theorem J3{K:GR}{H:Hp}:∀{vs:List V} {ns:GK} {A:GG},i5 K H vs (ns.map D.int) A->vs=ns.map V.int
 | _,[],_,.nil=>rfl
 | _,n::ns,_,.cons h r=>by cases h;rw[J3 r];rfl
end
section
variable{X:Cx}{cl:List Cl}{tg e a b:Expr}{es:GJ}{pos p2 vp:Pos}{ua ub:TU}{f fa fb:Fl}{ma mb:TM}{x y:Str}{i j:Nat}
end
end L3
namespace L2
open PySem PySem.Spec PyProof.Rows PySem.SeqAt
end L2
namespace L3
open PySem PySem.Spec PySem.Calls PyProof.Rows L2
section
variable{X:Cx}{cl:List Cl}{e a b:Expr}{pos:Pos}{ua ub:TU}{fa fb:Fl}
end
end L3
namespace L2
open PySem PySem.Spec PyProof.Rows
def jD(h:Heap)(e:Addr)(cls g:Value)(T:Addr)(d:Option Addr):Prop:=
 ∃a vs c b,h.get? e=some a/\a.cls=cls/\a.dict=d/\vs[0]?=some g/\a.data=.fields vs/\vs[1]?=some (.ref T)/\T≠e/\h.get? T=some c/\c.data=.fields b/\b[3]?=some .none
theorem jD.dH{h:Heap}{e:Addr}{cls c:Value}{T:Addr}{i:Option Addr}(f:jD h e cls c T i):BH h e cls c T:=
 let ⟨g,vs,j,d,l,o,_,u,hd,r,b,p,a,q⟩:=f;⟨g,vs,j,d,l,o,u,hd,r,b,p,a,q⟩
structure fu(l:List Env)(old:GG)(h h':Heap)(e:Addr)(cls a0:Value)(T:Addr)(od:Option Addr):Prop where
 keep:∀b o,h.get? b=some o->b≠e->b∉old->b∉O0 l->h'.get? b=some o
 slot:∀b o,h.get? b=some o->b∈O0 l->∃sl,h'.get? b=some { o with slots:=sl }
 dH:jD h' e cls a0 T od
 new:T∈old\/h.get? T=none
theorem fu.gone{l:List Env}{old:GG}{h h':Heap}{e:Addr}{cls a:Value}{T:Addr}{b:Option Addr}(g:fu l old h h' e cls a T b):zp l old h h' e cls a T:=⟨g.keep,g.slot,g.dH.dH,g.new⟩
theorem cO(o:Obj)(f:GM->GM):(o.mapFields f).dict=o.dict:=by
 obtain⟨c,d,a,b⟩:=o;cases a<;>rfl
section
variable{M:Model}{A:Around}{E:GP}{s:Shared}{base:Heap}{env:Env}{outer:List Env}{L e:Addr}{Q:Unit->Shared->Prop}
theorem nJ{d:Obj}{vs:GM}{O j:Value}{hn:Bool}(I:A.frames=some (env::outer))(X:s.heap.FunFrames base (env::outer))(hf:env.frame=some L)(Y:s.heap.get? e=some d)(hd:d.data=.fields vs)(hsz:1<vs.size)(h0:vs[0]?=some O)
  (h:∀h' T,fu (env::outer) [] s.heap h' e d.cls O T d.dict->Q () { s with heap:=h' }) :
  wpAny M A (do let a <-frameOf env;let y <-entryPlaceOf L hn;let b <-EntryCells.newEntry j a .none (rawInt L) .none y;setField (.ref e) 1 b) (λ_ s2=>wpAny M A (setFlight (.ref e) none) Q E s2) E s:=by
 have ef:e∉O0 (env::outer):=λz=>by
  obtain⟨_,o,U,hx⟩:=X.mem z;rw[Y] at U;cases U;exact hx vs hd
 refine cB (wpAny_frameOf_fun I X hf λc v=>cB (wpAny_entryPlaceOf λy hp=>?_));unfold EntryCells.newEntry newFields;refine cB (qc ?_ (hp.sizeOk5 _ _ _ _ _));generalize H:({ cls:=.type "traceback",dict:=none,data:=.fields ([j,.ref L,.none,rawInt L,.none]++(if y.isEmpty then List.replicate 6 Value.none else y)).toArray }:Obj)=i;obtain⟨G,B,r⟩:∃G,i.data=.fields G/\3<G.size:=⟨_,by rw[<-H],by simp only[lw,nT,na,Fx];omega⟩
 have e1:c.get? e=some d:=(v.2.1 e ef).trans Y;have te:c.objs.size≠e:=wn (hW e1);have e2:(c.push i).get? e=some d:=cC i e1;refine FJ e2 hd hsz ?_;generalize l:(Obj.mapFields λx=>x.setIfInBounds 1 (Value.ref c.objs.size))=g;have d1:(g d).data=.fields (vs.setIfInBounds 1 (Value.ref c.objs.size)):=by rw[<-l];exact t6 hd _
 have c1:(g d).cls=d.cls:=by rw[<-l];exact Obj.cls_mapFields _ _
 have J:(g d).dict=d.dict:=by rw[<-l];exact cO _ _
 have e3:((c.push i).update e g).get? e=some (g d):=t4 g e2 (v2 d1);have frz:i.isFreed=false:=v2 B;have R:((c.push i).update e g).get? c.objs.size=some i:=(q0 _ g te.symm).trans (me c frz);show wpAny M A (setFlight (.ref e) none) Q E { s with heap:=(c.push i).update e g };refine wpAny_setFlight_none e3 d1 (by simp[hsz]) R B r (h _ c.objs.size ?_);show fu (env::outer) [] s.heap (((c.push i).update e g).update c.objs.size (Obj.mapFields λx=>x.setIfInBounds 3 Value.none)) e d.cls O c.objs.size d.dict;generalize u:(Obj.mapFields λx=>x.setIfInBounds 3 Value.none)=C
 have keep:∀b o,b≠e->c.get? b=some o->(((c.push i).update e g).update c.objs.size C).get? b=some o:=λb o ne p=>by
  rw[q0 _ C (wn (hW p)),q0 _ g ne.symm];exact cC i p
 refine⟨λb o p n1 _ n3=>keep b o n1 ((v.2.1 b n3).trans p),λb o p hm=>?_,?_,.inr ?_⟩
 ·obtain⟨S,z⟩:=v.2.2 b o p;exact⟨S,keep b _ (λw=>ef (w▸hm)) z⟩
 ·refine⟨g d,_,_,_,(q0 _ C te).trans e3,c1,J,?_,d1,by simp[hsz],te,t4 C R (v2 (by rw[<-u];exact t6 B _)),by rw[<-u];exact t6 B _,by simp[r]⟩;rw[Array.getElem?_setIfInBounds_ne (by decide)];exact h0
 ·cases q:s.heap.get? c.objs.size with
  | none=>rfl
  | some o=>
   obtain⟨S,z⟩:=v.2.2 _ o q;exact absurd (hW z) (wv _)
theorem iz{a:Obj}{vs:GM}{i:Value}(b:A.frames=some (env::outer))(j:s.heap.FunFrames base (env::outer))(c:env.frame=some L)(d:s.heap.get? e=some a)(hd:a.data=.fields vs)(g:vs[1]?=some .none)(l:vs[0]?=some i)
  (h:∀h' T,fu (env::outer) [] s.heap h' e a.cls i T a.dict->Q () { s with heap:=h' }):wpAny M A (leaving env (.ref e)) Q E s:=by
 unfold leaving noteFrame;simp only[c];refine cB (cB (pu d hd g ?_));rw[ln (show ¬(Value.none != Value.none)=true by decide)];exact nJ b j c d hd (Array.getElem?_eq_some_iff.mp g).1 l h
theorem iR{cls R:Value}{d:Addr}{y:Option Addr}(r:A.frames=some (env::outer))(G:s.heap.FunFrames base (env::outer))(H:env.frame=some L)(fl:jD s.heap e cls R d y)
  (h:∀h' T,fu (env::outer) [d] s.heap h' e cls R T y->Q () { s with heap:=h' }):wpAny M A (noteFrame (.ref e) env) (λ_ S=>wpAny M A (setFlight (.ref e) none) Q E S) E s:=by
 obtain⟨oe,vs,U,v,I,rfl,rfl,h0,hd,O,u,j,c,J⟩:=fl;unfold noteFrame;simp only[H];refine cB (pu I hd O ?_);rw[l7 (show(Value.ref d != Value.none)=true by simp)];refine cB (pu j c J ?_);rw[ln (show ¬(Value.none == rawInt L)=true by simp[rawInt])];have l:=(Array.getElem?_eq_some_iff.mp J).1;refine cB (FJ j c l ?_);generalize hg:(Obj.mapFields λx=>x.setIfInBounds 3 Value.none)=g;have a:∀b,b≠d->(s.heap.update d g).get? b=s.heap.get? b:=λb i=>q0 _ g i.symm;have a1:(s.heap.update d g).get? d=some (g U):=t4 g j (v2 (by rw[<-hg];exact t6 c _))
 have X:d∉O0 (env::outer):=λz=>by
  obtain⟨_,o,B,p⟩:=G.mem z;rw[j] at B;cases B;exact p v c
 have q:(s.heap.update d g).FunFrames base (env::outer):=G.of_keeps λb o i p=>⟨o,(a b λz=>by rw[z,j] at i;cases i;exact p v c).trans i,rfl⟩
 refine nJ (s:={ s with heap:=s.heap.update d g }) r q H ((a e u.symm).trans I) hd (Array.getElem?_eq_some_iff.mp O).1 h0 λh' T gd=>h h' T ⟨λb o i n1 n2 Y=>?_,λb o i C=>?_,gd.dH,?_⟩
 ·exact gd.keep b o ((a b λz=>n2 (z▸List.mem_singleton.mpr rfl)).trans i) n1 (λz=>nomatch z) Y
 ·exact gd.slot b o ((a b λz=>X (z▸C)).trans i) C
 ·rcases gd.new with z | z
  ·cases z
  ·by_cases w:T=d
   ·exact .inl (w▸List.mem_singleton.mpr rfl)
   ·exact .inr ((a T w).symm.trans z)
theorem dJ{cls p:Value}{g:Addr}{i:Option Addr}(B:jD s.heap e cls p g i)(h:∀h',(∀b,b≠g->h'.get? b=s.heap.get? b)->jD h' e cls p g i->Q () { s with heap:=h' }):wpAny M A (setFlight (.ref e) none) Q E s:=by
 obtain⟨r,vs,C,q,j,v,u,z,hd,o,d,l,a,y⟩:=B;have c:3<q.size:=(Array.getElem?_eq_some_iff.mp y).1;refine wpAny_setFlight_none j hd o l a c (h _ (λb x=>q0 _ _ (tt x)) ?_);exact⟨r,vs,_,_,(q0 _ _ d).trans j,v,u,z,hd,o,d,t4 _ l (v2 (t6 a _)),t6 a _,by simp[c]⟩
end
section
variable{prog:Program}{w:World}{A:Around}{E:GP}{h:Heap}{g:Array GenState}{d:Drawn}{t:Nat}{os:OsState}
variable{nm q:Str}{C N fI:Addr}{oI:Obj}{bs bm bmB bmN:GI}{hdct:Bool}{sn:GH}{sub:GI}{ab:Bool}{col:Option Bool}{dd:Option Addr}{k0 k1 k2 k3 k5:GS}{B Bn newId nid initId inN:String}{mN:GN}{rest:GI}
theorem lN{Q:PySem.Fin->Shared->Prop}(p:ExcBaseFacts Bn newId inN bmN)(c:bmB.contains (.type Bn)=true)(F:ExcBaseFacts B nid initId bmB)(T:OwnTail h bmB bm)
  (a:h.get? C=some (excClassObj nm q C N bs bm hdct sn sub ab col dd k0 k1 k2 k3 k5 newId)) (x:h.Ns N mN) (y:mN "__init__"=some (.ref fI)) (G:h.get? fI=some oI) (l:oI.cls=.type "function") (u:rest.length<=sizeLine)
  (v:∀h' e,Heap.MadeExcOf h h' e (.ref C) rest->h.objs.size<=e->wpAny (model prog w) A (call (.ref fI) (.ref e::rest)) (λr s'=>r=.none/\Q (.done (.ret (.ref e))) s') E ⟨h',g,d,t,os⟩) :
  wpAny (model prog w) A (Builtin.«type.__call__» ⟨.ref C::rest,[]⟩) Q E ⟨h,g,d,t,os⟩:=by
 repeat (first | with_reducible refine wf a ?_ | with_reducible refine wpAny_madeBy_exc a ?_ | wp_step)
 refine codeAny_call_builtin_code (Ga _ p.quiet) (wpAny_check_new_subU p c T a (codeAny_exc_new_subU p c F T a ?_ u));show wpAny _ _ _ _ _ _;have kp:∀b o,h.get? b=some o->((h.push { cls:=.type "tuple",data:=.seq rest.toArray }).push { cls:=.ref C,data:=.fields #[.ref h.objs.size,.none,.none,.none,.bool false,.none] }).get? b=some o:=λb o z=>cC _ (cC _ z);have i:((h.push { cls:=.type "tuple",data:=.seq rest.toArray }).push { cls:=.ref C,data:=.fields #[.ref h.objs.size,.none,.none,.none,.bool false,.none] }).get? (h.objs.size+1)=some { cls:=.ref C,data:=.fields #[.ref h.objs.size,.none,.none,.none,.bool false,.none] }:=by heap_get
 have mk:Heap.MadeExcOf h ((h.push { cls:=.type "tuple",data:=.seq rest.toArray }).push { cls:=.ref C,data:=.fields #[.ref h.objs.size,.none,.none,.none,.bool false,.none] }) (h.objs.size+1) (.ref C) rest:=
  ⟨kp,EX (FU _),h.objs.size,i,EX (hI _),cC _ (Heap.get?_push_at rfl rfl)⟩
 generalize (h.push { cls:=.type "tuple",data:=.seq rest.toArray }).push { cls:=.ref C,data:=.fields #[.ref h.objs.size,.none,.none,.none,.bool false,.none] }=H at kp i mk;have I:(Value.ref C::bm).contains (.ref C)=true:=by simp
 unfold isInstance
 repeat (first | with_reducible refine wf i ?_ | (with_reducible refine Fa (kp _ _ a) ?_;rw[I]) | wp_step)
 show wpAny _ _ (typeLookup (.ref C) _) _ _ _;refine wpAny_typeLookup_tail (kp _ _ a) (x.keeps kp) (T.keeps kp) F.mroIs F.init.lookup ?_;rw[y];refine qs (cB ?_);unfold bindSpecial;refine cB (Fd (T:="function") ⟨_,kp _ _ G,l⟩ ?_);rw[l7 (by decide)];refine dL (cB (o1 (v H _ mk (FU _)) (λr s' j=>?_) λ_ _ z=>z));obtain⟨rfl,z⟩:=j
 wp_walk
 exact z
theorem lu{Q:GP}(u:ExcBaseFacts Bn newId inN bmN)(c:bmB.contains (.type Bn)=true)(F:ExcBaseFacts B nid initId bmB)(T:OwnTail h bmB bm)
  (a:h.get? C=some (excClassObj nm q C N bs bm hdct sn sub ab col dd k0 k1 k2 k3 k5 newId)) (l:h.Ns N mN) (o:mN "__init__"=some (.ref fI)) (p:h.get? fI=some oI) (b:oI.cls=.type "function") (i:rest.length<=sizeLine)
  (j:∀h' e,Heap.MadeExcOf h h' e (.ref C) rest->h.objs.size<=e->wpAny (model prog w) (A.under (.builtin "type.__call__" ⟨.ref C::rest,[]⟩)) (call (.ref fI) (.ref e::rest)) (λr s'=>r=.none/\Q (.ref e) s') E ⟨h',g,d,t,os⟩) :
  wpAny (model prog w) A (call (.ref C) rest) Q E ⟨h,g,d,t,os⟩:=by
 have y:=tc_lookup;have x:=tc_bind (.ref C);have v:(⟨h,g,d,t,os⟩:Shared).TypeIs (.ref C) "type":=⟨_,a,rfl⟩
 refine EQ (codeAny_of_tree (show wpAny _ _ (callAny (.ref C) _) _ _ _ from ?_))
 repeat (any_goals (first | assumption | with_reducible refine wf a ?_ | wp_step))
 exact⟨rfl,codeAny_call_builtin_at (Ga _ (by decide +kernel)) entry_typeCall (wpAny_check_type_call_sub a (lN u c F T a l o p b i j))⟩
end
section
variable{M:Model}{A:Around}{E:GP}{env:Env}
variable{nm q:Str}{C N:Addr}{bs bm:GI}{hdct:Bool}{sn:GH}{sub:GI}{ab:Bool}{col:Option Bool}{dd:Option Addr}{k0 k1 k2 k3 k5:GS}{newId:String}
theorem lK {s:Shared} {x:Sem Value} {Q:Flow->Shared->Prop} (a:bm.contains (.type "BaseException")=true) (l:A.handled=none)
  (h:wpAny M A x (λv c=>∃e b vs,v=.ref e/\c.heap.get? C=some (excClassObj nm q C N bs bm hdct sn sub ab col dd k0 k1 k2 k3 k5 newId)/\c.heap.get? e=some b/\b.cls=.ref C/\b.data=.fields vs/\vs[1]?=some .none/\E (.ref e) c) E s) :
  wpAny M A (raiseStmt env (some x) none) Q E s:=by
 have B:(Value.ref C::bm).contains (.type "BaseException")=true:=by rw[FF,a,FP]
 unfold raiseStmt;refine cB (o1 h (λv c i=>?_) λ_ _ z=>z);obtain⟨e,b,vs,rfl,j,p,r,hd,i,u⟩:=i;obtain⟨⟨cl,I,y,G⟩,rfl⟩:∃o,b=o:=⟨b,rfl⟩
 cases(show cl=_ from r);cases(show y=_ from hd);obtain⟨H,g,d,tk,os⟩:=c
 repeat (first | with_reducible refine wf p ?_ | with_reducible refine wf j ?_ | (with_reducible refine Fa j ?_;rw[B]) | wp_step)
 rw[i];refine dL ?_;rw[ln (show ¬(Value.none != Value.none)=true by decide)];exact dL (wpAny_raiseNew_none l u)
end
def qB:GI:=[.type "ValueError",.type "Exception",.type "BaseException",.type "object"]
theorem eO(self:Value):∀a:GG,refuseLoop self "__setattr__" (a.map Value.ref++qB)=pure ()
 | []=>PySem.F.store_ValueError.passes self
 | c::r=>by rw[nj,FS,refuseLoop_ref];exact eO self r
theorem km{n:String}(a:qB.contains (.type n)=true):∀b:GG,(b.map Value.ref++qB).contains (.type n)=true
 | []=>a
 | c::r=>by rw[nj,FS,FF,km a r,FP]
structure hX(K:GR)(C:Addr)(name:Str):Prop where
 cls:∃(cd:ClassData) (rs:GG),PySem.W.clsIn K C=some cd/\cd.mro=rs.map Value.ref++qB/\cd.hasDict=true
 set:PySem.W.findIn K (.ref C) "__setattr__"=some (some (.builtin "object.__setattr__"))
 no:PySem.W.findIn K (.ref C) name=some none
def RQ(Q:Unit->Shared->Prop)(E:GP):Result->Shared->Prop:=λr a=>match r with
 | .ok (.ret _)=>Q () a
 | .ok _=>False
 | .error e=>E e a
section
variable{prog:Program}{w:World}{A:Around}{E:GP}{s:Shared}{K:GR}{x C:Addr}{ox:Obj}{name:Str}{v:Value}
theorem fL{Q:Unit->Shared->Prop}(X:K.In s.heap)(u:s.heap.get? x=some ox)(d:ox.cls=.ref C)(F:hX K C name)
  (h:∀b:Bool,wpAny (model prog w) A.in1 (Builtin.ObjectAttr.storeInOwnDict (.ref x) (.ref C) (.str name s.toks) name v b) (λg s'=>match g with | .done f=>RQ Q E (.ok f) s' | .again l=>l.quiet=true/\codeAny (model prog w) A l (RQ Q E) s') (λe s'=>RQ Q E (.error e) s') { s with toks:=s.toks+1 }) :
  wpAny (model prog w) A (setAttr (.ref x) name v) Q E s:=by
 obtain⟨j,o,i,c,y⟩:=F.cls
 have ty:PySem.W.Looks (model prog w) s.heap (typeOf (.ref x)) (.ref C):=λA Q E s' k q=>by
  have:=k _ _ u;unfold typeOf;refine cB (Db this ?_);rw[d];exact dL q
 have p:PySem.W.Looks (model prog w) s.heap (mroOf (.ref C)) j.mro:=(FD X i).andThen .now;have a:=PySem.F.store_object;have ne:j.mro.isEmpty=false:=by rw[c];cases o<;>rfl
 have sub:PySem.W.Looks (model prog w) s.heap (isInstance (.ref x) (.type "object")) true:=ty.andThen (PySem.W.looks_mroIn X (by unfold PySem.W.mroIn;rw[i,FQ,ln (by rw[ne];decide),c,km (by decide)]));unfold setAttr callSpecial? specialOf;refine cB (wpAny_mkText (cB (cB (cB ((ty.keeps λ_ _ e=>e).here (s:={ s with toks:=s.toks+1 }) (((PySem.W.looks_findIn X F.set).keeps λ_ _ e=>e).here (s:={ s with toks:=s.toks+1 }) (qs ?_)))))));rw[a.slot.bind];refine cB (dL (cB (EQ (Fe (R:=RQ Q E) ?_ λr s' z=>?_))))
 rotate_left
 ·rcases r with e | (v | _ | _ | _)<;>first | exact z | exact dL (dL z)
 refine EW a.slot.plain a.entry (@PySem.W.check_slot (model prog w) _ _ { s with toks:=s.toks+1 } "object.__setattr__" "object" "__setattr__" (.ref x) [.str name s.toks,v] [] _ a.kind a.split sub (a.args (.ref x) (.str name s.toks) v) ?_);show wpAny (model prog w) A.in1 (Builtin.«object.__setattr__» ⟨[.ref x,.str name s.toks,v],[]⟩) _ _ _;rw[PySem.W.osa_eq,refuse_eq];refine cB (cB (ty.here (s:={ s with toks:=s.toks+1 }) (cB (p.here (s:={ s with toks:=s.toks+1 }) ?_))));rw[c,eO];refine dL (cB (ty.here (s:={ s with toks:=s.toks+1 }) (cB ((PySem.W.looks_findIn X F.no).here (s:={ s with toks:=s.toks+1 }) (cB (PySem.W.Looks.now.here (r:=(none:GS)) ?_))))));exact h _
theorem cu{Q:Unit->Shared->Prop}{d:Addr}{m:GN}{ns:GH}{tk:Tok}(l:s.heap.Ns1 d m)(hw:Within m ns)(p:ns.length<sizeLine)
  (h:∀h',h'.Ns1 d (λy=>if y=name then some v else m y)->Heap.SameBut d s.heap h'->Q () { s with heap:=h',toks:=s.toks+1 }) :
  wpAny (model prog w) A.in1 (Builtin.ObjectAttr.storeInDict d (.str name tk) name v) (λg s'=>match g with | .done f=>RQ Q E (.ok f) s' | .again i=>i.quiet=true/\codeAny (model prog w) A i (RQ Q E) s') (λe s'=>RQ Q E (.error e) s') s:=by
 refine cB (dL (cB (wpAny_nsSet1 l λh' n2 j=>?_)));obtain⟨o,q,r,a,b,c⟩:=n2.count (Within.cons name v hw);refine cB (wpAny_lookBehind a (by rw[b];exact pastItsLine_dict (ol c (by rw[na];omega))) ?_);exact dL (h h' n2 j)
theorem vd{Q:Unit->Shared->Prop}(X:K.In s.heap)(g:s.heap.get? x=some ox)(d:ox.cls=.ref C)(F:hX K C name){vs:GM}(hd:ox.data=.fields vs)(G:ox.dict=none)
  (h:∀h' tk,h'.get? x=some { ox with dict:=some s.heap.objs.size }->h'.Ns1 s.heap.objs.size (λy=>if y=name then some v else none)->(∀b o,b≠x->s.heap.get? b=some o->h'.get? b=some o)->Q () { s with heap:=h',toks:=tk }) :
  wpAny (model prog w) A (setAttr (.ref x) name v) Q E s:=by
 refine fL X g d F λb=>?_;obtain⟨U,S,J,T,H⟩:=F.cls;obtain⟨R,O,p,a⟩:=ox;cases(show R=_ from d);cases(show O=_ from G);cases(show p=_ from hd);have ld:=(FD (M:=model prog w) X J)
 refine cB (dL (cB (cB (Db g (cB (ld.here (s:={ s with toks:=s.toks+1 }) ?_))))));rw[H,ln (by decide)];have c:(s.heap.push { cls:=.type "dict",data:=.dict #[] }).get? x=some { cls:=.ref C,data:=.fields vs,slots:=a }:=cC _ g;have q:x≠s.heap.objs.size:=mC (hW g);refine cB (wpAny_alloc' (cB (wpAny_update' c ?_)));refine dL ?_;have z:((s.heap.push { cls:=.type "dict",data:=.dict #[] }).update x λo=>{ cls:=o.cls,dict:=some s.heap.objs.size,data:=o.data,slots:=o.slots }).get? x=some { cls:=.ref C,dict:=some s.heap.objs.size,data:=.fields vs,slots:=a }:=t4 _ c rfl;have gd:((s.heap.push { cls:=.type "dict",data:=.dict #[] }).update x λo=>{ cls:=o.cls,dict:=some s.heap.objs.size,data:=o.data,slots:=o.slots }).get? s.heap.objs.size=some { cls:=.type "dict",data:=.dict #[] }:=(Heap.get?_update_ne _ _ _ _ q.symm).trans (Heap.get?_push_at rfl rfl);have B:∀b o,b≠x->s.heap.get? b=some o->((s.heap.push { cls:=.type "dict",data:=.dict #[] }).update x λo=>{ cls:=o.cls,dict:=some s.heap.objs.size,data:=o.data,slots:=o.slots }).get? b=some o:=λb o j i=>(Heap.get?_update_ne _ _ _ _ j).trans (cC _ i);generalize (s.heap.push { cls:=.type "dict",data:=.dict #[] }).update x (λo=>{ cls:=o.cls,dict:=some s.heap.objs.size,data:=o.data,slots:=o.slots })=u at z gd B;have l:u.Ns1 s.heap.objs.size (λ_=>none):=Heap.Ns1.of_empty ⟨_,#[],_,gd,rfl,λe I=>absurd I (by simp),λ_=>rfl⟩;refine cu (s:={ s with heap:=u,toks:=s.toks+1 }) (ns:=[]) l Within.nil (by show 0<sizeLine;rw[sd];decide) λh' n2 r=>h h' _ ((r.2 x q).trans z) n2 λb o j i=>(r.2 b (mC (hW i))).trans (B b o j i)
theorem pD{Q:Unit->Shared->Prop}(X:K.In s.heap)(c:s.heap.get? x=some ox)(a:ox.cls=.ref C)(F:hX K C name){d:Addr}{m:GN}{ns:GH}(hd:ox.dict=some d)(j:s.heap.Ns1 d m)(hw:Within m ns)(i:ns.length<sizeLine)
  (h:∀h' tk,h'.Ns1 d (λy=>if y=name then some v else m y)->Heap.SameBut d s.heap h'->Q () { s with heap:=h',toks:=tk }) :
  wpAny (model prog w) A (setAttr (.ref x) name v) Q E s:=by
 refine fL X c a F λb=>?_;obtain⟨B,u,o,z,l⟩:=F.cls;obtain⟨r,q,p,e⟩:=ox;cases(show r=_ from a);cases(show q=_ from hd);have ld:=(FD (M:=model prog w) X o)
 refine cB (dL (cB (cB (Db c (cB (ld.here (s:={ s with toks:=s.toks+1 }) ?_))))));rw[l,ln (by decide)];refine dL ?_;exact cu (s:={ s with toks:=s.toks+1 }) j hw i λh' n2 g=>h h' _ n2 g
end
end L2
namespace PySem.W
open PySem PySem.Calls PyProof.Rows Builtin Builtin.ObjectAttr Builtin.Getset_descriptor
section
variable{K:Frag}{prog:Program}{w:World}{A:Around}{E:GP}{s:Shared}{e D dx:Addr}{oe:Obj}{name:Str}{m:GN}{v:Value}{cd:ClassData}
theorem vC {a:Bool} {Q:GP} (c:findIn K (.ref D) "__getattribute__"=some (some (.builtin "BaseException.__getattribute__"))) (b:findIn K (.ref D) "__getattr__"=some none)
  (C:findIn K (.ref D) name=some none) (B:mroIn K D (.type "BaseException")=some true) (i:clsIn K D=some cd) (y:cd.hasDict=true)
  (X:K.In s.heap) (g:s.heap.get? e=some oe) (o:oe.cls=.ref D) (hd:oe.dict=some dx) (x:s.heap.Ns1 dx m) (q:m name=some v) {vs:GM} (z:oe.data=.fields vs) (u:handedOut v=pure v) (h:Q v { s with toks:=s.toks+1 }):wpAny (model prog w) A (getAttr (.ref e) name a) Q E s:=by
 obtain⟨r,R,d,t,os⟩:=s;have l:Looks (model prog w) r (typeOf (.ref e)) (.ref D):=o▸(Looks.ld g).andThen .now;have O:=Fi (M:=model prog w) X c;have L2:=Fi (M:=model prog w) X b;have L3:=Fi (M:=model prog w) X C;have J:=looks_mroIn (M:=model prog w) X B;have I:=looks_clsIn (M:=model prog w) X i;unfold getAttr getAttrBy;refine cB (wpAny_mkText (qs (cB (l.at (cB (O.at ?_))))));show wpAny _ _ (getAttrByItsOwn _ _ _ _ _ _) _ _ _;unfold getAttrByItsOwn hookBefore;refine cB (L2.at ?_);refine cB (EU (qs ?_));unfold callGetattribute;rw[show(a&&onTheHeap (Value.builtin "BaseException.__getattribute__"))=false by cases a<;>rfl];rw[ln kt];unfold boundAndCalled;refine cB (wpAny_of_eq (kh _) ?_);show wpAny _ _ (call (.builtin "BaseException.__getattribute__") [.ref e,.str name t]) _ _ _;refine EQ (EW fC F.entry_bexc_ga (eN l J ?_));unfold Builtin.«object.__getattribute__»;refine cB (dL (cB (dL (cB (l.at (cB ?_))))));unfold find;refine cB (L3.at (cB (dL (cB (dL ?_)))));obtain⟨H,G,j,p⟩:=oe;cases(show H=_ from o);cases(show G=_ from hd);cases(show j=_ from z);show wpAny _ _ (inOwnDict name (.ref e) >>= _) _ _ _;refine cB ?_;show wpAny _ _ (Builtin.ObjectAttr.ownDict e >>= inDict name) _ _ _;refine cB ?_;unfold Builtin.ObjectAttr.ownDict loadHead instanceDict;refine cB (Db g (cB (Db g (cB (I.at ?_)))));rw[y,ln (by decide)];refine dL (wpAny_nsGet x.ns ?_);rw[q];refine cB (FV (dL (dL ?_)));show wpAny _ _ (handedOut v) _ _ _;rw[u];exact dL h
end
end PySem.W
namespace L2
open PySem PySem.Spec PyProof.Rows
def wR(P:Program)(w:World):lj:=λouter H s E x a=>∃(e:Addr) (cls d:Value) (T:Addr) (c:Option Addr) (b:Hp),x=.ref e/\jD a.heap e cls d T c/\s.heap.get? e=none/\s.heap.get? T=none/\b e=none/\b T=none /\
 a.os=s.os/\AllBare a.gens/\Un (O0 outer) [] H b s.heap a.heap/\J4 P w b a.heap/\E cls c b
section
variable{P:Program}{w:World}{K:GR}{mg:GN}{base:Heap}{N:GH}{qual:Str}{scope:Scope}{f:Addr}{cd:Value}{A:Around}{outer:List Env}{s:Shared}{H:Hp}{E:XK}
 {pins:GA} {σ:St} {H1:Hp} {s1:Shared}
theorem uu{e:Addr}{i:Obj}{vs:GM}{u:Value}(I:Inv (ar (wR P w) P w K mg base N qual scope f cd A outer s H E) pins σ H1 s1)(o:s1.heap.get? e=some i)(hd:i.data=.fields vs)(r:vs[0]?=some u)(q:vs[1]?=some .none)
  (l:s.heap.get? e=none) (te:H1 e=none) (p:E i.cls i.dict H1):(ar (wR P w) P w K mg base N qual scope f cd A outer s H E).xe (.ref e) s1:=by
 have j:s1.heap.FunFrames base (envOfC qual scope s.heap.objs.size f cd::outer):=I.stack;have v:Un (O0 outer) [] H H1 s.heap s1.heap:=I.base;refine iz (L:=s.heap.objs.size) (I.ok.frames) j rfl o hd q r λx T g=>?_
 obtain⟨a,b,c,d⟩:=vJ (L:=s.heap.objs.size) rfl v I.hok qy l (λb h=>by cases h) I.free te (λb h=>by cases h) (λb h=>I.bI b (by
  show b∈O0 (envOfC qual scope s.heap.objs.size f cd::outer);exact lf _ h)) g.gone
 exact⟨e,_,_,T,_,H1,rfl,g.dH,l,d,te,c,I.os,I.bare,a,b,p⟩
end
section
variable{X:Cx}{pins:GA}{σ:St}{H:Hp}{s:Shared}
def rG(X:Cx)(pins:GA)(σ:St)(E:XK)(x:Value)(s':Shared):Prop:=∃b a,Inv X pins σ b a/\wR X.prog X.w X.stack b a E x s'
theorem pQ{k:Nat}{f:Addr}{G:FuncData}{ps:GH}{sp:Sp}{b:List V}{ds:GI}{x:Str}{p c:Pos}{e:Expr}{i:GJ}{t:TA}{E:XK}{Q:VK}(J:p6 X.prog X.w X.K X.mg X.base (wR X.prog X.w) k f G ps sp)(O:x5 k X.A)(U:Gl X x)(R:X.mg x=some (.ref f))(T:PySem.W.keepIn X.K (.ref f)=true)(hb:Binds X.K G ps ds)(hd:Vals b ds)
  (ha:PA (X.Q5 λ_ _=>False) (e::i) t) (I:Inv X pins σ H s) (h:t σ H λvs l=>sp (vs++b) l Q E) (y:(x == ("__debug__" : Str))=false:=by decide) (Y:starEach (e::i) X.env=(false,eval e X.env)::starEach i X.env:=by rfl) (v:(backTo c (starEach i X.env)).any (·.1)=false:=by rfl) :
  wpAny (model X.prog X.w) X.A (eval (.Call (.Name x p) (e::i) [] c) X.env) (EP X pins σ Q) (rG X pins σ E) s:=by
 refine Fh (X4 I U R ?_ y);have I':Inv (X.Q5 λ_ _=>False) pins σ H s:=⟨I.ok.Q5 _,I.os,I.bare,I.base,I.loc,I.cell,I.free,I.freeC,I.pin,I.hok,I.len⟩
 have B:=ha c pins s σ H _ I' h;refine PySem.W.callWith_K (h₀:=X.base) I.ok.mod.kin T (o1 B (λd o h1=>?_) λ_ _ z=>z.elim) Y v;obtain⟨vs,l,a,r,q⟩:=h1;have j:Inv X pins σ l o:=⟨I.ok,a.os,a.bare,a.base,a.loc,a.cell,a.free,a.freeC,a.pin,a.hok,a.len⟩
 refine⟨j.Z8,?_⟩;have C:Vals (vs++b) (d++ds):=r.append hd;have S:(d++ds).length=ps.length:=by rw[<-C.length];exact J.len _ _ _ _ q
 refine EQ (Fe (J.run X.A X.stack o l ⟨d,[]⟩ (d++ds) (vs++b) Q E O j.Ae (hb o d j.Z8 S) C q) λM s' g=>?_)
 cases M with
 | error e=>exact⟨l,o,j,g⟩
 | ok fl=>
  cases fl with
  | ret u=>exact j.after g
  | next=>exact False.elim g
  | brk=>exact False.elim g
  | cont=>exact False.elim g
end
structure eT(X:Cx)(pins:GA)(σ:St)(H:Hp)(s:Shared)(e T:Addr)(cls a0:Value)(od:Option Addr):Prop where
 held:zi X pins σ H s e T cls a0
 dH:jD s.heap e cls a0 T od
section
variable{X:Cx}{pins:GA}{σ:St}{H:Hp}{s:Shared}{e T:Addr}{cls a0:Value}{od:Option Addr}{E:XK}{x:Value}{Q:Unit->Shared->Prop}{M:Model}{A:Around}{E2:GP}
theorem pS{s':Shared}(I:A.frames=some X.stack)(i:X.stack=X.env::X.outer)(C:X.env.frame=some X.env.locals)(c:rG X pins σ E x s')
  (h:∀e T cls a0 od j q,x=.ref e->eT X pins σ j q e T cls a0 od->E cls od j->Q () q):wpAny M A (noteFrame x X.env) (λ_ u=>wpAny M A (setFlight x none) Q E2 u) E2 s':=by
 obtain⟨Y,v,p,e,cls,a0,T,od,j,rfl,O,ne,y,te,tT,os,bare,U,ok,G⟩:=c;have J:=p.ft os U ok bare (λb z=>absurd z (by simp));have B:s'.heap.FunFrames X.base (X.env::X.outer):=i▸J.stack;refine iR (i▸I) B C O λr R g=>?_;obtain⟨a,b,c,d⟩:=qr (l:=X.stack) U ok ne (λb o=>by rw[List.mem_singleton.mp o];exact y) te (λb o=>by rw[List.mem_singleton.mp o];exact tT) J.bI (by rw[i];exact g.gone);have S:Inv X pins σ j { s' with heap:=r }:=p.ft (s':={ s' with heap:=r }) os a b bare (λb z=>absurd z (by simp));exact h e R cls a0 od j _ rfl ⟨⟨S,g.dH.dH,te,c,Y,v,p,os,bare,a,ne,d⟩,g.dH⟩ G
theorem eT.again(c:eT X pins σ H s e T cls a0 od)(h:∀s',eT X pins σ H s' e T cls a0 od->Q () s'):wpAny M A (setFlight (.ref e) none) Q E2 s:=by
 obtain⟨C,g,B,os,bare,U,ne,r⟩:=c.held.from_;refine dJ c.dH λp k v=>?_;have st:∀b o,g.heap.get? b=some o->b≠T:=λb o a z=>by rw[z,r] at a;cases a
 have y:Un (O0 X.stack) [] C H g.heap p:=⟨λb o a j l d=>(k b (st b o a)).trans (U.keep b o a j l d),λb o a j l d=>by
   obtain⟨G,q⟩:=U.slot b o a j l d;exact⟨G,(k b (st b o a)).trans q⟩,U.free,λb o a d=>by
   obtain⟨I,q⟩:=U.there b o a d;exact⟨I,(k b (st b o a)).trans q⟩,U.C0,U.frzs,U.tbls,U.low⟩
 have i:J4 X.prog X.w H p:=J4.nM c.held.inv.hok λb u a J=>(k b λz=>a (z▸c.held.tT)).trans J;exact h _ ⟨⟨B.ft (s':={ s with heap:=p }) os y i bare (λb z=>absurd z (by simp)),v.dH,c.held.te,c.held.tT,C,g,B,os,bare,y,ne,r⟩,v⟩
theorem eT.pin(c:eT X pins σ H s e T cls a0 od){F:GP}:∃a,a.cls=cls/\a.dict=od/\(∃vs,a.data=.fields vs)/\Inv (X.C9 e a F) pins σ H s:=by
 have l:=c.dH.dH.apart c.held.inv.stack;obtain⟨a,j,I⟩:=c.held.pin (F:=F);obtain⟨b,vs,_,_,g,_,h,_,d,_⟩:=c.dH;obtain⟨i,_⟩:=I.pin (e,a) (mr _ (hH _ (List.mem_singleton.mpr rfl)));have:b=a:=oD (g.symm.trans i);subst this;exact⟨b,j,h,⟨vs,d⟩,I⟩
end
def uV:V->Bool
 | .int _=>true
 | .str _=>true
 | _=>false
theorem qZ{v:V}{u:Value}(h:uV v=true)(r:RelV v u):handedOut u=pure u:=by
 cases v<;>first | cases h | skip
 ·obtain⟨t,rfl⟩:=r;rfl
 ·obtain⟨t,rfl⟩:=r;rfl
structure iI(K:GR)(C:Addr)(f:Str):Prop where
 cls:∃cd,PySem.W.clsIn K C=some cd/\cd.hasDict=true
 no:PySem.W.findIn K (.ref C) f=some none
def Es(e a:Addr)(d:TE)(f:Str):TE:=λc H Q=>d c H λx b=>x=.ref e/\∃fs v,b a=some (kB a fs)/\fs.lookup f=some v/\uV v=true/\Q v b
section
variable{X:Cx}{o:Expr}{f:Str}{pos:Pos}{ta:TE}{e dx C:Addr}{oe:Obj}{vs:GM}
theorem xB(G:(e,oe)∈X.pn)(T:oe.cls=.ref C)(hd:oe.dict=some dx)(R:oe.data=.fields vs)(B:PySem.W.V1 X.K C)(F:iI X.K C f)(S:PE X o ta)(U:attributeBase o f X.env (eval o X.env)=eval o X.env):PE X (.Attribute o f pos) (Es e dx ta f):=by
 refine .of ?_;intro b s j H Q I h;obtain⟨Y,d,O⟩:=F.cls;refine wc U (r8 (S b s j H _ I h) λu l ⟨x,i,c,p,ex,fs,v,z,M,y,q⟩=>?_);subst ex;obtain rfl:u=Value.ref e:=p;obtain⟨⟨r,J,E,_⟩,_⟩:=(show j7 X.prog X.w i l.heap dx (kB dx fs) from c.hok dx _ z)
 have a:=E f;rw[M] at a
 cases g:r f with
 | none=>rw[g] at a;exact a.elim
 | some u=>
  rw[g] at a;exact PySem.W.vC B.ga B.gn F.no B.be d O c.Z8 (c.pin (e,oe) (mr _ G)).1 T hd J g R (qZ y a) ⟨v,i,c.tok _,a,q⟩
end
def xo(a:Addr)(b:Obj):HO:=.ext λh=>h.get? a=some b
theorem ye{P:Program}{w:World}{H:Hp}{h:Heap}{a:Addr}{b:Obj}(e:h.get? a=some b):j7 P w H h a (xo a b):=⟨e,⟨_,e⟩,λd c q k=>k _ q⟩
def jH(K:GR)(h g:TE)(f:Str):TS:=λD e H=>g e H λy i=>h e i λx d=>∃a c C vs,x=.ref a/\d a=some (xo a c)/\c.cls=.ref C/\c.data=.fields vs/\hX K C f /\
  ((c.dict=none/\∀b,d b=none->b≠a->D.nx e (upd (upd d b (kB b [(f,y)])) a (xo a { c with dict:=some b }))) \/
   ∃b fs,c.dict=some b/\b≠a/\d b=some (kB b fs)/\fs.length<1000/\D.nx e (upd d b (kB b ((f,y)::fs))))
theorem Y8{f g:Str}{y:V}{u:Value}{fs:List (Str×V)}{mA:GN}(r:∀f,Q8 (fs.lookup f) (mA f))(a:RelV y u):Q8 (((f,y)::fs).lookup g) (if g=f then some u else mA g):=by
 by_cases h:g=f
 ·subst h;rw[l7 rfl,List.lookup_cons_self];exact a
 ·rw[ln h];have:(g == f)=false:=beq_eq_false_iff_ne.mpr h;rw[op,this];exact r g
section
variable{X:Cx}{o e value:Expr}{f:Str}{pos pos':Pos}{ta tv:TE}
theorem nu(ha:PE X o ta)(hv:PE X value tv)(hs:swapsWith value (some (.Attribute o f pos')) pos.line X.env=pure false):PS X (.Assign [.Attribute o f pos'] value pos) (jH X.K ta tv f):=by
 refine .of ?_;intro j s G H D I h;refine plainObj_wpAny_Assign_Attribute (r8 (hv j s G H _ I h) λu s1 ⟨y,H1,I1,Y,q⟩=>r8 (ha j s1 G H1 _ I1 q) λov i ⟨x,H2,p,rx,a,O,C,vs,ex,ea,R,hd,F,B⟩=>?_) hs;subst ex;obtain rfl:ov=Value.ref a:=rx;obtain⟨r,_⟩:=(show j7 X.prog X.w H2 i.heap a (xo a O) from p.hok a _ ea)
 have r:i.heap.get? a=some O:=r;rcases B with⟨J,B⟩ | ⟨v,fs,Q,ne,E,hl,B⟩
 ·refine vd p.Z8 r R F hd J λl tk S n2 k2=>?_;have U:a≠i.heap.objs.size:=mC (hW r);obtain⟨c0,d0,T,c⟩:=O;cases(show c0=_ from R);cases(show d0=_ from J);cases(show T=_ from hd);have fr:Obj.isFreed { cls:=.ref C,dict:=none,data:=.fields vs,slots:=c }=false:=rfl;have g1:(l.update a λ_=>{ cls:=.ref C,dict:=none,data:=.fields vs,slots:=c }).get? a=some { cls:=.ref C,dict:=none,data:=.fields vs,slots:=c }:=t4 _ S fr;have M:∀b,b≠a->(l.update a λ_=>{ cls:=.ref C,dict:=none,data:=.fields vs,slots:=c }).get? b=l.get? b:=λb d=>q0 _ _ d.symm;generalize (l.update a λ_=>{ cls:=.ref C,dict:=none,data:=.fields vs,slots:=c })=h1 at g1 M;have n3:h1.Ns1 i.heap.objs.size (λy=>if y=f then some u else none):=n2.at λo z=>(M _ U.symm).trans z
  have J1:=p.laid (a:=i.heap.objs.size) (o:=kB i.heap.objs.size [(f,y)]) (h':=h1) (t':=tk) (λb o z=>by
   by_cases d:b=a
   ·subst d;rw[r] at z;cases z;exact g1
   ·exact(M b d).trans (k2 b o d z)) (hI _) (vf n3 (λg=>Y8 (fs:=[]) (mA:=λ_=>none) (λ_=>trivial) Y) (Within.cons f u Within.nil))
  have J2:=J1.write (x:=a) (e:=a) (o:=xo a { cls:=.ref C,dict:=some i.heap.objs.size,data:=.fields vs,slots:=c }) (h':=l) (t':=tk) (by rw[g9 U,ea];exact True.intro) (.inl rfl) (λb u d z=>(M b d).symm.trans z) ⟨_,S⟩ (ye S);exact⟨G,_,J2,B _ (p.hok.fresh (hI _)) U.symm⟩
 ·obtain⟨⟨mA,J,hr,hw⟩,_⟩:=(show j7 X.prog X.w H2 i.heap v (kB v fs) from p.hok v _ E)
  refine pD p.Z8 r R F Q J hw (by rw[mo,sd];omega) λl tk n2 s3=>?_;exact⟨G,_,p.write (x:=v) (e:=v) (o:=kB v ((f,y)::fs)) (h':=l) (t':=tk) (by rw[E];exact True.intro) (.inl rfl) (λb u d z=>(s3.2 b d).trans z) (let ⟨o,_,_,e,_⟩:=n2;⟨o,e⟩) (vf n2 (λg=>Y8 hr Y) (Within.cons f u hw)),B⟩
end
def forget(H:Hp)(e:Addr):Hp:=λb=>if b=e then none else H b
theorem y3{H:Hp}{e b:Addr}(h:b≠e):forget H e b=H b:=ln h
theorem Un.forget{fs ex:GG}{H d:Hp}{h h':Heap}{e:Addr}(u:Un fs ex H d h h')(n:H e=none):Un fs ex H (L2.forget d e) h h' where
 keep:=u.keep
 slot:=u.slot
 free:=λb o q z c=>by
  unfold L2.forget
  by_cases a:b=e
  ·rw[l7 a]
  ·rw[ln a];exact u.free b o q z c
 there:=u.there
 C0:=λb g z=>by rw[y3 λw=>by rw[w,n] at z;cases z];exact u.C0 b g z
 frzs:=λb o v z=>by rw[y3 λw=>by rw[w,n] at z;cases z];exact u.frzs b o v z
 tbls:=λb i z=>by rw[y3 λw=>by rw[w,n] at z;cases z];exact u.tbls b i z
 low:=λc q z=>by
  unfold L2.forget
  by_cases a:sysModules=e
  ·rw[l7 a]
  ·rw[ln a];exact u.low c q z
theorem J4.forget{P:Program}{w:World}{H:Hp}{h:Heap}{e:Addr}{c:Obj}(ok:J4 P w H h)(z:H e=some (xo e c)):J4 P w (L2.forget H e) h:=λa o q=>by
 have ne:a≠e:=λw=>by unfold L2.forget at q;rw[l7 w] at q;cases q
 rw[y3 ne] at q;exact(ok a o q).ix (λb u _ y=>y) (λb y=>by rw[y3 λw=>by rw[w,z] at y;cases y];exact y) λb d y=>by rw[y3 λw=>by rw[w,z] at y;cases y];exact y
def R1(C:Addr)(names:GH):Sp:=λvs H Q _=>∃e d h a,vs=.ref e::a/\a.length=names.length/\H e=some (xo e d)/\d.cls=.ref C/\d.dict=none/\d.data=.fields h /\
 ∀c g,H c=none->c≠e->g c=some (kB c (names.zip a).reverse)->g e=some (xo e { d with dict:=some c })->(∀b,b≠c->b≠e->g b=H b)->Q .l4 g
def mm(X:Cx)(E:XK):Prop:=∀(a:GA) (g:St) (d:Hp) (c:Shared) (e:Addr) (b:Obj) (vs:GM) (h:Value),Inv X a g d c->c.heap.get? e=some b->b.data=.fields vs->vs[0]?=some h->vs[1]?=some .none->X.s₀.heap.get? e=none->d e=none->E b.cls b.dict d->X.xe (.ref e) c
theorem W7{P:Program}{w:World}{K:GR}{mg:GN}{base:Heap}{N:GH}{a:Str}{scope:Scope}{f:Addr}{j:Value}{A:Around}{outer:List Env}{s:Shared}{H:Hp}{E:XK} :
  mm (ar (wR P w) P w K mg base N a scope f j A outer s H E) E:=λb l r o e p vs q I c hd h g i te d=>uu I c hd h g i te d
structure wG(x:Str)(C fI:Addr)(bmB:GI)(newId:String)(mg:GN)(base:Heap):Prop where
 bound:mg x=some (.ref C)
 obj:∃tl N nm q bs hdct sn sub ab col dd k0 k1 k2 k3 k5 mN oI,base.get? C=some (excClassObj nm q C N bs tl hdct sn sub ab col dd k0 k1 k2 k3 k5 newId)/\base.Ns N mN/\mN "__init__"=some (.ref fI)/\OwnTail base bmB tl/\base.get? fI=some oI/\oI.cls=.type "function"
def xt(C:Addr)(names:GH)(E:XK)(t:TA):TS:=λ_ e H=>t e H λvs d=>vs.length=names.length/\vs.length<=sizeLine/\∀a c,d a=none->c a=some (kB a (names.zip vs).reverse)->(∀b,b≠a->d b≠none->c b=d b)->(∀b,c b=none->d b=none)->E (.ref C) (some a) c
theorem pR{X:Cx}{x:Str}{C fI:Addr}{k:Nat}{a5:FuncData}{Y names:GH}{B Bn newId ac R ad:String}{bm b5:GI}{np j a6:Pos}{i:Expr}{c:GJ}{E:XK}{t:TA}(O:wG x C fI bm newId X.mg X.base)(FI:p6 X.prog X.w X.K X.mg X.base P6 k fI a5 Y (R1 C names))(hr:x5 (k+1) X.A)(hb:Binds X.K a5 Y [])
  (Fn:ExcBaseFacts Bn newId ad b5) (b3:bm.contains (.type Bn)=true) (FB:ExcBaseFacts B ac R bm) (hc:X.calm=true) (mk:mm X E) (hg:Gl X x) (ha:PA X (i::c) t) (b2:(x == ("__debug__" : Str))=false:=by decide)
  (he:starEach (i::c) X.env=(false,eval i X.env)::starEach c X.env:=by rfl) (an:(backTo j (starEach c X.env)).any (·.1)=false:=by rfl) :
  PS X (.Raise (some (.Call (.Name x np) (i::c) [] j)) none a6) (xt C names E t):=by
 refine .of ?_;intro p s σ H D I h;obtain⟨tl,N,nm,q,bs,a2,sn,sub,ab,b4,dd,k0,k1,k2,k3,k5,mN,oI,hC,hN,hi,T,hf,b0⟩:=O.obj;rw[arm_exec_Raise];refine cB (x0 (lK (C:=C) (nm:=nm) (q:=q) (N:=N) (bs:=bs) (bm:=tl) (hdct:=a2) (sn:=sn) (sub:=sub) (ab:=ab) (col:=b4) (dd:=dd) (k0:=k0) (k1:=k1) (k2:=k2) (k3:=k3) (k5:=k5) (newId:=newId) (T.hasType FB.hasBase) (I.ok.hd hc) ?_));refine cB (o1 (wpAny_Call_ofName (X4 I hg O.bound ?_ b2)) (λv s3 h3=>cB (x0 (dL h3))) λ_ _ z=>z);have a3:=ha j p s σ H _ I h;have a0:(backTo j ((false,eval i X.env)::starEach c X.env)).any (·.1)=false:=by show(false||(backTo j (starEach c X.env)).any (·.1))=false;rw[an];rfl
 unfold callWith;rw[he] at a3 ⊢;have hA:wpAny (model X.prog X.w) X.A (evalArgs (.ref C) true (backTo j ((false,eval i X.env)::starEach c X.env)) []) (λa s2=>a.kw=[]/\∃vs G,Inv X p σ G s2/\Vals vs a.pos/\vs.length=names.length/\vs.length<=sizeLine/\∀l H2,G l=none->H2 l=some (kB l (names.zip vs).reverse)->(∀b,b≠l->G b≠none->H2 b=G b)->(∀b,H2 b=none->G b=none)->E (.ref C) (some l) H2) X.xe s:=FO (r8 a3 λQ s1 ⟨vs,G,M,r,q⟩=>⟨rfl,vs,G,M,r,q⟩);refine cB (qs (o1 hA (λa s2 h2=>cB (x0 ?_)) λ_ _ z=>z));obtain⟨Q,kw⟩:=a;obtain⟨ax,vs,G,M,r,a1,am,hE⟩:=h2;obtain rfl:kw=[]:=ax;have a4:=M.bk _ _ hC;have b1:=M.bk _ _ hf;simp only[a0];obtain⟨hp,g,d,tk,os⟩:=s2;have ap:Q.length<=sizeLine:=by rw[<-r.length];exact am
 refine cB (wpAny_keeperOf_exc a4 ?_);refine cB (lu Fn b3 FB (T.keeps M.bk) a4 (hN.keeps M.bk) hi b1 b0 ap λh' e hm S=>?_);obtain⟨t0,al,_,_⟩:=hm.there;have n1:G e=none:=M.hok.fresh S;have I2:=M.laid (a:=e) (o:=xo e { cls:=.ref C,data:=.fields #[.ref t0,.none,.none,.none,.bool false,.none] }) (h':=h') (t':=tk) hm.keeps S (ye al);have r2:Vals (V.ref e::vs) (Value.ref e::Q):=.cons rfl r
 have sp:R1 C names (V.ref e::vs) (upd G e (xo e { cls:=.ref C,data:=.fields #[.ref t0,.none,.none,.none,.bool false,.none] })) (λv U=>v=.l4/\∃l,l≠e/\G l=none/\U l=some (kB l (names.zip vs).reverse)/\U e=some (xo e { cls:=.ref C,dict:=some l,data:=.fields #[.ref t0,.none,.none,.none,.bool false,.none] })/\∀b,b≠l->b≠e->U b=G b) E0:=
  ⟨e,_,_,vs,rfl,a1,g6,rfl,rfl,rfl,λl U z1 z2 z3 z4 z5=>⟨rfl,l,z2,by rw[<-z1,g9 z2],z3,z4,λb y1 y2=>(z5 b y1 y2).trans (g9 y2)⟩⟩
 have hl:(Value.ref e::Q++[]).length=Y.length:=by
  have q:=r2.length;rw[FI.len _ _ _ _ sp] at q;rw[n4];exact q.symm
 have run:=FI.run _ X.stack _ _ ⟨Value.ref e::Q,[]⟩ (Value.ref e::Q) _ _ E0 (hr.make C Q []) (I2.Ae.make C Q []) (by have:=hb _ (Value.ref e::Q) I2.Z8 hl;rw[n4] at this;exact this) r2 sp;refine EQ (Fe run λrr s' hq=>?_)
 cases rr with
 | error x=>exact(show False from hq).elim
 | ok fl=>
  cases fl with
  | next=>exact(show False from hq).elim
  | brk=>exact(show False from hq).elim
  | cont=>exact(show False from hq).elim
  | ret u=>
   obtain⟨v,U,a7,bare,un,ok,rv,ev,l,ne,nd,z3,z4,z5⟩:=hq;subst ev;have b6:Un (O0 X.stack) [] G (upd G e (xo e { cls:=.ref C,data:=.fields #[.ref t0,.none,.none,.none,.bool false,.none] })) hp h':=Un.laid hm.keeps S n1;have UT:=(b6.trans un).forget n1;have J:Inv X p σ (forget U e) s':=M.ft a7 UT (ok.forget z4) bare (λb z=>absurd z (by simp));obtain⟨ge,_⟩:=(show j7 X.prog X.w U s'.heap e (xo e _) from ok e _ z4)
   have ge:s'.heap.get? e=some { cls:=.ref C,dict:=some l,data:=.fields #[.ref t0,.none,.none,.none,.bool false,.none] }:=ge;have en:X.s₀.heap.get? e=none:=EX (ol M.sz S);refine⟨rv,cB (qs (wpAny_point (dL ?_)))⟩;refine⟨e,_,_,rfl,J.bk _ _ hC,ge,rfl,rfl,rfl,mk p σ _ s' e _ _ _ J ge rfl rfl rfl en (l7 rfl) (hE l (forget U e) nd ((y3 ne).trans z3) (λb y1 y2=>?_) λb y=>?_)⟩
   ·have be:b≠e:=λz=>y2 (z▸n1);exact(y3 be).trans (z5 b y1 be)
   ·by_cases be:b=e
    ·rw[be];exact n1
    ·by_cases bd:b=l
     ·rw[bd];exact nd
     ·exact(z5 b bd be).symm.trans ((y3 (H:=U) be).symm.trans y)
section
variable{K:GR}{C:Addr}{f1 f2 f3:Str}{vs:List V}{H:Hp}{Q:VK}{E:XK}{N:GH}
theorem rV(y:hX K C f1)(x:hX K C f2)(h:R1 C [f1,f2] vs H Q E):sD (jH K (Q6 0) (Q6 1) f1) (sD (jH K (Q6 0) (Q6 2) f2) uR) { nx:=λ_ v=>Q .l4 v,rt:=Q } (start N vs) H:=by
 obtain⟨e,o,j,c,rfl,q,r,g,p,d,k⟩:=h
 match c,q with
 | [a,b],_=>
  refine⟨a,L3.J5 rfl,.ref e,L3.J5 rfl,e,o,C,j,rfl,r,g,d,y,.inl ⟨p,λl nd ne=>?_⟩⟩;refine⟨b,L3.J5 rfl,.ref e,L3.J5 rfl,e,_,C,j,rfl,g6,g,d,x,.inr ⟨l,[(f1,a)],rfl,ne,by rw[g9 ne,g6],(show 1<1000 by decide),?_⟩⟩;exact k l _ nd ne g6 (by rw[g9 ne.symm,g6]) λb i u=>by rw[g9 i,g9 u,g9 i]
theorem kO{ns ps:GH}(h:R1 C ns vs H Q E)(b:ps.length=ns.length+1):vs.length=ps.length:=by
 obtain⟨e,d,g,a,rfl,c,_⟩:=h;rw[na,c,b]
end
theorem uP{P:Program}{w:World}{K:GR}{mg:GN}{base:Heap}{x a e d:Str}{C c:Addr}{st:Stmt}{g:FuncData}{N ps:GH}{k:Nat}(F:T2 K x a st c g)(S:j1 N ps (e6 st))(i:ps.length=3)(o:hX K C e)(l:hX K C d)
  (j:∀(b:Value) (A:Around) (outer:List Env) (s:Shared) (H:Hp) (E:XK),ig (ar P6 P w K mg base N a (e6 st) c b A outer s H E).AJ (x9 st) (sD (jH K (Q6 0) (Q6 1) e) (sD (jH K (Q6 0) (Q6 2) d) uR))):p6 P w K mg base P6 (k+1) c g ps (R1 C [e,d]):=
 F.ok S (λvs H Q E h=>kO h i) λb A outer s H vs Q E p h=>⟨_,j b A outer s H E,rV o l h⟩
end L2
namespace L3
open PySem PySem.Spec PySem.Calls PyProof.Rows L2
abbrev Cr:=List D->(D->Prop)->(Str->List V->Prop)->Prop
def bE(Fo:Str->GH)(mg:GN)(W:Str->List V->Prop)(H:Hp)(E:XK):Prop:=∀(y:Str) (C:Addr) (vs:List V) (a:Addr) (b:Hp),W y vs->mg y=some (.ref C)->e9 H b->H a=none->b a=some (kB a ((Fo y).zip vs).reverse)->E (.ref C) (some a) b
def AF(Fo:Str->GH)(K:GR)(mg:GN)(c:Cr):Sp:=λvs H Q E=>∃d A e W,i5 K H vs d A/\c d e W/\(∀r v b B,e r->e9 H b->Rep K b v r B->B.Nodup->(∀a∈B,H a=none)->Q v b)/\bE Fo mg W H E
structure zI(P:Program)(w:World)(K:GR)(mg:GN)(base:Heap)(x:Str)(k:Nat)(ps:GH)(sp:Sp)(f:Addr)(fd:FuncData):Prop where
 ok:p6 P w K mg base (wR P w) k f fd ps sp
 mgf:mg x=some (.ref f)
 kp:PySem.W.keepIn K (.ref f)=true
 bd:Binds K fd ps []
theorem EC{Fo:Str->GH}{P:Program}{w:World}{K:GR}{mg:GN}{base:Heap}{x a:Str}{st:Stmt}{f:Addr}{h:FuncData}{N ps:GH}{k:Nat}{c:Cr}{s:(Str->List V->Prop)->i7}{cl:List Cl}(F:T2 K x a st f h)(S:j1 N ps (e6 st))(e:noOwn cl ps.length=true)
  (i:∀ds Q W,c ds Q W->ds.length=ps.length)
  (l:∀(W:Str->List V->Prop) (b:Value) (A:Around) (outer:List Env) (g:Shared) (H:Hp) (E:XK),x5 k (A.deeper (envOfC a (e6 st) g.heap.objs.size f b))->bE Fo mg W H E->gb (ar (wR P w) P w K mg base N a (e6 st) f b A outer g H E) (cl++[.mk H]) (x9 st) (s W))
  (j:∀ds Q W,c ds Q W->s W { nx:=λ_=>Q .l4,rt:=λd _=>Q d } (j3 N.length ds)):p6 P w K mg base (wR P w) (k+1) f h ps (AF Fo K mg c):=EB (Wi:=λW H E=>bE Fo mg W H E) F S e i l j
def yw:D->Bool
 | .int _=>true
 | .str _=>true
 | _=>false
def leafOf:D->V
 | .int i=>.int i
 | .str x=>.str x
 | _=>.l4
def EH:V->D
 | .int i=>.int i
 | .str x=>.str x
 | _=>.l4
theorem fJ{K:GR}{H:Hp}:∀{vs:List V} {ds:List D} {A:GG},i5 K H vs ds A->ds.all yw=true->vs=ds.map leafOf
 | _,_,_,.nil,_=>rfl
 | _,_,_,.cons (d:=d) h r,e=>by
  rw[v4,eH] at e;rw[nj,<-fJ r e.2];congr 1;cases h<;>first | rfl | (have:=e.1;cases this)
section
variable{X:Cx}{cl:List Cl}{e:Expr}{es:GJ}{pos cpos hpos np p p1:Pos}{us:X1}{k kI:Nat}{fn:Addr}{fd:FuncData}{ps:GH}{x y bn n f:Str}{i:Nat}{Fo:Str->GH}
def bw(Fo:Str->GH)(W:Str->List V->Prop)(y:Str)(us:X1):i7:=λ_ b=>us b λa=>a.all yw=true/\Nat.beq a.length (Fo y).length=true/\Nat.ble a.length 9=true/\W y (a.map leafOf)
theorem cy{C fI:Addr}{l:FuncData}{g:GH}{B Bn newId v a I:String}{bm U:GI}{W:Str->List V->Prop}{Y:Hp}{Ew:XK}{j:Nat}(O:wG y C fI bm newId X.mg X.base)(FI:p6 X.prog X.w X.K X.mg X.base P6 kI fI l g (R1 C (Fo y)))(hr:x5 (kI+1) X.A)(c:Binds X.K l g [])
  (Fn:ExcBaseFacts Bn newId I U) (S:bm.contains (.type Bn)=true) (FB:ExcBaseFacts B v a bm) (hc:X.calm=true)
  (mk:mm X Ew) (wi:bE Fo X.mg W Y Ew) (hj:cl[j]?=some (.mk Y)) (hg:Gl X y) (ha:vm X cl (e::es) us) (J:isStar e=false) (Q:(y == ("__debug__" : Str))=false:=by decide) (M:(backTo cpos (starEach es X.env)).any (·.1)=false:=by rfl) :
  M4 X cl (.Raise (some (.Call (.Name y np) (e::es) [] cpos)) none pos) (bw Fo W y us):=.of<|by
 obtain⟨t,pt,h⟩:=ha.run;refine⟨_,pR O FI hr c Fn S FB hc mk hg pt Q (T3 J) M,λG T ρ σ H fa R hG E hu le=>?_⟩;refine h G ρ σ H fa _ _ hG E hu λvs H1 ds A s r n3 q=>?_;have ev:=fJ r q.1;subst ev;have d:e9 Y H1:=(E.same s).kept (j:=j) (by rw[hG];exact hj);refine⟨by rw[mo];exact Nat.eq_of_beq_eq_true q.2.1,by rw[mo,sd];have:=rc q.2.2.1;omega,λdx H2 nd hd hk _=>?_⟩;have u:e9 H1 H2:=λb o c=>by rw[hk b (λz=>by rw[z,nd] at c;cases c) (by rw[c];exactλz=>nomatch z)];exact c
 exact wi y C _ dx H2 q.2.2.2 O.bound (d.trans u) (d.free nd) hd
theorem lp{K:GR}{H:Hp}{v:V}{e a:Addr}{fs:List (Str×V)}{A:GG}(h:Rep K H v (.xc e a fs) A):v=.ref e/\H a=some (kB a fs):=by
 cases h with
 | xc h=>exact⟨rfl,h⟩
def Dw(e b:Addr)(i:Nat)(f:Str):TU:=λa Q=>∃fs v,a[i]?=some (some (.xc e b fs))/\fs.lookup f=some v/\uV v=true/\Q (EH v)
theorem mX{e d C:Addr}{a:Obj}(j:(e,a)∈X.pn)(u:a.cls=.ref C)(hd:a.dict=some d)(b:∃vs,a.data=.fields vs)(B:PySem.W.V1 X.K C)(F:iI X.K C f)(o:PE X (.Name n p1) (Q6 i))(z:attributeBase (.Name n p1) f X.env (eval (.Name n p1) X.env)=eval (.Name n p1) X.env) :
  PU X cl (.Attribute (.Name n p1) f pos) .fresh (Dw e d i f):=.of<|by
 obtain⟨vs,b⟩:=b;refine⟨_,xB j u hd b B F o z,λG O M H T Q R S E g k=>?_⟩;obtain⟨fs,v,J,l,c,q⟩:=g;obtain⟨w,I,r⟩:=E.rep i _ J;obtain⟨rfl,h⟩:=lp r;refine⟨_,I,rfl,fs,v,h,l,c,?_⟩;cases v<;>first | (cases c;done) | skip
 ·exact k _ H _ [] (e9.refl H) .int (p3.nil _) q
 ·exact k _ H _ [] (e9.refl H) .str (p3.nil _) q
end
end L3
namespace PySem.W
open PySem PySem.Calls PyProof.Rows
section
variable{K:Frag}
theorem wm{h:Heap}{N:Addr}{m:GN}{n:Str}{v:Value}(X:K.In h)(G:h.Ns N m)(e:nsIn K N n=some (some v)):m n=some v:=by
 obtain⟨o,b,d,a,hd,_,c⟩:=G;unfold nsIn at e;split at e
 case h_2=>cases e
 rename_i k l q
 have w:=X _ _ q;rw[w] at a;cases a;cases hd;rw[<-c n]
 cases z:List.find? (λx=>x.key.isStr n) b.toList with
 | none=>
  rw[z] at e;dsimp only at e;split at e<;>cases e
 | some g=>
  rw[z] at e;cases e;show(Array.find? _ b).map (·.val)=_;rw[<-Array.find?_toList];exact tz (Option.map (·.val)) z
def bS(K:Frag)(C:Addr)(a:GI)(newId:String)(f:Addr):Bool:=
  match K.lookup C with
  | some ⟨.type "type",_,.cls k,l⟩=>
    (match k.mro,l.toList with
     | .ref D::b,[_,_,_,_,some (.builtin n),_]=>D == C&&n == newId&&!k.hasDel&&tailIn K a b&&nsOkIn K k.ns&&nsIn K k.ns "__init__" == some (some (.ref f))&&k.hasDict
     | _,_=>false)
  | _=>false
theorem jK{h:Heap}{C f:Addr}{d:GI}{newId:String}(X:K.In h)(q:bS K C d newId f=true) :
  ∃bm N nm g bs hd sn sub ab col dd k0 k1 k2 k3 k5 p,h.get? C=some (excClassObj nm g C N bs bm hd sn sub ab col dd k0 k1 k2 k3 k5 newId)/\h.Ns N p/\p "__init__"=some (.ref f)/\OwnTail h d bm/\∀v r,mroIn K C v=some r->(Value.ref C::bm).contains v=r:=by
 unfold bS at q;split at q
 case h_2=>cases q
 rename_i dd E o u
 split at q
 case h_2=>cases q
 rename_i D bm k0 k1 k2 k3 n k5 j z
 simp only[eH,beq_iff_eq,Bool.not_eq_true'] at q;obtain⟨⟨⟨⟨⟨⟨rfl,rfl⟩,a⟩,y⟩,hok⟩,c⟩,_⟩:=q
 have x:∀v r,mroIn K D v=some r->(Value.ref D::bm).contains v=r:=λv r e=>by
  unfold mroIn clsIn at e;rw[u] at e;simp only[FQ,j,List.isEmpty_cons] at e;exact oD e
 obtain⟨nm,bs,mro,ns,g,hd,sn,sub,ab,col,B⟩:=E;dsimp only at j a hok c;subst j a
 have i:o=#[k0,k1,k2,k3,some (.builtin n),k5]:=by
  obtain⟨l⟩:=o;exact tz Array.mk z
 subst i;have b:h.Ns ns (h.nsMap ns):=.of_isNs (isNs_of_in X hok);exact⟨bm,ns,nm,g,bs,hd,sn,sub,ab,col,dd,k0,k1,k2,k3,k5,_,X _ _ u,b,wm X b c,tail_of_in X y,x⟩
theorem Ap {h:Heap} {C f:Addr} {i:Obj} {g:GI} {newId:String} {mg:GN} {x:Str} (X:K.In h) (G:h.Ns mainGlobals mg) (e:nsIn K mainGlobals x=some (some (.ref C))) (q:bS K C g newId f=true) (B:K.lookup f=some i) (E:i.cls=.type "function"):L2.wG x C f g newId mg h:=by
 obtain⟨I,N,nm,o,bs,hd,l,sub,J,j,H,z,y,v,u,r,p,a,b,c,d,_⟩:=jK X q;exact⟨mg_of X G e,I,N,nm,o,bs,hd,l,sub,J,j,H,z,y,v,u,r,p,i,a,b,c,d,X _ _ B,E⟩
theorem ug {h:Heap} {C B f:Addr} {H d:GI} {newId c:String} {b:Bool} (X:K.In h) (q:bS K C H newId f=true) (Q:excIn K B d c=true) (m:mroIn K C (.ref B)=some b) (hb:d.contains (.type "BaseException")=true):L2.Under h C B b:=by
 obtain⟨bm,N,nm,O,bs,hd,M,sub,ab,E,dd,k0,Y,U,T,S,mN,a,_,_,_,v⟩:=jK X q;obtain⟨I,N',l,j,G,y,i,e,J,g,z,x,u,r,p,o,R,a',_,_,d',_⟩:=vT X Q;exact⟨⟨nm,O,N,bs,bm,hd,M,sub,ab,E,dd,k0,Y,U,T,S,newId,a,v _ _ m⟩,l,j,N',G,I,y,i,e,J,g,z,x,u,r,p,o,c,a',d'.hasType hb⟩
def nK:GI->Bool
 | []=>false
 | v::r=>(v::r) == L2.qB||(match v with
  | .ref _=>nK r
  | _=>false)
theorem jn:∀{l:GI},nK l=true->∃b:GG,l=b.map Value.ref++L2.qB
 | [],e=>by cases e
 | v::r,e=>by
  unfold nK at e;rw[ws] at e;rcases e with e | e
  ·exact⟨[],eq_of_beq e⟩
  ·cases v with
   | ref a=>
    obtain⟨b,z⟩:=jn (l:=r) e;exact⟨a::b,by rw[z];rfl⟩
   | _=>cases e
def vg(K:Frag)(C:Addr)(fs:GH):Bool:=(clsIn K C).any (λa=>nK a.mro&&a.hasDict)&&findIn K (.ref C) "__setattr__" == some (some (.builtin "object.__setattr__"))&&fs.all λf=>findIn K (.ref C) f == some none
theorem bx{C:Addr}{fs:GH}{f:Str}(q:vg K C fs=true)(h:f∈fs):L2.hX K C f/\L2.iI K C f:=by
 unfold vg at q;rw[eH,eH] at q;obtain⟨⟨a,g⟩,e⟩:=q;obtain⟨c,b,a⟩:=any_some a;rw[eH] at a;obtain⟨d,i⟩:=jn a.1;have no:=beq_iff_eq.mp (List.all_eq_true.mp e f h);exact⟨⟨⟨c,d,b,i,a.2⟩,beq_iff_eq.mp g,no⟩,⟨⟨c,b,a.2⟩,no⟩⟩
end
end PySem.W
namespace L3
open PySem PySem.Spec PySem.Calls PyProof.Rows PySem.W L2
section
variable{X:Cx}{cl:List Cl}{e:Expr}{es:GJ}{pos p:Pos}{us:X1}{k:Nat}{fn:Addr}{fd:FuncData}{ps:GH}{x:Str}{Fo:Str->GH}
end
section
variable{X:Cx}{cl:List Cl}{e dx C:Addr}{oe:Obj}{pos p p1 p2:Pos}{n y:Str}{i:Nat}{b:Bool}
def uG(e dx:Addr)(i:Nat)(b:Bool):TU:=λa Q=>∃fs,a[i]?=some (some (.xc e dx fs))/\Q (.bl b)
theorem uH{c:V}{cv:Value}(h:(e,oe)∈X.pn)(u:oe.cls=.ref C)(B:V1 X.K C)(o:PE X (.Name n p1) (Q6 i))(d:PE X (.Name y p2) (tC c))(a:kE c=some cv)(l:kitOne X.K (.ref C) cv=some b)
  (q:Gl X "isinstance") (j:X.mg "isinstance"=none):PU X cl (.Call (.Name "isinstance" p) [.Name n p1,.Name y p2] [] pos) .fresh (uG e dx i b):=.of<|by
 refine⟨_,cD (uU h u B) q j kv (T6 o (T6 d P0)),λG M J H S Q R O E g k=>?_⟩;obtain⟨fs,z,x⟩:=g;obtain⟨v,I,r⟩:=E.rep i _ z;obtain⟨rfl,_⟩:=lp r;exact⟨_,I,_,_,_,rfl,a,l,k _ H _ [] (e9.refl H) .bl (p3.nil _) x⟩
theorem vq{d:GJ}{vs:List V}{cs:GI}{g}(o:(e,oe)∈X.pn)(J:oe.cls=.ref C)(B:V1 X.K C)(z:PE X (.Name n p1) (Q6 i))(h:PA X d (CB vs))(a:vs.map kE=cs.map some)(x:kitAny X.K (.ref C) cs=some b)(c:Nat.ble vs.length 100=true)
  (I:Gl X "isinstance") (u:X.mg "isinstance"=none):PU X cl (.Call (.Name "isinstance" p) [.Name n p1,.Tuple d g p2] [] pos) .fresh (uG e dx i b):=.of<|by
 refine⟨_,cD (pI o J B) I u kv (T6 z (T6 (sR h) P0)),λG U T H fa Q R Y E j k=>?_⟩;obtain⟨fs,O,M⟩:=j;obtain⟨v,S,r⟩:=E.rep i _ O;obtain⟨rfl,_⟩:=lp r;have c:=rc c;refine⟨_,S,by rw[sd];omega,λq l=>⟨_,_,_,_,rfl,g6,a,x,?_⟩⟩;exact k _ _ _ [] (e9.i6 l) .bl (p3.nil _) M
end
end L3
namespace PySem
open Sem (wp)
open AutoSeq1 (wpAny_loadPart')
theorem S1(l:Addr)(items:GM)(n:Nat)(e:Option Addr)(j:Array (GS)) :
  Meets (Builtin.«enumerate.__new__» ⟨[.type "enumerate",.ref l],[]⟩) (λ_ R s=>s.heap.get? l=some { cls:=.type "tuple",dict:=e,data:=.seq items n,slots:=j } /\
   R (.ok (.ret (.ref (s.heap.push { cls:=.type "tuple_iterator",data:=.fields #[.ref l,.int 0 0] }).objs.size)))
    { s with heap:=(s.heap.push { cls:=.type "tuple_iterator",data:=.fields #[.ref l,.int 0 0] }).push { cls:=.type "enumerate",data:=.fields #[.none,.bool false,.ref s.heap.objs.size,rawInt 0,.none,.none] } }):=
 .of_wp λprog w A R s h=>by
  obtain⟨o,g,d,tk,os⟩:=s;obtain⟨a,h⟩:=h;have i:=sub_enumerate;have b:Heap.IsTuple (Shared.heap ⟨o,g,d,tk,os⟩) l items:=⟨_,a,rfl,n,rfl⟩
  wp_walk using wpAny_loadPart' a
  refine wpAny_stack_any λst=>dL ?_;split
  ·rename_i c _ _ _ _ _
   cases(c == Value.type "enumerate")
   ·wp_walk using wpAny_loadPart' a,wpAny_pyIter_tuple b
    exact⟨_,rfl,h⟩
   ·wp_walk using wpAny_loadPart' a,wpAny_pyIter_tuple b
    exact⟨_,rfl,h⟩
  ·wp_walk using wpAny_loadPart' a,wpAny_pyIter_tuple b
   exact⟨_,rfl,h⟩
theorem S8{prog:Program}{w:World}{A:Around}{E:GP}{s:Shared}{l:Addr}{items:GM}{Q:GP}(p:s.heap.IsTuple l items)
  (h:∀h',IsEnum h' (s.heap.objs.size+1) s.heap.objs.size 0 .none->h'.IsTupleIter s.heap.objs.size l 0->h'.objs.size=s.heap.objs.size+2 ->
   (∀b o,s.heap.get? b=some o->h'.get? b=some o)->Q (.ref (s.heap.objs.size+1)) { s with heap:=h' }) :
  wpAny (model prog w) A (call (.type "enumerate") [.ref l]) Q E s:=by
 obtain⟨⟨c,e,q,i⟩,j,d,n,hd⟩:=p
 replace d:c=.type "tuple":=d
 replace hd:q=.seq items n:=hd
 subst d hd
 refine callType_new F.called_enumerate (by decide) (F.typeCall_enumerate_1 _) (F.newCall_enumerate_1 _) (λobj=>F.args_object_init_2 obj _) F.entry_enumerate_new
  (S1 l items n e i) ⟨j,?_⟩
 have a:(s.heap.push { cls:=.type "tuple_iterator",data:=.fields #[.ref l,.int 0 0] }).objs.size=s.heap.objs.size+1:=ut ..;show _/\_;rw[a]
 have g:IsEnum ((s.heap.push { cls:=.type "tuple_iterator",data:=.fields #[.ref l,.int 0 0] }).push
   { cls:=.type "enumerate",data:=.fields #[.none,.bool false,.ref s.heap.objs.size,rawInt 0,.none,.none] }) (s.heap.objs.size+1) s.heap.objs.size 0 .none:=by
  have:=me (s.heap.push { cls:=.type "tuple_iterator",data:=.fields #[.ref l,.int 0 0] })
   (o:={ cls:=.type "enumerate",data:=.fields #[.none,.bool false,.ref s.heap.objs.size,rawInt 0,.none,.none] }) rfl
  rw[a] at this;exact this
 refine⟨⟨_,g,rfl⟩,h _ g ⟨_,cC _ (me _ rfl),rfl,rfl⟩ (by rw[ut,a]) λb o x=>cC _ (cC _ x)⟩
end PySem
namespace L2
open PySem PySem.Spec PyProof.Rows
def uN(K:GR)(a:Addr):It:=
 ⟨λi H=>∃b x,G8 K H a b/\b[i]?=some x,λi H x c=>∃p y,x=.ref p/\H p=none/\c=upd H p (.tup [.int i,y])/\∀b,G8 K H a b->b[i]?=some y,λi H=>∃b,G8 K H a b/\b.length<=i⟩
theorem pd{prog:Program}{w:World}{A:Around}{E:GP}{s:Shared}{e it l:Addr}{i:Nat}{j:Int}{items:GM}{old:Value}{Q:GS->Shared->Prop}(u:A.handled=none)
  (g:IsEnum s.heap e it j old) (c:s.heap.IsTupleIter it l i) (r:s.heap.IsTuple l items) (p:items[i]?=none)
  (y:∀h',Heap.ExtBut it s.heap h'->Q none { s with heap:=h' }):wpAny (model prog w) A (pyNext (.ref e)) Q E s:=by
 have h:s.TypeIs (.ref e) "enumerate":=⟨_,g,rfl⟩
 unfold pyNext
 refine cB (EU (rz (name:=Str.ofString "__next__") h F.slot_enumerate_next
  (t5 F.slot_enumerate_next h F.entry_enumerate_next ?_ (F.args_enumerate_next_1 _))))
 show wpAny _ _ (field (.ref e) 2 >>= _) _ _ _;refine cB (pu g rfl (x:=.ref it) rfl ?_);refine cB (R5 u c r p λh' x d a=>?_);obtain⟨o,q,v⟩:=a;refine cB (wpAny_isInstance (T:="StopIteration") (b:=true) ⟨o,q,v⟩ isSubtype_stop ?_);exact dL (y _ d)
theorem lY{P:Program}{w:World}{K:GR}{a0:GJ}{x1:Nat}{tp:Pos}(a e it:Addr)(M:e≠it):Turn P w K (.Tuple a0 x1 tp) (uN K a) [e,it] e (λi h=>(∃old,IsEnum h e it (i:Nat) old)/\h.IsTupleIter it a i) where
 mem:=by simp
 obj:=λi h st b j=>by
  obtain⟨⟨old,y⟩,o,ho,c,d⟩:=st;rcases List.mem_cons.mp j with rfl | j
  ·exact⟨_,y,λv z=>by
    have z':Data.fields _=Data.cell v:=z;cases z'⟩
  ·have z:b=it:=by simpa using j
   subst z;exact⟨o,ho,λv z=>by rw[d] at z;cases z⟩
 keep:=λi h h' st k=>by
  obtain⟨⟨old,y⟩,g⟩:=st;exact⟨⟨old,k e (by simp) _ y⟩,g.at λo q=>k it (by simp) o q⟩
 item:=by
  intro X G hw hK hc i B s σ H E I U st hg;subst G hw hK;obtain⟨⟨old,y⟩,g⟩:=st;obtain⟨xs,x,hq,hx⟩:=hg;obtain⟨r,rv,p,hz⟩:=I.tuple hq;obtain⟨u,hu,ru⟩:=rv.get hx
  have a5:a≠it:=λz=>by
   subst z;obtain⟨o,Q,O,_⟩:=p;obtain⟨o',l,Y,_⟩:=g;rw[Q] at l;cases l;rw[O] at Y;exact absurd Y (by decide)
  have a6:e≠a:=λz=>by
   subst z;obtain⟨o,Q,O,_⟩:=p;have l:s.heap.get? e=some _:=y;rw[Q] at l;cases l;exact absurd (show Value.type "enumerate"=.type "tuple" from O) (by decide)
  have a2:i<r.toArray.size:=by
   have:=(List.getElem?_eq_some_iff.mp hu).1;simpa using this
  refine wpAny_pyNext_enum_itemD (az true (A:=X.A.in1) (I.ok.hd hc) it a a5 r.toArray) y ⟨g,p⟩ a2 M (by simp[M,a6]) λx' Q tk G a3 R hT a7 hk=>?_;obtain⟨S,_⟩:=R;have G:r.toArray[i]?=some x':=G
  have ex:x'=u:=by
   rw[List.getElem?_toArray,hu] at G;exact(oD G).symm
  subst ex;refine⟨_,rfl,wpAny_letOwnedTupleGo_enum a3 λO a4 J=>?_⟩;have C:e<s.heap.objs.size:=hW y;have T:it<s.heap.objs.size:=by obtain⟨o,ho,_⟩:=g;exact hW ho
  have a1:IsTup O s.heap.objs.size [Value.int i tk,x'].toArray:=⟨_,(J.2 _ (wn C)).trans hT,rfl,_,rfl⟩
  have I2:Inv X B σ (upd H s.heap.objs.size (.tup [.int i,x])) { s with heap:=O,toks:=tk+1 }:=by
   refine I.eP (ch:=[e,it]) U (λb o j q=>?_) (hI _) (.cons ⟨_,rfl⟩ (.cons ru .nil)) (by show 2<=sizeLine;decide) a1;have b1:b≠e:=λz=>j (by simp[z]);have b2:b≠it:=λz=>j (by simp[z]);exact(J.2 b b1).trans (hk b o b1 b2 q)
  refine⟨.ref s.heap.objs.size,_,I2,rfl,⟨s.heap.objs.size,x,rfl,I.fresh,rfl,λys hy=>by rw[I.Z9 hy hq];exact hx⟩,⟨⟨x',by simpa using a4⟩,(show Q.IsTupleIter it a (i+1) from S).at λo q=>(J.2 it (tt M)).trans q⟩,λb j=>?_⟩;rcases List.mem_cons.mp j with rfl | j
  ·rw[g9 (mC C)];exact(U _ (by simp)).1
  ·have z:b=it:=by simpa using j
   subst z;rw[g9 (mC T)];exact(U _ (by simp)).1
 done:=by
  intro X G hw hK hc i B s σ H E I U st hg;subst G hw hK;obtain⟨⟨old,y⟩,g⟩:=st;obtain⟨xs,hq,hx⟩:=hg;obtain⟨r,rv,p,hz⟩:=I.tuple hq;have hl:=rv.length;refine pd (I.ok.hd hc) y g p (by simp;omega) λQ eb=>⟨rfl,I.mS (t':=s.toks) (ch:=[e,it]) U λb o j q=>eb b o (λz=>j (by simp[z])) q⟩
 self:=λ_ _ _ _ _ st h=>wpAny_pyIter_enum st.1.choose_spec h
def uW(K:GR)(e:TA):TI:=λc H R=>e c H λvs b=>∃a,vs=[.ref a]/\(∃d,G8 K b a d)/\R (uN K a) b
theorem X6 {X:Cx} {j:GJ} {C:Nat} {E:Pos} {a:Expr} {x:TA} {p i:Pos} (hg:Gl X "enumerate") (Y:X.mg "enumerate"=none) (ha:PA X [a] x) (T:starEach [a] X.env=[(false,eval a X.env)]:=by rfl) :
  PI X (.Tuple j C E) (.Call (.Name "enumerate" p) [a] [] i) (uW X.K x):=by
 refine .of ?_;intro c s v H R I h;refine Call_ (ay I hg Y boot_enumerate (ww (r8 (ha i c s v H _ I h) λus d ⟨vs,B,g,J,M⟩=>?_) T rfl));obtain⟨l,e,⟨xs,U⟩,q⟩:=M;subst e
 cases J with
 | cons r G=>
  cases G;cases r;obtain⟨Q,rv,O,hz⟩:=g.tuple U;refine S8 O λh' y o S hk=>wpAny_pyIter_enum y ?_;have I2:Inv X c v B { d with heap:=h' }:=g.kept (t':=d.toks) hk;refine⟨d.heap.objs.size+1,[d.heap.objs.size+1,d.heap.objs.size],_,_,B,rfl,I2,lY l _ _ (Nat.succ_ne_self _),⟨⟨_,y⟩,o⟩,λb u=>?_,q⟩;rcases List.mem_cons.mp u with rfl | u
  ·exact g.dD (FU _) (g.hok.fresh (FU _))
  ·have z:b=d.heap.objs.size:=by simpa using u
   subst z;exact g.dD (hI _) (g.hok.fresh (hI _))
end L2
namespace L3
open PySem PySem.Spec PySem.Calls PyProof.Rows PySem.W L2
theorem DQ{K:GR}{H:Hp}{p:Addr}{vs:List V}{xs:List D}{C:GG}(h:H p=some (.tup vs))(r:i5 K H vs xs C):dR K (uN K p) (bp 0 xs) C H:=λl tf k i=>by
 have a:G8 K l p vs:=G8.of (tf.C0 _ _ h);refine⟨λI=>⟨vs,a,by rw[r.length,<-w5 (xs:=xs) (k:=0)];exact ET I⟩,λd e=>?_⟩;obtain⟨x,M,J⟩:=N5 e;obtain⟨v,B,j,q,o⟩:=T9 r tf k M;refine⟨⟨vs,v,a,j⟩,λy O G=>?_⟩;obtain⟨u,z,rfl,c,rfl,E⟩:=G;have g:=E vs a;rw[j] at g;cases g;refine⟨e9.i6 c,B,?_,o⟩;rw[J];have b:i5 K (upd l u (.tup [.int i,v])) [.int i,v] [.int ((0+i:Nat):Int),x] ([]++(B++[])):=.cons (by rw[Fv];exact .int) (.cons (q.same (e9.i6 c)) .nil);rw[n4,FX] at b;exact .tup g6 b
section
variable{X:Cx}{cl:List Cl}{tg e:Expr}{pos p:Pos}{f:Fl}{ua:TU}
def uJ(u:TU):qQ:=λa Q=>u a λd=>match d with
 | .tup b=>Q (bp 0 b)
 | _=>False
theorem bz{p:Pos}(h:PU X cl e f ua)(a:isStar e=false)
  (mk:∀{t},PA X [e] t->PI X tg (.Call (.Name "enumerate" p) [e] [] pos) (uW X.K t)):fq X cl tg (.Call (.Name "enumerate" p) [e] [] pos) f (uJ ua):=.of<|by
 obtain⟨t,pt,h⟩:=h.run;refine⟨_,mk (lP pt P0 a),λG i g H u Q R l E j k=>h G i g H u _ _ l E j λv x d B s r o q=>?_⟩;cases d<;>first | exact(show False from q).elim | skip
 obtain⟨p,vs,rfl,c,b⟩:=A4 r;exact⟨p,rfl,⟨vs,G8.of c⟩,k _ x _ _ s (DQ c b) b.there o q⟩
def yH(ua:TU)(lo c:yc):TU:=λa Q=>ua a λd=>lo a λl=>c a λh=>match d with
 | .tup b=>o6 (cutD b l h)=true/\Q (.tup (cutD b l h))
 | _=>False
theorem ue{a:Expr}{fa:Fl}{lo Y:Option Expr}{I J:yc}{p2:Pos}(y:PU X cl a fa ua)(u:AM X cl lo I)(x:AM X cl Y J):PU X cl (.Subscript a (.Slice lo Y none p2) pos) .fresh (yH ua I J):=.of<|by
 obtain⟨ta,pa,y⟩:=y.run;obtain⟨tl,pl,u⟩:=u.run;obtain⟨th,ph,x⟩:=x.run;refine⟨_,jF (nZ.or sv) pa pl ph,λG h g H C Q R z E hu k=>y G h g H C _ _ z E hu λv H1 d A l r1 f1 q1=>u G h g H1 C _ _ z (E.same l) q1 λq H2 i q2=>x G h g H2 C _ _ z (E.same (l.trans i)) q2 λU H3 O c=>?_⟩;have j:=(l.trans i).trans O;cases d<;>first | exact(show False from c).elim | skip
 rename_i b
 obtain⟨im,c⟩:=c;obtain⟨p,vs,rfl,hq,S⟩:=A4 ((r1.same i).same O);refine .inr ⟨p,vs,rfl,hq,λr H4 M hr=>?_⟩;obtain⟨B,sB,T⟩:=S.cut (HT.u6 b.length 0 q) (HT.u6 b.length b.length U-HT.u6 b.length 0 q);have eB:=i5.C3 T (show o6 _=true from im);subst eB;refine k _ _ (.tup (cutD b q U)) [] (j.trans M) (.tup hr ?_) (p3.nil _) c;have o:=T.same M;unfold bq cutD;rw[S.length];exact o
end
def Fo(y:Str):GH:=bif y =="NoBoard" then["word","number"] else bif y =="NoText" then["line"] else bif y =="NoEvent" then["number"] else bif y =="Loud" then["guard"] else bif y =="Blind" then["lower","upper","greatness"] else[]
example:Fo "NoBoard"=(["word","number"]:GH):=rfl
example:Fo "Blind"=(["lower","upper","greatness"]:GH):=rfl
section
variable{X:Cx}{cl:List Cl}{tg a b:Expr}{pos p:Pos}{us:X1}
end
section
variable{X:Cx}{cl:List Cl}{a b:Expr}{pos:Pos}{fa fb:Fl}{ua ub:TU}
end
end L3
namespace PySem
open Sem (wp)
open Builtin
open AutoSeq1 (wpAny_loadPart')
end PySem
namespace L2
open PySem PySem.Spec PyProof.Rows
section
variable{X:Cx}
end
end L2
namespace L3
open PySem PySem.Spec PySem.Calls PyProof.Rows PySem.W L2
section
variable{X:Cx}{cl:List Cl}{a b:Expr}{pos:Pos}{fa fb:Fl}{ua ub:TU}
end
end L3
namespace PySem
open AutoSeq1 (wpAny_loadPart')
open AutoSeq1
end PySem
namespace L2
open PySem PySem.Spec PyProof.Rows
section
variable{X:Cx}
end
section
variable{X:Cx}{pins:GA}{σ:St}{H:Hp}{s:Shared}{a:Addr}
theorem Inv.freeze{xs:List V}(I:Inv X pins σ H s)(e:H a=some (.lst xs)):∃ob,Inv X pins σ (upd H a (.frz ob (.lst xs))) s:=by
 obtain⟨z,c,n,r,d⟩:=(show j7 X.prog X.w H s.heap a (.lst xs) from I.hok a _ e)
 exact⟨_,I.write (x:=a) (e:=a) (h':=s.heap) (t':=s.toks) (o:=.frz { cls:=.type "list",data:=.seq c.toArray n } (.lst xs)) (by rw[e];exact True.intro) (.inl rfl) (λb q g z=>z) ⟨_,d⟩ ⟨d,z,c,n,r,d⟩⟩
def DB(Q:VK):VK:=λv c=>∃p b,v=.ref p/\c p=some (.lst b)/\∀ob,Q v (upd c p (.frz ob (.lst b)))
theorem zX{e:Expr}{t:TE}(h:PE X e t):PE X e (λσ H Q=>t σ H (DB Q)):=by
 refine .of ?_;intro pins s σ H Q I q;exact r8 (h pins s σ H _ I q) λv l ⟨x,r,i,b,p,j,o,d,c⟩=>let ⟨ob,g⟩:=i.freeze d;⟨x,_,g,b,c ob⟩
end
end L2
namespace L3
open PySem PySem.Spec PySem.Calls PyProof.Rows PySem.W L2
section
variable{X:Cx}{cl:List Cl}{e a b:Expr}{ua ub:TU}{fa fb:Fl}{pos:Pos}
def vK(u:TU):TU:=λg Q=>u g λd=>∃c,d=.lst c/\o6 c=true/\Q (.fz c)
theorem kZ(h:PU X cl e .fresh ua):PU X cl e .fresh (vK ua):=.of<|by
 obtain⟨t,I,h⟩:=h.run;refine⟨_,zX I,λG l j H S Q R O E C k=>h G l j H S _ _ O E C λv H1 d A s r T q=>?_⟩;obtain⟨x,rfl,im,q⟩:=q;obtain⟨p,vs,B,rfl,g,i,Y⟩:=D4 r;have U:=i.C3 im;subst U;refine⟨p,vs,rfl,g,λob=>?_⟩;have J:H p=none:=T.2 p (by rw[Y];exact lm)
 have y:e9 H (upd H1 p (.frz ob (.lst vs))):=λb o c=>by
  rw[g9 (λz=>by rw[z,J] at c;cases c)];exact s b o c
 refine k _ _ (.fz x) [] y (.frz (.inl ⟨ob,g6⟩) ?_) (p3.nil _) q;exact i.Y1 ⟨λb ys c=>by rw[g9 (uA c g (λz=>nomatch z))];exact c,λb o u c=>by rw[g9 (uA c g (λz=>nomatch z))];exact c⟩ λa M=>by cases M
end
end L3
namespace L2
open PySem PySem.Spec PyProof.Rows
section
variable{X:Cx}{o e f i value:Expr}{pos pos' apos cpos:Pos}{td ty tx tv:TE}
end
end L2
namespace L3
open PySem PySem.Spec PySem.Calls PyProof.Rows PySem.W L2
section
variable{X:Cx}{cl:List Cl}{e a b c:Expr}{ua ub uc:TU}{fa fb fc:Fl}{pos:Pos}{ma:TM}{x:Str}
end
end L3
namespace HT
open PySem PySem.Spec PyProof.Rows
section
variable{prog:Program}{w:World}{A:Around}{E:GP}{s:Shared}
theorem jf(n:Nat):Builtin.Slice.slicePlaces ((n:Int)-1) (-1) (-1)=n:=by
 unfold Builtin.Slice.slicePlaces;have a:¬((-1:Int)>0):=by decide
 simp only[a,EV]
 by_cases h:(n:Int)-1>-1
 ·rw[l7 h,show((n:Int)-1 - -1-1)/(- -1)+1=n from by rw[show(- -1:Int)=1 from by decide,Int.ediv_one];omega];exact Fc n
 ·rw[ln h];show(0:Int).toNat=n;omega
theorem oA(xs:GM):((List.range xs.size).filterMap λ(k:Nat)=>xs[((xs.size:Int)-1+(k:Int)*-1).toNat]?).toArray=xs.toList.reverse.toArray:=by
 have e:(List.range xs.size).filterMap (λ(k:Nat)=>xs[((xs.size:Int)-1+(k:Int)*-1).toNat]?)=((List.range xs.size).map λk=>xs.size-1-k).filterMap (xs[·]?):=by
  rw[List.filterMap_map]
  have go:∀l:GL,(∀k∈l,k<xs.size)->l.filterMap (λ(k:Nat)=>xs[((xs.size:Int)-1+(k:Int)*-1).toNat]?)=l.filterMap ((xs[·]?)∘λk=>xs.size-1-k):=λl=>by
   induction l with
   | nil=>intro _;rfl
   | cons k l c=>
    intro a;have b:=a k lm;have e:((xs.size:Int)-1+(k:Int)*-1).toNat=xs.size-1-k:=by omega
    rw[ud,ud,c λz d=>a z (lf _ d)];rw[e];rfl
  exact go _ λk b=>List.mem_range.mp b
 rw[e,PySem.W.krv_range,List.filterMap_reverse,PySem.W.krv_all]
theorem X8{c:Addr}{vs:Value}{n:Nat}{Q:Int×Int×Nat->Shared->Prop}(d:s.heap.IsSliceOf c .none .none vs)(ps:IsPart vs (some (-1)))
  (h:Q ((n:Int)-1,-1,n) s):wpAny (model prog w) A (Builtin.Slice.sliceApplied (.ref c) (pure (n:Int))) Q E s:=by
 obtain⟨os,a,e,b⟩:=id d;unfold Builtin.Slice.sliceApplied Builtin.Slice.sliceFields;refine cB (cB (pu a b (x:=.none) rfl (cB (pu a b (x:=.none) rfl (cB (pu a b (x:=vs) rfl (dL ?_)))))));refine cB (K1 ps ?_);show wpAny _ _ (if ((-1:Int) == 0)=true then _ else _) _ _ s;rw[ln (by decide)];refine cB (K1 .none (cB (K1 .none (cB (dL ?_)))));show wpAny _ _ (pure ((n:Int)-1,(-1:Int),Builtin.Slice.slicePlaces ((n:Int)-1) (-1) (-1))) _ _ s;rw[jf];exact dL h
theorem V8{t c:Addr}{items:GM}{vs:Value}{Q:GP}(b:IsTup s.heap t items)(j:s.heap.IsSliceOf c .none .none vs)(ps:IsPart vs (some (-1)))
  (h:Q (.ref s.heap.objs.size) { s with heap:=s.heap.push { cls:=.type "tuple",data:=.seq items.toList.reverse.toArray } })
  (hsz:items.size<=sizeLine):wpAny (model prog w) A (getItem (.ref t) (.ref c)) Q E s:=by
 have a:sizeOk (.seq items.toList.reverse.toArray):=by
  show items.toList.reverse.toArray.size<=sizeLine;rw[lw,List.length_reverse,v6];exact hsz
 obtain⟨os,d,g,l⟩:=id j;have i:s.TypeIs (.ref c) "slice":=⟨os,d,g⟩
 unfold getItem
 try with_reducible refine qs ?_
 first | refine cB (dL ?_) | skip
 refine cB (Gc b.typeIs (by decide) ?_)
 refine cB (rz (name:=Str.ofString "__getitem__") b.typeIs re
  (t5 re b.typeIs entry_tuple_getitem ?_ (args_tuple_getitem _ _)))
 show wpAny _ _ (Builtin.Tuple.tupleItemsOf (.ref t) >>= _) _ _ s;refine cB (tupleItemsOf_ b ?_);refine cB (Fd i ?_);rw[l7 (by decide)];refine cB (X8 j ps ?_)
 have e:¬((((items.size:Int)-1) == 0&&(-1:Int) == 1&&items.size == items.size)=true):=by
  rw[show((-1:Int) == 1)=false from rfl,FA,wl];exact kt
 show wpAny _ _ (if (((items.size:Int)-1) == 0&&(-1:Int) == 1&&items.size == items.size)=true then _ else _) _ _ s;rw[ln e,oA]
 first
  | exact cB (m:=Builtin.Tuple.tupleExact _) (qc (dL ⟨_,rfl,dL h⟩) a)
  | exact cB (m:=Builtin.Tuple.tupleExact _) (qc (cB (dL (dL ⟨_,rfl,dL h⟩))) a)
  | exact cB (cB (m:=Builtin.Tuple.tupleExact _) (qc (dL (dL ⟨_,rfl,dL h⟩)) a))
  | exact cB (cB (m:=Builtin.Tuple.tupleExact _) (qc (dL ⟨_,rfl,dL h⟩) a))
end
end HT
namespace L2
open PySem PySem.Spec PyProof.Rows
section
variable{X:Cx}{e c:Expr}{te:TE}{pos p2:Pos}
def yZ(K:GR)(te:TE)(tc:TO):TE:=λd H Q=>te d H λx h=>tc d h λl b=>l=some (-1)/\∃a g,x=.ref a/\G8 K b a g/\∀p,b p=none->Q (.ref p) (upd b p (.tup g.reverse))
theorem um{tc:TO}(R:PE X e te)(S:PO X (some c) tc):PE X (.Subscript e (.Slice none none (some c) p2) pos) (yZ X.K te tc):=by
 refine .of ?_;intro d s i H Q I h;refine Subscript_ (r8 (R d s i H _ I h) λv B ⟨x,H1,Y,C,G⟩=>?_);refine wpAny_Slice ?_;rw[evalPart_none];refine dL (dL ?_);refine r8 (S d B i H1 _ Y G) λp g ⟨l,H2,U,pc,T,a,z,ex,O,E⟩=>?_;subst T ex;cases C;have j:Inv X d i H2 { g with heap:=g.heap.push { cls:=.type "slice",data:=.fields #[.none,.none,p] } }:=U.kept (t':=g.toks) λb ob q=>cC _ q;obtain⟨J,r,u,M⟩:=j.tuple O;have y:=r.length;show wpAny (model X.prog X.w) X.A (subscriptTail e (.Slice none none (some c) p2) (.ref a) (.ref g.heap.objs.size)) (EP X d i Q) X.xe { g with heap:=g.heap.push { cls:=.type "slice",data:=.fields #[.none,.none,p] } };refine tail_any (ops:=[.ref a,.ref g.heap.objs.size]) u.typeIs PyProof.Rows.slot_tuple_getitem.lookup ?_ (by with_unfolding_all rfl);refine HT.V8 u (Heap.IsSliceOf.new ..) pc ?_ (by rw[lw];omega);refine⟨.ref _,_,j.laid (t':=g.toks) (o:=.tup z.reverse) (λb ob q=>cC _ q) (hI _) ?_,rfl,E _ (j.hok.fresh (hI _))⟩;exact⟨by rw[List.length_reverse];exact M,_,r.reverse,IsTup.new _ _⟩
end
end L2
namespace L3
open PySem PySem.Spec L2
section
variable{X:Cx}{cl:List Cl}{a c:Expr}{fa:Fl}{ua uc:TU}{pos p2:Pos}
def sM(ua:TU)(uc:yc):TU:=λb Q=>ua b λd=>uc b λl=>l=some (-1)/\match d with
 | .tup e=>o6 e=true/\Q (.tup e.reverse)
 | _=>False
theorem tW{f:Fl}{uc:TU}(g:PU X cl a fa ua)(J:PU X cl c f uc):PU X cl (.Subscript a (.Slice none none (some c) p2) pos) .fresh (sM ua (M1 uc)):=.of<|by
 obtain⟨U,B,g⟩:=g.run;obtain⟨T,z,e⟩:=(A2 J).run;refine⟨_,um B z,λG i h H u Q R r E C k=>g G i h H u _ _ r E C λv S d A o x f1 y=>e G i h S u _ _ r (E.same o) y λY H2 j b=>?_⟩;obtain⟨O,b⟩:=b;cases d<;>first | exact(show False from b).elim | skip
 obtain⟨p,vs,rfl,I,q⟩:=A4 (x.same j);have M:=q.C3 b.1;subst M;refine⟨O,p,vs,rfl,G8.of I,λl e=>?_⟩;exact k _ _ _ [] ((o.trans j).trans (e9.i6 e)) (.tup g6 ((uq q).same (e9.i6 e))) (p3.nil _) b.2
end
end L3
namespace PySem
open SetTable
def TG(t:SetTable):Prop:=t.plain=true->t.place.toList.Pairwise (·<·)/\t.dummies=#[]
theorem TG.Ed(t:SetTable)(n:Nat):TG (t.standIn n):=λh=>by cases h
end PySem
namespace PySem
section
variable{prog:Program}{w:World}{A:Around}{E:GP}{s:Shared}{a:Addr}
structure kc(prog:Program)(w:World)(led:Bool)(h:Heap)(a:Addr)(es:Array (Int×Value)):Prop where
 at_:∃o ep t,h.get? a=some o/\o.ExactSet/\o.data=.set es ep t/\t.fits es.size=true/\TG t/\t.led=led
 el:ElemsOf (intKind prog w) es.toList
 small:es.size<scanBound
end
end PySem
namespace L2
open PySem PySem.Spec PyProof.Rows
def EI(c:Array (Int×Value))(b:GK):Prop:=∃a,IntsAre (c.toList.map (·.2)) a/\a.Perm b
theorem jj:∀{vs:GI} {a:GK},IntsAre vs a->vs.length=a.length
 | _,_,.nil=>rfl
 | _,_,.cons n t h=>by rw[na,na,jj h]
theorem EI.size{b:Array (Int×Value)}{a:GK}(h:EI b a):b.size=a.length:=by
 obtain⟨c,e,d⟩:=h;have:=jj e;rw[mo,v6] at this;rw[this,d.length_eq]
end L2
namespace PySem
namespace L4
end L4
section
variable{M:Model}{A:Around}{E:GP}
end
section
variable{prog:Program}{w:World}{A:Around}{E:GP}{s:Shared}{it a:Addr}
end
section
variable{prog:Program}{w:World}{A:Around}{E:GP}{s:Shared}{I a:Addr}
end
end PySem
namespace PySem
open PyProof.Rows
section
variable{prog:Program}{w:World}{A:Around}{E:GP}{s:Shared}{a:Addr}
theorem kc.keep{led:Bool}{h h':Heap}{d:Array (Int×Value)}(x:kc prog w led h a d)(k:∀o,h.get? a=some o->h'.get? a=some o):kc prog w led h' a d:=
 let ⟨⟨o,g,t,e,r⟩,b,c⟩:=x;⟨⟨o,g,t,k o e,r⟩,b,c⟩
theorem kc.lt{led:Bool}{h:Heap}{c:Array (Int×Value)}(x:kc prog w led h a c):a<h.objs.size:=let ⟨⟨o,_,_,b,_⟩,_,_⟩:=x;hW b
end
end PySem
namespace L2
open PySem PySem.Spec PyProof.Rows
section
variable{prog:Program}{w:World}{A:Around}{E:GP}{s:Shared}
end
section
variable{X:Cx}
end
end L2
namespace L3
open PySem PySem.Spec PySem.Calls PyProof.Rows PySem.W L2
section
variable{X:Cx}{cl:List Cl}{e:Expr}{us:X1}{x y:Str}{p1 p2 pos pos2:Pos}
end
end L3
namespace L2
open PySem PySem.Spec PyProof.Rows
section
variable(elt t1 i1 t2 i2:Expr)(ifs1 ifs2:GJ)(scope:Scope)(pos:Pos)
abbrev two:Expr:=.ListComp elt [⟨t1,i1,ifs1,0⟩,⟨t2,i2,ifs2,0⟩] scope pos
end
section
variable{prog:Program}{w:World}{A:Around}{R:Result->Shared->Prop}{s:Shared}{elt t1 i1 t2 i2:Expr}{ifs1 ifs2:GJ}{scope:Scope}{pos:Pos}{it acc:Value}{env:Env}
end
section
variable{X:Cx}{N:GH}{scope:Scope}{cl:GD}{fp0:GG}{s0:Shared}{H0:Hp}{elt t1 i1 t2 i2:Expr}{ifs1 ifs2:GJ}{pos:Pos}
end
end L2
namespace L3
open PySem PySem.Spec PySem.Calls PySem.W L2
open PyProof.Rows hiding St
section
variable{X:Cx}{cl:List Cl}{tg e:Expr}{f:Fl}{pos:Pos}{ua:TU}
variable{XN N:GH}{XS scope:Scope}{cap:GC}{elt target iter t2 i2:Expr}{ifs ifs2:GJ}{ui ui2:qQ}{g3 g23:cU}{tc3 tc23:aJ}{te3:TU}
end
end L3
namespace PySem
open PyProof.Rows PySem.SeqAt
section
variable{prog:Program}{w:World}{A:Around}{E:GP}
end
end PySem
namespace L2
open PySem PySem.Spec PyProof.Rows
section
variable{X:Cx}
end
end L2
namespace L3
open PySem PySem.Spec PySem.Calls PyProof.Rows PySem.W L2
section
variable{X:Cx}
end
end L3
namespace L3
open PySem PySem.Spec PySem.Calls PyProof.Rows L2
section
variable{X:Cx}{cl:List Cl}{e a b:Expr}{es:GJ}{f fa fb:Fl}{pos pos' p vp:Pos}{ua ub:TU}{us:X1}{ms:TMs}{k k':Nat}{fn:Addr}{fd:FuncData}{ps:GH}{x y:Str}
theorem uv (i:Nat) (g:zJ cl[i]?=f) (h:X.N[i]?=some x:=by rfl) (d:Bj X.env.scope x:=by first | exact Or.inl rfl | exact Or.inr (Or.inl rfl) | exact Or.inr (Or.inr rfl)) (hd:(x == ("__debug__" : Str))=false:=by decide) (c:(x == ("__classdict__" : Str))=false:=by decide):PU X cl (.Name x pos) f (c7 i):=AA i (pv i h d hd c) g
theorem D6(d:x5 k X.A)(h:PU X cl a fa ua)(g:PU X cl b fb ub)(c:ij b:=by exactλ_ _=>rfl):PU X cl (.Subscript a b pos) fa (o8 ua ub):=ze (N3 d) h g c
theorem gn(i:Nat)(j:X.N.Nodup)(d:X.N[i]?=some x:=by rfl)(c:Loc X.env.scope x:=by exact Or.inl rfl)(g:X.fn x=true\/X.env.scope.names.lookup x=some .local:=by first | exact .inl rfl | exact .inr rfl | assumption)(h:cl[i]?=some .bor:=by rfl):xV X cl (.Name x pos) (g1 i):=zb (vA j d c g) h
theorem ss(i:Nat)(o:X.N.Nodup)(j:PU X cl e f ua)(l:wq cl[i]? f i=true)(g:X.N[i]?=some x:=by rfl)(c:Loc X.env.scope x:=by exact Or.inl rfl)(d:swapsWith e (some (.Name x pos')) pos.line X.env=pure false:=by rfl)(h:X.fn x=true\/X.env.scope.names.lookup x=some .local:=by first | exact .inl rfl | exact .inr rfl | assumption) :
  M4 X cl (.Assign [.Name x pos'] e pos) (G3 i ua):=BS o g c j l d h
theorem pc {c:Cp} (C:CV X.prog X.w X.K X.mg X.base x k ps (X2 X.K c) fn fd) (i:x5 k' X.A) (o:vm X cl (e::es) us) (d:isStar e=false) (j:k<=k':=by decide) (l:Gl X x:=by rfl) (h:(x == ("__debug__" : Str))=false:=by decide)
  (g:(backTo pos (starEach es X.env)).any (·.1)=false:=by rfl):PU X cl (.Call (.Name x p) (e::es) [] pos) .fresh (j5 c us):=wY C (i.mono j) l o d h g
end
end L3
namespace L2
open PySem PySem.Spec PyProof.Rows
def yK(tx:St->Hp->VK->XK->Prop)(l i:Nat)(C:Addr)(ts:Addr->Addr->Obj->TS):TS:=λD d H=>tx d H (λv c=>v=.bl true/\D.nx (d.set l (some (.bl true))) c) λcls j c=>cls=.ref C/\∃h,j=some h /\
 ∀e g,c e=none->g.cls=.ref C->g.dict=some h->ts h e g { nx:=λa b=>D.nx (a.set i none) b,rt:=D.rt,bk:=λa b=>D.bk (a.set i none) b,ct:=λa b=>D.ct (a.set i none) b } (d.set i (some (.ref e))) c
theorem uf{X:Cx}{call b:Expr}{j Y a6 np o g:Pos}{B C:Addr}{bn n n0:Str}{i i0:Nat}{l:Stmt}{c:GO}{tx:St->Hp->VK->XK->Prop}{ts:Addr->Addr->Obj->TS}
  (hx:∀pins s σ H Q E,Inv X pins σ H s->tx σ H Q E->wpAny (model X.prog X.w) X.A (eval call X.env) (EP X pins σ Q) (rG X pins σ E) s) (hb:∀E,PE (X.Q5 E) b (tC (.bl true)))
  (am:X.stack=X.env::X.outer) (hf:X.env.frame=some X.env.locals) (hg:Gl X bn) (hm:X.mg bn=some (.ref B)) (un:Under X.base C B true)
  (U:X.N.Nodup) (an:X.N[i0]?=some n0) (a1:X.env.scope.names.lookup n0=some .local) (hi:X.N[i]?=some n) (R:X.env.scope.names.lookup n=some .local)
  (hs:∀dx e O,O.cls=.ref C->O.dict=some dx->(∃vs,O.data=.fields vs)->ig (X.C9 e O λ_ _=>False) (l::c) (ts dx e O)) (b1:(bn == ("__debug__" : Str))=false:=by decide)
  (al:swapsWith (.Compare call [.Is] [b] j) (some (.Name n0 g)) o.line X.env=pure false:=by rfl) (b3:behindInMarks .Is b=false:=by rfl) :
  PS X (.Try [.Assign [.Name n0 g] (.Compare call [.Is] [b] j) o] [.ExceptHandler (some (.Name bn np)) (some n) (l::c) Y] [] [] a6) (yK tx i0 i C ts):=by
 refine .of ?_;intro pins s σ H D I h;refine wpAny_Try_except (wpAny_execs_cons (wpAny_Assign_Name (wpAny_Compare1 (o1 (hx pins s σ H _ _ I h) (λv s1 h1=>?_) λx s1 h1=>?_) b3) al))
 ·obtain⟨x,H1,a,rv,rfl,q⟩:=h1;cases rv;have I':Inv (X.Q5 λ_ _=>False) pins σ H1 s1:=⟨a.ok.Q5 _,a.os,a.bare,a.base,a.loc,a.cell,a.free,a.freeC,a.pin,a.hok,a.len⟩
  refine o1 (hb (λ_ _=>False) pins s1 σ H1 (λv H'=>v=.bl true/\D.nx (σ.set i0 (some (.bl true))) H') I' ⟨rfl,q⟩) (λu s2 h2=>?_) λ_ _ z=>z.elim;obtain⟨y,H2,d,rv,rfl,q⟩:=h2;cases rv;refine dL (N1 (X:=X) (v:=.bl true) ⟨a.ok,d.os,d.bare,d.base,d.loc,d.cell,d.free,d.freeC,d.pin,d.hok,d.len⟩ U an (.inl a1) rfl (λs3 I3 _=>?_) (.inr a1));exact A1 (A1 ⟨_,H2,I3,q⟩)
 ·refine pS I.ok.frames am hf h1 λe T cls a0 od H' s3 ad S hE=>?_;subst ad;obtain⟨rfl,dx,rfl,hq⟩:=hE;obtain⟨a7,_,_,_,Ic⟩:=S.pin (F:=λ_ _=>False);obtain⟨⟨nm,q,N,bs,bm,b7,sn,sub,ab,c4,dd,k0,k1,k2,k3,k5,ac,hC,a3⟩,⟨bi,q',N',ca,cc,b0,bg,b6,cd,b8,c3,c2,c1,c0,bv,bu,a5,hB,b2⟩⟩:=un;refine wpAny_handleBy_cons (codeAny_handlers_test (X4 (X:=X.C9 e a7 λ_ _=>False) Ic hg hm ?_ b1)) (by intro z;cases z);obtain⟨O,vs,oT,b9,he,hc,_⟩:=id S.dH.dH;have b4:=S.held.inv.bk _ _ hC;have b5:=S.held.inv.bk _ _ hB;obtain⟨h3,g3,d3,t3,o3⟩:=s3;refine dM b4 b5 he hc b2 ?_;rw[a3];show codeAny _ _ _ _ _;refine codeAny_handlers_suite_as (S.again λs4 ap=>?_);obtain⟨G,a4,a2,ax,I4⟩:=ap.pin (F:=λ_ _=>False);refine N1 (X:=X.C9 e G λ_ _=>False) (v:=.ref e) I4 U hi (.inl R) rfl (λs5 I5 _=>?_) (.inr R);refine o1 (hs dx e G a4 a2 ax pins s5 _ H' _ I5 (hq e G S.held.te a4 a2)) (λf s6 h6=>?_) λ_ _ z=>z.elim
  cases f with
  | next=>obtain⟨p,H6,M,r⟩:=h6;exact(M.uncaught I.ok).X9 U hi R λs7 J=>⟨_,_,J,r⟩
  | brk=>obtain⟨p,H6,M,r⟩:=h6;exact(M.uncaught I.ok).X9 U hi R λs7 J=>⟨_,_,J,r⟩
  | cont=>obtain⟨p,H6,M,r⟩:=h6;exact(M.uncaught I.ok).X9 U hi R λs7 J=>⟨_,_,J,r⟩
  | ret u=>obtain⟨v,p,H6,M,r6,r⟩:=h6;exact(M.uncaught I.ok).X9 U hi R λs7 J=>⟨v,_,_,J,r6,r⟩
section
variable{X:Cx}{pins:GA}{σ:St}{H:Hp}{s:Shared}{a:Addr}
theorem Inv.wu{kvs:List (Key×V)}{ep:Nat}(I:Inv X pins σ H s)(e:H a=some (.dE kvs ep)):∃ob,Inv X pins σ (upd H a (.frz ob (.dE kvs ep))) s:=by
 obtain⟨d,g,vs,r,o,h,c,q⟩:=(show j7 X.prog X.w H s.heap a (.dE kvs ep) from I.hok a _ e)
 exact⟨o,I.write (x:=a) (e:=a) (h':=s.heap) (t':=s.toks) (o:=.frz o (.dE kvs ep)) (by rw[e];exact True.intro) (.inl rfl) (λb q i z=>z) ⟨_,c⟩ ⟨c,d,g,vs,r,o,h,c,q⟩⟩
theorem vW{e:Expr}{t:TE}(h:PE X e t):PE X e (λσ H Q=>t σ H λv b=>∃p kvs ep,v=.ref p/\b p=some (.dE kvs ep)/\∀ob,Q v (upd b p (.frz ob (.dE kvs ep)))):=by
 refine .of ?_;intro pins s σ H Q I q;exact r8 (h pins s σ H _ I q) λv l ⟨x,r,j,c,p,kvs,ep,o,g,d⟩=>let ⟨ob,i⟩:=j.wu g;⟨x,_,i,c,d ob⟩
end
end L2
namespace L3
open PySem PySem.Spec PySem.Calls PyProof.Rows L2
section
variable{X:Cx}{cl:List Cl}{e:Expr}{es:GJ}{pos cpos hpos np p p1:Pos}{us:X1}{k kI:Nat}{fn:Addr}{fd:FuncData}{ps:GH}{x y bn n f:Str}{i:Nat}{Fo:Str->GH}
def qX(Fo:Str->GH)(c:Cr)(us:X1)(g i:Nat)(y:Str)(ts:Addr->Addr->i7):i7:=λT b=>us b λj=>c j (λd=>d=.bl true/\Nat.blt g b.length=true/\T.nx (b.set g (some (.bl true)))) λz fs=>z=y/\Nat.blt i b.length=true /\
 ∀e h,ts e h { nx:=λa=>T.nx (a.set i none),rt:=T.rt,bk:=λa=>T.bk (a.set i none),ct:=λa=>T.ct (a.set i none) } (b.set i (some (.xc e h ((Fo y).zip fs).reverse)))
theorem xq{ab Y M O:Pos}{c:Cr}{B C:Addr}{b:Expr}{U:Stmt}{o:GO}{ts:Addr->Addr->i7}{n0:Str}{i0:Nat}(F:zI X.prog X.w X.K X.mg X.base x k ps (AF Fo X.K X.mg c) fn fd)(hr:x5 k X.A)(ax:Gl X x)(ha:vm (X.Q5 λ_ _=>False) cl (e::es) us)(ad:isStar e=false)(hb:∀E,PE (X.Q5 E) b (tC (.bl true)))
  (a4:X.stack=X.env::X.outer) (hf:X.env.frame=some X.env.locals) (hg:Gl X bn) (hm:X.mg bn=some (.ref B)) (am:X.mg y=some (.ref C)) (un:Under X.base C B true)
  (hN:X.N.Nodup) (ap:X.N[i0]?=some n0) (an:X.env.scope.names.lookup n0=some .local) (a5:cl[i0]?=some .bor) (hi:X.N[i]?=some n) (hk:X.env.scope.names.lookup n=some .local) (b4:cl[i]?=some .bor)
  (hs:∀e l g,g.cls=.ref C->g.dict=some l->(∃vs,g.data=.fields vs)->gb (X.C9 e g λ_ _=>False) cl (U::o) (ts e l))
  (b0:(x == ("__debug__" : Str))=false:=by decide) (al:(backTo p (starEach es X.env)).any (·.1)=false:=by rfl) (b1:(bn == ("__debug__" : Str))=false:=by decide) (ac:swapsWith (.Compare (.Call (.Name x np) (e::es) [] p) [.Is] [b] O) (some (.Name n0 M)) Y.line X.env=pure false:=by rfl) (b6:behindInMarks .Is b=false:=by rfl) :
  M4 X cl (.Try [.Assign [.Name n0 M] (.Compare (.Call (.Name x np) (e::es) [] p) [.Is] [b] O) Y] [.ExceptHandler (some (.Name bn ab)) (some n) (U::o) hpos] [] [] pos) (qX Fo c us i0 i y ts):=.of<|by
 obtain⟨t,pt,h⟩:=ha.run;have a0:=λe l g hc hd S=>(hs e l g hc hd S).run
 refine⟨_,uf (tx:=λu H Q E=>t u H λvs H1=>AF Fo X.K X.mg c (vs++[]) H1 Q E) (ts:=λl e g R u H=>∀(hc:g.cls=.ref C) (hd:g.dict=some l) (S:∃vs,g.data=.fields vs),Classical.choose (a0 e l g hc hd S) R u H)
  (λJ s u H Q E I q=>pQ F.ok hr ax F.mgf F.kp F.bd .nil pt I q b0 (T3 ad) al) hb a4 hf hg hm un hN ap an hi hk (λl e g hc hd S=>?_) b1 ac b6,λG T ρ u H fa R hG E hu le=>?_⟩
 ·refine .of ?_;intro J s u H D I q;exact(nl (a0 e l g hc hd S)).1 J s u H D I (q hc hd S)
 ·have a6:G.cl[i]?=some .bor:=by rw[hG];exact b4
  have b7:G.cl[i0]?=some .bor:=by rw[hG];exact a5
  have no:¬G.own i:=λz=>by
   unfold Ent.own at z;rw[a6] at z;cases z
  refine h G ρ u H fa _ _ hG E hu λvs H1 ds A s r n3 q=>?_;rw[n4];refine⟨ds,A,_,_,r,q,λr v H2 B qd s2 rp _ _=>?_,λz C' fs l H2 w hz s2 nd b2=>?_⟩
  ·obtain⟨rfl,a1,qd⟩:=qd;cases rp;have E1:=(E.same (s.trans s2)).set (v:=.bl true) (d:=.bl true) (B:=[]) (rc a1) .bl ⟨λj _ hj a ha=>(by cases ha),by rw[b7];trivial⟩;exact⟨rfl,le.nx _ H2 ⟨_,_,E1,qd⟩⟩
  obtain⟨rfl,a1,w⟩:=w;have eC:C'=C:=by rw[am] at hz;cases hz;rfl
  subst eC;refine⟨rfl,l,rfl,λe g he hc hd b5 b3 S=>?_⟩;have E1:=E.same s;have E2:=(E1.same s2).set (rc a1) (.xc (e:=e) b2) ⟨λj _ hj a ha z=>by cases List.mem_singleton.mp ha;exact E1.there j z nd,by rw[a6];trivial⟩;refine(nl (a0 e l g b5 b3 S)).2 G _ _ _ _ _ _ hG E2 (w e l) ⟨λa2 H' z=>?_,le.rt,λa2 H' z=>?_,λa2 H' z=>?_⟩
  ·obtain⟨a3,a7,E',z⟩:=z;exact le.nx _ _ ⟨_,_,E'.unset i no,z⟩
  ·obtain⟨a3,a7,E',z⟩:=z;exact le.bk _ _ ⟨_,_,E'.unset i no,z⟩
  ·obtain⟨a3,a7,E',z⟩:=z;exact le.ct _ _ ⟨_,_,E'.unset i no,z⟩
variable{ua:TU}
def xZ(u:TU):TU:=λa Q=>u a λd=>d=.dic []/\∀b,Q (.ob (.dE [] b))
theorem wj(h:PU X cl e .fresh ua):PU X cl e .fresh (xZ ua):=.of<|by
 obtain⟨t,I,h⟩:=h.run;refine⟨_,vW I,λG j g H S Q R O E C k=>h G j g H S _ _ O E C λv U d A s r T q=>?_⟩;obtain⟨rfl,q⟩:=q
 cases r with
 | @dic p u _ B c J l=>
  cases l;refine⟨p,[],c,rfl,J,λob=>?_⟩;have M:H p=none:=T.2 p lm;exact k _ _ (.ob _) [] (λb o a=>by rw[g9 (λz=>by rw[z,M] at a;cases a)];exact s b o a) (.ob g6) (p3.nil _) (q c)
end
end L3
namespace My
open PySem L2 L3
theorem ee{a:Type}(x:a)(xs:List a):Z2 (x::xs) 0=some x:=by
 have:(0:Int)<((xs.length+1:Nat):Int):=by omega
 unfold Z2 tq;rw[l7 (Int.le_refl 0),na,l7 this];rfl
theorem fS{e:Type}{g:cU}{tc:aJ}{te:TU}{d:Ev}{F f:e->D}{Q:List D->Prop}:∀(as:List e) (acc:List D),(∀a∈as,∀(K:D->Prop) (R:Prop),K (f a)->g (F a) d λc=>tc c λb=>Br b (te c K) R)->Q (acc++as.map f)->mh g tc te d (as.map F) acc Q
 | [],acc,_,q=>by
  rw[List.map_nil,n4] at q;exact q
 | a::as,acc,h,q=>by
  rw[nj];refine h a lm _ _ (fS as (acc++[f a]) (λb i=>h b (lf _ i)) ?_);rw[AT];exact q
theorem hU{n:Nat}(h:n<=100000):n<sizeLine:=by rw[sd];omega
theorem x8{xs:List D}(h:∀x∈xs,y4 x=true):o6 xs=true:=by
 induction xs with
 | nil=>rfl
 | cons n ns a=>
  show(y4 n&&o6 ns)=true;rw[h n lm,a λx b=>h x (lf _ b)];rfl
theorem nU{b:Type}{f:b->D}{xs:List b}{i:Int}(d:0<=i)(c:i<xs.length):∃x,x∈xs/\xs[i.toNat]?=some x/\Z2 (xs.map f) i=some (f x):=by
 have a:i.toNat<xs.length:=by omega
 refine⟨xs[i.toNat],List.getElem_mem a,mv a,?_⟩;unfold Z2 tq;rw[l7 d,mo,l7 c];simp[a]
abbrev EP(Q:D->Prop):bU:={ nx:=λ_=>Q .l4,rt:=λd _=>Q d }
theorem jL(n:Nat):pk 0 n=(List.range n).map λ(k:Nat)=>D.int (0+(k:Int)):=rfl
theorem au(p:Key×D)(r:List (Key×D))(j:Key):u5 (p::r) j=if p.1=j then some p.2 else u5 r j:=by
 unfold u5;rw[ry]
 by_cases e:p.1=j
 ·rw[l7 e,hD e];rfl
 ·rw[ln e,hL e]
theorem fG(k j:Key)(y:D):∀kvs:List (Key×D),u5 (kvs.map λc=>if c.1=k then(c.1,y) else c) j=if j=k then(u5 kvs j).map (λ_=>y) else u5 kvs j
 | []=>by simp[u5]
 | p::r=>by
  rw[nj,au,au,fG k j y r]
  by_cases b:p.1=k
  ·rw[l7 b]
   by_cases a:p.1=j
   ·have d:j=k:=a.symm.trans b;simp[a,d]
   ·simp[a]
  ·rw[ln b]
   by_cases a:p.1=j
   ·have d:¬j=k:=λz=>b (a.trans z);simp[a,d]
   ·simp[a]
theorem cG(k:Key):∀kvs:List (Key×D),(kvs.any λa=>decide (a.1=k))=(u5 kvs k).isSome
 | []=>rfl
 | p::r=>by
  rw[v3,cG k r,au]
  by_cases e:p.1=k
  ·simp[e]
  ·simp[e]
theorem iS(k j:Key)(y:D):∀kvs:List (Key×D),u5 (kvs++[(k,y)]) j=(u5 kvs j).or (if k=j then some y else none)
 | []=>by rw[FX,au];simp[u5]
 | p::r=>by
  rw[FS,au,au,iS k j y r]
  by_cases e:p.1=j
  ·simp[e]
  ·simp[e]
theorem X7(kvs:List (Key×D))(k j:Key)(y:D):u5 (putD kvs k y) j=if j=k then some y else u5 kvs j:=by
 unfold putD
 by_cases a:(kvs.any λb=>decide (b.1=k))=true
 ·rw[l7 a,fG];rw[cG] at a;obtain⟨v,c⟩:=Option.isSome_iff_exists.mp a
  by_cases e:j=k
  ·subst e;simp[c]
  ·simp[e]
 ·rw[ln a,iS];rw[cG] at a
  have d:u5 kvs k=none:=by
   cases q:u5 kvs k with
   | none=>rfl
   | some v=>rw[q] at a;exact(a rfl).elim
  by_cases e:j=k
  ·subst e;simp[d]
  ·have g:¬k=j:=λz=>e z.symm;simp[e,g]
theorem kg(kvs:List (Key×D))(k:Key)(v:D):(putD kvs k v).length<=kvs.length+1:=by
 unfold putD;split
 ·rw[mo];omega
 ·rw[nT];simp
theorem iJ(a b:D)(l:List D):Z2 (a::b::l) 1=some b:=by
 unfold Z2 tq;rw[l7 (by decide),l7 (by simp only[na];omega)];rfl
theorem uw{i:Type}{g:cU}{tc:aJ}{tk te:TU}{e:Ev}{F v:i->D}{k:i->Key}{Q:List (Key×D)->Prop}:∀(as:List i) (acc:List (Key×D)),(∀a∈as,∀(K:Key->D->Prop) (R:Prop),K (k a) (v a)->g (F a) e λc=>tc c λb=>Br b (tk c λy=>te c λd=>∃k,aC y=some k/\y4 d=true/\K k d) R) ->
  Q (as.foldl (λacc a=>putD acc (k a) (v a)) acc)->mK g tc tk te e (as.map F) acc Q
 | [],acc,_,q=>q
 | a::as,acc,h,q=>by
  rw[nj];exact h a lm (λk d=>mK g tc tk te e (as.map F) (putD acc k d) Q) _ (uw as _ (λb j=>h b (lf _ j)) q)
theorem fm{c:Type}{v:c->D}{k:c->Key}(j:Key):∀(as:List c) (acc:List (Key×D)),(∀a∈as,k a≠j)->u5 (as.foldl (λacc a=>putD acc (k a) (v a)) acc) j=u5 acc j
 | [],acc,_=>rfl
 | a::as,acc,h=>by
  rw[List.foldl_cons,fm j as _ λb d=>h b (lf _ d),X7,ln λz=>h a lm z.symm]
theorem iV{d:Type}{v:d->D}{k:d->Key}:∀(as:List d) (acc:List (Key×D)),(as.map k).Nodup->∀a∈as,u5 (as.foldl (λacc a=>putD acc (k a) (v a)) acc) (k a)=some (v a)
 | [],_,_,a,g=>by cases g
 | b::as,acc,h,a,g=>by
  rw[nj] at h;obtain⟨l,j⟩:=List.nodup_cons.mp h;rw[List.foldl_cons];rcases List.mem_cons.mp g with e | e
  ·subst e;rw[fm (k a) as _ λc i z=>l (List.mem_map.mpr ⟨c,i,z⟩),X7,l7 rfl]
  ·exact iV as _ j a e
def Eg(d:D)(ns:GK):Prop:=d=.fz (ns.map D.int)\/d=.lst (ns.map D.int)
abbrev Rw:=Str×List D
def row(r:Rw):D:=.tup (.str r.1::r.2)
def Cz(xs:GH):D:=.lst (xs.map D.str)
def uD:Option Str->D
 | none=>.l4
 | some x=>.str x
abbrev Pr:=Int×Int
def pr(p:Pr):D:=.tup [.int p.1,.int p.2]
def lb(ps:List Pr):D:=.tup (ps.map pr)
def Dc(p:Pr):Prop:=1<=p.1/\p.1<10^59/\0<=p.2/\p.2<10^60
theorem cT:∀ps:List Pr,o6 (ps.map pr)=true
 | []=>rfl
 | p::ps=>by
  show((true&&(true&&true))&&o6 (ps.map pr))=true;rw[cT ps];rfl
def BN(ps:List Pr):Prop:=1<=ps.length/\ps.length<=5/\(∀p∈ps,1<=p.1/\p.1<10^60/\1<=p.2/\p.2<10^60)/\ps.Pairwise λp q=>p.1<q.1/\q.2<p.2
def nm(n:Nat)(x:Str):Prop:=1<=x.cps.toList.length/\x.cps.toList.length<=n/\∀c∈x.cps.toList,97<=c/\c<=122
instance (n:Nat) (x:Str):Decidable (nm n x):=by unfold nm;infer_instance
theorem gC(ps:List Pr):y4 (lb ps)=true:=cT ps
abbrev HP(n:Str)(k:Nat)(ps:GH)(c:Cp)(P:Program)(w:World)(K:GR)(mg:GN)(base:Heap)(f:Addr)(a:FuncData):=CV P w K mg base n k ps (X2 K c) f a
abbrev J0(c:Cp)(n:Nat):Prop:=∀a Q,c a Q->a.length=n
abbrev bH(c:Cp)(t:i7)(n:Nat):Prop:=∀a Q,c a Q->t (EP Q) (j3 n a)
def aP(K:GR)(f:Addr)(x:Str)(st:Stmt):Prop:=PySem.W.nsIn K mainGlobals x=some (some (.ref f))/\∃(e:Value) (d h:Option Addr) (b:Array (GS)) (kV g c a ct:Value),K.lookup f=some ⟨e,d,.func (PySem.W.fnOf x x (L6 st) (x9 st) (e6 st) .none kV g c h a ct),b⟩/\PySem.W.codeIn K a x=true/\PySem.W.keepIn K (.ref f)=true
theorem aP.mk{K:GR}{h:Heap}{mg:GN}{f:Addr}{x:Str}{st:Stmt}(X:K.In h)(G:h.Ns mainGlobals mg)(d:aP K f x st):∃b,T2 K x x st f b/\mg x=some (.ref f)/\PySem.W.keepIn K (.ref f)=true:=
 let ⟨a,_,_,_,_,_,_,_,_,_,l,c,k⟩:=d;⟨_,mz l c k,rm X G a,k⟩
local macro_rules | `(tactic| walk_at "w")=>`(tactic| conv=>whnf)
local macro_rules | `(tactic| walk_at "a")=>`(tactic| first | refine⟨rfl,?_⟩ | refine⟨_,rfl,?_⟩ | refine Br.yes rfl ?_ | refine Br.no rfl ?_ | refine⟨(show(0:Int)<_ from by decide),?_⟩ | refine⟨(show U9 _ _ from⟨by decide,by decide⟩),?_⟩ | refine⟨(show dX _ _ from⟨by decide,by decide,by decide⟩),?_⟩ | refine⟨(show U6 _ _ from .inr ⟨by decide,by decide⟩),?_⟩ | refine⟨(show U6 _ _ from .inl ⟨by decide,by decide⟩),?_⟩ | refine⟨_,_,_,rfl,rfl,rfl,?_⟩ | refine⟨_,ee _ _,?_⟩ | refine⟨_,iJ _ _ _,?_⟩ | refine⟨_,_,rfl,rfl,?_⟩)
local macro_rules | `(tactic| walk_at "r")=>`(tactic| ((repeat ((conv=>whnf);(walk_at "a")));(try (conv=>whnf))))
structure EN(xs:GH)(gs:List Rw)(ds:GL)(i:Nat)(g:Rw)(u:Option Str)(e:Nat)(cv:List Pr)(n1 n2:Int):Prop where
 name:xs[i]?=some g.1
 row:g.2=[uD u,lb cv,.int n1,.int n2]
 cv:BN cv
 n1:0<=n1/\n1<10^60
 n2:0<=n2/\n2<10^60
 dep:ds[i]?=some e
 top:u=none->e=1
 under:∀y,u=some y->∃j f gj,j<i/\gs[j]?=some gj/\gj.1=y/\ds[j]?=some f/\e=f+1
 ge:1<=e
 le:e<=8
def DX(xs:GH)(gs:List Rw)(ds:GL):Prop:=ds.length=gs.length/\∀i g,gs[i]?=some g->∃u e cv n1 n2,EN xs gs ds i g u e cv n1 n2
theorem DX.o6{xs:GH}{gs:List Rw}{ds:GL}(h:DX xs gs ds):∀g∈gs,o6 g.2=true:=λg c=>by
 obtain⟨i,b⟩:=tL c;obtain⟨u,e,cv,n1,n2,a⟩:=h.2 i g b;rw[a.row];show(y4 (uD u)&&(y4 (lb cv)&&(true&&(true&&true))))=true;rw[gC];cases u<;>rfl
structure DP(xs:GH)(gs:List Rw)(i:Nat)(l:Rw)(y:Str)(ps:List Pr)(n:Int)(b:Bool):Prop where
 name:xs[i]?=some l.1
 row:l.2=[.str y,lb ps,.int n,.bl b]
 at_:∃g∈gs,g.1=y
 len:ps.length<=4
 prs:∀p∈ps,Dc p
 n:0<=n/\n<10^60
def DU(xs:GH)(gs ls:List Rw):Prop:=ls.length=xs.length/\∀i l,ls[i]?=some l->∃y a n b,DP xs gs i l y a n b
theorem DP.o6{xs:GH}{gs:List Rw}{i:Nat}{l:Rw}{y:Str}{ps:List Pr}{n:Int}{b:Bool}(a:DP xs gs i l y ps n b):o6 l.2=true:=by
 rw[a.row];show(true&&(L3.o6 (ps.map pr)&&(true&&(true&&true))))=true;rw[cT];rfl
theorem DU.o6{xs:GH}{gs ls:List Rw}(h:DU xs gs ls):∀l∈ls,o6 l.2=true:=λl c=>by
 obtain⟨i,d⟩:=tL c;obtain⟨y,e,n,b,a⟩:=h.2 i l d;exact a.o6
structure Gd where
 nm:Str
 un:Option Str
 cv:List Pr
 de:Int
 wa:Int
structure Ld where
 nm:Str
 at_:Str
 cs:List Pr
 la:Int
 on:Bool
structure Bd where
 gs:List Gd
 ls:List Ld
def gD(g:Gd):D:=.tup [.str g.nm,uD g.un,lb g.cv,.int g.de,.int g.wa]
def lD(l:Ld):D:=.tup [.str l.nm,.str l.at_,lb l.cs,.int l.la,.bl l.on]
def bD(b:Bd):D:=.tup [.tup (b.gs.map gD),.tup (b.ls.map lD)]
def Ck(gs:List Gd):Prop:=∃dp:Nat->Nat,∀i g,gs[i]?=some g->1<=dp i/\dp i<=8/\(g.un=none->dp i=1)/\∀y,g.un=some y->∃j a,j<i/\gs[j]?=some a/\a.nm=y/\dp i=dp j+1
abbrev Eu:Int:=10^60
structure px(b:Bd):Prop where
 g1:1<=b.gs.length
 g16:b.gs.length<=16
 l24:b.ls.length<=24
 nd:(b.gs.map (·.nm)++b.ls.map (·.nm)).Nodup
 nmg:∀g∈b.gs,nm 8 g.nm
 nml:∀l∈b.ls,nm 8 l.nm
 cv:∀g∈b.gs,BN g.cv
 de:∀g∈b.gs,0<=g.de/\g.de<Eu
 wa:∀g∈b.gs,0<=g.wa/\g.wa<10^60
 un:Ck b.gs
 cs4:∀l∈b.ls,l.cs.length<=4
 cs:∀l∈b.ls,∀p∈l.cs,1<=p.1/\p.1<10^60/\0<=p.2/\p.2<10^60
 la:∀l∈b.ls,0<=l.la/\l.la<10^60
 at_:∀l∈b.ls,∃g∈b.gs,g.nm=l.at_
theorem tj(u:Option Str):y4 (uD u)=true:=by cases u<;>rfl
theorem As(g:Gd):y4 (gD g)=true:=by
 show(true&&(y4 (uD g.un)&&(y4 (lb g.cv)&&(true&&(true&&true)))))=true;rw[tj,gC];rfl
theorem uK{b:Type}{f:b->D}(h:∀a,y4 (f a)=true)(as:List b):o6 (as.map f)=true:=x8 λx c=>by
 obtain⟨a,_,rfl⟩:=List.mem_map.mp c;exact h a
theorem wL(gs:List Gd):o6 (gs.map gD)=true:=uK As gs
def Dk:D->Option Str
 | .str y=>some y
 | _=>none
def CD:D->Pr
 | .tup [.int a,.int b]=>(a,b)
 | _=>(0,0)
abbrev cs(x:Str):GL:=x.cps.toList
def nt(n:Int):Str:=Str.ofString (toString n)
theorem zU{n:Int}(h:0<=n)(a:n<10^60):(nt n).length<=61:=by
 unfold nt;rw[ofString_length];exact int_text_length_le10 (by decide) (by omega)
def num(n:Int):Prop:=0<=n/\n<10^60
def sE(ps:List Pr):Prop:=ps.length<=5/\∀p∈ps,num p.1/\num p.2
structure GT(g:Gd):Prop where
 nm:nm 8 g.nm
 un:∀y,g.un=some y->My.nm 8 y
 cv:sE g.cv
 de:num g.de
 wa:num g.wa
structure LT(l:Ld):Prop where
 nm:nm 8 l.nm
 at_:My.nm 8 l.at_
 cs:sE l.cs
 la:num l.la
theorem num.len{n:Int}(h:num n):(nt n).length<=61:=zU h.1 h.2
theorem va{n:Nat}{x:Str}(h:nm n x):x.length<=n:=by
 have:=h.2.1;simpa[Str.length] using this
def BC(x:Str):Prop:=10∉cs x
instance (x:Str):Decidable (BC x):=by unfold BC;infer_instance
theorem px.gt{b:Bd}(h:px b):∀g∈b.gs,GT g:=λg a=>by
 refine⟨h.nmg g a,λy c=>?_,⟨(h.cv g a).2.1,λp d=>?_⟩,h.de g a,h.wa g a⟩
 ·obtain⟨dp,hd⟩:=h.un;obtain⟨i,l⟩:=tL a;obtain⟨j,o,_,e,rfl,_⟩:=(hd i g l).2.2.2 y c;exact h.nmg o (nb e)
 ·have:=(h.cv g a).2.2.1 p d;unfold num;omega
theorem px.lt{b:Bd}(h:px b):∀l∈b.ls,LT l:=λl a=>by
 refine⟨h.nml l a,?_,⟨ol (h.cs4 l a) (by decide),λp c=>?_⟩,h.la l a⟩
 ·obtain⟨g,d,e⟩:=h.at_ l a;rw[<-e];exact h.nmg g d
 ·have:=h.cs l a p c;unfold num;omega
mutual
def kn:D->Bool
 | .l4=>true
 | .bl _=>true
 | .int _=>true
 | .str x=>decide (x.length<=100000)
 | .tup xs=>kj xs
 | .lst xs=>kj xs
 | .dic _=>true
 | .fz xs=>kj xs
 | .ob u=>zZ u
 | _=>false
def kj:List D->Bool
 | []=>true
 | x::xs=>kn x&&kj xs
end
theorem u4:∀{xs:List D},kj xs=true->∀x∈xs,kn x=true
 | [],_,x,a=>by cases a
 | y::xs,h,x,a=>by
  simp only[kj,eH] at h;rcases List.mem_cons.mp a with rfl | a
  ·exact h.1
  ·exact u4 h.2 x a
theorem A0{u:HO}(h:kn (.ob u)=true):∃ep,u=.dE [] ep:=by
 have e:zZ u=true:=by simpa[kn] using h
 cases u with
 | dE a ep=>cases a with
  | nil=>exact⟨_,rfl⟩
  | cons=>cases e
 | _=>cases e
def zD:D->Bool
 | .int _=>true
 | _=>false
def y8:D->Bool
 | .int i=>decide (0<=i)&&decide (i<10^60)
 | _=>false
def posB(d:D):Bool:=y8 d&&(match d with | .int i=>!decide (i=0) | _=>true)
def ah(c:Nat):Bool:=decide (97<=c)&&decide (c<=122)
def l3:D->Bool
 | .str x=>decide (1<=x.length)&&decide (x.length<=8)&&(cs x).all ah
 | _=>false
def J9:D->Bool
 | .tup [a,b]=>posB a&&posB b
 | _=>false
def pE:D->D->Bool
 | .tup [.int a,.int b],.tup [.int c,.int d]=>decide (a<c)&&decide (d<b)
 | _,_=>false
def M8:List D->Bool
 | x::y::r=>pE x y&&M8 (y::r)
 | _=>true
def A6:D->Bool
 | .tup a=>decide (1<=a.length)&&decide (a.length<=5)&&a.all J9&&M8 a
 | _=>false
def dQ:D->Bool
 | .tup [a,b]=>posB a&&y8 b
 | _=>false
def A5:D->Bool
 | .tup a=>decide (a.length<=4)&&a.all dQ
 | _=>false
def E8:D->Bool
 | .tup [n,u,c,de,wa]=>l3 n&&(N6 u||l3 u)&&A6 c&&y8 de&&y8 wa
 | _=>false
def R0:D->Bool
 | .tup [n,a,c,la,on]=>l3 n&&l3 a&&A5 c&&y8 la&&(E4 on true||E4 on false)
 | _=>false
def J8:Cp:=λa Q=>∃d:D,a=[d]/\kn d=true/\Q (.bl (zD d))
def p8:Cp:=λa Q=>∃d:D,a=[d]/\kn d=true/\Q (.bl (y8 d))
def D2:Cp:=λa Q=>∃d:D,a=[d]/\kn d=true/\Q (.bl (l3 d))
def P1:Cp:=λa Q=>∃d:D,a=[d]/\kn d=true/\Q (.bl (J9 d))
def K0:Cp:=λe Q=>∃(a b c d:Int),e=[.tup [.int a,.int b],.tup [.int c,.int d]]/\Q (.bl (decide (a<c)&&decide (d<b)))
def K6:Cp:=λa Q=>∃d:D,a=[d]/\kn d=true/\Q (.bl (A6 d))
def D0:Cp:=λa Q=>∃d:D,a=[d]/\kn d=true/\Q (.bl (A5 d))
def K4:Cp:=λa Q=>∃d:D,a=[d]/\kn d=true/\Q (.bl (E8 d))
def O7:Cp:=λa Q=>∃d:D,a=[d]/\kn d=true/\Q (.bl (R0 d))
def ki:i7:=(l8 (F0 (C4 L5 (a8 (c7 0) (a8 (uC (.ty "int")) c9))) (vO (C4 L5 (a8 (c7 0) (a8 (uC (.ty "bool")) c9))))))
def fj:i7:=(l8 (F0 (j5 J8 (a8 (c7 0) c9)) (E9 M9 BV (uC (.int 0)) (c7 0) (uC (.int (10^60))))))
def gJ:i7:=(l8 (uC (.bl false)))
def gN:i7:=(l8 (uC (.bl false)))
def ie:i7:=(N8 (tP (t9 (uT (E9 M9 M9 (uC (.str "a")) (c7 1) (uC (.str "z")))))) gN n9)
def qv:i7:=(l8 (uC (.bl true)))
def fM:i7:=(i9 (ak (iP (Q4 (c7 0))) (g1 1) ie) qv)
def nL:i7:=(i9 (N8 (tP (U8 (t9 (u7 (C4 L5 (a8 (c7 0) (a8 (uC (.ty "str")) c9))))) (t9 (uT (E9 M9 M9 (uC (.int 1)) (C4 G7 (a8 (c7 0) c9)) (uC (.int 8))))))) gJ n9) fM)
def gh:i7:=(l8 (uC (.bl false)))
def ir:i7:=(l8 (uC (.bl false)))
def Q0:i7:=(N8 (tP (U8 (t9 (u7 (j5 p8 (a8 (c7 1) c9)))) (uT (t8 (G5 false) (c7 1) (uC (.int 0)))))) ir n9)
def pP:i7:=(l8 (uC (.bl true)))
def oH:i7:=(i9 (ak (iP (Q4 (c7 0))) (g1 1) Q0) pP)
def nE:i7:=(i9 (N8 (tP (U8 (t9 (u7 (C4 L5 (a8 (c7 0) (a8 (uC (.ty "tuple")) c9))))) (uT (t8 (G5 true) (C4 G7 (a8 (c7 0) c9)) (uC (.int 2)))))) gh n9) oH)
def iD:i7:=(l8 (F0 (t8 BV (o8 (c7 0) (uC (.int 0))) (o8 (c7 1) (uC (.int 0)))) (t8 AL (o8 (c7 0) (uC (.int 1))) (o8 (c7 1) (uC (.int 1))))))
def dP:i7:=(l8 (uC (.bl false)))
def dY:i7:=(l8 (uC (.bl false)))
def dO:i7:=(N8 (tP (t9 (u7 (j5 P1 (a8 (c7 1) c9))))) dY n9)
def dZ:i7:=(l8 (uC (.bl false)))
def dW:i7:=(N8 (tP (t9 (u7 (j5 K0 (a8 (c7 2) (a8 (c7 1) c9)))))) dZ n9)
def kY:i7:=(l8 (uC (.bl true)))
def dA:i7:=(i9 (ak (iP (Cd true true (c7 0) (ej (c7 0) (M1 (uC (.int 1))) Q1))) (gT (j6 (g1 2) (j6 (g1 1) L8))) dW) kY)
def cb:i7:=(i9 (ak (iP (Q4 (c7 0))) (g1 1) dO) dA)
def jB:i7:=(i9 (N8 (tP (U8 (t9 (u7 (C4 L5 (a8 (c7 0) (a8 (uC (.ty "tuple")) c9))))) (t9 (uT (E9 M9 M9 (uC (.int 1)) (C4 G7 (a8 (c7 0) c9)) (uC (.int 5))))))) dP n9) cb)
def df:i7:=(l8 (uC (.bl false)))
def cx:i7:=(l8 (uC (.bl false)))
def dz:i7:=(l8 (uC (.bl false)))
def cF:i7:=(N8 (tP (U8 (t9 (u7 (j5 p8 (a8 (c7 2) c9)))) (U8 (uT (t8 (G5 false) (c7 2) (uC (.int 0)))) (t9 (u7 (j5 p8 (a8 (c7 3) c9))))))) dz n9)
def bQ:i7:=(i9 (rO (gT (j6 (g1 2) (j6 (g1 3) L8))) (c7 1)) cF)
def cm:i7:=(i9 (N8 (tP (U8 (t9 (u7 (C4 L5 (a8 (c7 1) (a8 (uC (.ty "tuple")) c9))))) (uT (t8 (G5 true) (C4 G7 (a8 (c7 1) c9)) (uC (.int 2)))))) cx n9) bQ)
def jg:i7:=(l8 (uC (.bl true)))
def aO:i7:=(i9 (ak (iP (Q4 (c7 0))) (g1 1) cm) jg)
def fE:i7:=(i9 (N8 (tP (U8 (t9 (u7 (C4 L5 (a8 (c7 0) (a8 (uC (.ty "tuple")) c9))))) (uT (t8 AL (C4 G7 (a8 (c7 0) c9)) (uC (.int 4)))))) df n9) aO)
def dU:i7:=(l8 (uC (.bl false)))
def eh:i7:=(l8 (uC (.bl false)))
def bY:i7:=(l8 (F0 (j5 K6 (a8 (c7 3) c9)) (F0 (j5 p8 (a8 (c7 4) c9)) (j5 p8 (a8 (c7 5) c9)))))
def lU:i7:=(i9 (N8 (tP (U8 (t9 (u7 (j5 D2 (a8 (c7 1) c9)))) (t9 (U8 (uT (t8 (aX false) (c7 2) (uC .l4))) (u7 (j5 D2 (a8 (c7 2) c9))))))) eh n9) bY)
def lZ:i7:=(i9 (rO (gT (j6 (g1 1) (j6 (g1 2) (j6 (g1 3) (j6 (g1 4) (j6 (g1 5) L8)))))) (c7 0)) lU)
def jr:i7:=(i9 (N8 (tP (U8 (t9 (u7 (C4 L5 (a8 (c7 0) (a8 (uC (.ty "tuple")) c9))))) (uT (t8 (G5 true) (C4 G7 (a8 (c7 0) c9)) (uC (.int 5)))))) dU n9) lZ)
def fY:i7:=(l8 (uC (.bl false)))
def fO:i7:=(l8 (uC (.bl false)))
def eV:i7:=(l8 (F0 (j5 D0 (a8 (c7 3) c9)) (F0 (j5 p8 (a8 (c7 4) c9)) (Ds (t8 (aX false) (c7 5) (uC (.bl true))) (t8 (aX false) (c7 5) (uC (.bl false)))))))
def qF:i7:=(i9 (N8 (tP (U8 (t9 (u7 (j5 D2 (a8 (c7 1) c9)))) (t9 (u7 (j5 D2 (a8 (c7 2) c9)))))) fO n9) eV)
def pH:i7:=(i9 (rO (gT (j6 (g1 1) (j6 (g1 2) (j6 (g1 3) (j6 (g1 4) (j6 (g1 5) L8)))))) (c7 0)) qF)
def mT:i7:=(i9 (N8 (tP (U8 (t9 (u7 (C4 L5 (a8 (c7 0) (a8 (uC (.ty "tuple")) c9))))) (uT (t8 (G5 true) (C4 G7 (a8 (c7 0) c9)) (uC (.int 5)))))) fY n9) pH)
def qT(q:D)(xs:List D):Prop:=q=.tup xs\/q=.lst xs
def D9:D->Str
 | .tup (.str x::_)=>x
 | _=>Str.empty
def mn(d:D):Prop:=∃x r,d=.tup (.str x::r)
def w6:Cp:=λb Q=>∃(q:D) (a:List D),b=[q]/\qT q a/\a.length<=100/\(∀x∈a,mn x)/\Q (Cz (a.map D9))
structure W9(gs:List Gd):Prop where
 len:gs.length<=16
 nd:(gs.map (·.nm)).Nodup
 un:Ck gs
def fT(gs:List Gd)(x:Str):Option Str:=match gs.find? (λg=>decide (g.nm=x)) with
 | some g=>g.un
 | none=>none
def ups(gs:List Gd):Nat->Option Str->GH
 | 0,_=>[]
 | _+1,none=>[]
 | n+1,some x=>x::ups gs n (fT gs x)
def V7:Cp:=λa Q=>∃(q:D) (gs:List Gd) (x:Str),a=[q,.str x]/\qT q (gs.map gD)/\W9 gs/\(∃g∈gs,g.nm=x)/\Q (Cz (ups gs 8 (some x)))
def B9(gs:List Gd)(d:D):Bool:=E8 d&&match d with
 | .tup (.str n::.str y::_)=>!decide (n∈gs.map (·.nm))&&decide (y∈gs.map (·.nm))&&decide ((ups gs 8 (some y)).length<=7)
 | .tup (.str n::_)=>!decide (n∈gs.map (·.nm))
 | _=>false
def G4(xs b:GH)(d:D):Bool:=R0 d&&match d with
 | .tup (.str n::.str a::_)=>decide (a∈xs)&&!decide (n∈xs)&&!decide (n∈b)
 | _=>false
def A8:Cp:=λa Q=>∃(q:D) (gs:List Gd) (d:D),a=[q,d]/\qT q (gs.map gD)/\W9 gs/\kn d=true/\Q (.bl (B9 gs d))
def C7:Cp:=λc Q=>∃(q:D) (b:List D) (p:D) (a:List D) (d:D),c=[q,p,d]/\qT q b/\qT p a/\b.length<=100/\a.length<=100/\(∀x∈b,mn x)/\(∀x∈a,mn x)/\kn d=true/\Q (.bl (G4 (b.map D9) (a.map D9) d))
def U7:D->Bool
 | .tup [.tup gs,.tup ls]=>decide (1<=gs.length)&&decide (gs.length<=16)&&decide (ls.length<=24)
 | _=>false
def dG:D->Gd
 | .tup [.str n,u,.tup c,.int a,.int b]=>⟨n,Dk u,c.map CD,a,b⟩
 | _=>⟨"",none,[],0,0⟩
def G6:List Gd->List D->GU
 | _,[]=>none
 | gs,x::r=>bif B9 gs x then G6 (gs++[dG x]) r else some gs.length
def K5(xs:GH):GH->List D->GU
 | _,[]=>none
 | a,y::r=>bif G4 xs a y then K5 xs (a++[D9 y]) r else some a.length
def V4:D->Option (Str×Int)
 | .tup [.tup gs,.tup ls]=>bif U7 (.tup [.tup gs,.tup ls]) then(match G6 [] gs with
  | some i=>some ("guard",i)
  | none=>match K5 (gs.map D9) [] ls with
   | some i=>some ("load",i)
   | none=>none) else some ("board",0)
 | _=>some ("board",0)
def A7:Cp:=λa Q=>∃d:D,a=[d]/\kn d=true/\Q (.bl (U7 d))
def M3:Cr:=λa Q W=>∃d:D,a=[d]/\kn d=true/\(match V4 d with
 | none=>Q (.bl true)
 | some (w,i)=>W "NoBoard" [.str w,.int i])
def ba:i7:=(l8 (uC (.bl false)))
def aZ:i7:=(l8 (uC (.bl false)))
def bj:i7:=(N8 (tP (t9 (u7 (C4 L5 (a8 (c7 1) (a8 (uC (.ty "tuple")) c9)))))) aZ n9)
def gL:i7:=(l8 (F0 (E9 M9 M9 (uC (.int 1)) (C4 G7 (a8 (o8 (c7 0) (uC (.int 0))) c9)) (uC (.int 16))) (t8 M9 (C4 G7 (a8 (o8 (c7 0) (uC (.int 1))) c9)) (uC (.int 24)))))
def iq:i7:=(i9 (ak (iP (Q4 (c7 0))) (g1 1) bj) gL)
def bL:i7:=(i9 (N8 (tP (U8 (t9 (u7 (C4 L5 (a8 (c7 0) (a8 (uC (.ty "tuple")) c9))))) (uT (t8 (G5 true) (C4 G7 (a8 (c7 0) c9)) (uC (.int 2)))))) ba n9) iq)
def gU(W:Str->List V->Prop):i7:=(bw Fo W "NoBoard" (a8 (uC (.str "board")) (a8 (uC (.int 0)) c9)))
def iu(W:Str->List V->Prop):i7:=(bw Fo W "NoBoard" (a8 (uC (.str "guard")) (a8 (c7 3) c9)))
def Y4(W:Str->List V->Prop):i7:=(N8 (tP (t9 (u7 (j5 A8 (a8 (yH (c7 1) Q1 (M1 (c7 3))) (a8 (c7 4) c9)))))) (iu W) n9)
def fR(W:Str->List V->Prop):i7:=(bw Fo W "NoBoard" (a8 (uC (.str "load")) (a8 (c7 3) c9)))
def P2(W:Str->List V->Prop):i7:=(N8 (tP (t9 (u7 (j5 C7 (a8 (c7 1) (a8 (yH (c7 2) Q1 (M1 (c7 3))) (a8 (c7 5) c9))))))) (fR W) n9)
def eU(W:Str->List V->Prop):i7:=(l8 (uC (.bl true)))
def qE(W:Str->List V->Prop):i7:=(i9 (ak (iP (uJ (c7 2))) (gT (j6 (g1 3) (j6 (g1 5) L8))) (P2 W)) (eU W))
def oE(W:Str->List V->Prop):i7:=(i9 (ak (iP (uJ (c7 1))) (gT (j6 (g1 3) (j6 (g1 4) L8))) (Y4 W)) (qE W))
def pG(W:Str->List V->Prop):i7:=(i9 (rO (gT (j6 (g1 1) (j6 (g1 2) L8))) (c7 0)) (oE W))
def nh(W:Str->List V->Prop):i7:=(i9 (N8 (tP (t9 (u7 (j5 A7 (a8 (c7 0) c9))))) (gU W) n9) (pG W))
def jd:i7:=(l8 (CJ [none] (Q4 (c7 0)) (g1 0) oP (gv (o8 (c7 0) (uC (.int 0))))))
def ku:i7:=(G3 1 (o8 (c7 2) (c7 1)))
def jz:i7:=(i9 (ym (BU 4 (mP (gv (c7 1))))) ku)
def tB:i7:=(l8 (c7 4))
def tD:i7:=(i9 (tm (tP (uT (t8 (aX true) (c7 1) (uC .l4)))) jz) tB)
def iF:i7:=(i9 (G3 4 (W2 c9)) tD)
def tQ:i7:=(i9 (G3 2 (Ef [none] (Q4 (c7 0)) (g1 0) oP (o8 (c7 0) (uC (.int 0))) (o8 (c7 0) (uC (.int 1))))) iF)
def bf:i7:=(l8 (uC (.bl false)))
def bc:i7:=(l8 (uC (.bl true)))
def fX:i7:=(l8 (F0 (t8 (aq false) (c7 2) (j5 w6 (a8 (c7 0) c9))) (t8 M9 (C4 G7 (a8 (j5 V7 (a8 (c7 0) (a8 (c7 2) c9))) c9)) (uC (.int 7)))))
def gB:i7:=(i9 (N8 (tP (uT (t8 (aX false) (c7 2) (uC .l4)))) bc n9) fX)
def gQ:i7:=(i9 (G3 2 (o8 (c7 1) (uC (.int 1)))) gB)
def ck:i7:=(i9 (N8 (tP (U8 (t9 (u7 (j5 K4 (a8 (c7 1) c9)))) (uT (t8 (aq false) (o8 (c7 1) (uC (.int 0))) (j5 w6 (a8 (c7 0) c9)))))) bf n9) gQ)
def cA:i7:=(l8 (uC (.bl false)))
def jQ:i7:=(l8 (F0 (t8 (aq true) (o8 (c7 2) (uC (.int 0))) (j5 w6 (a8 (c7 0) c9))) (t8 (aq true) (o8 (c7 2) (uC (.int 0))) (j5 w6 (a8 (c7 1) c9)))))
def eW:i7:=(i9 (N8 (tP (U8 (t9 (u7 (j5 O7 (a8 (c7 2) c9)))) (uT (t8 (aq true) (o8 (c7 2) (uC (.int 1))) (j5 w6 (a8 (c7 0) c9)))))) cA n9) jQ)
def x3(lo:Int):D->Bool
 | .int i=>decide (lo<=i)&&decide (i<10^60)
 | _=>false
def aE(lo:Int):D->Bool
 | .tup [a,b]=>x3 1 a&&x3 lo b
 | _=>false
def dq(n lo:Int):D->Bool
 | .tup a=>decide ((a.length:Int)<=n)&&a.all (aE lo)
 | _=>false
def rb:Option (Str×Int)->D
 | none=>.l4
 | some (w,i)=>.tup [.str w,.int i]
def w8:Cp:=λa Q=>∃(d:D) (lo:Int),a=[d,.int lo]/\kn d=true/\Q (.bl (x3 lo d))
def P5:Cp:=λa Q=>∃d:D,a=[d]/\kn d=true/\Q (.bl (l3 d))
def L7:Cp:=λa Q=>∃(d:D) (n lo:Int),a=[d,.int n,.int lo]/\kn d=true/\Q (.bl (dq n lo d))
def P9:Cp:=λa Q=>∃d:D,a=[d]/\kn d=true/\Q (.bl (A6 d))
def A9:Cp:=λa Q=>∃(d:D) (x:Str),a=[d,.str x]/\kn d=true/\Q (.bl (bif decide (x="guard") then E8 d else R0 d))
def cL:Cp:=λa Q=>∃d:D,a=[d]/\kn d=true/\Q (rb (V4 d))
def G9:Cp:=λa Q=>∃d:D,a=[d]/\kn d=true/\y4 d=true/\bb d/\Q (.bl true)
structure zT(d:D)(w n:Nat):Prop where
 k:kn d=true
 im:y4 d=true
 sh:D1 d=true
 we:(pyd d).weight<=w
 de:(pyd d).depth<=n
def xv(xs:List D)(k:Nat):Prop:=∀x∈xs,kn x=true/\y4 x=true/\D1 x=true/\(pyd x).depth<=4+2*k
def aN(xs:List D):Nat:=(xs.map λx=>(pyd x).weight).sum
def P7:Cp:=λa Q=>∃c:Int,a=[.int c]/\∀d,zT d 300 4->Q d
def W5:Cp:=λd Q=>∃(b:List D) (c:Int) (k:Nat),d=[.lst b,.int c]/\xv b k/\k<=63/\b.length<=k/\aN b<=400*k/\∀a,xv a (k+1)->a≠[]->a.length<=k+1->aN a<=400*(k+1)->Q (.lst a)
def W8:Cp:=λa Q=>∃(d:D) (ns:GK),a=[d]/\Eg d ns/\ns.length<=63/\Q (.bl true)
def jM:i7:=(l8 (F0 (C4 L5 (a8 (c7 0) (a8 (uC (.ty "int")) c9))) (F0 (vO (C4 L5 (a8 (c7 0) (a8 (uC (.ty "bool")) c9)))) (E9 M9 BV (c7 1) (c7 0) (t8 yF (uC (.int 10)) (uC (.int 60)))))))
def rD:i7:=(l8 (F0 (C4 L5 (a8 (c7 0) (a8 (uC (.ty "str")) c9))) (F0 (E9 M9 M9 (uC (.int 1)) (C4 G7 (a8 (c7 0) c9)) (uC (.int 8))) (C4 zQ (a8 (CJ [none] (Q4 (c7 0)) (g1 0) oP (E9 M9 M9 (uC (.str "a")) (c7 0) (uC (.str "z")))) c9)))))
def gX:i7:=(l8 (uC (.bl false)))
def fU:i7:=(l8 (uC (.bl false)))
def iB:i7:=(l8 (uC (.bl false)))
def gP:i7:=(N8 (tP (U8 (t9 (u7 (j5 w8 (a8 (o8 (c7 3) (uC (.int 0))) (a8 (uC (.int 1)) c9))))) (t9 (u7 (j5 w8 (a8 (o8 (c7 3) (uC (.int 1))) (a8 (c7 2) c9))))))) iB n9)
def gq:i7:=(i9 (N8 (tP (U8 (t9 (u7 (C4 L5 (a8 (c7 3) (a8 (uC (.ty "tuple")) c9))))) (uT (t8 (G5 true) (C4 G7 (a8 (c7 3) c9)) (uC (.int 2)))))) fU n9) gP)
def pj:i7:=(l8 (uC (.bl true)))
def qM:i7:=(i9 (ak (iP (Q4 (c7 0))) (g1 3) gq) pj)
def nz:i7:=(i9 (N8 (tP (U8 (t9 (u7 (C4 L5 (a8 (c7 0) (a8 (uC (.ty "tuple")) c9))))) (uT (t8 AL (C4 G7 (a8 (c7 0) c9)) (c7 1))))) gX n9) qM)
def fV:i7:=(l8 (uC (.bl false)))
def pZ:i7:=(l8 (C4 zQ (a8 (CJ [none,some 0] (xR (t8 BR (C4 G7 (a8 (c7 0) c9)) (uC (.int 1)))) (g1 0) oP (F0 (t8 BV (o8 (o8 (c7 1) (c7 0)) (uC (.int 0))) (o8 (o8 (c7 1) (t8 L9 (c7 0) (uC (.int 1)))) (uC (.int 0)))) (t8 AL (o8 (o8 (c7 1) (c7 0)) (uC (.int 1))) (o8 (o8 (c7 1) (t8 L9 (c7 0) (uC (.int 1)))) (uC (.int 1)))))) c9)))
def mM:i7:=(i9 (N8 (tP (U8 (t9 (u7 (j5 L7 (a8 (c7 0) (a8 (uC (.int 5)) (a8 (uC (.int 1)) c9)))))) (uT (t8 (G5 false) (C4 G7 (a8 (c7 0) c9)) (uC (.int 0)))))) fV n9) pZ)
def bX:i7:=(l8 (uC (.bl false)))
def Q9:i7:=(l8 (F0 (c7 2) (F0 (j5 P9 (a8 (o8 (c7 0) (uC (.int 2))) c9)) (F0 (j5 w8 (a8 (o8 (c7 0) (uC (.int 3))) (a8 (uC (.int 0)) c9))) (j5 w8 (a8 (o8 (c7 0) (uC (.int 4))) (a8 (uC (.int 0)) c9)))))))
def bN:i7:=(i9 (G3 2 (Ds (t8 (aX false) (o8 (c7 0) (uC (.int 1))) (uC .l4)) (j5 P5 (a8 (o8 (c7 0) (uC (.int 1))) c9)))) Q9)
def bK:i7:=(l8 (uC (.bl false)))
def kf:i7:=(l8 (F0 (j5 w8 (a8 (o8 (c7 0) (uC (.int 3))) (a8 (uC (.int 0)) c9))) (C4 L5 (a8 (o8 (c7 0) (uC (.int 4))) (a8 (uC (.ty "bool")) c9)))))
def aT:i7:=(i9 (N8 (tP (U8 (t9 (u7 (j5 P5 (a8 (o8 (c7 0) (uC (.int 1))) c9)))) (t9 (u7 (j5 L7 (a8 (o8 (c7 0) (uC (.int 2))) (a8 (uC (.int 4)) (a8 (uC (.int 0)) c9)))))))) bK n9) kf)
def iT:i7:=(i9 (N8 (tP (uT (t8 (G5 false) (c7 1) (uC (.str "guard"))))) bN n9) aT)
def eL:i7:=(i9 (N8 (tP (U8 (t9 (u7 (C4 L5 (a8 (c7 0) (a8 (uC (.ty "tuple")) c9))))) (U8 (uT (t8 (G5 true) (C4 G7 (a8 (c7 0) c9)) (uC (.int 5)))) (t9 (u7 (j5 P5 (a8 (o8 (c7 0) (uC (.int 0))) c9))))))) bX n9) iT)
def kS:i7:=(l8 (p5 (a8 (uC (.str "board")) (a8 (uC (.int 0)) c9))))
def mi:i7:=(l8 (p5 (a8 (uC (.str "board")) (a8 (uC (.int 0)) c9))))
def mw:i7:=(l8 (p5 (a8 (uC (.str "guard")) (a8 (gv (c7 2)) c9))))
def lL:i7:=(l8 (p5 (a8 (uC (.str "guard")) (a8 (gv (c7 2)) c9))))
def mI:i7:=(mq 1 (mP (t8 L9 (uC (.int 1)) (lg (c7 1) (o8 (c7 3) (uC (.int 1))) (uC (.int 0))))) (mP (o8 (c7 3) (uC (.int 0)))))
def kX:i7:=(i9 (N8 (tP (Bw (uT (t8 (aX true) (o8 (c7 3) (uC (.int 1))) (uC .l4))) (uT (t8 AL (lg (c7 1) (o8 (c7 3) (uC (.int 1))) (uC (.int 8))) (uC (.int 7)))))) lL n9) mI)
def cM:i7:=(i9 (N8 (tP (U8 (t9 (u7 (j5 A9 (a8 (c7 3) (a8 (uC (.str "guard")) c9))))) (uT (t8 (aq false) (o8 (c7 3) (uC (.int 0))) (c7 1))))) mw n9) kX)
def mL:i7:=(l8 (p5 (a8 (uC (.str "load")) (a8 (gv (c7 2)) c9))))
def mD:i7:=(mq 4 (mP (uC (.int 1))) (mP (o8 (c7 5) (uC (.int 0)))))
def cq:i7:=(i9 (N8 (tP (U8 (t9 (u7 (j5 A9 (a8 (c7 5) (a8 (uC (.str "load")) c9))))) (U8 (uT (t8 (aq false) (o8 (c7 5) (uC (.int 0))) (c7 4))) (uT (t8 (aq true) (o8 (c7 5) (uC (.int 1))) (c7 1)))))) mL n9) mD)
def xE:i7:=(l8 (uC .l4))
def wO:i7:=(i9 (ak (iP (uJ (o8 (c7 0) (uC (.int 1))))) (gT (j6 (g1 2) (j6 (g1 5) L8))) cq) xE)
def nq:i7:=(i9 (G3 4 (C4 sX (a8 (c7 1) c9))) wO)
def wU:i7:=(i9 (ak (iP (uJ (o8 (c7 0) (uC (.int 0))))) (gT (j6 (g1 2) (j6 (g1 3) L8))) cM) nq)
def mW:i7:=(i9 (G3 1 (uC (.dic []))) wU)
def xn:i7:=(i9 (N8 (tP (U8 (t9 (u7 (C4 L5 (a8 (o8 (c7 0) (uC (.int 1))) (a8 (uC (.ty "tuple")) c9))))) (U8 (t9 (uT (E9 M9 M9 (uC (.int 1)) (C4 G7 (a8 (o8 (c7 0) (uC (.int 0))) c9)) (uC (.int 16))))) (uT (t8 AL (C4 G7 (a8 (o8 (c7 0) (uC (.int 1))) c9)) (uC (.int 24))))))) mi n9) mW)
def yd:i7:=(i9 (N8 (tP (U8 (t9 (u7 (C4 L5 (a8 (c7 0) (a8 (uC (.ty "tuple")) c9))))) (U8 (uT (t8 (G5 true) (C4 G7 (a8 (c7 0) c9)) (uC (.int 2)))) (t9 (u7 (C4 L5 (a8 (o8 (c7 0) (uC (.int 0))) (a8 (uC (.ty "tuple")) c9)))))))) kS n9) xn)
def gG(e a:Addr):i7:=(G3 3 (p5 (a8 (Dw e a 5 "word") (a8 (Dw e a 5 "number") c9))))
def gw(e a:Addr):i7:=(i9 (G3 4 (F0 (uG e a 5 true) (F0 (uG e a 5 true) (vO (uG e a 5 false))))) (gG e a))
def eJ:i7:=(l8 (F0 (c7 4) (F0 (t8 (G5 false) (C4 fF (a8 (c7 3) c9)) (C4 fF (a8 (c7 1) c9))) (t8 (G5 false) (C4 fF (a8 (c7 0) c9)) (c7 2)))))
def qt:i7:=(i9 (qX Fo M3 (a8 (c7 0) c9) 4 5 "NoBoard" λe a=>(gw e a)) eJ)
def qa:i7:=(i9 (G3 4 (uC (.bl true))) qt)
def qb:i7:=(i9 (G3 3 (uC .l4)) qa)
def qx:i7:=(i9 (G3 2 (C4 fF (a8 (c7 0) c9))) qb)
def nP:i7:=(i9 (G3 1 (j5 cL (a8 (c7 0) c9))) qx)
def qh:i7:=(l8 (gv (o8 (c7 1) (t8 wK (c7 0) (uC (.int 25))))))
def pK:i7:=(i9 (G3 1 (t8 L9 (c7 1) (W2 (a8 (p5 (a8 (uC (.str "c")) (a8 (uC (.str "b")) (a8 (p5 (a8 (p5 (a8 (uC (.int 1)) (a8 (uC (.int 1)) c9))) c9)) (a8 (t8 yF (uC (.int 10)) (uC (.int 59))) (a8 (uC (.int 0)) c9)))))) (a8 (p5 (a8 (uC (.str "d")) (a8 (uC (.str "a")) (a8 (p5 c9) (a8 (uC (.int 5)) (a8 (uC (.bl true)) c9)))))) (a8 (p5 (a8 (uC (.str "e")) (a8 (uC (.str "b")) (a8 (p5 (a8 (p5 (a8 (uC (.int 2)) (a8 (uC (.int 0)) c9))) c9)) (a8 (uC (.int 0)) (a8 (uC (.bl false)) c9)))))) c9)))))) qh)
def qD:i7:=(i9 (G3 1 (t8 L9 (c7 1) (W2 (a8 (p5 (a8 (uC (.str "a")) (a8 (uC (.str "a")) (a8 (p5 (a8 (p5 (a8 (uC (.int 1)) (a8 (uC (.int 1)) c9))) c9)) (a8 (uC (.int 0)) (a8 (uC (.int 0)) c9)))))) (a8 (p5 (a8 (uC (.str "d")) (a8 (uC (.str "a")) (a8 (p5 c9) (a8 (uC (.int 5)) (a8 (uC (.int 1)) c9)))))) c9))))) pK)
def oX:i7:=(i9 (G3 1 (t8 L9 (c7 1) (W2 (a8 (p5 (a8 (p5 (a8 (uC (.int 1)) (a8 (uC (.int 0)) c9))) c9)) (a8 (p5 (a8 (uC (.str "a")) (a8 (uC .l4) (a8 (p5 (a8 (p5 (a8 (uC (.int 1)) (a8 (uC (.int 2)) c9))) (a8 (p5 (a8 (uC (.int 3)) (a8 (uC (.int 1)) c9))) c9))) (a8 (uC (.int 0)) (a8 (uC (.int 0)) c9)))))) (a8 (p5 (a8 (uC (.str "b")) (a8 (uC (.str "a")) (a8 (p5 (a8 (p5 (a8 (uC (.int 5)) (a8 (uC (.int 1)) c9))) c9)) (a8 (uC (.int 1)) (a8 (uC (.int 2)) c9)))))) c9)))))) qD)
def ny:i7:=(i9 (G3 1 (W2 (a8 (uC .l4) (a8 (uC (.bl true)) (a8 (uC (.bl false)) (a8 (uC (.int 0)) (a8 (uC (.int 1)) (a8 (qO aV (uC (.int 1))) (a8 (t8 yF (uC (.int 10)) (uC (.int 60))) (a8 (uC (.str "")) (a8 (uC (.str "a")) (a8 (uC (.str "b")) (a8 (uC (.str "guard")) (a8 (uC (.str "A")) (a8 (uC (.str "abcdefghi")) (a8 (p5 c9) (a8 (vK (W2 c9)) (a8 (xZ (uC (.dic []))) (a8 (p5 (a8 (p5 (a8 (uC (.int 1)) (a8 (uC (.int 1)) c9))) c9)) c9))))))))))))))))))) oX)
def aF:i7:=(l8 (t8 L9 (c7 0) (W2 (a8 (j5 P7 (a8 (c7 1) c9)) c9))))
def kA:i7:=(l8 (t8 L9 (ej (c7 0) Q1 (M1 (qO aV (c7 3)))) (W2 (a8 (C4 lx (a8 (ej (c7 0) (M1 (qO aV (c7 3))) Q1) c9)) c9))))
def jb:i7:=(l8 (t8 L9 (ej (c7 0) Q1 (M1 (qO aV (c7 3)))) (W2 (a8 (vK (C4 yb (a8 (ej (c7 0) (M1 (qO aV (c7 3))) Q1) c9))) c9))))
def ja:i7:=(l8 (t8 L9 (ej (c7 0) Q1 (M1 (qO aV (uC (.int 2))))) (W2 (a8 (C4 lx (a8 (ej (c7 0) (M1 (qO aV (uC (.int 2)))) Q1) c9)) c9))))
def rg:i7:=(l8 (t8 L9 (ej (c7 0) Q1 (M1 (qO aV (uC (.int 1))))) (W2 (a8 (p5 (a8 (gv (o8 (c7 0) (qO aV (uC (.int 1))))) (a8 (o8 (W2 (a8 (p5 c9) (a8 (p5 (a8 (p5 (a8 (uC (.str "d")) (a8 (uC (.str "a")) (a8 (p5 c9) (a8 (uC (.int 5)) (a8 (uC (.bl true)) c9)))))) c9)) (a8 (p5 (a8 (p5 c9) c9)) (a8 (vK (W2 c9)) c9))))) (t8 wK (t8 yX (c7 1) (uC (.int 200))) (uC (.int 4)))) c9))) c9))))
def uF:i7:=(i9 (N8 (tP (uT (t8 (G5 false) (c7 2) (uC (.int 6))))) ja n9) rg)
def vb:i7:=(i9 (N8 (tP (uT (t8 (G5 false) (c7 2) (uC (.int 5))))) jb n9) uF)
def jo:i7:=(i9 (N8 (tP (uT (t8 (G5 false) (c7 2) (uC (.int 4))))) kA n9) vb)
def kq:i7:=(i9 (G3 3 (C4 (Dq λi j=>if j<i then j else i) (a8 (C4 G7 (a8 (c7 0) c9)) (a8 (t8 L9 (uC (.int 1)) (t8 wK (t8 yX (c7 1) (uC (.int 200))) (uC (.int 3)))) c9)))) jo)
def ux:i7:=(i9 (N8 (tP (U8 (uT (t8 BV (c7 2) (uC (.int 4)))) (uT (t8 (G5 false) (C4 G7 (a8 (c7 0) c9)) (uC (.int 0)))))) aF n9) kq)
def sk:i7:=(i9 (G3 2 (t8 wK (t8 yX (c7 1) (uC (.int 25))) (uC (.int 8)))) ux)
def iM:i7:=(l8 (uC (.bl false)))
def ji:i7:=(N8 (tP (t9 (u7 (j5 G9 (a8 (o8 (c7 1) (qO aV (uC (.int 1)))) c9))))) iM n9)
def aQ:i7:=(i9 (G3 1 (j5 W5 (a8 (c7 1) (a8 (c7 2) c9)))) ji)
def si:i7:=(l8 (F0 (j5 G9 (a8 (c7 3) c9)) (j5 G9 (a8 (sM (c7 3) (M1 (qO aV (uC (.int 1))))) c9))))
def jG:i7:=(i9 (G3 3 (p5 (a8 (p5 (a8 (p5 (a8 (uC (.str "a")) (a8 (uC .l4) (a8 (p5 (a8 (p5 (a8 (uC (.int 1)) (a8 (uC (.int 2)) c9))) (a8 (p5 (a8 (uC (.int 3)) (a8 (uC (.int 1)) c9))) c9))) (a8 (uC (.int 0)) (a8 (uC (.int 0)) c9)))))) (a8 (p5 (a8 (uC (.str "b")) (a8 (uC (.str "a")) (a8 (p5 (a8 (p5 (a8 (uC (.int 5)) (a8 (uC (.int 1)) c9))) c9)) (a8 (uC (.int 1)) (a8 (uC (.int 2)) c9)))))) c9))) (a8 (p5 (a8 (p5 (a8 (uC (.str "d")) (a8 (uC (.str "b")) (a8 (p5 c9) (a8 (uC (.int 5)) (a8 (uC (.bl true)) c9)))))) c9)) c9)))) si)
def sA:i7:=(i9 (ak (iP (Q4 (ej (c7 0) Q1 (M1 (uC (.int 63)))))) (g1 2) aQ) jG)
def sF:i7:=(i9 (G3 1 (W2 c9)) sA)
def top(i:Nat):Stmt:=PySem.Challenge.pw_fuseboard_k14_things_of_any_kind.main.body.getD i (.Pass ⟨0,0,0,0⟩)
abbrev bZ:Stmt:=top 3
abbrev aj:Stmt:=top 4
abbrev gA:Stmt:=top 5
abbrev gE:Stmt:=top 9
abbrev bW:Stmt:=top 10
abbrev cN:Stmt:=top 8
abbrev W3:Stmt:=top 23
abbrev cZ:Stmt:=top 26
abbrev Z5:Stmt:=top 29
abbrev gp:Stmt:=top 30
abbrev W4:Stmt:=top 24
abbrev aa:Stmt:=top 28
abbrev gF:Stmt:=top 27
abbrev aw:Stmt:=top 25
abbrev fW:Stmt:=top 22
abbrev cz:Stmt:=top 32
abbrev iA:Stmt:=top 33
abbrev gu:Stmt:=top 34
abbrev bt:Stmt:=top 35
abbrev ao:Stmt:=top 36
abbrev uk:Stmt:=top 37
abbrev gc:Stmt:=top 38
abbrev gM:Stmt:=top 39
abbrev lA:Stmt:=top 40
abbrev P8:Stmt:=top 41
abbrev ke:=HP "is_whole" 1 ["thing"] J8
abbrev O1:=HP "is_number" 2 ["thing"] p8
abbrev nC:=HP "is_step" 3 ["thing"] P1
abbrev iQ:=HP "follows" 1 ["ahead","step"] K0
abbrev gY:=HP "is_name" 1 ["thing"] D2
abbrev iO:=HP "is_curve" 4 ["thing"] K6
abbrev jw:=HP "is_guard" 5 ["thing"] K4
abbrev dm:=HP "names_of" 1 ["rows"] w6
abbrev rL:=HP "climb" 1 ["guards","name"] V7
abbrev eX:=HP "is_course" 3 ["thing"] D0
abbrev nF:=HP "is_load" 4 ["thing"] O7
abbrev cJ:=HP "is_outline" 1 ["thing"] A7
abbrev bO:=HP "guard_fits" 6 ["ahead","thing"] A8
abbrev fg:=HP "load_fits" 5 ["guards","ahead","thing"] C7
abbrev bV:=HP "_law_is_number" 1 ["_law_thing","_law_low"] w8
abbrev gR:=HP "_law_are_pairs" 2 ["_law_thing","_law_most","_law_low"] L7
abbrev rJ:=HP "_law_is_name" 1 ["_law_thing"] P5
abbrev ou:=HP "_law_is_curve" 3 ["_law_thing"] P9
abbrev fK:=HP "_law_row_right" 4 ["_law_thing","_law_word"] A9
abbrev xQ:=HP "_law_due" 5 ["_law_thing"] cL
abbrev ni:=HP "_law_small" 1 ["_law_cell"] P7
abbrev nH:=HP "_law_right" 8 ["_law_thing"] G9
abbrev rA:=HP "_law_next" 2 ["_law_things","_law_cell"] W5
section
variable{P:Program}{w:World}{K:GR}{mg:GN}{base:Heap}
local macro_rules | `(tactic| walk_at "s") => `(tactic| exact ⟨rfl,rfl,rfl,by decide +kernel,rfl,by decide +kernel,by decide +kernel⟩)
theorem qI:j1 ["thing"] ["thing"] (e6 bZ):=by walk_at "s"
theorem oF (F:T2 K "is_whole" "is_whole" bZ f e) (b:mg "bool"=none) (c:mg "int"=none) (a:mg "isinstance"=none)
  (len:J0 J8 1) (d:bH J8 ki 1):p6 P w K mg base P6 1 f e ["thing"] (X2 K J8):=
 bF (cl:=[.bor]) F qI rfl len (λg A outer h H E i=>(G2 rfl (i8 (p7 (e7 i4 z0 (by rfl) a kv (a9 (uv 0 rfl) (a9 (y9 (o7 (v:=.ty "int") rfl c PyProof.Rows.boot_int rfl)) c8 rfl) rfl)) (v7 (kD (e7 i4 z0 (by rfl) a kv (a9 (uv 0 rfl) (a9 (y9 (o7 (v:=.ty "bool") rfl b Fu rfl)) c8 rfl) rfl))))) rfl))) d
theorem kW:j1 ["thing"] ["thing"] (e6 aj):=by walk_at "s"
theorem kL (F:T2 K "is_number" "is_number" aj f j) (c:ke P w K mg base g e) {a:Tok} (b:mg "NUMBERS_END"=some (.int (10^60) a))
  (len:J0 p8 1) (h:bH p8 fj 1):p6 P w K mg base P6 2 f j ["thing"] (X2 K p8):=
 bF (cl:=[.bor]) F kW rfl len (λl A outer o H E i=>(G2 rfl (i8 (p7 (pc c i (a9 (uv 0 rfl) c8 rfl) rfl) (v7 (R8 x4 nr D7 cQ c6 (uv 0 rfl) (O9 (v:=.int (10^60)) (d:=.int (10^60)) (B:=[]) (B7 rfl b ⟨_,rfl⟩) (λ_=>.int)) (by with_unfolding_all rfl)))) rfl))) h
theorem iG:j1 ["thing","sign"] ["thing"] (e6 gA):=by walk_at "s"
theorem rK (F:T2 K "is_name" "is_name" gA f o) (h:mg "isinstance"=none) (j:mg "len"=none) (i:mg "str"=none) {e:Tok} (g:mg "LONGEST_NAME"=some (.int 8 e))
  (len:J0 D2 1) (l:bH D2 nL 2):p6 P w K mg base P6 1 f o ["thing"] (X2 K D2):=
 bF (cl:=[.bor,.bor]) F iG rfl len (λp A outer q H E r=>(zc rfl (u9 (B3.m (R6.pt (p9 (j0 (h9 (e7 i4 z0 (by rfl) h kv (a9 (uv 0 rfl) (a9 (y9 (o7 (v:=.ty "str") rfl i PyProof.Rows.boot_str rfl)) c8 rfl) rfl)) (λ_=>rfl))) (p4 (j0 (Z0 x4 x4 D7 D7 c6 (e7 j9 y7 (by rfl) j nw (a9 (uv 0 rfl) c8 rfl)) (O9 (v:=.int 8) (d:=.int 8) (B:=[]) (B7 rfl g ⟨_,rfl⟩) (λ_=>.int)) (by with_unfolding_all rfl))))))) (G2 rfl (i8 l9 rfl)) o4)
   (Q3 (fq.m (M5 (uv 0 rfl)) rfl) (gn 1 iG.nd)
    (G2 rfl (u9 (B3.m (j0 (Z0 x4 x4 D7 D7 j2 (uv 1 rfl) j2 (by with_unfolding_all rfl)))) (G2 rfl (i8 l9 rfl)) o4)) (λa b c=>G0 sm rfl a b c))
   (i8 l9 rfl))) l
theorem iX:j1 ["thing","part"] ["thing"] (e6 gE):=by walk_at "s"
theorem sr (F:T2 K "is_step" "is_step" gE f p) (e:O1 P w K mg base i h) (d:mg "isinstance"=none) (j:mg "len"=none) (g:mg "tuple"=none)
  (len:J0 P1 1) (o:bH P1 nE 2):p6 P w K mg base P6 3 f p ["thing"] (X2 K P1):=
 bF (cl:=[.bor,.bor]) F iX rfl len (λq A outer r H E l=>(zc rfl (u9 (B3.m (R6.pt (p9 (j0 (h9 (e7 i4 z0 (by rfl) d kv (a9 (uv 0 rfl) (a9 (y9 (o7 (v:=.ty "tuple") rfl g mu rfl)) c8 rfl) rfl)) (λ_=>rfl))) (p4 (S3 l (e7 j9 y7 (by rfl) j nw (a9 (uv 0 rfl) c8 rfl)) c6 (j4 _)))))) (G2 rfl (i8 l9 rfl)) o4)
   (Q3 (fq.m (M5 (uv 0 rfl)) rfl) (gn 1 iX.nd)
    (G2 rfl (u9 (B3.m (R6.pt (p9 (j0 (h9 (pc e l (a9 (uv 1 rfl) c8 rfl) rfl) (λ_=>rfl))) (p4 (T1 l (uv 1 rfl) c6 (j4 _)))))) (G2 rfl (i8 l9 rfl)) o4)) (λa b c=>G0 sm rfl a b c))
   (i8 l9 rfl))) o
theorem qH:j1 ["ahead","step"] ["ahead","step"] (e6 bW):=by walk_at "s"
theorem qk (F:T2 K "follows" "follows" bW f c)
  (len:J0 K0 2) (b:bH K0 iD 2):p6 P w K mg base P6 1 f c ["ahead","step"] (X2 K K0):=
 bF (cl:=[.bor,.bor]) F qH rfl len (λd A outer e H E a=>(G2 rfl (i8 (p7 (yn (D6 a (uv 0 rfl) c6) (D6 a (uv 1 rfl) c6) (j4 _)) (v7 (yp (D6 a (uv 0 rfl) c6) (D6 a (uv 1 rfl) c6) (j4 _)))) rfl))) b
theorem T4:j1 ["thing","step","ahead"] ["thing"] (e6 cN):=by walk_at "s"
theorem qf (F:T2 K "is_curve" "is_curve" cN f J) (l:nC P w K mg base z r) (j:iQ P w K mg base u q) (g:mg "isinstance"=none) (y:mg "len"=none) (o:mg "tuple"=none) (x:mg "zip"=none) {e:Tok} (i:mg "MOST_STEPS"=some (.int 5 e))
  (len:J0 K6 1) (G:bH K6 jB 3):p6 P w K mg base P6 4 f J ["thing"] (X2 K K6):=
 bF (cl:=[.bor,.bor,.bor]) F T4 rfl len (λM A outer O H E C=>(yR rfl (u9 (B3.m (R6.pt (p9 (j0 (h9 (e7 i4 z0 (by rfl) g kv (a9 (uv 0 rfl) (a9 (y9 (o7 (v:=.ty "tuple") rfl o mu rfl)) c8 rfl) rfl)) (λ_=>rfl))) (p4 (j0 (Z0 x4 x4 D7 D7 c6 (e7 j9 y7 (by rfl) y nw (a9 (uv 0 rfl) c8 rfl)) (O9 (v:=.int 5) (d:=.int 5) (B:=[]) (B7 rfl i ⟨_,rfl⟩) (λ_=>.int)) (by with_unfolding_all rfl))))))) (G2 rfl (i8 l9 rfl)) o4)
   (Q3 (fq.m (M5 (uv 0 rfl)) rfl) (gn 1 T4.nd)
    (G2 rfl (u9 (B3.m (j0 (h9 (pc l C (a9 (uv 1 rfl) c8 rfl) rfl) (λ_=>rfl)))) (G2 rfl (i8 l9 rfl)) o4)) (λa b c=>G0 sm rfl a b c))
   (Q3 (fq.m (Bt true true (uv 0 rfl) (O6 (uv 0 rfl) (A2 c6) B4) .stab rfl rfl rfl rfl rfl (λI=>Am true true (by rfl) x I)) rfl) (Z7 (n:=2) (n6 (gn 2 T4.nd) (n6 (gn 1 T4.nd) O8)) (λ_ _ _ h=>cn h) (λp=>P4 rfl p))
    (G2 rfl (u9 (B3.m (j0 (h9 (pc j C (a9 (uv 2 rfl) (a9 (uv 1 rfl) c8 rfl) rfl) rfl) (λ_=>rfl)))) (G2 rfl (i8 l9 rfl)) o4)) (λa b c=>G0 sm rfl a b c))
   (i8 l9 rfl))) G
theorem aM:j1 ["thing","part"] ["thing"] (e6 W3):=by walk_at "s"
theorem ko (F:T2 K "is_outline" "is_outline" W3 f r) (e:mg "isinstance"=none) (o:mg "len"=none) (l:mg "tuple"=none) {g:Tok} (i:mg "MOST_GUARDS"=some (.int 16 g)) {h:Tok} (j:mg "MOST_LOADS"=some (.int 24 h))
  (len:J0 A7 1) (q:bH A7 bL 2):p6 P w K mg base P6 1 f r ["thing"] (X2 K A7):=
 bF (cl:=[.bor,.bor]) F aM rfl len (λu A outer x H E p=>(zc rfl (u9 (B3.m (R6.pt (p9 (j0 (h9 (e7 i4 z0 (by rfl) e kv (a9 (uv 0 rfl) (a9 (y9 (o7 (v:=.ty "tuple") rfl l mu rfl)) c8 rfl) rfl)) (λ_=>rfl))) (p4 (S3 p (e7 j9 y7 (by rfl) o nw (a9 (uv 0 rfl) c8 rfl)) c6 (j4 _)))))) (G2 rfl (i8 l9 rfl)) o4)
   (Q3 (fq.m (M5 (uv 0 rfl)) rfl) (gn 1 aM.nd)
    (G2 rfl (u9 (B3.m (j0 (h9 (e7 i4 z0 (by rfl) e kv (a9 (uv 1 rfl) (a9 (y9 (o7 (v:=.ty "tuple") rfl l mu rfl)) c8 rfl) rfl)) (λ_=>rfl)))) (G2 rfl (i8 l9 rfl)) o4)) (λa b c=>G0 sm rfl a b c))
   (i8 (p7 (R8 x4 x4 D7 D7 c6 (e7 j9 y7 (by rfl) o nw (a9 (D6 p (uv 0 rfl) c6) c8 rfl)) (O9 (v:=.int 16) (d:=.int 16) (B:=[]) (B7 rfl i ⟨_,rfl⟩) (λ_=>.int)) (by with_unfolding_all rfl)) (v7 (rF (e7 j9 y7 (by rfl) o nw (a9 (D6 p (uv 0 rfl) c6) c8 rfl)) (O9 (v:=.int 24) (d:=.int 24) (B:=[]) (B7 rfl j ⟨_,rfl⟩) (λ_=>.int)) (j4 _)))) rfl))) q
theorem I0:j1 ["thing","name","under","curve","delay","wait"] ["thing"] (e6 cZ):=by walk_at "s"
theorem oC (F:T2 K "is_guard" "is_guard" cZ f z) (a:O1 P w K mg base l i) (c:gY P w K mg base x q) (d:iO P w K mg base r j) (b:mg "isinstance"=none) (u:mg "len"=none) (e:mg "tuple"=none)
  (len:J0 K4 1) (y:bH K4 jr 6):p6 P w K mg base P6 5 f z ["thing"] (X2 K K4):=
 bF (cl:=[.bor,.bor,.bor,.bor,.bor,.bor]) F I0 rfl len (λB A outer C H E o=>(yR rfl (u9 (B3.m (R6.pt (p9 (j0 (h9 (e7 i4 z0 (by rfl) b kv (a9 (uv 0 rfl) (a9 (y9 (o7 (v:=.ty "tuple") rfl e mu rfl)) c8 rfl) rfl)) (λ_=>rfl))) (p4 (S3 o (e7 j9 y7 (by rfl) u nw (a9 (uv 0 rfl) c8 rfl)) c6 (j4 _)))))) (G2 rfl (i8 l9 rfl)) o4)
   (om (uv 0 rfl) rfl (Z7 (n:=5) (n6 (gn 1 I0.nd) (n6 (gn 2 I0.nd) (n6 (gn 3 I0.nd) (n6 (gn 4 I0.nd) (n6 (gn 5 I0.nd) O8))))) (λ_ _ _ h=>xW h) (λp=>P4 rfl p)) (λp g=>ip p g))
   (u9 (B3.m (R6.pt (p9 (j0 (h9 (pc c o (a9 (uv 1 rfl) c8 rfl) rfl) (λ_=>rfl))) (p4 (j0 (R6.pt (p9 (sx (uv 2 rfl) M7 (j4 _)) (p4 (h9 (pc c o (a9 (uv 2 rfl) c8 rfl) rfl) (λ_=>rfl)))))))))) (G2 rfl (i8 l9 rfl)) o4)
   (i8 (p7 (pc d o (a9 (uv 3 rfl) c8 rfl) rfl) (p7 (pc a o (a9 (uv 4 rfl) c8 rfl) rfl) (v7 (pc a o (a9 (uv 5 rfl) c8 rfl) rfl)))) rfl))) y
theorem qj:j1 ["rows"] ["rows"] (e6 Z5):=by walk_at "s"
theorem my:(["row"]:GH).Nodup:=by decide +kernel
theorem pF (F:T2 K "names_of" "names_of" Z5 f c)
  (len:J0 w6 1) (a:bH w6 jd 1):p6 P w K mg base P6 1 f c ["rows"] (X2 K w6):=
 bF (cl:=[.bor]) F qj rfl len (λd A outer e H E b=>(G2 rfl (i8 (sO (XN:=["rows"]) (N:=["row"]) (XS:=e6 Z5) (cap:=[none]) (by decide +kernel) rfl rfl rfl rfl (M5 (uv 0 rfl)) (λ_ _ _ _=>(gn 0 my)) (λ_ _ _ _=>hZ) (λ_ _ _ _=>(PU.y4 (D6 b (uv 0 rfl) c6)))) rfl))) a
abbrev nS:GH:=["guards","name","unders","guard","found"]
theorem bB:j1 nS ["guards","name"] (e6 gp):=by walk_at "s"
theorem uj:(["guard"]:GH).Nodup:=by decide +kernel
theorem xp (F:T2 K "climb" "climb" gp f d)
  (len:J0 V7 2) (b:bH V7 tQ 5):p6 P w K mg base P6 1 f d ["guards","name"] (X2 K V7):=
 bF (cl:=[.bor,.bor,.bor,.bor,.own]) F bB rfl len (λe A outer g H E a=>(yR rfl (wC (i:=2) (XN:=nS) (N:=["guard"]) (XS:=e6 gp) (cap:=[none]) bB.nd rfl rfl rfl (by decide +kernel) rfl rfl rfl rfl (M5 (uv 0 rfl)) (λ_ _ _ _=>(gn 0 uj)) (λ_ _ _ _=>hZ) (λ_ _ _ _=>(D6 a (uv 0 rfl) c6)) (λ_ _ _ _=>(D6 a (uv 0 rfl) c6)))
   (ss 4 bB.nd (B6 h8 rfl) rfl)
   (xy sm (B3.m (iC (uv 1 rfl) M7 (j4 _))) (xS rfl (Av (PM.n (oN (r:=gK) 4 (pv 4) rfl (PU.m (PU.y4 (uv 1 rfl))) rfl (λc=>BZ PySem.F.plainAttrs_list PySem.F.slot_list_append PySem.F.type_list_append eE (pv 4) c))))
   (ss 1 bB.nd (D6 a (uv 2 rfl) (uv 1 rfl)) rfl)))
   (zF 4 (pv 4) (by decide) rfl))) b
theorem aG:j1 ["ahead","thing","under"] ["ahead","thing"] (e6 W4):=by walk_at "s"
theorem jy (F:T2 K "guard_fits" "guard_fits" W4 f x) (e:jw P w K mg base o j) (a:dm P w K mg base l i) (g:rL P w K mg base r q) (p:mg "len"=none) {b:Tok} (c:mg "MOST_OVER"=some (.int 7 b))
  (len:J0 A8 2) (u:bH A8 ck 3):p6 P w K mg base P6 6 f x ["ahead","thing"] (X2 K A8):=
 bF (cl:=[.bor,.bor,.bor]) F aG rfl len (λy A outer z H E h=>(yR rfl (u9 (B3.m (R6.pt (p9 (j0 (h9 (pc e h (a9 (uv 1 rfl) c8 rfl) rfl) (λ_=>rfl))) (p4 (kU (N3 h) (D6 h (uv 1 rfl) c6) (pc a h (a9 (uv 0 rfl) c8 rfl) rfl) rfl))))) (G2 rfl (i8 l9 rfl)) o4)
   (ss 2 aG.nd (D6 h (uv 1 rfl) c6) rfl)
   (u9 (B3.m (sx (uv 2 rfl) M7 (j4 _))) (G2 rfl (i8 l9 rfl)) o4)
   (i8 (p7 (yS (N3 h) (uv 2 rfl) (pc a h (a9 (uv 0 rfl) c8 rfl) rfl) rfl) (v7 (rF (e7 j9 y7 (by rfl) p nw (a9 (pc g h (a9 (uv 0 rfl) (a9 (uv 2 rfl) c8 rfl) rfl) rfl) c8 rfl)) (O9 (v:=.int 7) (d:=.int 7) (B:=[]) (B7 rfl c ⟨_,rfl⟩) (λ_=>.int)) (j4 _)))) rfl))) u
theorem O4:j1 ["thing","stretch","turns","draw"] ["thing"] (e6 aa):=by walk_at "s"
theorem lh (F:T2 K "is_course" "is_course" aa f z) (l:O1 P w K mg base u r) (i:mg "isinstance"=none) (q:mg "len"=none) (o:mg "tuple"=none) {e:Tok} (j:mg "MOST_STRETCHES"=some (.int 4 e))
  (len:J0 D0 1) (y:bH D0 fE 4):p6 P w K mg base P6 3 f z ["thing"] (X2 K D0):=
 bF (cl:=[.bor,.bor,.bor,.bor]) F O4 rfl len (λC A outer G H E x=>(zc rfl (u9 (B3.m (R6.pt (p9 (j0 (h9 (e7 i4 z0 (by rfl) i kv (a9 (uv 0 rfl) (a9 (y9 (o7 (v:=.ty "tuple") rfl o mu rfl)) c8 rfl) rfl)) (λ_=>rfl))) (p4 (nc (e7 j9 y7 (by rfl) q nw (a9 (uv 0 rfl) c8 rfl)) (O9 (v:=.int 4) (d:=.int 4) (B:=[]) (B7 rfl j ⟨_,rfl⟩) (λ_=>.int)) (j4 _)))))) (G2 rfl (i8 l9 rfl)) o4)
   (Q3 (fq.m (M5 (uv 0 rfl)) rfl) (gn 1 O4.nd)
    (zc rfl (u9 (B3.m (R6.pt (p9 (j0 (h9 (e7 i4 z0 (by rfl) i kv (a9 (uv 1 rfl) (a9 (y9 (o7 (v:=.ty "tuple") rfl o mu rfl)) c8 rfl) rfl)) (λ_=>rfl))) (p4 (S3 x (e7 j9 y7 (by rfl) q nw (a9 (uv 1 rfl) c8 rfl)) c6 (j4 _)))))) (G2 rfl (i8 l9 rfl)) o4)
   (om (uv 1 rfl) rfl (Z7 (n:=2) (n6 (gn 2 O4.nd) (n6 (gn 3 O4.nd) O8)) (λ_ _ _ h=>cn h) (λp=>P4 rfl p)) (λp g=>ip p g))
   (u9 (B3.m (R6.pt (p9 (j0 (h9 (pc l x (a9 (uv 2 rfl) c8 rfl) rfl) (λ_=>rfl))) (p9 (T1 x (uv 2 rfl) c6 (j4 _)) (p4 (j0 (h9 (pc l x (a9 (uv 3 rfl) c8 rfl) rfl) (λ_=>rfl)))))))) (G2 rfl (i8 l9 rfl)) o4)) (λa b c=>G0 sm rfl a b c))
   (i8 l9 rfl))) y
theorem N0:j1 ["thing","name","at","course","last","switch"] ["thing"] (e6 gF):=by walk_at "s"
theorem sj (F:T2 K "is_load" "is_load" gF f z) (c:O1 P w K mg base l i) (b:gY P w K mg base x q) (d:eX P w K mg base o j) (a:mg "isinstance"=none) (u:mg "len"=none) (e:mg "tuple"=none)
  (len:J0 O7 1) (y:bH O7 mT 6):p6 P w K mg base P6 4 f z ["thing"] (X2 K O7):=
 bF (cl:=[.bor,.bor,.bor,.bor,.bor,.bor]) F N0 rfl len (λB A outer C H E r=>(yR rfl (u9 (B3.m (R6.pt (p9 (j0 (h9 (e7 i4 z0 (by rfl) a kv (a9 (uv 0 rfl) (a9 (y9 (o7 (v:=.ty "tuple") rfl e mu rfl)) c8 rfl) rfl)) (λ_=>rfl))) (p4 (S3 r (e7 j9 y7 (by rfl) u nw (a9 (uv 0 rfl) c8 rfl)) c6 (j4 _)))))) (G2 rfl (i8 l9 rfl)) o4)
   (om (uv 0 rfl) rfl (Z7 (n:=5) (n6 (gn 1 N0.nd) (n6 (gn 2 N0.nd) (n6 (gn 3 N0.nd) (n6 (gn 4 N0.nd) (n6 (gn 5 N0.nd) O8))))) (λ_ _ _ h=>xW h) (λp=>P4 rfl p)) (λp g=>ip p g))
   (u9 (B3.m (R6.pt (p9 (j0 (h9 (pc b r (a9 (uv 1 rfl) c8 rfl) rfl) (λ_=>rfl))) (p4 (j0 (h9 (pc b r (a9 (uv 2 rfl) c8 rfl) rfl) (λ_=>rfl))))))) (G2 rfl (i8 l9 rfl)) o4)
   (i8 (p7 (pc d r (a9 (uv 3 rfl) c8 rfl) rfl) (p7 (pc c r (a9 (uv 4 rfl) c8 rfl) rfl) (v7 (yr (mE (uv 5 rfl) l9 (j4 _)) (v7 (mE (uv 5 rfl) l9 (j4 _))))))) rfl))) y
theorem kP:j1 ["guards","ahead","thing"] ["guards","ahead","thing"] (e6 aw):=by walk_at "s"
theorem lF (F:T2 K "load_fits" "load_fits" aw f j) (b:nF P w K mg base h e) (a:dm P w K mg base g d)
  (len:J0 C7 3) (i:bH C7 eW 3):p6 P w K mg base P6 5 f j ["guards","ahead","thing"] (X2 K C7):=
 bF (cl:=[.bor,.bor,.bor]) F kP rfl len (λl A outer o H E c=>(xS rfl (u9 (B3.m (R6.pt (p9 (j0 (h9 (pc b c (a9 (uv 2 rfl) c8 rfl) rfl) (λ_=>rfl))) (p4 (fH (N3 c) (D6 c (uv 2 rfl) c6) (pc a c (a9 (uv 0 rfl) c8 rfl) rfl) rfl))))) (G2 rfl (i8 l9 rfl)) o4)
   (i8 (p7 (eF (N3 c) (D6 c (uv 2 rfl) c6) (pc a c (a9 (uv 0 rfl) c8 rfl) rfl) rfl) (v7 (eF (N3 c) (D6 c (uv 2 rfl) c6) (pc a c (a9 (uv 1 rfl) c8 rfl) rfl) rfl))) rfl))) i
theorem K2:j1 ["thing","guards","loads","at","guard","load"] ["thing"] (e6 fW):=by walk_at "s"
theorem ur (F:T2 K "looked" "looked" fW f S) (u:cJ P w K mg base C y) (v:bO P w K mg base G z) (x:fg P w K mg base I B) (l:mg "enumerate"=none) {r:Addr} {q:Addr} {o:FuncData} (d:wG "NoBoard" r q [.type "ValueError",.type "Exception",.type "BaseException",.type "object"] "ValueError.__new__" mg base) (i:p6 P w K mg base P6 1 q o ["self","word","number"] (R1 r (Fo "NoBoard"))) (e:Binds K o ["self","word","number"] [])
  (len:∀ds Q W,M3 ds Q W->ds.length=1) (R:∀ds Q W,M3 ds Q W->nh W (EP Q) (j3 6 ds)):p6 P w K mg base (wR P w) 7 f S ["thing"] (AF Fo K mg M3):=
 EC (cl:=[.bor,.bor,.bor,.bor,.bor,.bor]) F K2 rfl len (λW T A outer U H E J M=>(DW rfl (u9 (B3.m (j0 (h9 (pc u J (a9 (uv 0 rfl) c8 rfl) rfl) (λ_=>rfl)))) (G2 rfl (cy (j:=6) d i (J.mono (by decide)) e sw rfl sw rfl W7 M rfl (by rfl) (a9 j2 (a9 c6 c8 rfl) rfl) rfl)) o4)
   (om (uv 0 rfl) rfl (Z7 (n:=2) (n6 (gn 1 K2.nd) (n6 (gn 2 K2.nd) O8)) (λ_ _ _ h=>cn h) (λp=>P4 rfl p)) (λp g=>ip p g))
   (Q3 (fq.m (bz (uv 1 rfl) rfl (λO=>X6 (by rfl) l O)) rfl) (Z7 (n:=2) (n6 (gn 3 K2.nd) (n6 (gn 4 K2.nd) O8)) (λ_ _ _ h=>cn h) (λp=>P4 rfl p))
    (G2 rfl (u9 (B3.m (j0 (h9 (pc v J (a9 (ue (uv 1 rfl) B4 (A2 (uv 3 rfl))) (a9 (uv 4 rfl) c8 rfl) rfl) rfl) (λ_=>rfl)))) (G2 rfl (cy (j:=6) d i (J.mono (by decide)) e sw rfl sw rfl W7 M rfl (by rfl) (a9 j2 (a9 (uv 3 rfl) c8 rfl) rfl) rfl)) o4)) (λa b c=>G0 PassesOwn.leaving rfl a b c))
   (Q3 (fq.m (bz (uv 2 rfl) rfl (λO=>X6 (by rfl) l O)) rfl) (Z7 (n:=2) (n6 (gn 3 K2.nd) (n6 (gn 5 K2.nd) O8)) (λ_ _ _ h=>cn h) (λp=>P4 rfl p))
    (G2 rfl (u9 (B3.m (j0 (h9 (pc x J (a9 (uv 1 rfl) (a9 (ue (uv 2 rfl) B4 (A2 (uv 3 rfl))) (a9 (uv 5 rfl) c8 rfl) rfl) rfl) rfl) (λ_=>rfl)))) (G2 rfl (cy (j:=6) d i (J.mono (by decide)) e sw rfl sw rfl W7 M rfl (by rfl) (a9 j2 (a9 (uv 3 rfl) c8 rfl) rfl) rfl)) o4)) (λa b c=>G0 PassesOwn.leaving rfl a b c))
   (i8 l9 rfl))) R
theorem qJ:j1 ["_law_thing","_law_low"] ["_law_thing","_law_low"] (e6 cz):=by walk_at "s"
theorem pM (F:T2 K "_law_is_number" "_law_is_number" cz f e) (b:mg "bool"=none) (c:mg "int"=none) (a:mg "isinstance"=none)
  (len:J0 w8 2) (d:bH w8 jM 2):p6 P w K mg base P6 1 f e ["_law_thing","_law_low"] (X2 K w8):=
 bF (cl:=[.bor,.bor]) F qJ rfl len (λg A outer h H E i=>(G2 rfl (i8 (p7 (e7 i4 z0 (by rfl) a kv (a9 (uv 0 rfl) (a9 (y9 (o7 (v:=.ty "int") rfl c PyProof.Rows.boot_int rfl)) c8 rfl) rfl)) (p7 (kD (e7 i4 z0 (by rfl) a kv (a9 (uv 0 rfl) (a9 (y9 (o7 (v:=.ty "bool") rfl b Fu rfl)) c8 rfl) rfl))) (v7 (R8 x4 nr D7 cQ (uv 1 rfl) (uv 0 rfl) (kF c6 c6) (by with_unfolding_all rfl))))) rfl))) d
theorem vV:j1 ["_law_thing"] ["_law_thing"] (e6 iA):=by walk_at "s"
theorem ro:(["_law_sign"]:GH).Nodup:=by decide +kernel
theorem xw (F:T2 K "_law_is_name" "_law_is_name" iA f g) (d:mg "all"=none) (a:mg "isinstance"=none) (c:mg "len"=none) (b:mg "str"=none)
  (len:J0 P5 1) (e:bH P5 rD 1):p6 P w K mg base P6 1 f g ["_law_thing"] (X2 K P5):=
 bF (cl:=[.bor]) F vV rfl len (λh A outer i H E j=>(G2 rfl (i8 (p7 (e7 i4 z0 (by rfl) a kv (a9 (uv 0 rfl) (a9 (y9 (o7 (v:=.ty "str") rfl b PyProof.Rows.boot_str rfl)) c8 rfl) rfl)) (p7 (R8 x4 x4 D7 D7 c6 (e7 j9 y7 (by rfl) c nw (a9 (uv 0 rfl) c8 rfl)) c6 (by with_unfolding_all rfl)) (v7 (e7 (jN rfl) yk (by rfl) d PyProof.Rows.boot_all (a9 (sO (XN:=["_law_thing"]) (N:=["_law_sign"]) (XS:=e6 iA) (cap:=[none]) (by decide +kernel) rfl rfl rfl rfl (M5 (uv 0 rfl)) (λ_ _ _ _=>(gn 0 ro)) (λ_ _ _ _=>hZ) (λ_ _ _ _=>(R8 x4 x4 D7 D7 j2 (uv 0 rfl) j2 (by with_unfolding_all rfl)))) c8 rfl))))) rfl))) e
theorem jh:j1 ["_law_thing","_law_most","_law_low","_law_pair"] ["_law_thing","_law_most","_law_low"] (e6 gu):=by walk_at "s"
theorem tV (F:T2 K "_law_are_pairs" "_law_are_pairs" gu f p) (e:bV P w K mg base j i) (d:mg "isinstance"=none) (h:mg "len"=none) (g:mg "tuple"=none)
  (len:J0 L7 3) (o:bH L7 nz 4):p6 P w K mg base P6 2 f p ["_law_thing","_law_most","_law_low"] (X2 K L7):=
 bF (cl:=[.bor,.bor,.bor,.bor]) F jh rfl len (λq A outer r H E l=>(zc rfl (u9 (B3.m (R6.pt (p9 (j0 (h9 (e7 i4 z0 (by rfl) d kv (a9 (uv 0 rfl) (a9 (y9 (o7 (v:=.ty "tuple") rfl g mu rfl)) c8 rfl) rfl)) (λ_=>rfl))) (p4 (nc (e7 j9 y7 (by rfl) h nw (a9 (uv 0 rfl) c8 rfl)) (uv 1 rfl) (j4 _)))))) (G2 rfl (i8 l9 rfl)) o4)
   (Q3 (fq.m (M5 (uv 0 rfl)) rfl) (gn 3 jh.nd)
    (xS rfl (u9 (B3.m (R6.pt (p9 (j0 (h9 (e7 i4 z0 (by rfl) d kv (a9 (uv 3 rfl) (a9 (y9 (o7 (v:=.ty "tuple") rfl g mu rfl)) c8 rfl) rfl)) (λ_=>rfl))) (p4 (S3 l (e7 j9 y7 (by rfl) h nw (a9 (uv 3 rfl) c8 rfl)) c6 (j4 _)))))) (G2 rfl (i8 l9 rfl)) o4)
   (u9 (B3.m (R6.pt (p9 (j0 (h9 (pc e l (a9 (D6 l (uv 3 rfl) c6) (a9 c6 c8 rfl) rfl) rfl) (λ_=>rfl))) (p4 (j0 (h9 (pc e l (a9 (D6 l (uv 3 rfl) c6) (a9 (uv 2 rfl) c8 rfl) rfl) rfl) (λ_=>rfl))))))) (G2 rfl (i8 l9 rfl)) o4)) (λa b c=>G0 sm rfl a b c))
   (i8 l9 rfl))) o
theorem rZ:j1 ["_law_thing"] ["_law_thing"] (e6 bt):=by walk_at "s"
theorem pN:(["_law_k","_law_thing"]:GH).Nodup:=by decide +kernel
theorem sU (F:T2 K "_law_is_curve" "_law_is_curve" bt f l) (b:gR P w K mg base h e) (g:mg "all"=none) (d:mg "len"=none) (a:mg "range"=none)
  (len:J0 P9 1) (i:bH P9 mM 1):p6 P w K mg base P6 3 f l ["_law_thing"] (X2 K P9):=
 bF (cl:=[.bor]) F rZ rfl len (λo A outer p H E c=>(xS rfl (u9 (B3.m (R6.pt (p9 (j0 (h9 (pc b c (a9 (uv 0 rfl) (a9 c6 (a9 c6 c8 rfl) rfl) rfl) rfl) (λ_=>rfl))) (p4 (T1 c (e7 j9 y7 (by rfl) d nw (a9 (uv 0 rfl) c8 rfl)) c6 (j4 _)))))) (G2 rfl (i8 l9 rfl)) o4)
   (i8 (e7 (jN rfl) yk (by rfl) g PyProof.Rows.boot_all (a9 (sO (XN:=["_law_thing"]) (N:=["_law_k","_law_thing"]) (XS:=e6 bt) (cap:=[none,some 0]) (by decide +kernel) rfl rfl rfl rfl (uE (by rfl) a (zv (e7 j9 y7 (by rfl) d nw (a9 (uv 0 rfl) c8 rfl)) c6) rfl (λj=>oS (by rfl) a j)) (λ_ _ _ _=>(gn 0 pN)) (λ_ _ _ _=>hZ) (λ_ _ _ _=>(p7 (yn (D6 c (D6 c (uv 1 rfl) (uv 0 rfl)) c6) (D6 c (D6 c (uv 1 rfl) (A3 (uv 0 rfl) c6)) c6) (j4 _)) (v7 (yp (D6 c (D6 c (uv 1 rfl) (uv 0 rfl)) c6) (D6 c (D6 c (uv 1 rfl) (A3 (uv 0 rfl) c6)) c6) (j4 _)))))) c8 rfl)) rfl))) i
theorem dg:j1 ["_law_thing","_law_word","_law_under"] ["_law_thing","_law_word"] (e6 ao):=by walk_at "s"
theorem mf (F:T2 K "_law_row_right" "_law_row_right" ao f B) (b:bV P w K mg base p j) (d:rJ P w K mg base y r) (e:gR P w K mg base u l) (g:ou P w K mg base x o) (i:mg "bool"=none) (a:mg "isinstance"=none) (q:mg "len"=none) (h:mg "tuple"=none)
  (len:J0 A9 2) (z:bH A9 eL 3):p6 P w K mg base P6 4 f B ["_law_thing","_law_word"] (X2 K A9):=
 bF (cl:=[.bor,.bor,.bor]) F dg rfl len (λC A outer G H E c=>(yR rfl (u9 (B3.m (R6.pt (p9 (j0 (h9 (e7 i4 z0 (by rfl) a kv (a9 (uv 0 rfl) (a9 (y9 (o7 (v:=.ty "tuple") rfl h mu rfl)) c8 rfl) rfl)) (λ_=>rfl))) (p9 (S3 c (e7 j9 y7 (by rfl) q nw (a9 (uv 0 rfl) c8 rfl)) c6 (j4 _)) (p4 (j0 (h9 (pc d c (a9 (D6 c (uv 0 rfl) c6) c8 rfl) rfl) (λ_=>rfl)))))))) (G2 rfl (i8 l9 rfl)) o4)
   (u9 (B3.m (T1 c (uv 1 rfl) j2 (j4 _))) (xS rfl (ss 2 dg.nd (yr (mE (D6 c (uv 0 rfl) c6) M7 (j4 _)) (v7 (pc d c (a9 (D6 c (uv 0 rfl) c6) c8 rfl) rfl))) rfl)
   (i8 (p7 (uv 2 rfl) (p7 (pc g c (a9 (D6 c (uv 0 rfl) c6) c8 rfl) rfl) (p7 (pc b c (a9 (D6 c (uv 0 rfl) c6) (a9 c6 c8 rfl) rfl) rfl) (v7 (pc b c (a9 (D6 c (uv 0 rfl) c6) (a9 c6 c8 rfl) rfl) rfl))))) rfl)) o4)
   (u9 (B3.m (R6.pt (p9 (j0 (h9 (pc d c (a9 (D6 c (uv 0 rfl) c6) c8 rfl) rfl) (λ_=>rfl))) (p4 (j0 (h9 (pc e c (a9 (D6 c (uv 0 rfl) c6) (a9 c6 (a9 c6 c8 rfl) rfl) rfl) rfl) (λ_=>rfl))))))) (G2 rfl (i8 l9 rfl)) o4)
   (i8 (p7 (pc b c (a9 (D6 c (uv 0 rfl) c6) (a9 c6 c8 rfl) rfl) rfl) (v7 (e7 i4 z0 (by rfl) a kv (a9 (D6 c (uv 0 rfl) c6) (a9 (y9 (o7 (v:=.ty "bool") rfl i Fu rfl)) c8 rfl) rfl)))) rfl))) z
theorem W0:j1 ["_law_thing","_law_deep","_law_number","_law_guard","_law_seen","_law_load"] ["_law_thing"] (e6 uk):=by walk_at "s"
theorem yV (F:T2 K "_law_due" "_law_due" uk f y) (i:fK P w K mg base r o) (q:mg "dict"=none) (e:mg "enumerate"=none) (d:mg "isinstance"=none) (l:mg "len"=none) (j:mg "tuple"=none)
  (len:J0 cL 1) (x:bH cL yd 6):p6 P w K mg base P6 5 f y ["_law_thing"] (X2 K cL):=
 bF (cl:=[.bor,.own,.bor,.bor,.own,.bor]) F W0 rfl len (λz A outer B H E g=>(Ei rfl (u9 (B3.m (R6.pt (p9 (j0 (h9 (e7 i4 z0 (by rfl) d kv (a9 (uv 0 rfl) (a9 (y9 (o7 (v:=.ty "tuple") rfl j mu rfl)) c8 rfl) rfl)) (λ_=>rfl))) (p9 (S3 g (e7 j9 y7 (by rfl) l nw (a9 (uv 0 rfl) c8 rfl)) c6 (j4 _)) (p4 (j0 (h9 (e7 i4 z0 (by rfl) d kv (a9 (D6 g (uv 0 rfl) c6) (a9 (y9 (o7 (v:=.ty "tuple") rfl j mu rfl)) c8 rfl) rfl)) (λ_=>rfl)))))))) (G2 rfl (i8 (i3 (c5 j2 (c5 c6 h8 rfl) rfl) rfl) rfl)) o4)
   (u9 (B3.m (R6.pt (p9 (j0 (h9 (e7 i4 z0 (by rfl) d kv (a9 (D6 g (uv 0 rfl) c6) (a9 (y9 (o7 (v:=.ty "tuple") rfl j mu rfl)) c8 rfl) rfl)) (λ_=>rfl))) (p9 (j0 (Z0 x4 x4 D7 D7 c6 (e7 j9 y7 (by rfl) l nw (a9 (D6 g (uv 0 rfl) c6) c8 rfl)) c6 (by with_unfolding_all rfl))) (p4 (nc (e7 j9 y7 (by rfl) l nw (a9 (D6 g (uv 0 rfl) c6) c8 rfl)) c6 (j4 _))))))) (G2 rfl (i8 (i3 (c5 j2 (c5 c6 h8 rfl) rfl) rfl) rfl)) o4)
   (ss 1 W0.nd nO rfl)
   (Q3 (fq.m (bz (D6 g (uv 0 rfl) c6) rfl (λu=>X6 (by rfl) e u)) rfl) (Z7 (n:=2) (n6 (gn 2 W0.nd) (n6 (gn 3 W0.nd) O8)) (λ_ _ _ h=>cn h) (λp=>P4 rfl p))
    (zc rfl (u9 (B3.m (R6.pt (p9 (j0 (h9 (pc i g (a9 (uv 3 rfl) (a9 j2 c8 rfl) rfl) rfl) (λ_=>rfl))) (p4 (kU (N3 g) (D6 g (uv 3 rfl) c6) (uv 1 rfl) rfl))))) (G2 rfl (i8 (i3 (c5 j2 (c5 (PU.y4 (uv 2 rfl)) h8 rfl) rfl) rfl) rfl)) o4)
   (u9 (B3.m (R6.pt (zd (iC (D6 g (uv 3 rfl) c6) M7 (j4 _)) (vI (nc (iL (N3 g) (uv 1 rfl) (D6 g (uv 3 rfl) c6) c6 ⟨rfl,rfl,rfl,rfl⟩) c6 (j4 _)))))) (G2 rfl (i8 (i3 (c5 j2 (c5 (PU.y4 (uv 2 rfl)) h8 rfl) rfl) rfl) rfl)) o4)
   (tN (N3 g) 1 (pv 1) rfl (PU.n (A3 c6 (iL (N3 g) (uv 1 rfl) (D6 g (uv 3 rfl) c6) c6 ⟨rfl,rfl,rfl,rfl⟩)) rfl) (PU.n (D6 g (uv 3 rfl) c6) rfl))) (λa b c=>G0 sm rfl a b c))
   (ss 4 W0.nd (U1 (kQ rfl) wN (by rfl) q PyProof.Rows.boot_dict (a9 (uv 1 rfl) c8 rfl)) rfl)
   (Q3 (fq.m (bz (D6 g (uv 0 rfl) c6) rfl (λu=>X6 (by rfl) e u)) rfl) (Z7 (n:=2) (n6 (gn 2 W0.nd) (n6 (gn 5 W0.nd) O8)) (λ_ _ _ h=>cn h) (λp=>P4 rfl p))
    (xS rfl (u9 (B3.m (R6.pt (p9 (j0 (h9 (pc i g (a9 (uv 5 rfl) (a9 j2 c8 rfl) rfl) rfl) (λ_=>rfl))) (p9 (kU (N3 g) (D6 g (uv 5 rfl) c6) (uv 4 rfl) rfl) (p4 (fH (N3 g) (D6 g (uv 5 rfl) c6) (uv 1 rfl) rfl)))))) (G2 rfl (i8 (i3 (c5 j2 (c5 (PU.y4 (uv 2 rfl)) h8 rfl) rfl) rfl) rfl)) o4)
   (tN (N3 g) 4 (pv 4) rfl (PU.n c6 rfl) (PU.n (D6 g (uv 5 rfl) c6) rfl))) (λa b c=>G0 sm rfl a b c))
   (i8 M7 rfl))) x
theorem D8:j1 ["_law_thing","_law_due_here","_law_kept","_law_found","_law_own","e"] ["_law_thing"] (e6 gc):=by walk_at "s"
theorem sZ (F:T2 K "_law_right" "_law_right" gc f fd) {O:Addr} {G:FuncData} (Q:zI P w K mg base "looked" 7 ["thing"] (AF Fo K mg M3) O G) (T:xQ P w K mg base a0 Y) (B:mg "ValueError"=none) (d:mg "isinstance"=none) (z:mg "repr"=none) {a o i p q:Addr} (b:PySem.W.kitAny K (.ref a) [.ref o,.ref i,.ref p]=some false) (c:PySem.W.V1 K a) (y:mg "BoardError"=some (.ref q)) (x:mg "NoBoard"=some (.ref a)) (J:mg "NoDeed"=some (.ref p)) (C:mg "NoPlace"=some (.ref i)) (I:mg "NoText"=some (.ref o)) (j:PySem.W.kitOne K (.ref a) (.ref a)=some true) (h:PySem.W.kitOne K (.ref a) (.type "ValueError")=some true) (R:K.lookup PySem.sysModules=none) (g:Under base a q true) (l:iI K a "number") (r:iI K a "word")
  (len:J0 G9 1) (rd:bH G9 nP 6):p6 P w K mg base P6 8 f fd ["_law_thing"] (X2 K G9):=
 bF (cl:=[.bor,.bor,.bor,.bor,.bor,.bor]) F D8 rfl len (λa1 A outer s0 H E S=>(EL rfl (ss 1 D8.nd (pc T S (a9 (uv 0 rfl) c8 rfl) rfl) rfl)
   (ss 2 D8.nd (e7 (T5 S R) iy (by rfl) z x2 (a9 (uv 0 rfl) c8 rfl)) rfl)
   (ss 3 D8.nd M7 rfl)
   (ss 4 D8.nd l9 rfl)
   (xq Q (S.mono (by decide)) (by rfl) (a9 (uv 0 rfl) c8 rfl) rfl (λ_=>yj) rfl rfl (by rfl) y x g D8.nd rfl rfl rfl rfl rfl rfl
    (λe dx oe M X U=>(xS rfl (ss 4 D8.nd (p7 (uH (cv:=.ref a) (hH _ (List.mem_singleton.mpr rfl)) M c (pv 5) (B7 (v:=.ref a) rfl x rfl) rfl j (by rfl) d) (p7 (uH (cv:=.type "ValueError") (hH _ (List.mem_singleton.mpr rfl)) M c (pv 5) (o7 (v:=.ty "ValueError") (u:=.type "ValueError") rfl B (by rfl) rfl) rfl h (by rfl) d) (v7 (kD (vq (cs:=[.ref o,.ref i,.ref p]) (hH _ (List.mem_singleton.mpr rfl)) M c (pv 5) (yz (B7 (v:=.ref o) rfl I rfl) (yz (B7 (v:=.ref i) rfl C rfl) (yz (B7 (v:=.ref p) rfl J rfl) BD))) rfl b rfl (by rfl) d))))) rfl)
   (ss 3 D8.nd (i3 (c5 (mX (hH _ (List.mem_singleton.mpr rfl)) M X U c r (pv 5) rfl) (c5 (mX (hH _ (List.mem_singleton.mpr rfl)) M X U c l (pv 5) rfl) h8 rfl) rfl) rfl) rfl))))
   (i8 (p7 (uv 4 rfl) (p7 (ra S (e7 (T5 S R) iy (by rfl) z x2 (a9 (uv 3 rfl) c8 rfl)) (e7 (T5 S R) iy (by rfl) z x2 (a9 (uv 1 rfl) c8 rfl)) (j4 _)) (v7 (ra S (e7 (T5 S R) iy (by rfl) z x2 (a9 (uv 0 rfl) c8 rfl)) (uv 2 rfl) (j4 _))))) rfl))) rd
theorem S0:j1 ["_law_cell","_law_some"] ["_law_cell"] (e6 gM):=by walk_at "s"
theorem tS (F:T2 K "_law_small" "_law_small" gM f c)
  (len:J0 P7 1) (a:bH P7 ny 2):p6 P w K mg base P6 1 f c ["_law_cell"] (X2 K P7):=
 bF (cl:=[.bor,.bor]) F S0 rfl len (λd A outer e H E b=>(DW rfl (ss 1 S0.nd (B6 (c5 M7 (c5 l9 (c5 l9 (c5 c6 (c5 c6 (c5 (K3 c6) (c5 (kF c6 c6) (c5 j2 (c5 j2 (c5 j2 (c5 j2 (c5 j2 (c5 j2 (c5 (i3 h8 rfl) (c5 (kZ (B6 h8 rfl)) (c5 (wj nO) (c5 (i3 (c5 (i3 (c5 c6 (c5 c6 h8 rfl) rfl) rfl) h8 rfl) rfl) h8 rfl) rfl) rfl) rfl) rfl) rfl) rfl) rfl) rfl) rfl) rfl) rfl) rfl) rfl) rfl) rfl) rfl) rfl) rfl)
   (ss 1 S0.nd (A3 (uv 1 rfl) (B6 (c5 (i3 (c5 (i3 (c5 c6 (c5 c6 h8 rfl) rfl) rfl) h8 rfl) rfl) (c5 (i3 (c5 j2 (c5 M7 (c5 (i3 (c5 (i3 (c5 c6 (c5 c6 h8 rfl) rfl) rfl) (c5 (i3 (c5 c6 (c5 c6 h8 rfl) rfl) rfl) h8 rfl) rfl) rfl) (c5 c6 (c5 c6 h8 rfl) rfl) rfl) rfl) rfl) rfl) (c5 (i3 (c5 j2 (c5 j2 (c5 (i3 (c5 (i3 (c5 c6 (c5 c6 h8 rfl) rfl) rfl) h8 rfl) rfl) (c5 c6 (c5 c6 h8 rfl) rfl) rfl) rfl) rfl) rfl) h8 rfl) rfl) rfl) rfl)) rfl)
   (ss 1 S0.nd (A3 (uv 1 rfl) (B6 (c5 (i3 (c5 j2 (c5 j2 (c5 (i3 (c5 (i3 (c5 c6 (c5 c6 h8 rfl) rfl) rfl) h8 rfl) rfl) (c5 c6 (c5 c6 h8 rfl) rfl) rfl) rfl) rfl) rfl) (c5 (i3 (c5 j2 (c5 j2 (c5 (i3 h8 rfl) (c5 c6 (c5 c6 h8 rfl) rfl) rfl) rfl) rfl) rfl) h8 rfl) rfl) rfl)) rfl)
   (ss 1 S0.nd (A3 (uv 1 rfl) (B6 (c5 (i3 (c5 j2 (c5 j2 (c5 (i3 (c5 (i3 (c5 c6 (c5 c6 h8 rfl) rfl) rfl) h8 rfl) rfl) (c5 (kF c6 c6) (c5 c6 h8 rfl) rfl) rfl) rfl) rfl) rfl) (c5 (i3 (c5 j2 (c5 j2 (c5 (i3 h8 rfl) (c5 c6 (c5 l9 h8 rfl) rfl) rfl) rfl) rfl) rfl) (c5 (i3 (c5 j2 (c5 j2 (c5 (i3 (c5 (i3 (c5 c6 (c5 c6 h8 rfl) rfl) rfl) h8 rfl) rfl) (c5 c6 (c5 l9 h8 rfl) rfl) rfl) rfl) rfl) rfl) h8 rfl) rfl) rfl) rfl)) rfl)
   (i8 (PU.y4 (D6 b (uv 1 rfl) (gS (uv 0 rfl) c6))) rfl))) a
theorem gW:j1 ["_law_things","_law_cell","_law_way","_law_many"] ["_law_things","_law_cell"] (e6 lA):=by walk_at "s"
theorem xA (F:T2 K "_law_next" "_law_next" lA f l) (b:ni P w K mg base i g) (c:mg "len"=none) (e:mg "list"=none) (h:mg "min"=none) (a:mg "tuple"=none)
  (len:J0 W5 2) (j:bH W5 sk 4):p6 P w K mg base P6 2 f l ["_law_things","_law_cell"] (X2 K W5):=
 bF (cl:=[.bor,.bor,.bor,.bor]) F gW rfl len (λo A outer p H E d=>(Ei rfl (ss 2 gW.nd (gS (hR (uv 1 rfl) c6) c6) rfl)
   (u9 (B3.m (R6.pt (p9 (Cg (uv 2 rfl) c6 (j4 _)) (p4 (T1 d (e7 j9 y7 (by rfl) c nw (a9 (uv 0 rfl) c8 rfl)) c6 (j4 _)))))) (G2 rfl (i8 (A3 (uv 0 rfl) (B6 (c5 (pc b d (a9 (uv 1 rfl) c8 rfl) rfl) h8 rfl) rfl)) rfl)) o4)
   (ss 3 gW.nd (e7 (pB rfl) Dg (by rfl) h PyProof.Rows.boot_min (a9 (e7 j9 y7 (by rfl) c nw (a9 (uv 0 rfl) c8 rfl)) (a9 (A3 c6 (gS (hR (uv 1 rfl) c6) c6)) c8 rfl) rfl)) rfl)
   (u9 (B3.m (T1 d (uv 2 rfl) c6 (j4 _))) (G2 rfl (i8 (A3 (O6 (uv 0 rfl) B4 (A2 (K3 (uv 3 rfl)))) (B6 (c5 (U1 V3 oq (by rfl) a mu (a9 (O6 (uv 0 rfl) (A2 (K3 (uv 3 rfl))) B4) c8 rfl)) h8 rfl) rfl)) rfl)) o4)
   (u9 (B3.m (T1 d (uv 2 rfl) c6 (j4 _))) (G2 rfl (i8 (A3 (O6 (uv 0 rfl) B4 (A2 (K3 (uv 3 rfl)))) (B6 (c5 (kZ (U1 gO Ac (by rfl) e PyProof.Rows.boot_list (a9 (O6 (uv 0 rfl) (A2 (K3 (uv 3 rfl))) B4) c8 rfl))) h8 rfl) rfl)) rfl)) o4)
   (u9 (B3.m (T1 d (uv 2 rfl) c6 (j4 _))) (G2 rfl (i8 (A3 (O6 (uv 0 rfl) B4 (A2 (K3 c6))) (B6 (c5 (U1 V3 oq (by rfl) a mu (a9 (O6 (uv 0 rfl) (A2 (K3 c6)) B4) c8 rfl)) h8 rfl) rfl)) rfl)) o4)
   (i8 (A3 (O6 (uv 0 rfl) B4 (A2 (K3 c6))) (B6 (c5 (i3 (c5 (PU.y4 (D6 d (uv 0 rfl) (K3 c6))) (c5 (D6 d (B6 (c5 (i3 h8 rfl) (c5 (i3 (c5 (i3 (c5 j2 (c5 j2 (c5 (i3 h8 rfl) (c5 c6 (c5 l9 h8 rfl) rfl) rfl) rfl) rfl) rfl) h8 rfl) rfl) (c5 (i3 (c5 (i3 h8 rfl) h8 rfl) rfl) (c5 (kZ (B6 h8 rfl)) h8 rfl) rfl) rfl) rfl) rfl) (gS (hR (uv 1 rfl) c6) c6)) h8 rfl) rfl) rfl) h8 rfl) rfl)) rfl))) j
theorem Z6:j1 ["_law_script","_law_things","_law_cell","_law_board"] ["_law_script"] (e6 P8):=by walk_at "s"
theorem wW (F:T2 K "law" "law" P8 f p) (d:nH P w K mg base j g) (e:rA P w K mg base l i)
  (len:J0 W8 1) (o:bH W8 sF 4):p6 P w K mg base P6 9 f p ["_law_script"] (X2 K W8):=
 bF (cl:=[.bor,.bor,.bor,.bor]) F Z6 rfl len (λq A outer r H E h=>(yR rfl (ss 1 Z6.nd (B6 h8 rfl) rfl)
   (Q3 (fq.m (M5 (O6 (uv 0 rfl) B4 (A2 c6))) rfl) (gn 2 Z6.nd)
    (xS rfl (ss 1 Z6.nd (pc e h (a9 (uv 1 rfl) (a9 (uv 2 rfl) c8 rfl) rfl) rfl) rfl)
   (u9 (B3.m (j0 (h9 (pc d h (a9 (D6 h (uv 1 rfl) (K3 c6)) c8 rfl) rfl) (λ_=>rfl)))) (G2 rfl (i8 l9 rfl)) o4)) (λa b c=>G0 sm rfl a b c))
   (ss 3 Z6.nd (i3 (c5 (i3 (c5 (i3 (c5 j2 (c5 M7 (c5 (i3 (c5 (i3 (c5 c6 (c5 c6 h8 rfl) rfl) rfl) (c5 (i3 (c5 c6 (c5 c6 h8 rfl) rfl) rfl) h8 rfl) rfl) rfl) (c5 c6 (c5 c6 h8 rfl) rfl) rfl) rfl) rfl) rfl) (c5 (i3 (c5 j2 (c5 j2 (c5 (i3 (c5 (i3 (c5 c6 (c5 c6 h8 rfl) rfl) rfl) h8 rfl) rfl) (c5 c6 (c5 c6 h8 rfl) rfl) rfl) rfl) rfl) rfl) h8 rfl) rfl) rfl) (c5 (i3 (c5 (i3 (c5 j2 (c5 j2 (c5 (i3 h8 rfl) (c5 c6 (c5 l9 h8 rfl) rfl) rfl) rfl) rfl) rfl) h8 rfl) rfl) h8 rfl) rfl) rfl) rfl)
   (i8 (p7 (pc d h (a9 (uv 3 rfl) c8 rfl) rfl) (v7 (pc d h (a9 (tW (uv 3 rfl) (K3 c6)) c8 rfl) rfl))) rfl))) o
end
theorem sz{n:Nat}(h:n<=100000):n<=sizeLine:=by rw[sd];omega
theorem K8{g:cU}{body:i7}{xs:List D}{T:bU}{b:Ev}(p:D->Bool)(W:Ev->Prop)(l:W b)
  (step:∀d∈xs,∀b,W b->∀N:Ev->Prop,(p d=true->∀a,W a->N a)->(p d=false->∀a,T.rt (.bl false) a)->g d b λe=>body { nx:=N,rt:=T.rt,bk:=T.nx,ct:=N } e)
  (no:xs.all p=false->∀a,T.rt (.bl false) a) (yes:xs.all p=true->∀a,W a->T.nx a):wz g body xs T b:=by
 refine .of ⟨λi b=>(xs.take i).all p=true/\W b,⟨by simp,l⟩,λi d b j c=>?_,λb c=>?_⟩
 ·refine step d (nb j) b c.2 _ (λh a hw=>⟨?_,hw⟩) (λh=>no ?_)
  ·rw[wE,j];simp[c.1,h]
  ·rw[List.all_eq_false];exact⟨d,nb j,by simp[h]⟩
 ·have c:(xs.take xs.length).all p=true/\W b:=c;rw[Fm] at c;exact yes c.1 b c.2
theorem qg(ds:List D)(Q:D->Prop)(h:J8 ds Q):ki (EP Q) (j3 1 ds):=by
 obtain⟨d,rfl,a,q⟩:=h;cases d<;>first | (simp[kn] at a;done) | (obtain⟨_,rfl⟩:=A0 a) | skip
 all_goals
  walk_at "r";exact q
theorem lB(ds:List D)(Q:D->Prop)(h:p8 ds Q):fj (EP Q) (j3 1 ds):=by
 obtain⟨d,rfl,a,q⟩:=h;refine⟨d,rfl,a,?_⟩;cases d<;>first | (simp[kn] at a;done) | (obtain⟨_,rfl⟩:=A0 a) | skip
 case int i=>
  have q:Q (.bl (decide (0<=i)&&decide (i<10^60))):=q;walk_at "r";refine⟨λe=>?_,λe=>?_⟩
  ·rw[e] at q;exact q
  ·rw[e] at q;exact q
 all_goals
  walk_at "r";exact q
theorem qR{c:Nat}:(!decide (cs (⟨#[c]⟩:Str)<cs ("a" : Str)))=decide (97<=c):=by
 have:(cs (⟨#[c]⟩:Str)<cs ("a" : Str)) ↔ c<97:=by
  show([c]:GL)<[97] ↔ c<97;constructor
  ·intro h;rcases List.cons_lt_cons_iff.mp h with h | ⟨_,h⟩
   ·exact h
   ·exact absurd h (List.not_lt_nil _)
  ·exactλh=>List.cons_lt_cons_iff.mpr (.inl h)
 by_cases h:c<97
 ·rw[hD (this.mpr h),hL (by omega)];rfl
 ·rw[hL (λz=>h (this.mp z)),hD (by omega)];rfl
theorem tF{c:Nat}:(!decide (cs ("z" : Str)<cs (⟨#[c]⟩:Str)))=decide (c<=122):=by
 have:(cs ("z" : Str)<cs (⟨#[c]⟩:Str)) ↔ 122<c:=by
  show([122]:GL)<[c] ↔ 122<c;constructor
  ·intro h;rcases List.cons_lt_cons_iff.mp h with h | ⟨_,h⟩
   ·exact h
   ·exact absurd h (List.not_lt_nil _)
  ·exactλh=>List.cons_lt_cons_iff.mpr (.inl h)
 by_cases h:122<c
 ·rw[hD (this.mpr h),hL (by omega)];rfl
 ·rw[hL (λz=>h (this.mp z)),hD (by omega)];rfl
def Df:D->Bool
 | .str x=>(cs x).all ah
 | _=>false
theorem oy(x:Str):(oW x).all Df=(cs x).all ah:=by
 unfold oW;rw[List.all_map];congr 1
 funext c
 show([c]:GL).all ah=_;simp
theorem sG(ds:List D)(Q:D->Prop)(h:D2 ds Q):nL (EP Q) (j3 2 ds):=by
 obtain⟨d,rfl,l,q⟩:=h;cases d<;>first | (simp[kn] at l;done) | (obtain⟨_,rfl⟩:=A0 l) | skip
 case str x=>
  have E:x.length<=100000:=by simpa[kn] using l
  have q:Q (.bl (decide (1<=x.length)&&decide (x.length<=8)&&(cs x).all ah)):=q
  have b:(decide (1<=x.length)&&decide (x.length<=8))=true->fM (EP Q) [some (.str x),none]:=λe=>by
   rw[e,nv] at q;walk_at "r";refine K8 Df (λo=>∃v,o=[some (.str x),v]) ⟨none,rfl⟩ ?_ (λe _=>?_) (λe u hw=>?_)
   ·rintro d hd o ⟨v,rfl⟩ N j i;obtain⟨c,G,rfl⟩:=List.mem_map.mp hd
    have B:Df (.str ⟨#[c]⟩)=(decide (97<=c)&&decide (c<=122)):=by
     show([c]:GL).all ah=_;simp[ah]
    rw[B] at j i;have p:=qR (c:=c);have C:=tF (c:=c);walk_at "r";refine⟨λz=>?_,λz=>?_⟩
    ·rw[p] at z;rw[z,nv] at j i;walk_at "r";rw[C];refine⟨λy=>?_,λy=>?_⟩
     ·exact i (by simpa using y) []
     ·exact j (by simpa using y) _ ⟨_,rfl⟩
    ·rw[p] at z;rw[z,wl] at j i;walk_at "r";exact i rfl []
   ·rw[oy] at e;rw[e] at q;exact q
   ·rw[oy] at e;rw[e] at q;exact q
  have a:decide ((1:Int)<=(x.length:Int))=decide (1<=x.length):=by
   by_cases h:1<=x.length
   ·rw[hD h,hD (by omega)]
   ·rw[hL h,hL (by omega)]
  have g:decide ((x.length:Int)<=8)=decide (x.length<=8):=by
   by_cases h:x.length<=8
   ·rw[hD h,hD (by omega)]
   ·rw[hL h,hL (by omega)]
  walk_at "r";refine⟨sz (by omega),?_⟩;refine⟨λe=>?_,λe=>?_⟩
  ·rw[a] at e;walk_at "r";rw[g];refine⟨λz=>?_,λz=>b ?_⟩
   ·have z:decide (x.length<=8)=false:=by simpa using z
    rw[z] at q;have q:Q (.bl false):=by simpa using q
    exact q
   ·have z:decide (x.length<=8)=true:=by simpa using z
    rw[e,z];rfl
  ·rw[a] at e;walk_at "r";rw[e] at q;exact q
 all_goals
  walk_at "r";exact q
theorem oV(ds:List D)(Q:D->Prop)(h:K0 ds Q):iD (EP Q) (j3 2 ds):=by
 obtain⟨a,b,c,d,rfl,q⟩:=h;walk_at "r";refine⟨λe=>?_,λe=>?_⟩
 ·walk_at "r";rw[e] at q;exact q
 ·rw[e] at q;exact q
theorem X5{xs:List D}{p:D->Bool}(h:xs.length=2):∃a b,xs=[a,b]/\xs.all p=(p a&&p b):=by
 match xs,h with
 | [a,b],_=>exact⟨a,b,rfl,by simp⟩
theorem M0{d:D}(h:y8 d=true):∃i,d=.int i/\0<=i/\i<10^60:=by
 cases d<;>first | (cases h;done) | skip
 rename_i i
 have h:(decide (0<=i)&&decide (i<10^60))=true:=h;rw[eH] at h;exact⟨i,rfl,n7 h.1,n7 h.2⟩
theorem vF{Q:Bool->Prop}{d:D}{a:Ev}{i:Nat}(c:a[i]?=some (some d))(b:kn d=true)(q:Q (!posB d)):U8 (t9 (u7 (j5 p8 (a8 (c7 i) c9)))) (uT (t8 (G5 false) (c7 i) (uC (.int 0)))) a Q:=by
 have var:∀K:D->Prop,K d->c7 i a K:=λK k=>by unfold c7;rw[c];exact k
 refine var _ ⟨d,rfl,b,?_⟩
 by_cases h:y8 d=true
 ·obtain⟨j,rfl,_,_⟩:=M0 h;rw[h]
  have e:posB (.int j)=!decide (j=0):=by
   show(y8 (.int j)&&!decide (j=0))=_;rw[h];rfl
  rw[e,Bool.not_not] at q;refine Br.no rfl (var _ ?_);exact q
 ·have h:y8 d=false:=by simpa using h
  rw[h];have e:posB d=false:=by show(y8 d&&_)=false;rw[h];rfl
  rw[e] at q;exact Br.yes rfl q
theorem sJ(ds:List D)(Q:D->Prop)(h:P1 ds Q):nE (EP Q) (j3 2 ds):=by
 obtain⟨d,rfl,i,q⟩:=h;cases d<;>first | (simp[kn] at i;done) | (obtain⟨_,rfl⟩:=A0 i) | skip
 case tup c=>
  have g:∀x∈c,kn x=true:=u4 (by simpa[kn] using i);walk_at "r";refine⟨λe=>?_,λe=>?_⟩
  ·have e:¬(c.length:Int)=2:=by simpa[ng] using e
   have z:J9 (.tup c)=false:=by
    match c,e with
    | [],_=>rfl
    | [_],_=>rfl
    | [_,_],e=>exact absurd rfl e
    | _::_::_::_,_=>rfl
   rw[z] at q;exact q
  ·have e:(c.length:Int)=2:=by simpa[ng] using e
   obtain⟨a,b,rfl,B⟩:=X5 (p:=posB) (by omega:c.length=2);have q:Q (.bl ([a,b].all posB)):=by rw[B];exact q
   walk_at "r";refine K8 posB (λj=>∃v,j=[some (.tup [a,b]),v]) ⟨none,rfl⟩ ?_ (λe _=>?_) (λe o hw=>?_)
   ·rintro d hd j ⟨v,rfl⟩ N u y;refine⟨rfl,?_⟩;show Q0 _ [some (.tup [a,b]),some d];unfold Q0 N8 tP;refine vF (d:=d) rfl (g d hd) ?_;cases l:posB d
    ·exact Br.yes rfl (y l [])
    ·exact Br.no rfl (u l _ ⟨_,rfl⟩)
   ·rw[e] at q;exact q
   ·rw[e] at q;exact q
 all_goals
  walk_at "r";exact q
theorem K7{d:D}(h:J9 d=true):∃a b:Int,d=.tup [.int a,.int b]/\num a/\num b/\a≠0/\b≠0:=by
 unfold J9 at h;split at h
 ·rename_i a b
  rw[eH] at h
  have p:∀{d:D},posB d=true->∃i,d=.int i/\num i/\i≠0:=λ{d} hd=>by
   unfold posB at hd;rw[eH] at hd;obtain⟨i,rfl,e,c⟩:=M0 hd.1;exact⟨i,rfl,⟨e,c⟩,by simpa using hd.2⟩
  obtain⟨i,rfl,n1,z1⟩:=p h.1;obtain⟨j,rfl,n2,z2⟩:=p h.2;exact⟨i,j,rfl,n1,n2,z1,z2⟩
 ·cases h
theorem bR{xs:List D}(h:xs.all J9=true):o6 xs=true:=x8 λx c=>by
 obtain⟨a,b,rfl,_⟩:=K7 (List.all_eq_true.mp h x c);rfl
def zj:D->Bool
 | .tup [a,b]=>pE a b
 | _=>false
theorem fA:∀xs:List D,M8 xs=(aA xs xs.tail).all zj
 | []=>rfl
 | [x]=>rfl
 | x::y::r=>by
  show(pE x y&&M8 (y::r))=_;rw[fA (y::r)];rfl
theorem BQ(xs:List D):cutD xs (some 1) none=xs.tail:=by
 unfold cutD HT.u6
 cases xs with
 | nil=>rfl
 | cons x r=>
  have h:¬((1:Int)<0):=by decide
  simp only[h,EV];simp
theorem oQ(ds:List D)(Q:D->Prop)(h:K6 ds Q):jB (EP Q) (j3 3 ds):=by
 obtain⟨d,rfl,J,q⟩:=h;cases d<;>first | (simp[kn] at J;done) | (obtain⟨_,rfl⟩:=A0 J) | skip
 case tup g=>
  have I:∀x∈g,kn x=true:=u4 (by simpa[kn] using J);have q:Q (.bl (decide (1<=g.length)&&decide (g.length<=5)&&g.all J9&&M8 g)):=q
  have two:g.all J9=true->Q (.bl (M8 g))->∀o:Option D,dA (EP Q) [some (.tup g),o,none]:=λB j o=>by
   refine⟨bR B,g,cutD g (some 1) none,rfl,rfl,bR B,?_,?_⟩
   ·rw[BQ]
    exact x8 λx O=>by
     obtain⟨a,b,rfl,_⟩:=K7 (List.all_eq_true.mp B x (List.mem_of_mem_tail O));rfl
   ·rw[BQ];rw[fA] at j;refine K8 zj (λp=>∃o M,p=[some (.tup g),o,M]) ⟨o,none,rfl⟩ ?_ (λe _=>?_) (λe H hw=>?_)
    ·rintro d hd p ⟨o,M,rfl⟩ N E G;obtain⟨i,R⟩:=tL hd;obtain⟨x,y,ex,S,rfl⟩:=cW R;obtain⟨a,b,rfl,_⟩:=K7 (List.all_eq_true.mp B x (nb ex));obtain⟨c,d,rfl,_⟩:=K7 (List.all_eq_true.mp B y (List.mem_of_mem_tail (nb S)));have T:zj (.tup [.tup [.int a,.int b],.tup [.int c,.int d]])=(decide (a<c)&&decide (d<b)):=rfl;rw[T] at E G;walk_at "r";refine⟨a,b,c,d,rfl,?_⟩;cases C:(decide (a<c)&&decide (d<b))
     ·exact Br.yes rfl (G C [])
     ·exact Br.no rfl (E C _ ⟨_,_,rfl⟩)
    ·rw[e] at j;exact j
    ·rw[e] at j;exact j
  have one:Q (.bl (g.all J9&&M8 g))->cb (EP Q) [some (.tup g),none,none]:=λj=>by
   walk_at "r";refine K8 J9 (λp=>∃v,p=[some (.tup g),v,none]) ⟨none,rfl⟩ ?_ (λe _=>?_) (λe H hw=>?_)
   ·rintro d hd p ⟨v,rfl⟩ N E G;walk_at "r";refine⟨I d hd,?_⟩;cases C:J9 d
    ·exact Br.yes rfl (G C [])
    ·exact Br.no rfl (E C _ ⟨_,rfl⟩)
   ·rw[e] at j;exact j
   ·obtain⟨v,rfl⟩:=hw;rw[e] at j;exact two e j v
  have l:decide ((1:Int)<=(g.length:Int))=decide (1<=g.length):=by
   by_cases h:1<=g.length
   ·rw[hD h,hD (by omega)]
   ·rw[hL h,hL (by omega)]
  have u:decide ((g.length:Int)<=5)=decide (g.length<=5):=by
   by_cases h:g.length<=5
   ·rw[hD h,hD (by omega)]
   ·rw[hL h,hL (by omega)]
  walk_at "r";refine⟨λe=>?_,λe=>?_⟩
  ·rw[l] at e;rw[e,nv] at q;walk_at "r";rw[u];refine⟨λz=>?_,λz=>one ?_⟩
   ·have z:decide (g.length<=5)=false:=by simpa using z
    rw[z] at q;exact q
   ·have z:decide (g.length<=5)=true:=by simpa using z
    rw[z,nv] at q;exact q
  ·rw[l] at e;rw[e] at q;walk_at "r";exact q
 all_goals
  walk_at "r";exact q
theorem wx(xs:List D):(∃a b,xs=[a,b])\/(¬(xs.length:Int)=2/\dQ (.tup xs)=false/\J9 (.tup xs)=false):=by
 match xs with
 | []=>exact .inr ⟨by simp,rfl,rfl⟩
 | [_]=>exact .inr ⟨by simp,rfl,rfl⟩
 | [a,b]=>exact .inl ⟨a,b,rfl⟩
 | _::_::_::r=>exact .inr ⟨by simp only[na];omega,rfl,rfl⟩
theorem gZ(xs:List D):(∃a b c d e,xs=[a,b,c,d,e])\/(¬(xs.length:Int)=5/\E8 (.tup xs)=false/\R0 (.tup xs)=false):=by
 match xs with
 | []=>exact .inr ⟨by simp,rfl,rfl⟩
 | [_]=>exact .inr ⟨by simp,rfl,rfl⟩
 | [_,_]=>exact .inr ⟨by simp,rfl,rfl⟩
 | [_,_,_]=>exact .inr ⟨by simp,rfl,rfl⟩
 | [_,_,_,_]=>exact .inr ⟨by simp,rfl,rfl⟩
 | [a,b,c,d,e]=>exact .inl ⟨a,b,c,d,e,rfl⟩
 | _::_::_::_::_::_::r=>exact .inr ⟨by simp only[na];omega,rfl,rfl⟩
theorem ll(ds:List D)(Q:D->Prop)(h:D0 ds Q):fE (EP Q) (j3 4 ds):=by
 obtain⟨d,rfl,y,q⟩:=h;cases d<;>first | (simp[kn] at y;done) | (obtain⟨_,rfl⟩:=A0 y) | skip
 case tup c=>
  have v:∀x∈c,kn x=true:=u4 (by simpa[kn] using y);have q:Q (.bl (decide (c.length<=4)&&c.all dQ)):=q
  have one:Q (.bl (c.all dQ))->aO (EP Q) [some (.tup c),none,none,none]:=λu=>by
   walk_at "r";refine K8 dQ (λB=>∃H G E,B=[some (.tup c),H,G,E]) ⟨none,none,none,rfl⟩ ?_ (λe _=>?_) (λe M hw=>?_)
   ·rintro d hd B ⟨H,G,E,rfl⟩ N p g;have i:=v d hd;cases d<;>first | (simp[kn] at i;done) | (obtain⟨_,rfl⟩:=A0 i) | skip
    case tup C=>
     have o:∀x∈C,kn x=true:=u4 (by simpa[kn] using i);rcases wx C with⟨a,b,rfl⟩ | ⟨ne,z,_⟩
     ·have O:dQ (.tup [a,b])=(posB a&&y8 b):=rfl;rw[O] at p g;walk_at "r";refine⟨o a (by simp),?_⟩
      by_cases h:y8 a=true
      ·obtain⟨j,rfl,_,_⟩:=M0 h
       have e:posB (.int j)=!decide (j=0):=by
        show(y8 (.int j)&&!decide (j=0))=_;rw[h];rfl
       rw[e] at p g;rw[h];refine Br.no rfl ?_;show Br (decide (j=0)) _ _;cases I:decide (j=0)
       ·rw[I] at p g;refine Br.no rfl ⟨b,rfl,o b (by simp),?_⟩;cases J:y8 b
        ·rw[J] at g;exact Br.yes rfl (g rfl [])
        ·rw[J] at p;exact Br.no rfl (p rfl _ ⟨_,_,_,rfl⟩)
       ·rw[I] at g;exact Br.yes rfl (Br.yes rfl (g rfl []))
      ·have h:y8 a=false:=by simpa using h
       have e:posB a=false:=by show(y8 a&&_)=false;rw[h];rfl
       rw[e] at g;rw[h];exact Br.yes rfl (Br.yes rfl (g rfl []))
     ·walk_at "r";refine⟨λe=>g z [],λe=>?_⟩;exact absurd (by simpa[ng] using e) ne
    all_goals
     walk_at "r";exact g rfl []
   ·rw[e] at u;exact u
   ·rw[e] at u;exact u
  have l:decide ((4:Int)<(c.length:Int))=!decide (c.length<=4):=by
   by_cases h:c.length<=4
   ·rw[hD h,hL (by omega)];rfl
   ·rw[hL h,hD (by omega)];rfl
  walk_at "r";rw[l];refine⟨λe=>?_,λe=>one ?_⟩
  ·have e:decide (c.length<=4)=false:=by simpa using e
   rw[e] at q;exact q
  ·have e:decide (c.length<=4)=true:=by simpa using e
   rw[e,nv] at q;exact q
 all_goals
  walk_at "r";exact q
theorem pO(ds:List D)(Q:D->Prop)(h:K4 ds Q):jr (EP Q) (j3 6 ds):=by
 obtain⟨d,rfl,j,q⟩:=h;cases d<;>first | (simp[kn] at j;done) | (obtain⟨_,rfl⟩:=A0 j) | skip
 case tup l=>
  have a:∀x∈l,kn x=true:=u4 (by simpa[kn] using j);rcases gZ l with⟨n,u,c,de,wa,rfl⟩ | ⟨ne,z,_⟩
  ·have q:Q (.bl (l3 n&&(N6 u||l3 u)&&A6 c&&y8 de&&y8 wa)):=q
   have i:Q (.bl (A6 c&&y8 de&&y8 wa))->bY (EP Q) [some (.tup [n,u,c,de,wa]),some n,some u,some c,some de,some wa]:=λq=>by
    walk_at "r";refine⟨a c (by simp),?_⟩;cases g:A6 c
    ·rw[g] at q;exact Br.no rfl q
    ·rw[g,nv] at q;refine Br.yes rfl ⟨de,rfl,a de (by simp),?_⟩;cases b:y8 de
     ·rw[b] at q;exact Br.no rfl q
     ·rw[b,nv] at q;exact Br.yes rfl ⟨wa,rfl,a wa (by simp),q⟩
   walk_at "r";refine⟨a n (by simp),?_⟩;cases g:l3 n
   ·rw[g] at q;refine Br.yes rfl ?_;walk_at "r";exact q
   ·rw[g,nv] at q;refine Br.no rfl ?_;walk_at "w";cases b:N6 u
    ·refine Br.no rfl ?_;rw[b,Bool.false_or] at q;refine⟨u,rfl,a u (by simp),?_⟩;cases o:l3 u
     ·rw[o] at q;exact Br.yes rfl q
     ·rw[o,nv] at q;exact Br.no rfl (i q)
    ·refine Br.yes rfl ?_;rw[b,Bool.true_or,nv] at q;exact Br.no rfl (i q)
  ·rw[z] at q;walk_at "r";refine⟨λe=>q,λe=>?_⟩;exact absurd (by simpa[ng] using e) ne
 all_goals
  walk_at "r";exact q
theorem rP(ds:List D)(Q:D->Prop)(h:O7 ds Q):mT (EP Q) (j3 6 ds):=by
 obtain⟨d,rfl,i,q⟩:=h;cases d<;>first | (simp[kn] at i;done) | (obtain⟨_,rfl⟩:=A0 i) | skip
 case tup l=>
  have a:∀x∈l,kn x=true:=u4 (by simpa[kn] using i);rcases gZ l with⟨n,u,c,la,on,rfl⟩ | ⟨ne,_,z⟩
  ·have q:Q (.bl (l3 n&&l3 u&&A5 c&&y8 la&&(E4 on true||E4 on false))):=q
   have j:Q (.bl (A5 c&&y8 la&&(E4 on true||E4 on false)))->eV (EP Q) [some (.tup [n,u,c,la,on]),some n,some u,some c,some la,some on]:=λq=>by
    walk_at "r";refine⟨a c (by simp),?_⟩;cases g:A5 c
    ·rw[g] at q;exact Br.no rfl q
    ·rw[g,nv] at q;refine Br.yes rfl ⟨la,rfl,a la (by simp),?_⟩;cases o:y8 la
     ·rw[o] at q;exact Br.no rfl q
     ·rw[o,nv] at q;refine Br.yes rfl ?_;show Br (E4 on true) _ _;cases b:E4 on true
      ·rw[b,Bool.false_or] at q;exact Br.no rfl q
      ·rw[b,Bool.true_or] at q;exact Br.yes rfl q
   walk_at "r";refine⟨a n (by simp),?_⟩;cases g:l3 n
   ·rw[g] at q;refine Br.yes rfl ?_;walk_at "r";exact q
   ·rw[g,nv] at q;refine Br.no rfl ⟨u,rfl,a u (by simp),?_⟩;cases b:l3 u
    ·rw[b] at q;exact Br.yes rfl q
    ·rw[b,nv] at q;exact Br.no rfl (j q)
  ·rw[z] at q;walk_at "r";refine⟨λe=>q,λe=>?_⟩;exact absurd (by simpa[ng] using e) ne
 all_goals
  walk_at "r";exact q
theorem U3(x:Str):∀a:GH,inD (.str x) (a.map D.str)=decide (x∈a)
 | []=>rfl
 | y::a=>by
  have b:=U3 x a;unfold inD at b ⊢;rw[nj,v3,b];show(decide (y=x)||decide (x∈a))=_
  by_cases h:y=x
  ·subst h;simp
  ·have c:¬x=y:=λz=>h z.symm;simp[h,c]
theorem J6:∀a:GH,(a.map D.str).all R4=true
 | []=>rfl
 | y::a=>by
  rw[nj,v4,J6 a];rfl
theorem pf(ds:List D)(Q:D->Prop)(h:w6 ds Q):jd (EP Q) (j3 1 ds):=by
 obtain⟨d,b,rfl,g,o,i,q⟩:=h
 have body:b.length<sizeLine/\mh (g1 0) oP (gv (o8 (c7 0) (uC (.int 0)))) (aY [none] [some d]) b [] λds=>(EP Q).rt (.lst ds) [some d]:=by
  refine⟨hU (by omega),?_⟩;have e:b=b.map id:=by simp
  rw[e];refine fS (F:=id) (f:=λd=>.str (D9 d)) b [] (λa j K R c=>?_) ?_
  ·obtain⟨x,r,rfl⟩:=i a j;walk_at "r";exact c
  ·have l:b.map (λd=>D.str (D9 d))=(b.map D9).map D.str:=by rw[AC];rfl
   rw[FX,l];exact q
 rcases g with rfl | rfl
 ·exact body
 ·exact body
theorem oa:∀{gs:List Gd} {g:Gd},(gs.map (·.nm)).Nodup->g∈gs->gs.find? (λh=>decide (h.nm=g.nm))=some g
 | [],_,_,h=>by cases h
 | a::i,g,h,b=>by
  rw[nj] at h;obtain⟨d,c⟩:=List.nodup_cons.mp h;rw[ry];rcases List.mem_cons.mp b with e | e
  ·subst e;rw[hD rfl]
  ·have ne:¬a.nm=g.nm:=λz=>d (z▸List.mem_map.mpr ⟨g,e,rfl⟩);rw[hL ne];exact oa c e
theorem mB{gs:List Gd}{g:Gd}(h:(gs.map (·.nm)).Nodup)(a:g∈gs):fT gs g.nm=g.un:=by
 unfold fT;rw[oa h a]
def xD(gs:List Gd)(dp:Nat->Nat)(n:Nat)(y:Str):Prop:=∃(j:Nat) (g:Gd),gs[j]?=some g/\g.nm=y/\1<=dp j/\dp j<=n
def wM(gs:List Gd)(dp:Nat->Nat):Prop:=∀i g,gs[i]?=some g->1<=dp i/\dp i<=8/\(g.un=none->dp i=1)/\∀y,g.un=some y->∃j a,j<i/\gs[j]?=some a/\a.nm=y/\dp i=dp j+1
theorem xD.next{gs:List Gd}{dp:Nat->Nat}{n:Nat}{y z:Str}(h:wM gs dp)(o:(gs.map (·.nm)).Nodup)(d:xD gs dp (n+1) y)(e:fT gs y=some z):xD gs dp n z:=by
 obtain⟨j,g,c,rfl,r,q⟩:=d;rw[mB o (nb c)] at e;obtain⟨_,_,_,a⟩:=h j g c;obtain⟨b,i,_,l,p,u⟩:=a z e;exact⟨b,i,l,p,(h b i l).1,by omega⟩
theorem wo(ds:List D)(Q:D->Prop)(h:V7 ds Q):tQ (EP Q) (j3 5 ds):=by
 obtain⟨d,gs,x,rfl,hs,O,⟨g0,M,e0⟩,q⟩:=h;obtain⟨dp,B⟩:=O.un;have B:wM gs dp:=B;have hl:=O.len;have I:=O.nd
 have l:∀c:List (Key×D),(∀g∈gs,u5 c (.inr g.nm)=some (uD g.un))->iF (EP Q) [some d,some (.str x),some (.dic c),none,none]:=λc hv=>by
  walk_at "r";refine⟨λm T=>∃(b:GH) (a:Option Str) (E:Option D),T=[some d,some (uD a),some (.dic c),E,some (Cz b)]/\b++ups gs m a=ups gs 8 (some x)/\b.length<=8-m/\m<=8/\(∀y,a=some y->xD gs dp m y),⟨8,[],some x,none,rfl,rfl,vv _,hI _,λy hy=>?_⟩,?_⟩
  ·cases hy;obtain⟨j,U⟩:=tL M;obtain⟨a1,a2,_⟩:=B j g0 U;exact⟨j,g0,U,e0,a1,a2⟩
  ·rintro m T ⟨b,a,E,rfl,i,ha,hm,hd⟩
   cases a with
   | none=>
    walk_at "r";have e:ups gs m none=[]:=by cases m<;>rfl
    rw[e,n4] at i;rw[<-i] at q;exact q
   | some y=>
    have S:=hd y rfl
    have J:∃G,m=G+1:=by
     obtain⟨_,_,_,_,Y,X⟩:=S;exact⟨m-1,by omega⟩
    obtain⟨G,rfl⟩:=J
    have C:∃g∈gs,g.nm=y:=by
     obtain⟨j,g,Y,X,_⟩:=S;exact⟨g,nb Y,X⟩
    obtain⟨g,p,rfl⟩:=C;have o:=mB I p;walk_at "r";refine⟨by rw[mo];exact hU (by omega),?_⟩;refine⟨_,_,rfl,hv g p,rfl,?_⟩;refine⟨G,Nat.lt_succ_self _,b++[g.nm],g.un,E,?_,?_,?_,by omega,λz hz=>S.next B I (o.trans hz)⟩
    ·unfold Cz;rw[t7];rfl
    ·rw[AT,<-o];exact i
    ·rw[nT,o0];omega
 rcases hs with rfl | rfl
 all_goals
  refine⟨by rw[mo];exact hU (by omega),?_⟩;refine uw (k:=λg:Gd=>.inr g.nm) (v:=λg:Gd=>uD g.un) gs [] (λg C K R H=>?_) ⟨rfl,?_⟩
  ·obtain⟨n,u,cv,de,wa⟩:=g;have H:K (.inr n) (uD u):=H;have iU:y4 (uD u)=true:=tj u;walk_at "r";exact⟨iU,H⟩
  ·refine l _ λg C=>iV (k:=λg:Gd=>(.inr g.nm:Key)) (v:=λg:Gd=>uD g.un) gs [] ?_ g C;have e:gs.map (λg:Gd=>(.inr g.nm:Key))=(gs.map (·.nm)).map (λy=>(.inr y:Key)):=by rw[AC];rfl
   rw[e,List.Nodup,List.pairwise_map];exact I.imp λh z=>h (Sum.inr.inj z)
theorem xY(gs:List Gd):(gs.map gD).map D9=gs.map (·.nm):=by rw[AC];rfl
theorem ia(gs:List Gd):∀x∈gs.map gD,mn x:=λx a=>by
 obtain⟨g,_,rfl⟩:=List.mem_map.mp a;exact⟨_,_,rfl⟩
theorem cH{d:D}(h:E8 d=true):∃(n:Str) (u:Option Str) (c de wa:D),d=.tup [.str n,uD u,c,de,wa]:=by
 unfold E8 at h;split at h
 ·rename_i n u c de wa
  simp only[eH,ws] at h;obtain⟨⟨⟨⟨b,a⟩,_⟩,_⟩,_⟩:=h;cases n<;>first | cases b | skip
  rcases a with a | a
  ·cases u<;>first | cases a | skip
   exact⟨_,none,_,_,_,rfl⟩
  ·cases u<;>first | cases a | skip
   exact⟨_,some _,_,_,_,rfl⟩
 ·cases h
theorem ai{d:D}(h:R0 d=true):∃(n a:Str) (c la on:D),d=.tup [.str n,.str a,c,la,on]:=by
 unfold R0 at h;split at h
 ·rename_i n u c de wa
  simp only[eH,ws] at h;obtain⟨⟨⟨⟨e,b⟩,_⟩,_⟩,_⟩:=h;cases n<;>first | cases e | skip
  cases u<;>first | cases b | skip
  exact⟨_,_,_,_,_,rfl⟩
 ·cases h
theorem jV(ds:List D)(Q:D->Prop)(h:A8 ds Q):ck (EP Q) (j3 3 ds):=by
 obtain⟨g,gs,d,rfl,j,o,p,q⟩:=h;have z:=o.len;have l:(gs.map gD).length<=100:=by rw[mo];omega
 refine⟨d,rfl,p,?_⟩
 by_cases a:E8 d=true
 ·obtain⟨n,u,c,de,wa,rfl⟩:=cH a;rw[a];unfold B9 at q;rw[a,nv] at q
  have q:Q (.bl (!decide (n∈gs.map (·.nm))&&(match u with | some y=>decide (y∈gs.map (·.nm))&&decide ((ups gs 8 (some y)).length<=7) | none=>true))):=by
   cases u with
   | none=>
    have q:Q (.bl (!decide (n∈gs.map (·.nm)))):=q;rw[Bool.and_true];exact q
   | some y=>
    have q:Q (.bl (!decide (n∈gs.map (·.nm))&&decide (y∈gs.map (·.nm))&&decide ((ups gs 8 (some y)).length<=7))):=q;rw[FC] at q;exact q
  refine Br.no rfl ?_;refine⟨_,ee _ _,?_⟩;refine⟨g,gs.map gD,rfl,j,l,ia gs,?_⟩;rw[xY];refine⟨rfl,_,rfl,J6 _,?_⟩;rw[U3];show Br (decide (n∈gs.map (·.nm))) _ _
  by_cases b:n∈gs.map (·.nm)
  ·rw[hD b];refine Br.yes rfl ?_;rw[hD b] at q;exact q
  ·rw[hL b];refine Br.no rfl ?_;rw[hL b] at q;refine⟨_,iJ _ _ _,rfl,?_⟩
   cases u with
   | none=>
    walk_at "r";exact q
   | some y=>
    have q:Q (.bl (decide (y∈gs.map (·.nm))&&decide ((ups gs 8 (some y)).length<=7))):=q;refine Br.no rfl ?_;refine⟨g,gs.map gD,rfl,j,l,ia gs,?_⟩;rw[xY];refine⟨rfl,_,rfl,J6 _,?_⟩;have v:inD (uD (some y)) (List.map D.str (List.map (λx=>x.nm) gs))=decide (y∈gs.map (·.nm)):=U3 y _;rw[v];show Br (decide (y∈gs.map (·.nm))) _ _
    by_cases i:y∈gs.map (·.nm)
    ·rw[hD i] at q ⊢;refine Br.yes rfl ⟨g,gs,y,rfl,j,o,by simpa using i,?_⟩;rw[nv] at q;show Q (.bl (decide (((ups gs 8 (some y)).map D.str).length<=(7:Int))))
     have e:decide ((((ups gs 8 (some y)).map D.str).length:Int)<=(7:Int))=decide ((ups gs 8 (some y)).length<=7):=by
      rw[mo]
      by_cases h:(ups gs 8 (some y)).length<=7
      ·rw[hD h,hD (by omega)]
      ·rw[hL h,hL (by omega)]
     rw[e];exact q
    ·rw[hL i] at q ⊢;exact Br.no rfl q
 ·have a:E8 d=false:=by simpa using a
  rw[a];unfold B9 at q;rw[a,wl] at q;exact Br.yes rfl (Br.yes rfl q)
theorem kR(ds:List D)(Q:D->Prop)(h:C7 ds Q):eW (EP Q) (j3 3 ds):=by
 obtain⟨i,b,u,g,d,rfl,l,x,p,y,j,v,z,q⟩:=h;refine⟨d,rfl,z,?_⟩
 by_cases e:R0 d=true
 ·obtain⟨n,a,c,la,on,rfl⟩:=ai e;rw[e];unfold G4 at q;rw[e,nv] at q;have q:Q (.bl (decide (a∈b.map D9)&&!decide (n∈b.map D9)&&!decide (n∈g.map D9))):=q;refine Br.no rfl ?_;refine⟨_,iJ _ _ _,?_⟩;refine⟨i,b,rfl,l,p,j,?_⟩;refine⟨rfl,_,rfl,J6 _,?_⟩;rw[U3];show Br (!decide (a∈b.map D9)) _ _
  by_cases r:a∈b.map D9
  ·rw[hD r] at q ⊢;refine Br.no rfl ?_;rw[nv] at q;refine⟨_,ee _ _,?_⟩;refine⟨i,b,rfl,l,p,j,?_⟩;refine⟨rfl,_,rfl,J6 _,?_⟩;rw[U3];show Br (!decide (n∈b.map D9)) _ _
   by_cases o:n∈b.map D9
   ·rw[hD o] at q ⊢;exact Br.no rfl q
   ·rw[hL o] at q ⊢;refine Br.yes rfl ⟨_,ee _ _,?_⟩;refine⟨u,g,rfl,x,y,v,?_⟩;refine⟨rfl,_,rfl,J6 _,?_⟩;rw[U3];exact q
  ·rw[hL r] at q ⊢;exact Br.yes rfl q
 ·have e:R0 d=false:=by simpa using e
  rw[e];unfold G4 at q;rw[e,wl] at q;exact Br.yes rfl (Br.yes rfl q)
theorem rN(ps:List Pr):kn (lb ps)=true:=by
 show kj (ps.map pr)=true
 induction ps with
 | nil=>rfl
 | cons p ps a=>show(true&&(true&&true)&&kj (ps.map pr))=true;rw[a];rfl
theorem mO{x:Str}(h:nm 8 x):decide (x.length<=100000)=true:=by
 have:=va h;exact hD (by omega)
theorem GT.kn{g:Gd}(h:GT g):kn (gD g)=true:=by
 obtain⟨x,u,cv,de,wa⟩:=g;show(decide (x.length<=100000)&&(My.kn (uD u)&&(My.kn (lb cv)&&(true&&(true&&true)))))=true;rw[mO h.nm,rN]
 cases u with
 | none=>rfl
 | some y=>show(true&&(decide (y.length<=100000)&&(true&&true)))=true;rw[mO (h.un y rfl)];rfl
theorem LT.kn{g:Ld}(h:LT g):kn (lD g)=true:=by
 obtain⟨x,u,cv,de,wa⟩:=g;show(decide (x.length<=100000)&&(decide (u.length<=100000)&&(My.kn (lb cv)&&(true&&(true&&true)))))=true;rw[mO h.nm,mO h.at_,rN];rfl
theorem w5:∀(xs:List D) (k:Nat),(bp k xs).length=xs.length
 | [],_=>rfl
 | x::xs,k=>by show(bp (k+1) xs).length+1=xs.length+1;rw[w5 xs]
local macro_rules | `(tactic| walk_at "n")=>`(tactic| (try dsimp only[j3,List.length,List.replicate,List.map,List.set,List.append,List.cons_append,List.nil_append,Nat.reduceAdd,Nat.reduceSub]))
def sH:D->Bool
 | .tup _=>true
 | _=>false
theorem mU{d:D}(h:sH d=true):∃xs,d=.tup xs:=by
 cases d<;>first | exact⟨_,rfl⟩ | cases h
theorem jS(ds:List D)(Q:D->Prop)(h:A7 ds Q):bL (EP Q) (j3 2 ds):=by
 obtain⟨d,rfl,j,q⟩:=h;cases d<;>first | (simp[kn] at j;done) | (obtain⟨_,rfl⟩:=A0 j) | skip
 case tup c=>
  have i:∀x∈c,kn x=true:=u4 (by simpa[kn] using j);walk_at "r";refine⟨λe=>?_,λe=>?_⟩
  ·have e:¬(c.length:Int)=2:=by simpa[ng] using e
   have z:U7 (.tup c)=false:=by
    match c,e with
    | [],_=>rfl
    | [a],_=>cases a<;>rfl
    | [_,_],e=>exact absurd rfl e
    | a::b::_::_,_=>cases a<;>first | rfl | (cases b<;>rfl)
   rw[z] at q;exact q
  ·have e:(c.length:Int)=2:=by simpa[ng] using e
   obtain⟨a,b,rfl,u⟩:=X5 (p:=sH) (by omega:c.length=2);walk_at "r";refine K8 sH (λo=>∃v,o=[some (.tup [a,b]),v]) ⟨none,rfl⟩ ?_ (λe _=>?_) (λe B hw=>?_)
   ·rintro d hd o ⟨v,rfl⟩ N C E;have g:=i d hd;cases d<;>first | (simp[kn] at g;done) | (obtain⟨_,rfl⟩:=A0 g) | skip
    case tup J=>
     walk_at "r";exact C rfl _ ⟨_,rfl⟩
    all_goals
     walk_at "r";exact E rfl []
   ·have z:U7 (.tup [a,b])=false:=by
     rw[u] at e;cases a<;>cases b<;>first | rfl | cases e
    rw[z] at q;exact q
   ·obtain⟨v,rfl⟩:=hw;rw[u,eH] at e;obtain⟨I,H⟩:=e;obtain⟨gs,rfl⟩:=mU I;obtain⟨ls,rfl⟩:=mU H;have q:Q (.bl (decide (1<=gs.length)&&decide (gs.length<=16)&&decide (ls.length<=24))):=q;walk_at "r"
    by_cases l:1<=gs.length
    ·refine Br.yes (hD (by omega)) ?_;walk_at "r"
     by_cases y:gs.length<=16
     ·refine⟨λ_=>?_,λe=>absurd (vr e) (by omega)⟩;walk_at "r";have G:decide ((ls.length:Int)<=24)=decide (ls.length<=24):=decide_eq_decide.mpr (by omega);show Q (.bl (decide ((ls.length:Int)<=24)));rw[G];rw[hD l,hD y] at q;exact q
     ·refine⟨λe=>absurd (n7 e) (by omega),λ_=>?_⟩;rw[hD l,hL y] at q;exact q
    ·refine Br.no (hL (by omega)) ?_;rw[hL l] at q;exact Br.no rfl q
 all_goals
  walk_at "r";exact q
theorem cw{d:D}(h:U7 d=false):V4 d=some (("board" : Str),(0:Int)):=by
 unfold V4;split
 ·rw[h];rfl
 ·rfl
theorem oz{d:D}(h:U7 d=true):∃gs ls,d=.tup [.tup gs,.tup ls]/\gs.length<=16/\ls.length<=24:=by
 unfold U7 at h;split at h
 ·rw[eH,eH] at h;exact⟨_,_,rfl,n7 h.1.2,n7 h.2⟩
 ·cases h
theorem yh(xs:List D)(i:Nat)(h:i<=xs.length):cutD xs none (some (i:Int))=xs.take i:=by
 have a:HT.u6 xs.length xs.length (some (i:Int))=i:=by
  show(if (i:Int)<0 then((i:Int)+(xs.length:Int)).toNat else min (i:Int).toNat xs.length)=i;rw[ln (by omega)];show min i xs.length=i;omega
 unfold cutD;rw[a];simp[HT.u6]
theorem lS{p:D->Bool}(c:∀d,p d=true->∃a b:Int,d=.tup [.int a,.int b]):∀{xs:List D},xs.all p=true->xs=(xs.map CD).map pr
 | [],_=>rfl
 | x::xs,h=>by
  rw[v4,eH] at h;obtain⟨a,b,rfl⟩:=c x h.1;rw[nj,nj,<-lS c h.2];rfl
theorem xf(d:D)(h:dQ d=true):∃a b:Int,d=.tup [.int a,.int b]:=by
 unfold dQ at h;split at h
 ·rename_i a b
  rw[eH] at h;unfold posB at h;rw[eH] at h;obtain⟨i,rfl,_⟩:=M0 h.1.1;obtain⟨j,rfl,_⟩:=M0 h.2;exact⟨i,j,rfl⟩
 ·cases h
theorem vQ{xs e:GH}{x:D}(h:G4 xs e x=true):mn x/\y4 x=true:=by
 unfold G4 at h;rw[eH] at h;obtain⟨n,a,c,la,on,rfl⟩:=ai h.1;refine⟨⟨n,_,rfl⟩,?_⟩;have d:(l3 (.str n)&&l3 (.str a)&&A5 c&&y8 la&&(E4 on true||E4 on false))=true:=h.1;simp only[eH] at d;obtain⟨⟨⟨_,b⟩,l⟩,j⟩:=d;obtain⟨i,rfl,_⟩:=M0 l;unfold A5 at b;split at b
 ·rename_i g
  rw[eH] at b;rw[lS xf b.2];show(true&&(true&&(y4 (lb (g.map CD))&&(true&&(y4 on&&true)))))=true;rw[gC];cases on<;>first | rfl | (simp[E4] at j;done)
 ·cases b
theorem jZ{d:D}(h:E8 d=true):d=gD (dG d):=by
 obtain⟨n,u,c,de,wa,rfl⟩:=cH h;have o:(l3 (.str n)&&(N6 (uD u)||l3 (uD u))&&A6 c&&y8 de&&y8 wa)=true:=h;simp only[eH] at o;obtain⟨⟨⟨_,g⟩,q⟩,p⟩:=o;obtain⟨i,rfl,_⟩:=M0 q;obtain⟨j,rfl,_⟩:=M0 p;unfold A6 at g;split at g
 ·rename_i l
  simp only[eH] at g;have e:=lS (λd hd=>by obtain⟨a,b,e,_⟩:=K7 hd;exact⟨a,b,e⟩) g.1.2;have r:uD (Dk (uD u))=uD u:=by cases u<;>rfl
  show D.tup [.str n,uD u,.tup l,.int i,.int j]=D.tup [.str n,uD (Dk (uD u)),.tup ((l.map CD).map pr),.int i,.int j];rw[r,<-e]
 ·cases g
theorem rW{gs:List Gd}{dp:Nat->Nat}(h:wM gs dp)(b:(gs.map (·.nm)).Nodup):∀(n m j:Nat) (g:Gd),gs[j]?=some g->dp j=n->n<=m->(ups gs m (some g.nm)).length=n
 | 0,m,j,g,a,e,_=>by have:=(h j g a).1;omega
 | n+1,0,j,g,a,e,d=>by omega
 | n+1,m+1,j,g,a,e,d=>by
  have o:fT gs g.nm=g.un:=mB b (nb a);show(ups gs m (fT gs g.nm)).length+1=n+1;rw[o];obtain⟨_,_,t,u⟩:=h j g a
  cases c:g.un with
  | none=>
   have:=t c;have p:n=0:=by omega
   subst p;cases m<;>rfl
  | some y=>
   obtain⟨k,l,_,i,rfl,q⟩:=u y c;rw[rW h b n m k l i (by omega) (by omega)]
theorem nI{gs:List Gd}{g:Gd}{k:Nat}(C:W9 gs)(H:gs.length<16)(new:g.nm∉gs.map (·.nm)){dp:Nat->Nat}(hd:wM gs dp)(k1:1<=k)(r:k<=8)(t:g.un=none->k=1)(u:∀y,g.un=some y->∃j l,gs[j]?=some l/\l.nm=y/\k=dp j+1):W9 (gs++[g]):=by
 refine⟨by simp;omega,?_,λi=>if i<gs.length then dp i else k,λi E o=>?_⟩
 ·rw[t7,List.nodup_append];refine⟨C.nd,by simp,λa z b x e=>?_⟩;have:b=g.nm:=by simpa using x
  subst e;exact new (this▸z)
 ·by_cases h:i<gs.length
  ·rw[pp h] at o;obtain⟨a,b,c,d⟩:=hd i E o;dsimp only;rw[l7 h];refine⟨a,b,c,λy q=>?_⟩;obtain⟨j,l,v,e,n,f⟩:=d y q;exact⟨j,l,v,by rw[pp (by omega)];exact e,n,by rw[l7 (by omega)];exact f⟩
  ·have B:=(List.getElem?_eq_some_iff.mp o).1;rw[nT,o0] at B;have G:i=gs.length:=by omega
   subst G;rw[sK (hI _),Nat.sub_self] at o;cases o;dsimp only;rw[ln h];refine⟨k1,r,t,λy q=>?_⟩;obtain⟨j,l,e,n,f⟩:=u y q;have p:=(List.getElem?_eq_some_iff.mp e).1;exact⟨j,l,p,by rw[pp p];exact e,n,by rw[l7 p];exact f⟩
theorem jU{gs:List Gd}{x:D}(C:B9 gs x=true)(i:W9 gs)(r:gs.length<16):x=gD (dG x)/\W9 (gs++[dG x]):=by
 have d:=C;unfold B9 at d;rw[eH] at d;have ex:=jZ d.1;refine⟨ex,?_⟩;generalize dG x=g at ex;subst ex;have c:=d.2;obtain⟨dp,hd⟩:=i.un;obtain⟨n,u,cv,de,wa⟩:=g
 cases u with
 | none=>
  have c:(!decide (n∈gs.map (·.nm)))=true:=c;exact nI (k:=1) i r (by simpa using c) hd (hI _) (by decide) (λ_=>rfl) (λy l=>by cases l)
 | some y=>
  have c:(!decide (n∈gs.map (·.nm))&&decide (y∈gs.map (·.nm))&&decide ((ups gs 8 (some y)).length<=7))=true:=c;rw[eH,eH] at c;obtain⟨⟨h,p⟩,v⟩:=c;have h:n∉gs.map (·.nm):=λz=>by rw[hD z] at h;cases h
  have p:=n7 p;have v:=n7 v;obtain⟨q,B,rfl⟩:=List.mem_map.mp p;obtain⟨j,o⟩:=tL B;obtain⟨a,b,_,_⟩:=hd j q o;have e:=rW hd i.nd (dp j) 8 j q o rfl b;exact nI (k:=dp j+1) i r h hd (by omega) (by omega) (λz=>by cases z) (λy l=>by cases l;exact⟨j,q,o,rfl,rfl⟩)
theorem sW(ds:List D)(Q:D->Prop)(W:Str->List V->Prop)(h:M3 ds Q W):nh W (EP Q) (j3 6 ds):=by
 obtain⟨d,rfl,E,q⟩:=h;refine⟨d,rfl,E,?_⟩
 cases J:U7 d with
 | false=>
  rw[cw J] at q;exact Br.yes rfl ⟨rfl,rfl,rfl,q⟩
 | true=>
  refine Br.no rfl ?_;obtain⟨a,b,rfl,hx,p⟩:=oz J;have E:(kj a&&(kj b&&true))=true:=E;rw[eH,eH] at E;have X:=u4 E.1;have U:=u4 E.2.1
  have q:(match (match G6 [] a with
   | some i=>some (("guard" : Str),(i:Int))
   | none=>match K5 (a.map D9) [] b with
    | some i=>some ("load",(i:Int))
    | none=>none) with
   | none=>Q (.bl true)
   | some (w,i)=>W "NoBoard" [.str w,.int i]):=by
   have e:V4 (.tup [.tup a,.tup b])=(match G6 [] a with
    | some i=>some (("guard" : Str),(i:Int))
    | none=>match K5 (a.map D9) [] b with
     | some i=>some ("load",(i:Int))
     | none=>none):=by
    show(bif U7 _ then _ else _)=_;rw[J];rfl
   rw[e] at q;exact q
  walk_at "r";have g0:W9 []:=⟨vv _,lc,λ_=>1,λi g Y=>by cases Y⟩
  refine .of ⟨λi u=>∃gs o l,u=[some (.tup [.tup a,.tup b]),some (.tup a),some (.tup b),o,l,none]/\gs.length=i/\a.take i=gs.map gD/\W9 gs/\G6 gs (a.drop i)=G6 [] a,⟨[],none,none,rfl,rfl,rfl,g0,rfl⟩,?_,?_⟩
  ·rintro i e u O ⟨gs,o,l,rfl,rfl,C,S,c⟩;obtain⟨x,j,rfl⟩:=L3.N5 O;rw[Fv];have v:=(List.getElem?_eq_some_iff.mp j).1;have G:=yh a gs.length (ES v)
   have hd:a.drop gs.length=x::a.drop (gs.length+1):=by
    rw[sf v];rw[mv v] at j;cases j;rfl
   rw[hd] at c;have c:(bif B9 gs x then G6 (gs++[dG x]) (a.drop (gs.length+1)) else some gs.length)=G6 [] a:=c;refine⟨rfl,rfl,?_⟩;show Y4 W _ [some (.tup [.tup a,.tup b]),some (.tup a),some (.tup b),some (.int (gs.length:Int)),some x,none];have im:o6 (cutD a none (some (gs.length:Int)))=true:=by rw[G,C];exact wL gs
   refine⟨im,_,gs,x,rfl,.inl (by rw[G,C]),S,X x (nb j),?_⟩
   cases B:B9 gs x with
   | false=>
    rw[B] at c;have c:some gs.length=G6 [] a:=c;rw[<-c] at q;exact Br.yes rfl ⟨rfl,rfl,rfl,q⟩
   | true=>
    rw[B] at c;obtain⟨ex,R⟩:=jU B S (by omega);refine Br.no rfl ⟨gs++[dG x],_,_,rfl,by simp,?_,R,c⟩;rw[wE,j,C,t7];exact tz (λz=>gs.map gD++[z]) ex
  ·rintro u ⟨gs,o,l,rfl,hn,C,S,c⟩;rw[L3.w5,Fm] at C;rw[L3.w5,wT] at c;have c:none=G6 [] a:=by rw[<-c];cases gs<;>rfl
   rw[<-c] at q
   have q:(match (match K5 (a.map D9) [] b with
    | some i=>some (("load" : Str),(i:Int))
    | none=>none) with
    | none=>Q (.bl true)
    | some (w,i)=>W "NoBoard" [.str w,.int i]):=q
   have I:∀x∈a,mn x:=by rw[C];exact ia _
   have main:wz (gT (j6 (g1 3) (j6 (g1 5) L8))) (P2 W) (bp 0 b) { nx:=eU W (EP Q),rt:=(EP Q).rt } [some (.tup [.tup a,.tup b]),some (.tup a),some (.tup b),o,l,none]:=by
    refine .of ⟨λi u=>∃o l H,u=[some (.tup [.tup a,.tup b]),some (.tup a),some (.tup b),o,l,H]/\(∀y∈b.take i,mn y/\y4 y=true)/\K5 (a.map D9) ((b.take i).map D9) (b.drop i)=K5 (a.map D9) [] b,⟨o,l,none,rfl,by simp,rfl⟩,?_,?_⟩
    ·rintro i e u O ⟨o,l,H,rfl,M,c⟩;obtain⟨x,j,rfl⟩:=L3.N5 O;rw[Fv];have v:=(List.getElem?_eq_some_iff.mp j).1;have G:=yh b i (ES v)
     have hd:b.drop i=x::b.drop (i+1):=by
      rw[sf v];rw[mv v] at j;cases j;rfl
     rw[hd] at c;have c:(bif G4 (a.map D9) ((b.take i).map D9) x then K5 (a.map D9) ((b.take i).map D9++[D9 x]) (b.drop (i+1)) else some ((b.take i).map D9).length)=K5 (a.map D9) [] b:=c;refine⟨rfl,rfl,?_⟩;show P2 W _ [some (.tup [.tup a,.tup b]),some (.tup a),some (.tup b),some (.int (i:Int)),l,some x];have im:o6 (cutD b none (some (i:Int)))=true:=by rw[G];exact x8 λy p=>(M y p).2
     have len:(b.take i).length=i:=by rw[vc];omega
     refine⟨im,_,a,_,b.take i,x,rfl,.inl rfl,.inl (by rw[G]),by omega,by omega,I,λy p=>(M y p).1,U x (nb j),?_⟩
     cases B:G4 (a.map D9) ((b.take i).map D9) x with
     | false=>
      rw[B,mo,len] at c;have c:some i=K5 (a.map D9) [] b:=c;rw[<-c] at q;exact Br.yes rfl ⟨rfl,rfl,rfl,q⟩
     | true=>
      rw[B] at c;have T:b.take (i+1)=b.take i++[x]:=by rw[wE,j];rfl
      refine Br.no rfl ⟨_,_,_,rfl,λy p=>?_,?_⟩
      ·rw[T,Fw,List.mem_singleton] at p;rcases p with p | rfl
       ·exact M y p
       ·exact vQ B
      ·rw[T,t7];exact c
    ·rintro u ⟨o,l,H,rfl,_,c⟩;rw[L3.w5,wT] at c;have c:none=K5 (a.map D9) [] b:=by rw[<-c];rfl
     rw[<-c] at q;exact q
   exact main
theorem qm(ds:List D)(Q:D->Prop)(h:w8 ds Q):jM (EP Q) (j3 2 ds):=by
 obtain⟨d,lo,rfl,a,q⟩:=h;cases d<;>first | (simp[kn] at a;done) | (obtain⟨_,rfl⟩:=A0 a) | skip
 case int i=>
  have q:Q (.bl (decide (lo<=i)&&decide (i<10^60))):=q;walk_at "r";refine⟨λe=>?_,λe=>?_⟩
  ·rw[e] at q;walk_at "r";exact q
  ·rw[e] at q;exact q
 all_goals
  walk_at "r";exact q
theorem xi(ds:List D)(Q:D->Prop)(h:P5 ds Q):rD (EP Q) (j3 1 ds):=by
 obtain⟨d,rfl,b,q⟩:=h;cases d<;>first | (simp[kn] at b;done) | (obtain⟨_,rfl⟩:=A0 b) | skip
 case str x=>
  have o:x.length<=100000:=by simpa[kn] using b
  have q:Q (.bl (decide (1<=x.length)&&decide (x.length<=8)&&(cs x).all ah)):=q;walk_at "r";refine⟨sz (by omega),?_⟩;have i:decide ((1:Int)<=(x.length:Int))=decide (1<=x.length):=decide_eq_decide.mpr (by omega);have g:decide ((x.length:Int)<=8)=decide (x.length<=8):=decide_eq_decide.mpr (by omega);refine⟨λe=>?_,λe=>?_⟩
  ·have e:=i▸e;rw[e,nv] at q;walk_at "r";refine⟨λz=>?_,λz=>?_⟩
   ·have z:=g▸z;rw[z,nv] at q;refine⟨?_,?_⟩
    ·show((cs x).map _).length<_;rw[mo];show x.cps.toList.length<_;rw[v6];exact xL (show x.cps.size<=8 from n7 z) (by rw[sd];decide)
    refine fS (f:=λc:Nat=>.bl (ah c)) (F:=λc:Nat=>.str ⟨#[c]⟩) (cs x) [] (λc p K R a=>?_) ?_
    ·have j:=qR (c:=c);have l:=tF (c:=c);have a:K (.bl (decide (97<=c)&&decide (c<=122))):=a;walk_at "r";refine⟨λy=>?_,λy=>?_⟩
     ·rw[j] at y;rw[y,nv,<-l] at a;walk_at "r";exact a
     ·rw[j] at y;rw[y,wl] at a;exact a
    ·refine⟨.lst ((cs x).map λc=>.bl (ah c)),(cs x).map (λc=>.bl (ah c)),(cs x).map ah,rfl,rfl,by rw[AC];rfl,?_⟩;show Q (.bl (((cs x).map ah).all id));rw[List.all_map];exact q
   ·have z:=g▸z;rw[z] at q;exact q
  ·have e:=i▸e;rw[e] at q;walk_at "r";exact q
 all_goals
  walk_at "r";exact q
theorem ve(ds:List D)(Q:D->Prop)(h:L7 ds Q):nz (EP Q) (j3 4 ds):=by
 obtain⟨d,n,lo,rfl,B,q⟩:=h;cases d<;>first | (simp[kn] at B;done) | (obtain⟨_,rfl⟩:=A0 B) | skip
 case tup l=>
  have y:∀x∈l,kn x=true:=u4 (by simpa[kn] using B);have q:Q (.bl (decide ((l.length:Int)<=n)&&l.all (aE lo))):=q;walk_at "r";refine⟨λe=>?_,λe=>?_⟩
  ·have e:=n7 e;rw[hL (by omega)] at q;exact q
  ·have e:=vr e;rw[hD (by omega),nv] at q;walk_at "r";refine K8 (aE lo) (λC=>∃v,C=[some (.tup l),some (.int n),some (.int lo),v]) ⟨none,rfl⟩ ?_ (λe _=>?_) (λe c hw=>?_)
   ·rintro d hd C ⟨v,rfl⟩ N u i;have g:=y d hd;cases d<;>first | (simp[kn] at g;done) | (obtain⟨_,rfl⟩:=A0 g) | skip
    case tup j=>
     have o:=u4 (show kj j=true by simpa[kn] using g);walk_at "r";refine⟨λe=>?_,λe=>?_⟩
     ·have e:¬(j.length:Int)=2:=by simpa[ng] using e
      have z:aE lo (.tup j)=false:=by
       match j,e with
       | [],_=>rfl
       | [a],_=>rfl
       | [_,_],e=>exact absurd rfl e
       | a::b::_::_,_=>rfl
      exact i z []
     ·have e:(j.length:Int)=2:=by simpa[ng] using e
      obtain⟨a,b,rfl,_⟩:=X5 (p:=sH) (by omega:j.length=2);have u:(x3 1 a&&x3 lo b)=true->∀c,(∃v,c=[some (.tup l),some (.int n),some (.int lo),v])->N c:=u;have i:(x3 1 a&&x3 lo b)=false->∀c,Q (.bl false):=i;walk_at "r";refine⟨a,1,rfl,o a (by simp),?_⟩;show Br (!x3 1 a) _ _;refine⟨λz=>?_,λz=>?_⟩
      ·have z:x3 1 a=false:=by simpa using z
       walk_at "r";exact i (by rw[z];rfl) []
      ·have z:x3 1 a=true:=by simpa using z
       rw[z,nv] at u i;walk_at "r";refine⟨b,lo,rfl,o b (by simp),?_⟩;show Br (!x3 lo b) _ _;refine⟨λz=>i (by simpa using z) [],λz=>u (by simpa using z) _ ⟨_,rfl⟩⟩
    all_goals
     walk_at "r";exact i rfl []
   ·rw[e] at q;exact q
   ·rw[e] at q;exact q
 all_goals
  walk_at "r";exact q
theorem zq(d:D):x3 1 d=posB d:=by
 cases d<;>first | rfl | skip
 rename_i i
 show(decide (1<=i)&&decide (i<10^60))=((decide (0<=i)&&decide (i<10^60))&&!decide (i=0))
 by_cases h:1<=i
 ·rw[hD h,hD (show 0<=i by omega),hL (show ¬i=0 by omega)];simp
 ·rw[hL h]
  by_cases a:0<=i
  ·rw[hD a,hD (show i=0 by omega)];simp
  ·rw[hL a];simp
theorem nX(d:D):x3 0 d=y8 d:=by cases d<;>rfl
theorem BG:aE 1=J9:=by
 funext d
 cases d<;>first | rfl | skip
 rename_i c
 match c with
 | []=>rfl
 | [_]=>rfl
 | [a,b]=>
  show(x3 1 a&&x3 1 b)=(posB a&&posB b);rw[zq,zq]
 | _::_::_::_=>rfl
theorem AV:aE 0=dQ:=by
 funext d
 cases d<;>first | rfl | skip
 rename_i c
 match c with
 | []=>rfl
 | [_]=>rfl
 | [a,b]=>
  show(x3 1 a&&x3 0 b)=(posB a&&y8 b);rw[zq,nX]
 | _::_::_::_=>rfl
def kT(xs:List D)(i:Nat):Bool:=pE (xs.getD i .l4) (xs.getD (i+1) .l4)
theorem aI:∀(x:D) (r:List D),((List.range r.length).map (kT (x::r))).all id=M8 (x::r)
 | x,[]=>rfl
 | x,y::r=>by
  rw[na,List.range_succ_eq_map,nj,v4,AC];show(pE x y&&((List.range r.length).map (kT (y::r))).all id)=(pE x y&&M8 (y::r));rw[aI y r]
theorem gf{xs:List D}{i:Nat}{d:D}(h:xs[i]?=some d):Z2 xs (i:Int)=some d:=by
 have l:=(List.getElem?_eq_some_iff.mp h).1;obtain⟨x,_,e,z⟩:=nU (f:=id) (xs:=xs) (i:=(i:Int)) (Int.natCast_nonneg i) (by omega);rw[List.map_id] at z;rw[z];have e:xs[i]?=some x:=e;rw[h] at e;exact e.symm
theorem rl(ds:List D)(Q:D->Prop)(h:P9 ds Q):mM (EP Q) (j3 1 ds):=by
 obtain⟨d,rfl,v,q⟩:=h;refine⟨d,5,1,rfl,v,?_⟩;show Br (!dq 5 1 d) _ _;cases d<;>first | (simp[kn] at v;done) | (obtain⟨_,rfl⟩:=A0 v) | skip
 case tup g=>
  have q:Q (.bl (decide (1<=g.length)&&decide (g.length<=5)&&g.all J9&&M8 g)):=q;have G:decide ((g.length:Int)<=5)=decide (g.length<=5):=decide_eq_decide.mpr (by omega);show Br (!(decide ((g.length:Int)<=5)&&g.all (aE 1))) _ _;rw[G,BG];rw[FC (decide (1<=g.length))] at q;generalize l:(decide (g.length<=5)&&g.all J9)=b at q
  cases b with
  | false=>
   refine Br.yes rfl ?_;rw[FA] at q;walk_at "r";exact q
  | true=>
   refine Br.no rfl ?_;rw[eH] at l;have u:=n7 l.1;rw[Bool.and_true] at q;walk_at "r"
   match g,u,l,q with
   | [],_,_,q=>exact Br.yes rfl q
   | x::r,u,l,q=>
    refine Br.no rfl ?_;walk_at "r";refine⟨⟨by omega,by have:(x::r).length<=5:=u;omega⟩,?_,?_⟩
    ·rw[jL,mo,FN];exact xL (show((((x::r).length:Int))-1).toNat<=5 by have:(x::r).length<=5:=u;omega) (by rw[sd];decide)
    have el:((((x::r).length:Int))-1).toNat=r.length:=by rw[na];omega
    rw[el,jL];refine fS (f:=λi:Nat=>.bl (kT (x::r) i)) (List.range r.length) [] (λi z K R j=>?_) ?_
    ·have z:=List.mem_range.mp z;have p:=mv (show i<(x::r).length by rw[na];omega);have o:=mv (show i+1<(x::r).length by rw[na];omega);obtain⟨a,b,ex,_⟩:=K7 (List.all_eq_true.mp l.2 _ (nb p));obtain⟨c,d,E,_⟩:=K7 (List.all_eq_true.mp l.2 _ (nb o));rw[ex] at p;rw[E] at o
     have j:K (.bl (decide (a<c)&&decide (d<b))):=by
      unfold kT at j;rw[Gf,Gf,p,o] at j;exact j
     generalize x::r=y at p o;have C:Z2 y (0+(i:Int))=some (.tup [.int a,.int b]):=by rw[Int.zero_add];exact gf p
     have B:Z2 y (0+(i:Int)+1)=some (.tup [.int c,.int d]):=by rw[Int.zero_add];exact gf o
     walk_at "r";refine⟨_,C,?_⟩;walk_at "r";refine⟨_,B,?_⟩;walk_at "r";refine⟨λe=>?_,λe=>?_⟩
     ·rw[e,nv] at j;walk_at "r";refine⟨_,C,?_⟩;walk_at "r";refine⟨_,B,?_⟩;walk_at "r";exact j
     ·rw[e,wl] at j;exact j
    ·refine⟨.lst ((List.range r.length).map λi=>.bl (kT (x::r) i)),_,(List.range r.length).map (kT (x::r)),rfl,rfl,by rw[AC];rfl,?_⟩;show Q (.bl (((List.range r.length).map (kT (x::r))).all id));rw[aI];exact q
 all_goals
  refine Br.yes rfl ?_;walk_at "r";exact q
theorem vE(d:D):dq 4 0 d=A5 d:=by
 cases d<;>first | rfl | skip
 rename_i a
 have e:decide ((a.length:Int)<=4)=decide (a.length<=4):=decide_eq_decide.mpr (by omega);show(decide ((a.length:Int)<=4)&&a.all (aE 0))=(decide (a.length<=4)&&a.all dQ);rw[e,AV]
theorem Bl(d:D):(E4 d true||E4 d false)=(match d with | .bl _=>true | _=>false):=by
 cases d<;>first | rfl | (rename_i b;cases b<;>rfl)
theorem kG(ds:List D)(Q:D->Prop)(h:A9 ds Q):eL (EP Q) (j3 3 ds):=by
 obtain⟨d,x,rfl,o,q⟩:=h;cases d<;>first | (simp[kn] at o;done) | (obtain⟨_,rfl⟩:=A0 o) | skip
 case tup j=>
  have g:∀x∈j,kn x=true:=u4 (by simpa[kn] using o);rcases gZ j with⟨n,u,c,a,b,rfl⟩ | ⟨I,H,G⟩
  ·have E:=g n (by simp);have C:=g u (by simp);have B:=g c (by simp);have y:=g a (by simp);have l:=g b (by simp)
   have J:E8 (.tup [n,u,c,a,b])=(l3 n&&((N6 u||l3 u)&&(A6 c&&(x3 0 a&&x3 0 b)))):=by
    rw[nX,nX];show(l3 n&&(N6 u||l3 u)&&A6 c&&y8 a&&y8 b)=_;simp only[FC]
   have el:R0 (.tup [n,u,c,a,b])=(l3 n&&(l3 u&&(A5 c&&(x3 0 a&&(E4 b true||E4 b false))))):=by
    rw[nX];show(l3 n&&l3 u&&A5 c&&y8 a&&(E4 b true||E4 b false))=_;simp only[FC]
   rw[J,el] at q;walk_at "r";refine⟨E,?_⟩;show Br (!l3 n) _ _;generalize l3 n=O at q
   cases O with
   | false=>
    refine Br.yes rfl ?_;have q:Q (.bl false):=by cases h:decide (x="guard")<;>(rw[h] at q;exact q)
    walk_at "r";exact q
   | true=>
    refine Br.no rfl ?_;walk_at "r";refine⟨λe=>?_,λe=>?_⟩
    ·have e:decide (x="guard")=true:=e;rw[e] at q;have q:Q (.bl ((N6 u||l3 u)&&(A6 c&&(x3 0 a&&x3 0 b)))):=q
     have next:∀i:Bool,Q (.bl (i&&(A6 c&&(x3 0 a&&x3 0 b))))->Q9 { nx:=aT (EP Q),rt:=(EP Q).rt } [some (.tup [n,u,c,a,b]),some (.str x),some (.bl i)]:=λi q=>by
      walk_at "r"
      cases i with
      | false=>exact Br.no rfl q
      | true=>
       refine Br.yes rfl ?_;have q:Q (.bl (A6 c&&(x3 0 a&&x3 0 b))):=q;walk_at "r";refine⟨B,?_⟩;show Br (A6 c) _ _;generalize A6 c=v at q
       cases v with
       | false=>exact Br.no rfl q
       | true=>
        refine Br.yes rfl ?_;have q:Q (.bl (x3 0 a&&x3 0 b)):=q;walk_at "r";refine⟨a,0,rfl,y,?_⟩;show Br (x3 0 a) _ _;generalize x3 0 a=p at q
        cases p with
        | false=>exact Br.no rfl q
        | true=>
         refine Br.yes rfl ?_;walk_at "r";exact⟨b,0,rfl,l,q⟩
     walk_at "r";refine⟨λz=>?_,λz=>?_⟩
     ·have z:N6 u=true:=z;rw[z] at q;exact⟨rfl,next true q⟩
     ·have z:N6 u=false:=z;rw[z] at q;walk_at "r";refine⟨C,?_⟩;exact⟨rfl,next (l3 u) q⟩
    ·have e:decide (x="guard")=false:=e;rw[e] at q;have q:Q (.bl (l3 u&&(A5 c&&(x3 0 a&&(E4 b true||E4 b false))))):=q;walk_at "r";refine⟨C,?_⟩;show Br (!l3 u) _ _;generalize l3 u=v at q
     cases v with
     | false=>
      refine Br.yes rfl ?_;walk_at "r";exact q
     | true=>
      refine Br.no rfl ?_;have q:Q (.bl (A5 c&&(x3 0 a&&(E4 b true||E4 b false)))):=q;rw[<-vE] at q;walk_at "r";refine⟨c,4,0,rfl,B,?_⟩;show Br (!dq 4 0 c) _ _;generalize dq 4 0 c=p at q
      cases p with
      | false=>
       refine Br.yes rfl ?_;walk_at "r";exact q
      | true=>
       refine Br.no rfl ?_;have q:Q (.bl (x3 0 a&&(E4 b true||E4 b false))):=q;rw[Bl] at q;walk_at "r";refine⟨a,0,rfl,y,?_⟩;show Br (x3 0 a) _ _;generalize x3 0 a=M at q
       cases M with
       | false=>exact Br.no rfl q
       | true=>
        refine Br.yes rfl ?_;cases b<;>first | (simp[kn] at l;done) | (obtain⟨_,rfl⟩:=A0 l) | skip
        all_goals
         walk_at "r";exact q
  ·have q:Q (.bl false):=by
    rw[H,G] at q;cases h:decide (x="guard")<;>(rw[h] at q;exact q)
   walk_at "r";refine⟨λe=>?_,λe=>?_⟩
   ·walk_at "r";exact q
   ·exact absurd (show(j.length:Int)=5 by simpa[ng] using e) I
 all_goals
  have q:Q (.bl false):=by cases h:decide (x="guard")<;>(rw[h] at q;exact q)
  walk_at "r";exact q
theorem Ba{B:Nat}:∀{xs:List D},(∀x∈xs,(pyd x).weight<=B)->PyData.weightAll (D5 xs)<=xs.length*(B+1)
 | [],_=>by simp[D5,PyData.weightAll]
 | x::xs,h=>by
  have c:=h x lm;have b:=Ba λy a=>h y (lf x a);simp only[D5,PyData.weightAll,na];rw[Nat.add_mul];omega
theorem zl{B:Nat}:∀{xs:List D},(∀x∈xs,(pyd x).depth<=B)->PyData.depthAll (D5 xs)<=B
 | [],_=>by simp[D5,PyData.depthAll]
 | x::xs,h=>by
  have c:=h x lm;have b:=zl λy a=>h y (lf x a);simp only[D5,PyData.depthAll];omega
theorem Au:∀{xs:List D},(∀x∈xs,D1 x=true)->br xs=true
 | [],_=>rfl
 | x::xs,h=>by
  simp only[br,eH];exact⟨h x lm,Au λy a=>h y (lf x a)⟩
structure C6(d:D)(w n:Nat):Prop where
 s:D1 d=true
 w:(pyd d).weight<=w
 n:(pyd d).depth<=n
theorem C6.ok{d:D}{w n:Nat}(h:C6 d w n)(hw:w<=100000)(a:n<=150):bb d:=⟨h.s,ol h.w hw,ol h.n a⟩
theorem C6.mono{d:D}{w n a b:Nat}(h:C6 d w n)(hw:w<=a)(c:n<=b):C6 d a b:=⟨h.s,ol h.w hw,ol h.n c⟩
theorem C6.tup{xs:List D}{w n m:Nat}(h:∀x∈xs,C6 x w n)(b:xs.length<=m):C6 (.tup xs) (m*(w+1)) (n+1):=
 ⟨Au λx a=>(h x a).s,ol (Ba λx a=>(h x a).w) (Nat.mul_le_mul_right _ b),Nat.succ_le_succ (zl λx a=>(h x a).n)⟩
theorem C6.int{n:Int}(h:num n):C6 (.int n) 201 0:=by
 refine⟨?_,?_,hI _⟩
 ·show decide _=true;refine hD (lv (m:=10^60) ?_ (by decide +kernel));have:=h.1;have:=h.2;omega
 ·show(if n == 0 then 0 else n.natAbs.log2+1)<=201;split
  ·omega
  ·rename_i e
   have e:n.natAbs≠0:=by simpa using e
   have:n.natAbs.log2<200:=(Nat.log2_lt e).mpr (lv (m:=10^60) (by have:=h.1;have:=h.2;omega) (by decide +kernel));omega
theorem C6.str{x:Str}{k:Nat}(h:x.length<=k)(b:∀c∈cs x,c<1000):C6 (.str x) k 0:=by
 refine⟨?_,h,hI _⟩;show(x.cps.toList.all λc=>decide (c<16^8))=true;rw[List.all_eq_true];exactλc a=>hD (lv (b c a) (by decide +kernel))
theorem C6.nm{x:Str}(h:nm 8 x):C6 (.str x) 8 0:=C6.str (va h) λc a=>by have:=h.2.2 c a;omega
theorem C6.l4:C6 .l4 8 0:=⟨rfl,vv _,hI _⟩
theorem C6.bl{b:Bool}:C6 (.bl b) 8 0:=⟨rfl,vv _,hI _⟩
theorem C6.lb{ps:List Pr}(h:sE ps):C6 (lb ps) 2025 2:=by
 refine C6.mono (C6.tup (w:=404) (n:=1) (m:=5) (λx a=>?_) (by rw[mo];exact h.1)) (by decide) (by decide);obtain⟨p,b,rfl⟩:=List.mem_map.mp a;refine C6.mono (C6.tup (w:=201) (n:=0) (m:=2) (λx a=>?_) (hI _)) (by decide) (by decide);rcases List.mem_cons.mp a with rfl | a
 ·exact C6.int (h.2 p b).1
 ·cases List.mem_singleton.mp a;exact C6.int (h.2 p b).2
theorem Ee{a b c d e:D}{w n k:Nat}(l:C6 a 8 0)(j:C6 b 8 0)(i:C6 c w n)(h:C6 d 201 0)(g:C6 e k 0):C6 (.tup [a,b,c,d,e]) (w+k+222) (n+1):=by
 refine⟨?_,?_,?_⟩
 ·show(D1 a&&(D1 b&&(D1 c&&(D1 d&&(D1 e&&true)))))=true;rw[l.s,j.s,i.s,h.s,g.s];rfl
 ·show(pyd a).weight+1+((pyd b).weight+1+((pyd c).weight+1+((pyd d).weight+1+((pyd e).weight+1+0))))<=_;have:=l.w;have:=j.w;have:=i.w;have:=h.w;have:=g.w;omega
 ·show max (pyd a).depth (max (pyd b).depth (max (pyd c).depth (max (pyd d).depth (max (pyd e).depth 0))))+1<=_;have:=l.n;have:=j.n;have:=i.n;have:=h.n;have:=g.n;omega
theorem GT.D1{g:Gd}(h:GT g):C6 (gD g) 2448 3:=by
 refine Ee (C6.nm h.nm) ?_ (C6.lb h.cv) (C6.int h.de) (C6.int h.wa)
 cases e:g.un with
 | none=>exact C6.l4
 | some y=>exact C6.nm (h.un y e)
theorem LT.D1{l:Ld}(h:LT l):C6 (lD l) 2255 3:=Ee (C6.nm h.nm) (C6.nm h.at_) (C6.lb h.cs) (C6.int h.la) C6.bl
theorem px.show{b:Bd}(h:px b):bb (bD b):=by
 have e:C6 (.tup (b.gs.map gD)) (16*2449) 4:=C6.tup (λx a=>by obtain⟨g,c,rfl⟩:=List.mem_map.mp a;exact(h.gt g c).D1) (by rw[mo];exact h.g16);have d:C6 (.tup (b.ls.map lD)) (24*2256) 4:=C6.tup (λx a=>by obtain⟨g,c,rfl⟩:=List.mem_map.mp a;exact(h.lt g c).D1) (by rw[mo];exact h.l24);refine⟨?_,?_,?_⟩
 ·show(D1 (.tup (b.gs.map gD))&&(D1 (.tup (b.ls.map lD))&&true))=true;rw[e.s,d.s];rfl
 ·show(pyd (.tup (b.gs.map gD))).weight+1+((pyd (.tup (b.ls.map lD))).weight+1+0)<=_;have:=e.w;have:=d.w;omega
 ·show max (pyd (.tup (b.gs.map gD))).depth (max (pyd (.tup (b.ls.map lD))).depth 0)+1<=_;have:=e.n;have:=d.n;omega
def yo(a:List (Key×D))(gs:List Gd):Prop:=∀y:Str,u5 a (.inr y)=if y∈gs.map (·.nm) then some (.int ((ups gs 8 (some y)).length:Int)) else none
theorem oj{gs:List Gd}{y:Str}(h:y∈gs.map (·.nm)):∃g,gs.find? (λg=>decide (g.nm=y))=some g/\g∈gs/\g.nm=y:=by
 obtain⟨g,a,rfl⟩:=List.mem_map.mp h
 cases e:gs.find? (λk=>decide (k.nm=g.nm)) with
 | none=>exact absurd (List.find?_eq_none.mp e g a) (by simp)
 | some k=>exact⟨k,rfl,List.mem_of_find?_eq_some e,by simpa using List.find?_some e⟩
theorem vU{gs:List Gd}{g:Gd}{y:Str}(h:y∈gs.map (·.nm)):fT (gs++[g]) y=fT gs y:=by
 obtain⟨k,e,_⟩:=oj h;unfold fT;rw[List.find?_append,e];rfl
theorem xC{gs:List Gd}(c:W9 gs){y z:Str}(h:y∈gs.map (·.nm))(e:fT gs y=some z):z∈gs.map (·.nm):=by
 obtain⟨dp,hd⟩:=c.un;obtain⟨k,l,a,_⟩:=oj h;unfold fT at e;rw[l] at e;obtain⟨i,b⟩:=tL a;obtain⟨j,d,o,g,rfl,_⟩:=(hd i k b).2.2.2 z e;exact List.mem_map.mpr ⟨d,nb g,rfl⟩
theorem fZ{gs:List Gd}(b:W9 gs){g:Gd}:∀(n:Nat) (o:Option Str),(∀y,o=some y->y∈gs.map (·.nm))->ups (gs++[g]) n o=ups gs n o
 | 0,_,_=>rfl
 | _+1,none,_=>rfl
 | n+1,some y,h=>by
  have a:=h y rfl;show y::ups (gs++[g]) n (fT (gs++[g]) y)=y::ups gs n (fT gs y);rw[vU a,fZ b n _ λz e=>xC b a e]
theorem jE{gs:List Gd}:∀(n:Nat) (o:Option Str),(ups gs (n+1) o).length<=n->ups gs n o=ups gs (n+1) o
 | 0,none,_=>rfl
 | 0,some _,h=>absurd h (by simp[ups])
 | n+1,none,_=>rfl
 | n+1,some y,h=>by
  show y::ups gs n (fT gs y)=y::ups gs (n+1) (fT gs y);rw[jE n _ (by have h:(ups gs (n+1) (fT gs y)).length+1<=n+1:=h;omega)]
theorem vB{gs:List Gd}(d:W9 gs){g:Gd}(b:g.nm∉gs.map (·.nm))(a:∀y,g.un=some y->y∈gs.map (·.nm)):(ups (gs++[g]) 8 (some g.nm)).length=1+(ups gs 7 g.un).length:=by
 have e:fT (gs++[g]) g.nm=g.un:=by
  unfold fT;rw[List.find?_append,List.find?_eq_none.mpr (λk c z=>b (List.mem_map.mpr ⟨k,c,by simpa using z⟩))];have z:[g].find? (λk=>decide (k.nm=g.nm))=some g:=by rw[ry,hD rfl]
  rw[z];rfl
 show(g.nm::ups (gs++[g]) 7 (fT (gs++[g]) g.nm)).length=_;rw[e,fZ d 7 _ a,na];omega
theorem yo.put{a:List (Key×D)}{gs:List Gd}(h:yo a gs)(c:W9 gs){g:Gd}(i:g.nm∉gs.map (·.nm))(d:∀y,g.un=some y->y∈gs.map (·.nm))(k:Int)(j:k=1+((ups gs 7 g.un).length:Int)):yo (putD a (.inr g.nm) (.int k)) (gs++[g]):=λy=>by
 rw[X7,t7]
 by_cases e:(Sum.inr y:Key)=.inr g.nm
 ·cases e;rw[l7 rfl,l7 (by simp),vB c i d,j];simp
 ·have ne:y≠g.nm:=λz=>e (by rw[z]);rw[ln e,h y]
  by_cases b:y∈gs.map (·.nm)
  ·rw[l7 b,l7 (mr _ b),fZ c 8 _ λz e=>by cases e;exact b]
  ·rw[ln b,ln (by simp only[Fw,not_or];exact⟨b,by simpa using ne⟩)]
theorem yo.has{a:List (Key×D)}{gs:List Gd}(h:yo a gs)(y:Str):(u5 a (.inr y)).isSome=decide (y∈gs.map (·.nm)):=by
 rw[h y]
 by_cases b:y∈gs.map (·.nm)
 ·rw[l7 b,hD b];rfl
 ·rw[ln b,hL b];rfl
theorem tR{b:List (Key×D)}{k:Key}{v:D}(h:(b.all λa=>y4 a.2)=true)(c:y4 v=true):((putD b k v).all λa=>y4 a.2)=true:=by
 unfold putD;split
 ·rw[List.all_map];refine List.all_eq_true.mpr λa d=>?_;show y4 (if a.1=k then(a.1,v) else a).2=true;split
  ·exact c
  ·exact List.all_eq_true.mp h a d
 ·rw[List.all_append,h];show(true&&(y4 v&&true))=true;rw[c];rfl
theorem qi{Q:D->Prop}{xs b:List D}{g:List (Key×D)}{u o:Option D}{gs:List Gd}(hd:yo g gs)(T:∀y∈b,kn y=true)(a0:b.length<=24)(X:g.length<=16)(I:(g.all λU=>y4 U.2)=true)
  (q:Q (rb (match K5 (gs.map (·.nm)) [] b with | some i=>some (("load" : Str),(i:Int)) | none=>none))):nq (EP Q) [some (.tup [.tup xs,.tup b]),some (.dic g),u,o,none,none]:=by
 refine .inr ⟨g,rfl,I,rfl,?_⟩;walk_at "r";refine .of ⟨λi E=>∃d u o G,E=[some (.tup [.tup xs,.tup b]),some (.dic g),u,o,some (.dic d),G]/\d.length<=16+i/\(∀y:Str,(u5 d (.inr y)).isSome=(decide (y∈gs.map (·.nm))||decide (y∈(b.take i).map D9)))/\K5 (gs.map (·.nm)) ((b.take i).map D9) (b.drop i)=K5 (gs.map (·.nm)) [] b,⟨g,u,o,none,rfl,X,λy=>by rw[hd.has y];simp,rfl⟩,?_,?_⟩
 ·rintro i e E Y ⟨d,u,o,G,rfl,H,J,j⟩;obtain⟨x,v,rfl⟩:=L3.N5 Y;rw[Fv];have R:=(List.getElem?_eq_some_iff.mp v).1
  have O:b.drop i=x::b.drop (i+1):=by
   rw[sf R];rw[mv R] at v;cases v;rfl
  have S:b.take (i+1)=b.take i++[x]:=by rw[wE,v];rfl
  have len:((b.take i).map D9).length=i:=by rw[mo,vc];omega
  rw[O] at j;have j:(bif G4 (gs.map (·.nm)) ((b.take i).map D9) x then K5 (gs.map (·.nm)) ((b.take i).map D9++[D9 x]) (b.drop (i+1)) else some ((b.take i).map D9).length)=K5 (gs.map (·.nm)) [] b:=j
  have p:G4 (gs.map (·.nm)) ((b.take i).map D9) x=false->Q (.tup [.str "load",.int (i:Int)]):=λe=>by
   rw[e,len] at j;have j:some i=K5 (gs.map (·.nm)) [] b:=j;rw[<-j] at q;exact q
  refine⟨rfl,rfl,?_⟩;show cq _ [some (.tup [.tup xs,.tup b]),some (.dic g),some (.int (i:Int)),o,some (.dic d),some x];refine⟨x,"load",rfl,T x (nb v),?_⟩;show Br (!R0 x) _ _
  cases M:R0 x with
  | false=>
   refine Br.yes rfl ?_;walk_at "r";exact p (by unfold G4;rw[M];rfl)
  | true=>
   refine Br.no rfl ?_;obtain⟨n,a,c,la,on,rfl⟩:=ai M;have l:G4 (gs.map (·.nm)) ((b.take i).map D9) (.tup [.str n,.str a,c,la,on])=(decide (a∈gs.map (·.nm))&&!decide (n∈gs.map (·.nm))&&!decide (n∈(b.take i).map D9)):=by unfold G4;rw[M];rfl
   walk_at "r";rw[J n];generalize a2:decide (n∈gs.map (·.nm))=C at l;generalize a1:decide (n∈(b.take i).map D9)=B at l;refine⟨λz=>?_,λz=>?_⟩
   ·have z:(C||B)=true:=by simpa[ng] using z
    walk_at "r";exact p (by rw[l];revert z;cases C<;>cases B<;>cases decide (a∈gs.map (·.nm))<;>decide)
   ·have z:(C||B)=false:=by simpa[ng] using z
    have l:G4 (gs.map (·.nm)) ((b.take i).map D9) (.tup [.str n,.str a,c,la,on])=decide (a∈gs.map (·.nm)):=by rw[l];revert z;cases C<;>cases B<;>cases decide (a∈gs.map (·.nm))<;>decide
    walk_at "r";rw[hd.has a];generalize decide (a∈gs.map (·.nm))=b3 at l
    cases b3 with
    | false=>
     refine Br.yes rfl ?_;walk_at "r";exact p l
    | true=>
     refine Br.no rfl ?_;rw[l] at j;walk_at "r";refine⟨xL (show d.length<=40 by omega) (by rw[sd];decide),_,_,_,_,rfl,ol (kg _ _ _) (by omega),λy=>?_,?_⟩
     ·rw[X7,S,t7]
      by_cases e:(Sum.inr y:Key)=.inr n
      ·cases e;rw[l7 rfl,hD (show n∈(b.take i).map D9++List.map D9 [.tup [.str n,.str a,c,la,on]] from hH _ (List.mem_singleton.mpr rfl:n∈[n])),FP];rfl
      ·have ne:y≠n:=λz=>e (by rw[z]);rw[ln e,J y];congr 1;exact decide_eq_decide.mpr ⟨λh=>mr _ h,λh=>(List.mem_append.mp h).elim id λh=>absurd (List.mem_singleton.mp h) ne⟩
     ·rw[S,t7];exact j
 ·rintro E ⟨d,u,o,G,rfl,H,J,j⟩;rw[L3.w5,wT] at j;have j:none=K5 (gs.map (·.nm)) [] b:=by rw[<-j];rfl
  rw[<-j] at q;exact q
theorem sS{Q:D->Prop}{xs d:List D}(kx:∀x∈xs,kn x=true)(ky:∀y∈d,kn y=true)(Y:U7 (.tup [.tup xs,.tup d])=true)(q:Q (rb (V4 (.tup [.tup xs,.tup d])))):mW (EP Q) (j3 6 [.tup [.tup xs,.tup d]]):=by
 have p:(decide (1<=xs.length)&&decide (xs.length<=16)&&decide (d.length<=24))=true:=Y;rw[eH,eH] at p;have a0:=n7 p.1.2;have S:=n7 p.2
 have el:V4 (.tup [.tup xs,.tup d])=(match G6 [] xs with
  | some i=>some (("guard" : Str),(i:Int))
  | none=>match K5 (xs.map D9) [] d with
   | some i=>some ("load",(i:Int))
   | none=>none):=by
  show(bif U7 _ then _ else _)=_;rw[Y];rfl
 rw[el] at q;have g0:W9 []:=⟨vv _,lc,λ_=>1,λi g v=>by cases v⟩
 walk_at "r";refine .of ⟨λi M=>∃gs a E C,M=[some (.tup [.tup xs,.tup d]),some (.dic a),E,C,none,none]/\gs.length=i/\xs.take i=gs.map gD/\W9 gs/\G6 gs (xs.drop i)=G6 [] xs/\yo a gs/\a.length<=i/\(a.all λO=>y4 O.2)=true,⟨[],[],none,none,rfl,rfl,rfl,g0,rfl,λy=>rfl,hI _,rfl⟩,?_,?_⟩
 ·rintro i e M he ⟨gs,a,E,C,rfl,rfl,J,T,b,hd,hl,u⟩;obtain⟨x,H,rfl⟩:=L3.N5 he;rw[Fv];have X:=(List.getElem?_eq_some_iff.mp H).1
  have R:xs.drop gs.length=x::xs.drop (gs.length+1):=by
   rw[sf X];rw[mv X] at H;cases H;rfl
  rw[R] at b;have b:(bif B9 gs x then G6 (gs++[dG x]) (xs.drop (gs.length+1)) else some gs.length)=G6 [] xs:=b
  have o:B9 gs x=false->Q (.tup [.str "guard",.int (gs.length:Int)]):=λe=>by
   rw[e] at b;have b:some gs.length=G6 [] xs:=b;rw[<-b] at q;exact q
  refine⟨rfl,rfl,?_⟩;show cM _ [some (.tup [.tup xs,.tup d]),some (.dic a),some (.int (gs.length:Int)),some x,none,none];refine⟨x,"guard",rfl,kx x (nb H),?_⟩;show Br (!E8 x) _ _
  cases v:E8 x with
  | false=>
   refine Br.yes rfl ?_;walk_at "r";exact o (by unfold B9;rw[v];rfl)
  | true=>
   refine Br.no rfl ?_;have ex:=jZ v;have I:=λh=>(jU (gs:=gs) (x:=x) h T (by omega)).2;generalize dG x=g at ex I b;subst ex;obtain⟨n,un,cv,de,wa⟩:=g;have hs:=hd.has n;walk_at "r";rw[hs];refine⟨λz=>?_,λz=>?_⟩
   ·have z:decide (n∈gs.map (·.nm))=true:=by simpa[ng] using z
    walk_at "r";refine o ?_;unfold B9;rw[v]
    cases un with
    | none=>show(true&&!decide (n∈gs.map (·.nm)))=false;rw[z];rfl
    | some y=>show(true&&(!decide (n∈gs.map (·.nm))&&decide (y∈gs.map (·.nm))&&decide ((ups gs 8 (some y)).length<=7)))=false;rw[z];rfl
   ·have z:decide (n∈gs.map (·.nm))=false:=by simpa[ng] using z
    have nn:=vr z;have et:xs.take (gs.length+1)=gs.map gD++[gD ⟨n,un,cv,de,wa⟩]:=by rw[wE,H,J];rfl
    have next:∀k:Int,B9 gs (gD ⟨n,un,cv,de,wa⟩)=true->(∀y,un=some y->y∈gs.map (·.nm))->k=1+((ups gs 7 un).length:Int)->∃j c E C,[some (D.tup [.tup xs,.tup d]),some (.dic (putD a (.inr n) (.int k))),some (.int (gs.length:Int)),some (gD ⟨n,un,cv,de,wa⟩),none,none]=[some (.tup [.tup xs,.tup d]),some (.dic c),E,C,none,none]/\j.length=gs.length+1/\xs.take (gs.length+1)=j.map gD/\W9 j/\G6 j (xs.drop (gs.length+1))=G6 [] xs/\yo c j/\c.length<=gs.length+1/\(c.all λO=>y4 O.2)=true:=λk l hu hk=>by
     rw[l] at b;exact⟨gs++[⟨n,un,cv,de,wa⟩],_,_,_,rfl,by simp,by rw[et,t7];rfl,I l,(show G6 (gs++[⟨n,un,cv,de,wa⟩]) _=_ from b),hd.put T (g:=⟨n,un,cv,de,wa⟩) nn hu k hk,ol (kg _ _ _) (by omega),tR u rfl⟩
    cases un with
    | none=>
     have l:B9 gs (gD ⟨n,none,cv,de,wa⟩)=true:=by unfold B9;rw[v];show(true&&!decide (n∈gs.map (·.nm)))=true;rw[z];rfl
     walk_at "r";exact⟨sz (by omega),next 1 l (λy h=>by cases h) rfl⟩
    | some y=>
     have l:B9 gs (gD ⟨n,some y,cv,de,wa⟩)=(decide (y∈gs.map (·.nm))&&decide ((ups gs 8 (some y)).length<=7)):=by unfold B9;rw[v];show(true&&(!decide (n∈gs.map (·.nm))&&decide (y∈gs.map (·.nm))&&decide ((ups gs 8 (some y)).length<=7)))=_;rw[z];simp
     walk_at "r"
     by_cases G:y∈gs.map (·.nm)
     ·have B:=hd y;rw[l7 G] at B;rw[hD G,nv] at l;rw[B];refine⟨rfl,λe=>?_,λe=>?_⟩
      ·have e:=n7 e;walk_at "r";exact o (by rw[l];exact hL (by omega))
      ·have e:=vr e;have U:(ups gs 8 (some y)).length<=7:=by omega
       walk_at "r";rw[B];walk_at "r";exact⟨sz (by omega),next _ (by rw[l];exact hD U) (λz h=>by cases h;exact G) (by rw[jE 7 _ U])⟩
     ·have B:=hd y;rw[ln G] at B;rw[hL G,wl] at l;rw[B];refine⟨rfl,Br.yes rfl ?_⟩;walk_at "r";exact o l
 ·rintro M ⟨gs,a,E,C,rfl,hn,J,T,b,hd,hl,u⟩;rw[L3.w5,Fm] at J;rw[L3.w5,wT] at b;have b:none=G6 [] xs:=by rw[<-b];cases gs<;>rfl
  rw[<-b] at q;refine qi hd ky S (by rw[L3.w5] at hl;omega) u ?_;have e:xs.map D9=gs.map (·.nm):=by rw[J,AC];rfl
  rw[<-e];exact q
theorem Ai(ds:List D)(Q:D->Prop)(h:cL ds Q):yd (EP Q) (j3 6 ds):=by
 obtain⟨d,rfl,E,q⟩:=h
 have c:U7 d=false->Q (.tup [.str "board",.int 0]):=λe=>by
  rw[cw e] at q;exact q
 cases d<;>first | (simp[kn] at E;done) | (obtain⟨_,rfl⟩:=A0 E) | skip
 case tup i=>
  have l:∀x∈i,kn x=true:=u4 (by simpa[kn] using E)
  by_cases G:(i.length:Int)=2
  ·obtain⟨a,b,rfl,z⟩:=X5 (p:=sH) (by omega:i.length=2);clear z;have B:=l a (by simp);have y:=l b (by simp);cases a<;>first | (simp[kn] at B;done) | (obtain⟨_,rfl⟩:=A0 B) | skip
   case tup g=>
    cases b<;>first | (simp[kn] at y;done) | (obtain⟨_,rfl⟩:=A0 y) | skip
    case tup j=>
     have I:=u4 (show kj g=true by simpa[kn] using B);have H:=u4 (show kj j=true by simpa[kn] using y);have main:=λC=>sS (Q:=Q) I H C q;have C:U7 (.tup [.tup g,.tup j])=(decide (1<=g.length)&&decide (g.length<=16)&&decide (j.length<=24)):=rfl;rw[C] at c main;walk_at "r";refine⟨λv=>?_,λv=>?_⟩
     ·have v:=n7 v;walk_at "r";refine⟨λu=>?_,λu=>?_⟩
      ·have u:¬(g.length:Int)<=16:=by simpa using u
       walk_at "r";exact c (by rw[hL (show ¬g.length<=16 by omega),FA];rfl)
      ·have u:(g.length:Int)<=16:=by simpa using u
       walk_at "r";refine⟨λo=>?_,λo=>?_⟩
       ·have o:=n7 o;walk_at "r";exact c (by rw[hL (show ¬j.length<=24 by omega),FA])
       ·have o:=vr o;exact main (by rw[hD (show 1<=g.length by omega),hD (show g.length<=16 by omega),hD (show j.length<=24 by omega)];rfl)
     ·have v:=vr v;walk_at "r";exact c (by rw[hL (by omega)];rfl)
    all_goals
     walk_at "r";exact c rfl
   all_goals
    walk_at "r";exact c rfl
  ·have z:U7 (.tup i)=false:=by
    match i,G with
    | [],_=>rfl
    | [a],_=>cases a<;>rfl
    | [_,_],e=>exact absurd rfl e
    | a::b::_::_,_=>cases a<;>first | rfl | (cases b<;>rfl)
   walk_at "r";refine⟨λe=>?_,λe=>?_⟩
   ·walk_at "r";exact c z
   ·exact absurd (show(i.length:Int)=2 by simpa[ng] using e) G
 all_goals
  walk_at "r";exact c rfl
theorem mZ:∀(xs:List D) (gs:List Gd) (i:Nat),G6 gs xs=some i->i<=gs.length+xs.length
 | [],_,_,h=>by cases h
 | x::r,gs,i,h=>by
  have h:(bif B9 gs x then G6 (gs++[dG x]) r else some gs.length)=some i:=h
  cases e:B9 gs x with
  | false=>rw[e] at h;cases h;exact FR _ _
  | true=>
   rw[e] at h;have:=mZ r (gs++[dG x]) i h;rw[nT,o0] at this;rw[na];omega
theorem nD{b:GH}:∀(xs:List D) (a:GH) (i:Nat),K5 b a xs=some i->i<=a.length+xs.length
 | [],_,_,h=>by cases h
 | x::r,a,i,h=>by
  have h:(bif G4 b a x then K5 b (a++[D9 x]) r else some a.length)=some i:=h
  cases e:G4 b a x with
  | false=>rw[e] at h;cases h;exact FR _ _
  | true=>
   rw[e] at h;have:=nD r (a++[D9 x]) i h;rw[nT,o0] at this;rw[na];omega
theorem mJ {w:Str} {i:Nat} (hw:w="board" \/ w="guard" \/ w="load") (d:i<=24):bb (rb (some (w,(i:Int)))):=by
 have c:C6 (.str w) 201 0:=(C6.str (k:=5) (by rcases hw with rfl | rfl | rfl<;>decide) (by rcases hw with rfl | rfl | rfl<;>decide)).mono (by decide) (by decide);have b:C6 (.int (i:Int)) 201 0:=C6.int ⟨by omega,by omega⟩
 have h:C6 (.tup [.str w,.int (i:Int)]) (2*202) 1:=C6.tup (λx a=>by
  rcases List.mem_cons.mp a with rfl | a
  ·exact c
  ·rw[List.mem_singleton.mp a];exact b) (hI _)
 exact h.ok (by decide) (by decide)
theorem qV(d:D):bb (rb (V4 d)):=by
 cases c:U7 d with
 | false=>rw[cw c];exact mJ (i:=0) (.inl rfl) (by decide)
 | true=>
  obtain⟨a,b,rfl,l,j⟩:=oz c
  have e:V4 (.tup [.tup a,.tup b])=(match G6 [] a with
   | some i=>some (("guard" : Str),(i:Int))
   | none=>match K5 (a.map D9) [] b with
    | some i=>some ("load",(i:Int))
    | none=>none):=by
   show(bif U7 _ then _ else _)=_;rw[c];rfl
  rw[e]
  cases h:G6 [] a with
  | some i=>exact mJ (.inr (.inl rfl)) (by have:=mZ _ _ _ h;rw[Fx] at this;omega)
  | none=>
   cases g:K5 (a.map D9) [] b with
   | some i=>exact mJ (.inr (.inr rfl)) (by have:=nD _ _ _ g;rw[Fx] at this;omega)
   | none=>exact⟨rfl,by decide,by decide⟩
theorem qG{Q:D->Prop}{d f:D}{b:Option D}(sh:bb d)(a:bb f)(q:Q (.bl true)):eJ (EP Q) [some d,some f,some (.str (pyd d).shown),some f,some (.bl true),b]:=by
 walk_at "r";refine⟨a,?_⟩;walk_at "r";refine⟨a,?_⟩;refine Br.yes (hD rfl) ?_;walk_at "r";refine⟨sh,?_⟩;walk_at "r";have e:ng false (decide ((pyd d).shown=(pyd d).shown))=true:=hD rfl;rw[e];exact q
theorem tH(ds:List D)(Q:D->Prop)(h:G9 ds Q):nP (EP Q) (j3 6 ds):=by
 obtain⟨d,rfl,c,im,sh,q⟩:=h;have a:=qV d;refine⟨d,rfl,c,rfl,?_⟩;refine⟨sh,rfl,rfl,rfl,?_⟩;refine⟨d,rfl,c,?_⟩
 cases b:V4 d with
 | none=>
  rw[b] at a;exact⟨rfl,rfl,qG sh a q⟩
 | some g=>
  obtain⟨w,i⟩:=g;rw[b] at a;refine⟨rfl,rfl,λe j=>?_⟩;walk_at "r";refine⟨a,?_⟩;walk_at "r";refine⟨a,?_⟩;refine Br.yes (hD rfl) ?_;walk_at "r";refine⟨sh,?_⟩;walk_at "r";have e:ng false (decide ((pyd d).shown=(pyd d).shown))=true:=hD rfl;rw[e];exact q
def vH(d:D):Bool:=kn d&&y4 d&&D1 d&&decide ((pyd d).weight<=300)&&decide ((pyd d).depth<=4)
def xP(d:D):Bool:=kn d&&y4 d&&D1 d&&decide ((pyd d).weight<=300)&&decide ((pyd d).depth<=9)
theorem zT.of{d:D}(h:vH d=true):zT d 300 4:=by
 unfold vH at h;simp only[eH,decide_eq_true_eq] at h;exact⟨h.1.1.1.1,h.1.1.1.2,h.1.1.2,h.1.2,h.2⟩
theorem ju{xs:List D}{p:D->Bool}{i:Int}{K:D->Prop}(h:xs.all p=true)(c:0<=i)(b:i<xs.length)(k:∀d,p d=true->K d):∃d,Z2 xs i=some d/\K d:=by
 obtain⟨x,a,_,z⟩:=nU (f:=id) (xs:=xs) c b;rw[List.map_id] at z;exact⟨x,z,k x (List.all_eq_true.mp h x a)⟩
theorem rM(ds:List D)(Q:D->Prop)(h:P7 ds Q):ny (EP Q) (j3 2 ds):=by
 obtain⟨c,rfl,q⟩:=h;walk_at "r";intro a;walk_at "r";refine⟨show(20:Nat)<=sizeLine by rw[sd];decide,?_⟩;walk_at "r";refine⟨show(22:Nat)<=sizeLine by rw[sd];decide,?_⟩;walk_at "r";refine⟨show(25:Nat)<=sizeLine by rw[sd];decide,?_⟩;walk_at "r";refine ju (p:=vH) ?_ (FZ _ (by decide)) (FG c (by decide:(0:Int)<25)) λd hd=>?_
 ·kernel_rfl
 ·exact⟨(zT.of hd).im,q d (zT.of hd)⟩
theorem wI{xs:List D}{m:Nat}(h:1<=m):cutD xs none (some (-(m:Int)))=xs.take (xs.length-m):=by
 have a:HT.u6 xs.length xs.length (some (-(m:Int)))=xs.length-m:=by
  show(if -(m:Int)<0 then(-(m:Int)+(xs.length:Int)).toNat else min (-(m:Int)).toNat xs.length)=_;rw[l7 (by omega)];omega
 unfold cutD;rw[a];simp[HT.u6]
theorem Aq{xs:List D}{m:Nat}(h:1<=m):cutD xs (some (-(m:Int))) none=xs.drop (xs.length-m):=by
 have a:HT.u6 xs.length 0 (some (-(m:Int)))=xs.length-m:=by
  show(if -(m:Int)<0 then(-(m:Int)+(xs.length:Int)).toNat else min (-(m:Int)).toNat xs.length)=_;rw[l7 (by omega)];omega
 unfold cutD;rw[a];show List.take (xs.length-(xs.length-m)) _=_;rw[At (by rw[Fq];exact hI _)]
theorem U5(xs a:List D):aN (xs++a)=aN xs+aN a:=by
 unfold aN;rw[t7,List.sum_append]
theorem wX(xs:List D)(n:Nat):aN (xs.take n)+aN (xs.drop n)=aN xs:=by rw[<-U5,List.take_append_drop]
theorem jk:∀xs:List D,PyData.weightAll (D5 xs)=aN xs+xs.length
 | []=>by simp[D5,PyData.weightAll,aN]
 | x::xs=>by
  have:=jk xs;unfold aN at this ⊢;rw[nj,List.sum_cons,na];show PyData.weightAll (pyd x::D5 xs)=_;simp only[PyData.weightAll];omega
theorem zW{xs:List D}(h:∀x∈xs,kn x=true):kj xs=true:=by
 induction xs with
 | nil=>rfl
 | cons x xs a=>
  show(kn x&&kj xs)=true;rw[h x lm,a λy b=>h y (lf _ b)];rfl
theorem rj{xs:List D}{k m:Nat}{f:List D->D}(h:xv xs k)(y:xs.length<=k)(hw:aN xs<=400*k)(v:m<=3)
  (p:∀g,kn (f g)=kj g) (q:∀g,y4 (f g)=o6 g) (fs:∀g,D1 (f g)=br g) (o:∀g,(pyd (f g)).weight=PyData.weightAll (D5 g)) (r:∀g,(pyd (f g)).depth=PyData.depthAll (D5 g)+1)
  (n:Nat) (u:xs.length-m<=n) (i:n<=xs.length) (z:1<=xs.length) (j:n<xs.length):xv (xs.take n++[f (xs.drop n)]) (k+1)/\xs.take n++[f (xs.drop n)]≠[]/\(xs.take n++[f (xs.drop n)]).length<=k+1/\aN (xs.take n++[f (xs.drop n)])<=400*(k+1):=by
 have hd:∀x∈xs.drop n,kn x=true/\y4 x=true/\D1 x=true/\(pyd x).depth<=4+2*k:=λx e=>h x (List.mem_of_mem_drop e);refine⟨λx e=>?_,by simp,?_,?_⟩
 ·rcases List.mem_append.mp e with e | e
  ·obtain⟨a,b,c,d⟩:=h x (Do e);exact⟨a,b,c,by omega⟩
  ·rw[List.mem_singleton.mp e,p,q,fs,r];have:=zl λx e=>(hd x e).2.2.2;exact⟨zW λx e=>(hd x e).1,x8 λx e=>(hd x e).2.1,Au λx e=>(hd x e).2.2.1,by omega⟩
 ·rw[nT,vc,o0];omega
 ·rw[U5];have B:=wX xs n
  have l:aN [f (xs.drop n)]=aN (xs.drop n)+(xs.length-n):=by
   show(pyd (f (xs.drop n))).weight+0=_;rw[o,jk,Fq,Nat.add_zero]
  rw[l];omega
theorem wF{xs:List D}{d:D}{k:Nat}(g:xv xs k)(i:xs.length<=k)(hw:aN xs<=400*k)(h:zT d 300 4):xv (xs++[d]) (k+1)/\xs++[d]≠[]/\(xs++[d]).length<=k+1/\aN (xs++[d])<=400*(k+1):=by
 refine⟨λx e=>?_,by simp,by rw[nT,o0];omega,?_⟩
 ·rcases List.mem_append.mp e with e | e
  ·obtain⟨a,b,c,d⟩:=g x e;exact⟨a,b,c,by omega⟩
  ·rw[List.mem_singleton.mp e];exact⟨h.k,h.im,h.sh,by have:=h.de;omega⟩
 ·rw[U5];have j:aN [d]<=300:=by show(pyd d).weight+0<=300;have:=h.we;omega
  omega
theorem xv.o6{xs:List D}{k:Nat}(h:xv xs k):L3.o6 xs=true:=x8 λx a=>(h x a).2.1
theorem ow{xs:List D}(h:0<xs.length):∃l,Z2 xs (-1)=some l/\xs=xs.take (xs.length-1)++[l]:=by
 refine⟨xs[xs.length-1],?_,?_⟩
 ·unfold Z2 tq;rw[ln (by omega),l7 (by omega)];have e:((-1:Int)+(xs.length:Int)).toNat=xs.length-1:=by omega
  rw[e];show xs[xs.length-1]?=_;rw[mv (by omega)]
 ·have e:xs.drop (xs.length-1)=[xs[xs.length-1]]:=by
   rw[sf (by omega)];rw[List.drop_eq_nil_of_le (by omega)]
  rw[<-e,List.take_append_drop]
theorem vy(ds:List D)(Q:D->Prop)(h:W5 ds Q):sk (EP Q) (j3 4 ds):=by
 obtain⟨g,c,k,rfl,v,hk,R,hw,q⟩:=h;have im:=v.o6;have line:∀n,n<=100->n<=sizeLine:=λn h=>ol h (by rw[sd];decide)
 have H:aF { nx:=kq (EP Q),rt:=(EP Q).rt } [some (.lst g),some (.int c),some (.int (c/25%8)),none]:=by
  refine⟨c,rfl,λd hd=>?_⟩;obtain⟨a,b,e,f⟩:=wF v R hw hd;walk_at "r";exact⟨im,by show(y4 d&&true)=true;rw[hd.im];rfl,line _ (by rw[o0];omega),q _ a b e f⟩
 walk_at "r";refine⟨λe=>Br.yes rfl H,λe=>?_⟩;have e4:=vr e;walk_at "r";refine⟨λe=>H,λe=>?_⟩;have e0:¬(g.length:Int)=0:=by simpa[ng] using e
 obtain⟨m,U,B,J,ml⟩:∃m:Nat,(if (1+c/200%3)<(g.length:Int) then(1+c/200%3) else(g.length:Int))=(m:Int)/\1<=m/\m<=3/\m<=g.length:=by
  have:=FZ (c/200) (by decide:(3:Int)≠0);have:=FG (c/200) (by decide:(0:Int)<3);split
  ·exact⟨(1+c/200%3).toNat,by omega,by omega,by omega,by omega⟩
  ·exact⟨g.length,rfl,by omega,by omega,hI _⟩
 have E:∀(f:List D->D) (n:Nat),(∀i,kn (f i)=kj i)->(∀i,y4 (f i)=L3.o6 i)->(∀i,D1 (f i)=br i)->(∀i,(pyd (f i)).weight=PyData.weightAll (D5 i))->(∀i,(pyd (f i)).depth=PyData.depthAll (D5 i)+1)->1<=n->n<=3 ->
   L3.o6 (g.take (g.length-n))=true/\L3.o6 [f (g.drop (g.length-n))]=true/\(g.take (g.length-n)).length+[f (g.drop (g.length-n))].length<=sizeLine/\Q (.lst (g.take (g.length-n)++[f (g.drop (g.length-n))])):=λf n a b c d e n1 S=>by
  obtain⟨z1,z2,z3,z4⟩:=rj v R hw S a b c d e (g.length-n) (hI _) (Nat.sub_le _ _) (by omega) (by omega);exact⟨x8 λx j=>(v x (Do j)).2.1,x8 λx j=>(z1 x (hH _ j)).2.1,line _ (by rw[nT] at z3;omega),q _ z1 z2 z3 z4⟩
 have y:=λn=>E .tup n (λ_=>rfl) (λ_=>rfl) (λ_=>rfl) (λi=>by simp[pyd,PyData.weight]) (λi=>by simp[pyd,PyData.depth]);have C:=λn=>E .fz n (λ_=>rfl) (λ_=>rfl) (λ_=>rfl) (λi=>by simp[pyd,PyData.weight]) (λi=>by simp[pyd,PyData.depth]);have u:∀n,L3.o6 (g.drop n)=true:=λn=>x8 λx j=>(v x (List.mem_of_mem_drop j)).2.1;have Y:cutD g none (some (-2))=g.take (g.length-2):=wI (m:=2) (by decide);have d2:cutD g (some (-2)) none=g.drop (g.length-2):=Aq (m:=2) (by decide);have c1:cutD g none (some (-1))=g.take (g.length-1):=wI (m:=1) (by decide)
 have st:jo (EP Q) [some (.lst g),some (.int c),some (.int (c/25%8)),some (.int (m:Int))]:=by
  walk_at "r";refine⟨λ_=>?_,λ_=>?_⟩
  ·walk_at "r";rw[wI B];refine⟨im,im,?_⟩;rw[Aq B];walk_at "r";refine⟨u _,?_⟩;walk_at "r";exact y m B J
  walk_at "r";refine⟨λ_=>?_,λ_=>?_⟩
  ·walk_at "r";rw[wI B];refine⟨im,im,?_⟩;rw[Aq B];walk_at "r";refine⟨u _,?_⟩;walk_at "r";refine⟨u _,?_⟩;walk_at "r";exact C m B J
  walk_at "r";refine⟨λ_=>?_,λ_=>?_⟩
  ·walk_at "r";rw[Y];refine⟨im,im,?_⟩;rw[d2];walk_at "r";refine⟨u _,?_⟩;walk_at "r";exact y 2 (by decide) (by decide)
  walk_at "r";rw[c1];refine⟨im,?_⟩;walk_at "r";obtain⟨l,el,G⟩:=ow (xs:=g) (by omega);have I:l∈g:=by rw[G];simp
  obtain⟨lk,M,ls,ld⟩:=v l I;refine⟨l,el,M,?_⟩;walk_at "r";refine ju (p:=vH) ?_ (FZ _ (by decide)) (FG _ (by decide:(0:Int)<4)) λo z=>?_
  ·kernel_rfl
  ·have z:=zT.of z;walk_at "r";have T:L3.o6 (g.take (g.length-1))=true:=x8 λx j=>(v x (Do j)).2.1;have O:y4 (.tup [l,o])=true:=by show(y4 l&&(y4 o&&true))=true;rw[M,z.im];rfl
   have lt:(g.take (g.length-1)).length=g.length-1:=by rw[vc];omega
   refine⟨T,by show(y4 (.tup [l,o])&&true)=true;rw[O];rfl,line _ (by rw[lt,o0];omega),q _ (λx j=>?_) (by simp) (by rw[nT,lt,o0];omega) ?_⟩
   ·rcases List.mem_append.mp j with j | j
    ·obtain⟨a,b,c,d⟩:=v x (Do j);exact⟨a,b,c,by omega⟩
    ·rw[List.mem_singleton.mp j];refine⟨?_,O,?_,?_⟩
     ·show(kn l&&(kn o&&true))=true;rw[lk,z.k];rfl
     ·show(D1 l&&(D1 o&&true))=true;rw[ls,z.sh];rfl
     ·show max (pyd l).depth (max (pyd o).depth 0)+1<=_;have:=z.de;omega
   ·have h1:aN g=aN (g.take (g.length-1))+(pyd l).weight:=by
     have:=tz aN G;rw[U5] at this;exact this
    have X:aN [.tup [l,o]]=(pyd l).weight+1+((pyd o).weight+1+0)+0:=rfl;have:=z.we;rw[U5,X];omega
 rw[<-U] at st;walk_at "r";exact st
theorem zu(xs:List D)(i:Nat):cutD xs none (some (i:Int))=xs.take i:=by
 have a:HT.u6 xs.length xs.length (some (i:Int))=min i xs.length:=HT.wt _ _ _;unfold cutD;rw[a];show List.take (min i xs.length-0) (xs.drop 0)=_;rw[List.drop_zero,Nat.sub_zero]
 by_cases h:i<=xs.length
 ·rw[Nat.min_eq_left h]
 ·rw[Nat.min_eq_right (by omega),At (hI _),At (by omega)]
theorem rY{d:D}(h:xP d=true):kn d=true/\y4 d=true/\bb d:=by
 unfold xP at h;simp only[eH,decide_eq_true_eq] at h;exact⟨h.1.1.1.1,h.1.1.1.2,h.1.1.2,ol h.1.2 (by decide),ol h.2 (by decide)⟩
theorem wb(ds:List D)(Q:D->Prop)(h:W8 ds Q):sF (EP Q) (j3 4 ds):=by
 obtain⟨d,ns,rfl,E,H,q⟩:=h;have im:L3.o6 (ns.map D.int)=true:=x8 λx b=>by obtain⟨n,_,rfl⟩:=List.mem_map.mp b;rfl
 have ct:cutD (ns.map D.int) none (some 63)=ns.map D.int:=by
  have:=zu (ns.map D.int) 63;rw[show((63:Nat):Int)=63 from rfl] at this;rw[this,At (by rw[mo];exact H)]
 have main:wz (g1 2) aQ (ns.map D.int) { nx:=jG (EP Q),rt:=(EP Q).rt } [some d,some (.lst []),none,none]:=by
  refine .of ⟨λi g=>∃a o,g=[some d,some (.lst a),o,none]/\xv a i/\a.length<=i/\aN a<=400*i,⟨[],none,rfl,(λx b=>by cases b),hI _,hI _⟩,?_,?_⟩
  ·rintro i e g p ⟨a,o,rfl,C,b,hw⟩;have B:=(List.getElem?_eq_some_iff.mp p).1;rw[mo] at B;obtain⟨c,_,rfl⟩:=List.mem_map.mp (nb p);walk_at "r";refine⟨a,c,i,rfl,C,by omega,b,hw,λj u M J I=>?_⟩;walk_at "r";obtain⟨l,el,v⟩:=ow (xs:=j) (List.length_pos_iff.mpr M);have G:l∈j:=by rw[v];simp
   obtain⟨lk,y,ls,ld⟩:=u l G
   have O:(pyd l).weight<=400*(i+1):=by
    have:=tz aN v;rw[U5] at this;have z:aN [l]=(pyd l).weight+0:=rfl;omega
   refine⟨l,el,?_⟩;walk_at "r";refine⟨lk,y,⟨ls,by omega,by omega⟩,?_⟩;walk_at "r";exact⟨j,_,rfl,u,J,I⟩
  ·rintro g ⟨a,o,rfl,_⟩;walk_at "r";refine⟨(rY (by kernel_rfl)).2.2,?_⟩;walk_at "r";exact⟨(rY (by kernel_rfl)).2.2,q⟩
 rcases E with rfl | rfl
 ·walk_at "r";exact⟨im,by rw[ct];exact main⟩
 ·walk_at "r";exact⟨im,by rw[ct];exact main⟩
local macro_rules | `(tactic| walk_at "l")=>`(tactic| (intro _ _ h;repeat (first | exact tz List.length h.1 | obtain⟨_,h⟩:=h)))
local macro_rules | `(tactic| walk_at "b")=>`(tactic| (intro _ _ _ _ _ _ us hl;rcases us with _ | ⟨_,_ | ⟨_,_ | ⟨_,_ | ⟨_,_ | ⟨_,_ | ⟨_,us⟩⟩⟩⟩⟩⟩<;>first | rfl | simp at hl))
def nR(K:GR):Sp:=λvs H Q _=>∃(a:Addr) (ns:GK),vs=[.ref a]/\G1 K H a (ns.map V.int)/\ns.length<=63/\∀b,Q (.bl true) b
theorem J3{K:GR}{H:Hp}:∀ns:GK,i5 K H (ns.map V.int) (ns.map D.int) []
 | []=>.nil
 | n::ns=>i5.cons (A:=[]) (B:=[]) .int (J3 ns)
theorem zy{K:GR}(vs:List V)(H:Hp)(Q:VK)(E:XK)(h:nR K vs H Q E):X2 K W8 vs H Q E:=by
 obtain⟨a,ns,rfl,i,g,k⟩:=h
 have b:∀(d:D) (A:GG),Eg d ns->Rep K H (.ref a) d A->X2 K W8 [.ref a] H Q E:=λd A hd r=>
  ⟨[d],A++[],λr=>r=.bl true,.cons r .nil,⟨d,ns,rfl,hd,g,rfl⟩,λr v j B e _ c _ _=>by
   subst e;cases J7 c;exact k j⟩
 rcases i with(h | ⟨o,h⟩) | h
 ·exact b _ _ (.inr rfl) (.lst h (J3 ns))
 ·exact b _ _ (.inl rfl) (.frz (.inl ⟨o,h⟩) (J3 ns))
 ·exact b _ _ (.inl rfl) (.frz (.inr h) (J3 ns))
theorem lE:J0 J8 1:=by walk_at "l"
theorem je:J0 p8 1:=by walk_at "l"
theorem pY:J0 D2 1:=by walk_at "l"
theorem pw:J0 P1 1:=by walk_at "l"
theorem lJ:J0 K0 2:=by walk_at "l"
theorem lR:J0 K6 1:=by walk_at "l"
theorem gr:J0 A7 1:=by walk_at "l"
theorem ly:J0 K4 1:=by walk_at "l"
theorem kK:J0 w6 1:=by walk_at "l"
theorem sN:J0 V7 2:=by walk_at "l"
theorem hJ:J0 A8 2:=by walk_at "l"
theorem jv:J0 D0 1:=by walk_at "l"
theorem ql:J0 O7 1:=by walk_at "l"
theorem jA:J0 C7 3:=by walk_at "l"
theorem oY:∀ds Q W,M3 ds Q W->ds.length=1:=λ_ _ _ ⟨_,e,_⟩=>tz List.length e
theorem lV:J0 w8 2:=by walk_at "l"
theorem sL:J0 P5 1:=by walk_at "l"
theorem qA:J0 L7 3:=by walk_at "l"
theorem pe:J0 P9 1:=by walk_at "l"
theorem iW:J0 A9 2:=by walk_at "l"
theorem vw:J0 cL 1:=by walk_at "l"
theorem qe:J0 G9 1:=by walk_at "l"
theorem pJ:J0 P7 1:=by walk_at "l"
theorem sT:J0 W5 2:=by walk_at "l"
theorem uB:J0 W8 1:=by walk_at "l"
theorem lT:j1 ["self","word","number"] ["self","word","number"] (e6 (inClass (top 13) 0)):=⟨rfl,rfl,rfl,by decide +kernel,rfl,by decide +kernel,by decide +kernel⟩
theorem all_mk {l:PySem.W.OpenLaw} {w:World} {K:GR} {h:Heap} {mg:GN} {fa f1 f2 f3 f4 f5 f6 f7 f8 f9 ec eb ea e8 e5 e4 e3 e2 e1 e0 dy dx dv dt ds dc:Addr} (X:K.In h) (G:h.Ns mainGlobals mg) (h7:mg "law"=some (.ref fa))
  {dk db:Option Addr} {di:Array (GS)} {dl cr d0 ci c1 da:Value}
  (d1:aP K f1 "is_whole" bZ)
  (d2:aP K f2 "is_number" aj)
  (d3:aP K f3 "is_name" gA)
  (d4:aP K f4 "is_step" gE)
  (d5:aP K f5 "follows" bW)
  (d6:aP K f6 "is_curve" cN)
  (d7:aP K f7 "is_outline" W3)
  (d8:aP K f8 "is_guard" cZ)
  (d9:aP K f9 "names_of" Z5)
  (d10:aP K ec "climb" gp)
  (d11:aP K eb "guard_fits" W4)
  (d12:aP K ea "is_course" aa)
  (d13:aP K e8 "is_load" gF)
  (d14:aP K e5 "load_fits" aw)
  (d15:aP K e4 "looked" fW)
  (d16:aP K e3 "_law_is_number" cz)
  (d17:aP K e2 "_law_is_name" iA)
  (d18:aP K e1 "_law_are_pairs" gu)
  (d19:aP K e0 "_law_is_curve" bt)
  (d20:aP K dy "_law_row_right" ao)
  (d21:aP K dx "_law_due" uk)
  (d22:aP K dv "_law_right" gc)
  (d23:aP K dt "_law_small" gM)
  (d24:aP K ds "_law_next" lA)
  (a25:PySem.W.nsIn K mainGlobals "law"=some (some (.ref dc)))
  (l25:K.lookup dc=some ⟨dl,dk,.func (PySem.W.fnOf "law" "law" (L6 P8) (x9 P8) (e6 P8) .none cr d0 ci db c1 da),di⟩) (c25:PySem.W.codeIn K c1 "law"=true) (k25:PySem.W.keepIn K (.ref dc)=true)
  {o:Tok} (cNUMBERS_END:PySem.W.nsIn K mainGlobals "NUMBERS_END"=some (some (.int 1000000000000000000000000000000000000000000000000000000000000 o)))
  {j:Tok} (cLONGEST_NAME:PySem.W.nsIn K mainGlobals "LONGEST_NAME"=some (some (.int 8 j)))
  {q:Tok} (cMOST_STEPS:PySem.W.nsIn K mainGlobals "MOST_STEPS"=some (some (.int 5 q)))
  {p:Tok} (cMOST_GUARDS:PySem.W.nsIn K mainGlobals "MOST_GUARDS"=some (some (.int 16 p)))
  {r:Tok} (cMOST_LOADS:PySem.W.nsIn K mainGlobals "MOST_LOADS"=some (some (.int 24 r)))
  {u:Tok} (cMOST_OVER:PySem.W.nsIn K mainGlobals "MOST_OVER"=some (some (.int 7 u)))
  {d:Tok} (cMOST_STRETCHES:PySem.W.nsIn K mainGlobals "MOST_STRETCHES"=some (some (.int 4 d)))
  {a a5 Q a6 g:Addr}
  (xaNoBoard:PySem.W.nsIn K mainGlobals "NoBoard"=some (some (.ref a)))
  (xaNoText:PySem.W.nsIn K mainGlobals "NoText"=some (some (.ref a5)))
  (xaNoPlace:PySem.W.nsIn K mainGlobals "NoPlace"=some (some (.ref Q)))
  (xaNoDeed:PySem.W.nsIn K mainGlobals "NoDeed"=some (some (.ref a6)))
  (xaBoardError:PySem.W.nsIn K mainGlobals "BoardError"=some (some (.ref g)))
  {c:Addr} {a1 a7:Option Addr} {U:Array (GS)} {a2 a3 Y y a4:Value}
  (aINoBoard:PySem.W.findIn K (.ref a) "__init__"=some (some (.ref c)))
  (lINoBoard:K.lookup c=some ⟨.type "function",a1,.func (PySem.W.fnOf "__init__" "NoBoard.__init__" (L6 (inClass (top 13) 0)) (x9 (inClass (top 13) 0)) (e6 (inClass (top 13) 0)) .none a2 a3 Y a7 y a4),U⟩) (cINoBoard:PySem.W.codeIn K y "NoBoard.__init__"=true) (kINoBoard:PySem.W.keepIn K (.ref c)=true)
  (xfNoBoard:PySem.W.vg K a ["word","number"]=true)
  (xeBoardError:PySem.W.excIn K g [.type "ValueError",.type "Exception",.type "BaseException",.type "object"] "ValueError.__new__"=true)
  (xeNoBoard:PySem.W.bS K a [.type "ValueError",.type "Exception",.type "BaseException",.type "object"] "ValueError.__new__" c=true)
  (xkANoBoard_NoText_NoPlace_NoDeed:PySem.W.kitAny K (.ref a) [.ref a5,.ref Q,.ref a6]=some false)
  (xbNoBoard_1:PySem.W.findIn K (.ref a) "__getattribute__"=some (some (.builtin "BaseException.__getattribute__")))
  (xbNoBoard_2:PySem.W.findIn K (.ref a) "__getattr__"=some none)
  (xbNoBoard_3:PySem.W.findIn K (.ref a) "__class__"=some (some (.builtin "object.__class__")))
  (xbNoBoard_4:PySem.W.specialIn K (.builtin "object.__class__") "__get__"=some (some (.builtin "getset_descriptor.__get__")))
  (xbNoBoard_5:PySem.W.takesIn K (.builtin "object.__class__")=some true)
  (xbNoBoard_6:PySem.W.mroIn K a (.type "object")=some true)
  (xbNoBoard_7:PySem.W.mroIn K a (.type "BaseException")=some true)
  (xkONoBoard_NoBoard:PySem.W.kitOne K (.ref a) (.ref a)=some true)
  (xkONoBoard_ValueError:PySem.W.kitOne K (.ref a) (.type "ValueError")=some true)
  (xsys:K.lookup PySem.sysModules=none)
  (xuNoBoard_BoardError:PySem.W.mroIn K a (.ref g)=some true)
  (z1:PySem.W.nsIn K mainGlobals "bool"=some none)
  (z2:PySem.W.nsIn K mainGlobals "int"=some none)
  (z3:PySem.W.nsIn K mainGlobals "isinstance"=some none)
  (z4:PySem.W.nsIn K mainGlobals "len"=some none)
  (z5:PySem.W.nsIn K mainGlobals "str"=some none)
  (z6:PySem.W.nsIn K mainGlobals "tuple"=some none)
  (z7:PySem.W.nsIn K mainGlobals "zip"=some none)
  (z8:PySem.W.nsIn K mainGlobals "enumerate"=some none)
  (z9:PySem.W.nsIn K mainGlobals "all"=some none)
  (z10:PySem.W.nsIn K mainGlobals "range"=some none)
  (z11:PySem.W.nsIn K mainGlobals "dict"=some none)
  (z12:PySem.W.nsIn K mainGlobals "ValueError"=some none)
  (z13:PySem.W.nsIn K mainGlobals "repr"=some none)
  (z14:PySem.W.nsIn K mainGlobals "list"=some none)
  (z15:PySem.W.nsIn K mainGlobals "min"=some none) :
  ∃fd:FuncData,(∀(s:Shared) (v:Value),BindsTo s fd ⟨[v],[]⟩ [("_law_script",v)])/\∀base:Heap,K.In base->base.Ns mainGlobals mg->p6 l.prog w K mg base P6 9 fa fd ["_law_script"] (nR K):=by
 have e:=h7.symm.trans (rm X G a25);cases e;obtain⟨kb,F1,m1,k1⟩:=d1.mk X G;have b1:=F1.binds (ps:=["thing"]) (by walk_at "b");obtain⟨ka,F2,m2,k2⟩:=d2.mk X G;have b2:=F2.binds (ps:=["thing"]) (by walk_at "b");obtain⟨k0,F3,m3,k3⟩:=d3.mk X G;have b3:=F3.binds (ps:=["thing"]) (by walk_at "b");obtain⟨jp,F4,m4,k4⟩:=d4.mk X G;have b4:=F4.binds (ps:=["thing"]) (by walk_at "b");obtain⟨jl,F5,m5,k5⟩:=d5.mk X G;have b5:=F5.binds (ps:=["ahead","step"]) (by walk_at "b");obtain⟨iv,F6,m6,k6⟩:=d6.mk X G;have b6:=F6.binds (ps:=["thing"]) (by walk_at "b");obtain⟨it,F7,m7,k7⟩:=d7.mk X G;have b7:=F7.binds (ps:=["thing"]) (by walk_at "b");obtain⟨io,F8,m8,k8⟩:=d8.mk X G;have b8:=F8.binds (ps:=["thing"]) (by walk_at "b");obtain⟨il,F9,m9,k9⟩:=d9.mk X G;have b9:=F9.binds (ps:=["rows"]) (by walk_at "b");obtain⟨ik,ew,g5,h6⟩:=d10.mk X G;have hq:=ew.binds (ps:=["guards","name"]) (by walk_at "b");obtain⟨ii,ev,g4,h5⟩:=d11.mk X G;have hp:=ev.binds (ps:=["ahead","thing"]) (by walk_at "b");obtain⟨ih,eu,g3,h4⟩:=d12.mk X G;have ho:=eu.binds (ps:=["thing"]) (by walk_at "b");obtain⟨id,et,g2,h3⟩:=d13.mk X G;have hn:=et.binds (ps:=["thing"]) (by walk_at "b");obtain⟨i2,es,g0,h2⟩:=d14.mk X G;have hm:=es.binds (ps:=["guards","ahead","thing"]) (by walk_at "b");obtain⟨i1,eq,fy,h1⟩:=d15.mk X G;have hk:=eq.binds (ps:=["thing"]) (by walk_at "b");obtain⟨i0,ep,fx,h0⟩:=d16.mk X G;have hj:=ep.binds (ps:=["_law_thing","_law_low"]) (by walk_at "b");obtain⟨hz,eo,fw,gy⟩:=d17.mk X G;have hi:=eo.binds (ps:=["_law_thing"]) (by walk_at "b");obtain⟨hy,en,fv,gx⟩:=d18.mk X G;have hh:=en.binds (ps:=["_law_thing","_law_most","_law_low"]) (by walk_at "b");obtain⟨hx,em,fr,gl⟩:=d19.mk X G;have hg:=em.binds (ps:=["_law_thing"]) (by walk_at "b");obtain⟨hw,ek,fp,gk⟩:=d20.mk X G;have hf:=ek.binds (ps:=["_law_thing","_law_word"]) (by walk_at "b");obtain⟨hv,ei,fo,gj⟩:=d21.mk X G;have he:=ei.binds (ps:=["_law_thing"]) (by walk_at "b");obtain⟨hu,eg,fl,gg⟩:=d22.mk X G;have hc:=eg.binds (ps:=["_law_thing"]) (by walk_at "b");obtain⟨ht,ef,fk,g8⟩:=d23.mk X G;have hb:=ef.binds (ps:=["_law_cell"]) (by walk_at "b");obtain⟨hs,ed,fi,g7⟩:=d24.mk X G;have ha:=ed.binds (ps:=["_law_things","_law_cell"]) (by walk_at "b");have hr:=mz (st:=P8) l25 c25 k25
 have B:mg "NUMBERS_END"=some (.int (10^60) o):=by
  have e:((10^60):Int)=1000000000000000000000000000000000000000000000000000000000000:=by decide
  rw[e];exact rm X G cNUMBERS_END
 have z:mg "LONGEST_NAME"=some (.int 8 j):=rm X G cLONGEST_NAME;have M:mg "MOST_STEPS"=some (.int 5 q):=rm X G cMOST_STEPS;have C:mg "MOST_GUARDS"=some (.int 16 p):=rm X G cMOST_GUARDS;have O:mg "MOST_LOADS"=some (.int 24 r):=rm X G cMOST_LOADS;have T:mg "MOST_OVER"=some (.int 7 u):=rm X G cMOST_OVER;have x:mg "MOST_STRETCHES"=some (.int 4 d):=rm X G cMOST_STRETCHES;have q1:=og X G z1;have q2:=og X G z2;have q3:=og X G z3;have q4:=og X G z4;have q5:=og X G z5;have q6:=og X G z6;have q7:=og X G z7;have q8:=og X G z8;have q9:=og X G z9;have fe:=og X G z10;have fc:=og X G z11;have fb:=og X G z12;have f0:=og X G z13;have ez:=og X G z14;have ey:=og X G z15;have an:=rm X G xaNoBoard;have bi:=rm X G xaNoText;have am:=rm X G xaNoPlace;have bm:=rm X G xaNoDeed;have J:=rm X G xaBoardError;refine⟨PySem.W.fnOf "law" "law" (L6 P8) (x9 P8) (e6 P8) .none cr d0 ci db c1 da,λs v=>.of_eq rfl,λbase KB GB=>?_⟩;have I:=mz (st:=inClass (top 13) 0) lINoBoard cINoBoard kINoBoard;have ap:=I.binds (ps:=["self","word","number"]) λ_ _ _ _ _ _ us hl=>match us,hl with | [_,_,_],_=>rfl
 have a0:p6 l.prog w K mg base P6 1 c _ ["self","word","number"] (R1 a (Fo "NoBoard")):=uP (k:=0) I lT rfl (PySem.W.bx xfNoBoard (f:="word") (by decide)).1 (PySem.W.bx xfNoBoard (f:="number") (by decide)).1 (λkk A outer s H E=>(cR (nu (pv 0) (pv 1) rfl) (cR (nu (pv 0) (pv 2) rfl) mR)));have bn:ke l.prog w K mg base f1 _:=⟨oF F1 q1 q2 q3 lE qg,m1,k1,b1⟩
 have i:O1 l.prog w K mg base f2 _:=⟨kL F2 bn B je lB,m2,k2,b2⟩
 have ad:gY l.prog w K mg base f3 _:=⟨rK F3 q3 q4 q5 z pY sG,m3,k3,b3⟩
 have cc:nC l.prog w K mg base f4 _:=⟨sr F4 i q3 q4 q6 pw sJ,m4,k4,b4⟩
 have c0:iQ l.prog w K mg base f5 _:=⟨qk F5 lJ oV,m5,k5,b5⟩
 have bv:iO l.prog w K mg base f6 _:=⟨qf F6 cc c0 q3 q4 q6 q7 M lR oQ,m6,k6,b6⟩
 have ac:cJ l.prog w K mg base f7 _:=⟨ko F7 q3 q4 q6 C O gr jS,m7,k7,b7⟩
 have bu:jw l.prog w K mg base f8 _:=⟨oC F8 i ad bv q3 q4 q6 ly pO,m8,k8,b8⟩
 have R:dm l.prog w K mg base f9 _:=⟨pF F9 kK pf,m9,k9,b9⟩
 have ch:rL l.prog w K mg base ec _:=⟨xp ew sN wo,g5,h6,hq⟩
 have al:bO l.prog w K mg base eb _:=⟨jy ev bu R ch q4 T hJ jV,g4,h5,hp⟩
 have bg:eX l.prog w K mg base ea _:=⟨lh eu i q3 q4 q6 x jv ll,g3,h4,ho⟩
 have cd:nF l.prog w K mg base e8 _:=⟨sj et i ad bg q3 q4 q6 ql rP,g2,h3,hn⟩
 have b0:fg l.prog w K mg base e5 _:=⟨lF es cd R jA kR,g0,h2,hm⟩
 have c2:zI l.prog w K mg base "looked" 7 ["thing"] (AF Fo K mg M3) e4 _:=⟨ur eq ac al b0 q8 (PySem.W.Ap KB GB xaNoBoard xeNoBoard lINoBoard rfl) a0 ap oY sW,fy,h1,hk⟩
 have S:bV l.prog w K mg base e3 _:=⟨pM ep q1 q2 q3 lV qm,fx,h0,hj⟩
 have cf:rJ l.prog w K mg base e2 _:=⟨xw eo q9 q3 q4 q5 sL xi,fw,gy,hi⟩
 have ab:gR l.prog w K mg base e1 _:=⟨tV en S q3 q4 q6 qA ve,fv,gx,hh⟩
 have ca:ou l.prog w K mg base e0 _:=⟨sU em ab q9 q4 fe pe rl,fr,gl,hg⟩
 have ax:fK l.prog w K mg base dy _:=⟨mf ek S cf ab ca q1 q3 q4 q6 iW kG,fp,gk,hf⟩
 have dd:xQ l.prog w K mg base dx _:=⟨yV ei ax fc q8 q3 q4 q6 vw Ai,fo,gj,he⟩
 have c4:nH l.prog w K mg base dv _:=⟨sZ eg c2 dd fb q3 f0 xkANoBoard_NoText_NoPlace_NoDeed ⟨xbNoBoard_1,xbNoBoard_2,xbNoBoard_3,xbNoBoard_4,xbNoBoard_5,xbNoBoard_6,xbNoBoard_7⟩ J an bm am bi xkONoBoard_NoBoard xkONoBoard_ValueError xsys (PySem.W.ug KB xeNoBoard xeBoardError xuNoBoard_BoardError rfl) (PySem.W.bx xfNoBoard (by decide)).2 (PySem.W.bx xfNoBoard (by decide)).2 qe tH,fl,gg,hc⟩
 have c3:ni l.prog w K mg base dt _:=⟨tS ef pJ rM,fk,g8,hb⟩
 have ce:rA l.prog w K mg base ds _:=⟨xA ed c3 q4 ez ey q6 sT vy,fi,g7,ha⟩
 exact(wW hr c4 ce uB wb).imp zy
theorem walk{l:PySem.W.OpenLaw}{q:Program}{loose:GH}{XP:(GN)->Heap->Prop}{YP:World->Heap->Prop}{d:DefRec}{K:Params->GR}(hn:l.most=some 63)(hdf:d.params.defaults=[])
  (hY:∀(w:World) (h:Heap),YP w h->(K w.params).In h)
  (F:∀(w:World) (mg:GN) (fa:Addr) (h:Heap),(K w.params).In h->h.Ns mainGlobals mg->mg d.name=some (.ref fa) ->
   ∃fd:FuncData,(∀(s:Shared) (u:Value),BindsTo s fd ⟨[u],[]⟩ [("_law_script",u)])/\∀base:Heap,(K w.params).In base->base.Ns mainGlobals mg->p6 l.prog w (K w.params) mg base P6 9 fa fd ["_law_script"] (nR (K w.params))) :
  PySem.W.WalkO q loose XP YP l.row.toRowW d [] (λf vs=>PySem.call f vs):=
 L2.wQ (n:=63) (k:=9) (x:="_law_script") (CX:=λ_=>P6) (sp:=λw=>nR (K w.params)) hn (by decide) hdf ⟨rfl,by decide,by decide,rfl⟩ hY F (λ_ _ a ns hl _ hS=>⟨a,ns,rfl,hS,hl,λ_=>rfl⟩) λ_ _ _ _ _ z=>z
end My
end
open PySem PySem.W PyProof.Rows
local macro_rules | `(tactic| walk_at "d")=>`(tactic| exact⟨by k_is,_,_,_,_,_,_,_,_,_,by k_is,by k_is,by k_is⟩)
set_option maxRecDepth 100000 in
set_option maxHeartbeats 0 in
theorem PySem.Challenge.cw_fuseboard_k14_things_of_any_kind_holds : PySem.Challenge.rw_fuseboard_k14_things_of_any_kind.Holds := by
 w_on;o_law;k_head;(case hw=>w_witness2)
 k_fill
 refine My.walk (l:=PySem.Challenge.rw_fuseboard_k14_things_of_any_kind) rfl rfl (λw h Y=>PySem.W.kIn_of Y) ?F
 case F=>
  intro w mg fa h KX G hmg
  refine' My.all_mk KX G hmg ?d1 ?d2 ?d3 ?d4 ?d5 ?d6 ?d7 ?d8 ?d9 ?d10 ?d11 ?d12 ?d13 ?d14 ?d15 ?d16 ?d17 ?d18 ?d19 ?d20 ?d21 ?d22 ?d23 ?d24 ?a25 ?l25 ?c25 ?k25 ?cNUMBERS_END ?cLONGEST_NAME ?cMOST_STEPS ?cMOST_GUARDS ?cMOST_LOADS ?cMOST_OVER ?cMOST_STRETCHES ?xaNoBoard ?xaNoText ?xaNoPlace ?xaNoDeed ?xaBoardError ?aINoBoard ?lINoBoard ?cINoBoard ?kINoBoard ?xfNoBoard ?xeBoardError ?xeNoBoard ?xkANoBoard_NoText_NoPlace_NoDeed ?xbNoBoard_1 ?xbNoBoard_2 ?xbNoBoard_3 ?xbNoBoard_4 ?xbNoBoard_5 ?xbNoBoard_6 ?xbNoBoard_7 ?xkONoBoard_NoBoard ?xkONoBoard_ValueError ?xsys ?xuNoBoard_BoardError ?z1 ?z2 ?z3 ?z4 ?z5 ?z6 ?z7 ?z8 ?z9 ?z10 ?z11 ?z12 ?z13 ?z14 ?z15
  (case d1=>walk_at "d")
  (case d2=>walk_at "d")
  (case d3=>walk_at "d")
  (case d4=>walk_at "d")
  (case d5=>walk_at "d")
  (case d6=>walk_at "d")
  (case d7=>walk_at "d")
  (case d8=>walk_at "d")
  (case d9=>walk_at "d")
  (case d10=>walk_at "d")
  (case d11=>walk_at "d")
  (case d12=>walk_at "d")
  (case d13=>walk_at "d")
  (case d14=>walk_at "d")
  (case d15=>walk_at "d")
  (case d16=>walk_at "d")
  (case d17=>walk_at "d")
  (case d18=>walk_at "d")
  (case d19=>walk_at "d")
  (case d20=>walk_at "d")
  (case d21=>walk_at "d")
  (case d22=>walk_at "d")
  (case d23=>walk_at "d")
  (case d24=>walk_at "d")
  (case a25|l25|c25|k25|cNUMBERS_END|cLONGEST_NAME|cMOST_STEPS|cMOST_GUARDS|cMOST_LOADS|cMOST_OVER|cMOST_STRETCHES|xaNoBoard|xaNoText|xaNoPlace|xaNoDeed|xaBoardError|aINoBoard|lINoBoard|cINoBoard|kINoBoard=>k_is)
  (case xfNoBoard=>kernel_rfl)
  (case xeBoardError=>first | kernel_rfl | k_qdec | decide +kernel)
  (case xeNoBoard=>first | kernel_rfl | k_qdec | decide +kernel)
  (case xkANoBoard_NoText_NoPlace_NoDeed=>first | kernel_rfl | k_qdec | decide +kernel)
  (case xbNoBoard_1|xbNoBoard_2|xbNoBoard_3|xbNoBoard_4|xbNoBoard_5|xbNoBoard_6|xbNoBoard_7=>k_is)
  (case xkONoBoard_NoBoard=>first | kernel_rfl | k_qdec | decide +kernel)
  (case xkONoBoard_ValueError=>first | kernel_rfl | k_qdec | decide +kernel)
  (case xsys=>kernel_rfl)
  (case xuNoBoard_BoardError|z1|z2|z3|z4|z5|z6|z7|z8|z9|z10|z11|z12|z13|z14|z15=>k_is)
#print axioms PySem.Challenge.cw_fuseboard_k14_things_of_any_kind_holds
