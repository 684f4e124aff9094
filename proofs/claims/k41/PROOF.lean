import PyProof.Rows.All
import Wide.All
import OpenK.AllK
import Wide.FinOn
import Lean
import PyProof.EqAt
import PyProof.EqKinds
import PyProof.TupleCall
import PySem.Challenge.RW_spanrow_k41_pieces_of_the_row
set_option Elab.async false
set_option linter.all false
set_option maxRecDepth 100000
namespace PySem.W.Fast
def tw9978541920701319012:=0
def tw8594512908084771871:=0
def tw9764578021270381996:=0
def tw18399596180650560087:=0
def tw5169635760090661434:=0
def tw886194489776063947:=0
def tw11029056990368728278:=0
def tw841733728108079107:=0
def tw10693579746214454133:=0
def tw14356230615996745922:=0
def tw2793763927519052495:=0
def tw2482449493600848820:=0
def tw18325375899326276706:=0
def tw8499709752581090066:=0
def tw10043644985280676410:=0
def tw7635039972423204883:=0
def tw7966290249627692393:=0
def tw14449046943745065464:=0
def tw2566263590187584388:=0
def tw2792123066228029881:=0
def tw837519684845389925:=0
def tw14066458060277893950:=0
def tw2506467907962373410:=0
def tw7452268793283229303:=0
def tw9093073508846468862:=0
def tw6554254989232576284:=0
def tw12043342446363169742:=0
def tw2058534972050335819:=0
def tw6210276723880764983:=0
def tw13571889275462970070:=0
def tw9206545766826681132:=0
def tw7675457944956129385:=0
def tw15474221881260909247:=0
def tw16768102192478422694:=0
def tw4811304609601007326:=0
def tw5602918740669682071:=0
def tw7713722281609496372:=0
def tw6029964523826174888:=0
def tw4356114737524344201:=0
def tw7719256370456585033:=0
def tw5786081945997985632:=0
def tw568500216404679052:=0
def tw10175924673898234445:=0
def tw4162690746532422168:=0
def tw14876276323859458397:=0
def tw5794050969263844519:=0
def tw303136802680377514:=0
def tw7918832029164235937:=0
def tw16722074381006283395:=0
def tw6529169948576089939:=0
def tw14086701046796860995:=0
def tw9665046121275856097:=0
def tw13242899834987134796:=0
def tw224806002014092276:=0
def tw14966654671752859108:=0
def tw11751824395923062475:=0
def tw12024143829706482117:=0
def tw13546351537039794255:=0
def tw3425569754672905667:=0
def tw13421608944850612996:=0
def tw9536542634901980575:=0
def tw16002127067297945045:=0
def tw1218584827639464781:=0
def tw15265669262633525823:=0
def tw9768373762666233219:=0
def tw5979269957507440477:=0
def tw12888292636214695670:=0
def tw12459646530984380958:=0
def tw12627827680156022975:=0
def tw16102019915082148735:=0
def tw10112125914778049523:=0
def tw7154387117414342077:=0
def tw11709050248853262989:=0
def tw16351358592173574530:=0
def tw15533692475724454987:=0
def tw903724250363494633:=0
def tw15145874425881543820:=0
def tw5629918191911448152:=0
def tw9321795973615560317:=0
def tw9324913382502260051:=0
def tw8312839522419128734:=0
def tw1419887780810576904:=0
def tw9157996893369405562:=0
def tw8697880446196256794:=0
def tw15812446934699060146:=0
def tw76615625163262831:=0
def tw1407044525518952856:=0
def tw16970151137953485023:=0
def tw11223295070864835710:=0
def tw12295052046567496644:=0
def tw2951933483883433781:=0
def tw17429961511570135276:=0
def tw2268905362182622148:=0
def tw6542044495408964164:=0
def tw14105433122657439754:=0
def tw16295706291192735522:=0
def tw4297101282076197280:=0
def tw8750524328179790500:=0
def tw15397545204057632741:=0
def tw7437508311719907786:=0
def tw9380219313404779978:=0
def tw9339995332485070915:=0
def tw16284576234771270890:=0
def tw15793900083548563876:=0
def tw5743507460171787859:=0
def tw8992639935871971029:=0
def tw8601822847736701014:=0
def tw14764932413727514108:=0
def tw6286544749803468314:=0
def tw5967779893286684810:=0
def tw16343474013435445810:=0
def tw5308076514671744141:=0
def tw11711870795671881791:=0
def tw285035540498091457:=0
def tw325566366556426626:=0
def tw14766280702699909159:=0
def tw1503234449185755387:=0
def tw11294284468628322220:=0
def tw13899918594381971614:=0
def tw13636793877631603478:=0
def tw12839509731700385938:=0
def tw18208055436665360871:=0
def tw9316251390339691422:=0
def tw13550250011484411634:=0
def tw3986910090505717412:=0
def tw1374203211179119504:=0
def tw13560341963592805996:=0
def tw4022856877389813002:=0
def tw9196478450551341738:=0
def tw1541697654550439681:=0
def tw13450152011095562573:=0
def tw2604725183196872250:=0
def tw14607136220486297445:=0
def tw8803494932335884235:=0
def tw13024255754312372128:=0
def tw9270146019034560692:=0
def tw14880730483645218584:=0
def tw4858514391310276031:=0
def tw163912788066900490:=0
def tw9600359613373975760:=0
def tw14461217265099682455:=0
def tw237169850907866307:=0
def tw10707207132737175598:=0
def tw5080877371392349688:=0
def tw8207644137599920963:=0
def tw8348239847222900427:=0
def tw5433732263579195264:=0
def tw1671298304623169650:=0
def tw13578140859322146082:=0
def tw16562207039693162739:=0
def tw15060395363687227256:=0
def tw23779647790382087:=0
def tw1048577907570274083:=0
def tw4796664698381516545:=0
def tw14051619910451300233:=0
def tw2150717027331399823:=0
def tw11508552594452559174:=0
def tw5097487035564944724:=0
def tw10033901471014545078:=0
def tw8803454961820794319:=0
def tw8516243045998261083:=0
def tw4987388336368190107:=0
def tw4028246653415126437:=0
def tw13997578404863879364:=0
def tw11308227361569179012:=0
def tw15562360761313503402:=0
def tw11212692009627225864:=0
def tw6899933454781693410:=0
def tw8473667406382748080:=0
def tw17108644643414463940:=0
def tw18061986510591886377:=0
def tw16103315842614776186:=0
def tw4175401114370279174:=0
def tw11390788002018725526:=0
def tw7023527934373161455:=0
def tw690889947408186938:=0
def tw5648033274743538011:=0
def tw181447502459923246:=0
def tw16168075069242244058:=0
def tw10360142703512046058:=0
def tw5039751763301624180:=0
def tw16709004216315590570:=0
def tw7379829229013962718:=0
def tw4060518600447903319:=0
def tw17215937658101075355:=0
def tw16924930310869546610:=0
def tw3917608272961741742:=0
def tw11330388162409837741:=0
def tw15133822993781021874:=0
def tw16893107650052456250:=0
def tw10201088984464286812:=0
def tw196156364708758581:=0
def tw1438476631622565872:=0
def tw14489655210399957609:=0
def tw17355460473959389789:=0
def tw4923736831312942050:=0
def tw2888601683521338296:=0
def tw11987619139595175407:=0
def tw1557986901413612665:=0
def tw129574780478128013:=0
def tw7461875588681722413:=0
def tw5074306273957226464:=0
def tw1160942148331537730:=0
def tw300981824762700131:=0
def tw16737999573720036136:=0
def tw10000955891211151276:=0
def tw18415694624675671710:=0
def tw7140639432293928057:=0
def tw15954783674554563466:=0
def tw15267900499011691754:=0
def tw14226207409696538058:=0
def tw8837639175732435586:=0
def tw2937546307783590916:=0
def tw15996754156523998848:=0
def tw14185245596626488638:=0
def tw16576882478594644362:=0
def tw15596670663072960987:=0
def tw13753226106906758196:=0
def tw1004100210178573913:=0
def tw10203328019025680844:=0
def tw14523452958552068073:=0
def tw10493838759296058283:=0
def tw5898803140082580229:=0
def tw18426340513144144399:=0
def tw6374970407163836605:=0
def tw17099430237203170910:=0
def tw1379929400636096499:=0
def tw2376331273563131550:=0
def tw16539245358795754632:=0
def tw13021819577163236759:=0
def tw2600137109248667913:=0
def tw1535433927844414216:=0
def tw7077277933210482652:=0
def tw2922727099921164778:=0
def tw16564219075491046410:=0
def tw3125404773282272864:=0
def tw48382881256508958:=0
def tw10187327611494260306:=0
def tw17066645827557457066:=0
def tw2633532979385583417:=0
def tw7860619251110648896:=0
def tw1547726571453903892:=0
def tw18312009191415588058:=0
def tw15943124588387854392:=0
def tw8196670707445513185:=0
def tw6290619354016748600:=0
def tw17456350314356718737:=0
def tw15744147837790771112:=0
def tw8893196087477088024:=0
def tw7347983069120170082:=0
def tw4277187243255594743:=0
def tw18103176306621952507:=0
def tw9551670979595850351:=0
def tw2728468088694259009:=0
def tw8185388355938091094:=0
def tw12246559613820751030:=0
def tw2336720911876340681:=0
def tw2184017191294971429:=0
def tw3674893645025242436:=0
def tw10727355614851177851:=0
def tw8183229144486427717:=0
def tw6332850047787176663:=0
def tw3991235646592095630:=0
def tw9294620927766450844:=0
def tw8507688909957308452:=0
def tw15761431755077834774:=0
def tw5629516473329380162:=0
def tw16017781010665155087:=0
def tw3549523722820685813:=0
def tw7040217705408631250:=0
def tw13488679738554303300:=0
def tw9651721602739383267:=0
def tw17330311601784727184:=0
def tw4601563535520679456:=0
def tw12238689820286846772:=0
def tw11040089137169213492:=0
def tw8934211959658652294:=0
def tw3260905386015828816:=0
def tw9187868730254012485:=0
def tw2651232904642927455:=0
def tw12122366310607914999:=0
def tw9193021890450746609:=0
def tw7524665075456291010:=0
def tw7054845944435058823:=0
def tw5484376224019894858:=0
def tw3745940988954530411:=0
def tw2929342376975181273:=0
def tw15610993357223200172:=0
def tw14819111465058757224:=0
def tw11410702051994465117:=0
def tw4633343752153026871:=0
def tw4748734539426925930:=0
def tw3701195064787820969:=0
def tw18139195978916239326:=0
def tw11409635540002876603:=0
def tw9601432845880156992:=0
def tw5209096494887221841:=0
def tw14271156489300966009:=0
def tw10444878031777739295:=0
def tw14901074484177603221:=0
def tw2218010426723810154:=0
def tw13777511298476814911:=0
def tw5186591622776063860:=0
def tw1643816210187398907:=0
def tw11578917052609976336:=0
def tw4917271945008154519:=0
def tw15389084589973080227:=0
def tw6315061865520802617:=0
def tw4275641402558664049:=0
def tw20528738125513050:=0
def tw17811435131081028377:=0
def tw17788874300115548275:=0
def tw1761981511522362620:=0
def tw1664731053212151376:=0
def tw16039279715739698067:=0
def tw14441156909206322365:=0
def tw13167397974171588414:=0
end PySem.W.Fast
abbrev Aa:=List (Int × Int)
abbrev Ab:=List (List Int)
abbrev Ac:=List Int
abbrev Ad:=PySem.W.Frag
abbrev Ae:=PySem.Value->PySem.Shared->Prop
abbrev Af:=PySem.Str->Option PySem.Value
abbrev Ag:=List PySem.Value
def Xp:=@List.getElem?_eq_some_iff
def Xr:=@List.getElem?_eq_getElem
def XD:=@List.mem_singleton
def XU:=@PySem.wpAny_bind
def Xs:=@List.length_append
def Xy:=@List.mem_append
def Xg:=@List.mem_of_getElem?
def WZ:=@PySem.Heap.get?_push_of_some
def XM:=@Nat.le_refl
def WJ:=@List.getD_eq_getElem?_getD
def Ya:=@List.size_toArray
def Yb:=@List.mem_append_left
def Yc:=@List.mem_append_right
def Yd:=@List.length_map
def Ye:=@List.mem_cons_self
def Yf:=@List.mem_filter
def Yg:=@List.mem_cons
def Yh:=@List.mem_cons_of_mem
def Yi:=@Option.some.inj
def Yj:=@List.length_singleton
def Yk:=@PySem.wpAny_pure
def Yl:=@PySem.Heap.lt_size
def Ym:=@Nat.lt_of_lt_of_le
def Yn:=@Nat.zero_le
def Yo:=@PySem.Heap.get?_push_size
def Yp:=@List.getElem?_map
def Yq:=@List.getElem?_append_right
def Yr:=@Nat.le_trans
def Ys:=@List.getElem?_append_left
def Yt:=@Nat.ne_of_lt
def Yu:=@of_decide_eq_true
def Yv:=@Int.toNat_natCast
def Yw:=@Bool.false_ne_true
def Yx:=@decide_eq_true
def Yy:=@List.length_take
def Yz:=@Classical.byContradiction
def YA:=@Array.getD_eq_getD_getElem?
def YB:=@List.length_cons
def YC:=@List.mem_map
def YD:=@Array.length_toList
def YE:=@Array.getElem?_eq_getElem
def YF:=@List.append_nil
def YG:=@List.length_replicate
def YH:=@List.length_filter_le
def YI:=@List.mem_range
def YJ:=@Int.emod_lt_of_pos
def YK:=@List.length_reverse
def YL:=@Int.emod_nonneg
def YM:=@List.take_length
def YN:=@List.filter_cons
def YO:=@PySem.Heap.get?_update_other
def QP:=@List.pairwise_cons
def YQ:=@PySem.F.plainAttrs_list
def YR:=@List.map_append
def YS:=@List.length_eq_zero_iff
def YT:=@List.nodup_append
def YU:=@Array.getElem?_toList
def YV:=@decide_eq_true_iff
def YW:=@Ne.symm
def YX:=@List.map_congr_left
def YY:=@Nat.not_lt_zero
def YZ:=@List.getElem?_of_mem
def Ww:=@PySem.PassesOwn.never
def WD:=@List.take_succ
def Vy:=@List.getElem?_eq_none
def Xw:=@congrArg
def VY:=@PySem.W.mg_none_of
def Vx:=@PySem.Heap.get?_update_self
def WC:=@List.map_cons
def UE:=@List.take_of_length_le
def Vi:=@List.pairwise_append
def VX:=@List.length_drop
def Sw:=@decide_eq_false
def QG:=@List.filter_append
def Ln:=@PyProof.Rows.callWith_type1
def QF:=@PySem.wpAny_Call_Name_kw
def Lm:=@List.perm_ext_iff_of_nodup
def QE:=@List.append_assoc
def RX:=@PySem.codeAny_builtin
def QY:=@List.nodup_cons
def Pa:=@PySem.Obj.data_mapFields
def QD:=@List.all_eq_true
def Uk:=@Nat.le_succ
def OZ:=@List.length_range
def Sv:=@Int.mul_assoc
def Ox:=@List.getElem?_take
def Su:=@PySem.wpAny_holding
def QC:=@PySem.W.kia_one
def OY:=@Nat.lt_succ_self
def Ll:=@List.drop_eq_nil_of_le
def Ij:=@List.pairwise_iff_getElem
def Ss:=@Int.mul_zero
def Lk:=@List.getElem?_reverse
def QX:=@Nat.lt_irrefl
def Mz:=@PySem.Heap.SameBut.update
def OX:=@Bool.eq_iff_iff
def Ow:=@PySem.wpAny_truthy_bool
def SY:=@Int.one_mul
def Uj:=@PySem.wpAny_mono
def RW:=@Nat.ne_of_gt
def RV:=@Int.add_zero
def Ii:=@List.pairwise_singleton
def SX:=@PySem.sizeLine_eq
def Mw:=@List.pairwise_map
def Mv:=@List.filter_congr
def Lj:=@PySem.mem_of_lookup
def Li:=@List.replicate_succ
def Ov:=@PySem.F.plain_min_loop
def Lh:=@PySem.Around.under_plainId
def Mu:=@PySem.wpAny_newObj_type
def Ih:=@List.getElem?_zipWith
def SW:=@beq_iff_eq
def Mt:=@List.lookup_cons
def Ms:=@List.getElem_mem
def Lg:=@List.getElem?_drop
def Mr:=@Bool.and_eq_true
def Hd:=@PySem.F.type_list_append
def Hc:=@PySem.F.slot_list_append
def QB:=@Int.mul_comm
def Ig:=@PySem.builtinLookup_eq_fast
def Mq:=@PySem.wpAny_call_entry
def Lf:=@decide_eq_true_eq
def AD:=@List.eq_nil_iff_forall_not_mem
def Mp:=@List.nil_append
def QA:=@Int.eq_ofNat_of_zero_le
def UD:=@PySem.Heap.size_push
def Qz:=@List.pairwise_lt_range
def Qy:=@List.length_pos_of_mem
def UC:=@PySem.plainId_quiet
def SV:=@List.length_set
def Ou:=@Array.perm_iff_toList_perm
def RU:=@Nat.lt_succ_of_lt
def RT:=@List.ext_getElem?
def UB:=@Nat.succ.inj
def Ot:=@Nat.sub_self
def Hb:=@Nat.pow_le_pow_right
def Oq:=@Nat.le_of_lt
def Ha:=@List.mem_of_mem_take
def Mo:=@PySem.W.mg_of
def Le:=@PySem.wpAny_passesOwn
def GZ:=@beq_eq_false_iff_ne
def Ld:=@Nat.mul_le_mul
def Ie:=@List.mem_reverse
def GY:=@List.map_eq_nil_iff
def GX:=@List.length_zipWith
def GW:=@List.filterMap_cons
def AB:=@List.eq_of_mem_replicate
def Ic:=@PySem.wpAny_setState_of
def AA:=@List.getElem?_replicate
def Mn:=@Nat.zero_add
def GV:=@Nat.lt_of_le_of_lt
def Mm:=@List.map_map
def GU:=@Bool.false_eq_true
def Ib:=@List.length_nil
def GS:=@PySem.wpAny_setEntries_of
def Lc:=@PySem.wpAny_seqItems
def Ia:=@PySem.wpAny_askSetting
def Az:=@Array.getElem?_eq_none
def GR:=@List.getElem?_set
def GQ:=@List.flatten_cons
def Ay:=@PySem.wpAny_callSpecial?_slot
def Oo:=@PySem.wpAny_of_eq
def Ml:=@PySem.codeAny_mono
def xE:=@List.take_append_of_le_length
def xD:=@List.drop_append_of_le_length
def Mj:=@PySem.F.called_set
def HZ:=@PySem.typeLookup_type
def Mi:=@Int.mul_one
def Mh:=@Int.le_refl
def Ax:=@List.length_eraseIdx
def GP:=@List.cons_append
def Lb:=@Int.pow_zero
def La:=@Int.le_of_lt
def Aw:=@PySem.Obj.isFreed_of_fields
def HY:=@PySem.wpAny_setField
def GO:=@Nat.min_eq_left
def GN:=@List.range_succ
def Av:=@PySem.codeAny_call_builtin
def Au:=@List.mem_filterMap
def KZ:=@Int.mul_add
def KY:=@PyProof.Rows.listUpdate_at
def xC:=@PySem.F.args_tuple_add_2
def xB:=@Option.isSome_iff_exists
def xA:=@List.mem_of_mem_eraseIdx
def xy:=@List.length_erase_of_mem
def HX:=@Int.zero_add
def RS:=@Int.le_trans
def RR:=@PySem.wpAny_newList
def Om:=@List.foldl_append
def Ol:=@Int.mul_left_comm
def Qx:=@PySem.wpAny_execs_nil
def KW:=@PySem.F.entry_tuple_add
def KU:=@PySem.Calls.Name_function_global
def Ua:=@PySem.call_meets
def Oj:=@beq_self_eq_true
def KS:=@PySem.F.slot_tuple_add
def As:=@Nat.le_of_not_lt
def GL:=@List.sum_cons
def xx:=@List.getElem?_set_self
def xw:=@List.getElem?_eraseIdx
def xu:=@List.drop_of_length_le
def GK:=@List.any_cons
def Ar:=@PySem.Code.quiet_builtin
def GJ:=@PySem.wpAny_tryCatch
def Aq:=@List.foldl_cons
def Ap:=@List.find?_cons
def xt:=@PySem.W.hideAll_none
def xr:=@List.mem_of_getLast?
def xq:=@List.mem_erase_of_ne
def xp:=@List.getElem?_set_ne
def GI:=@Int.zero_mul
def GH:=@Int.pow_succ
def Ao:=@PySem.wpAny_isInstance
def GG:=@PySem.wpAny_attempt
def xn:=@Nat.mul_le_mul_left
def xm:=@List.getElem_of_mem
def xk:=@List.getElem?_range
def xj:=@List.filter_eq_self
def An:=@PySem.F.entry_min_loop
def HW:=@PySem.wpAny_letGo
def xi:=@PySem.W.callWith_K
def xh:=@Nat.add_sub_cancel
def Am:=@PySem.wpAny_updateSeq
def OW:=@if_true
def Al:=@List.take_nil
def jO:=@PyProof.Rows.callWith_builtin1
def xg:=@List.reverse_cons
def xf:=@List.getElem?_inj
def xc:=@Array.toList_push
def xb:=@PyProof.Rows.F.plain_set_update_loop
def Ak:=@PySem.wpAny_fieldsOf
def HV:=@PySem.wpAny_call
def Aj:=@PySem.isSubtype_type
def KR:=@if_false
def xa:=@decide_eq_decide
def jN:=@PySem.F.slot_dict_setdefault
def Ai:=@Nat.mul_comm
def w9:=@Nat.min_eq_right
def Ah:=@Nat.lt_trans
def w6:=@List.not_mem_nil
def jM:=@List.dropLast_concat_getLast
def w5:=@List.any_eq_true
def GF:=@Int.not_lt
def w4:=@Int.min_eq_right
def wZ:=@Int.max_eq_right
def wY:=@beq_false_of_ne
def wX:=@PySem.SeqAt.EqAt.of_refs
def jL:=@PySem.F.excBase_ValueError
def KQ:=@Option.map_some
def KP:=@Nat.le_antisymm
def KO:=@List.of_mem_zip
def GD:=@List.length_eraseIdx_of_lt
def KN:=@List.filter_nil
def KL:=@Int.min_eq_left
def KJ:=@Int.max_eq_left
def KI:=@PySem.Calls.spliced_cons
def KH:=@Bool.or_eq_true
def GC:=@PySem.F.plain_extend_loop
def jK:=@List.getElem?_eq_none_iff
def jJ:=@List.drop_eq_getElem_cons
def z9:=@Int.neg_mul
def jI:=@Int.eq_of_mul_eq_mul_left
def z8:=@Int.add_mul
def wW:=@PySem.wpAny_pyIter_list
def z7:=@PyProof.Rows.get?_update_seq
def jH:=@PySem.F.type_list_extend
def jG:=@PySem.F.slot_list_extend
def jF:=@PySem.F.slot_dict_values
def wV:=@PySem.Obj.cls_mapFields
def wU:=@List.take_zero
def jE:=@List.Pairwise.imp_of_mem
def wR:=@Int.natAbs_mul
def wQ:=@PySem.Calls.spliced_nil
def jD:=@PySem.F.type_list_index
def jC:=@PySem.F.slot_list_index
def jB:=@PySem.F.plainAttrs_dict
def jA:=@PySem.F.attr_ValueError
def jz:=@List.pairwise_mergeSort
def z6:=@PySem.wpAny_typeOf
def GB:=@PySem.wpAny_rule
def wO:=@PySem.noFill_tuple_add
def jy:=@PySem.W.funFrames_hide
def jx:=@PySem.W.cellsFrom_some
def jw:=@PySem.F.type_list_pop
def jv:=@PySem.F.slot_list_pop
def ju:=@List.getElem?_toArray
def jt:=@List.Pairwise.sublist
def js:=@Bool.beq_eq_decide_eq
/-! THE bI jr,for ints,bools,texts,own classes,jq and tuples (index,wN,in,append,pop ..),calls,loops. jo it whole ahead of wM own text;what wM proof bH not reach may be deleted. -/
namespace L2
open PySem PySem.Spec PyProof.Rows
abbrev Key:=Sum Int Str
def UP:Key->Value->Bool
 | .inl k,v=>Value.isInt k v
 | .inr x,v=>Value.isStrOf x v
def wL(w:World):Key->Int
 | .inl k=>hashInt k
 | .inr x=>hashStr w x
theorem ZD:∀ {k:Key} {v:Value},UP k v=true->(∃ i t,k=Sum.inl i/\v=Value.int i t)\/(∃ x t,k=Sum.inr x/\v=Value.str x t)
 | .inl i,v,h=>by obtain⟨t,e⟩:=Value.isInt_shape (k:=i) (v:=v) h;exact .inl ⟨i,t,rfl,e⟩
 | .inr x,v,h=>by obtain⟨t,e⟩:=Value.isStrOf_shape (x:=x) (v:=v) h;exact .inr ⟨x,t,rfl,e⟩
theorem wK(i:Int)(t:Tok):UP (.inl i) (.int i t)=true:=by simp[UP,Value.isInt]
theorem wJ(x:Str)(t:Tok):UP (.inr x) (.str x t)=true:=by simp[UP,Value.isStrOf]
theorem wI(a b:Int):decide ((Sum.inl a:Key)=Sum.inl b)=(a == b):=by
 by_cases e:a=b
 .subst e;simp
 .have h:¬ (Sum.inl a:Key)=Sum.inl b:=λq=>e (Sum.inl.inj q);rw[Sw h];exact(GZ.mpr e).symm
theorem wH(a b:Str):decide ((Sum.inr a:Key)=Sum.inr b)=decide (a=b):=by
 by_cases e:a=b
 .subst e;simp
 .have h:¬ (Sum.inr a:Key)=Sum.inr b:=λq=>e (Sum.inr.inj q);rw[Sw h,Sw e]
theorem wG(a:Int)(b:Str):decide ((Sum.inl a:Key)=Sum.inr b)=false:=Sw (λq=>nomatch q)
theorem wF(a:Str)(b:Int):decide ((Sum.inr a:Key)=Sum.inl b)=false:=Sw (λq=>nomatch q)
def VW(prog:Program)(w:World):PySem.KeyKind prog w Key where
 is:=UP
 hash:=wL w
 inj:=λv a b ha hb=>by
  rcases ZD ha with ⟨i,t,rfl,rfl⟩ | ⟨x,t,rfl,rfl⟩
  .rcases ZD hb with ⟨j,u,rfl,e⟩ | ⟨y,u,rfl,e⟩
   .injection e with e1 _;rw[e1]
   .exact nomatch e
  .rcases ZD hb with ⟨j,u,rfl,e⟩ | ⟨y,u,rfl,e⟩
   .exact nomatch e
   .injection e with e1 _;rw[e1]
 byValue:=λk v h=>by rcases ZD h with ⟨i,t,rfl,rfl⟩ | ⟨x,t,rfl,rfl⟩ <;> rfl
 pyHash:=λhv h=>by
  rcases ZD hv with ⟨i,t,rfl,rfl⟩ | ⟨x,t,rfl,rfl⟩
  .exact wpAny_pyHash_int h
  .exact wpAny_pyHash_str h
 eqBool:=λhu hv h=>by
  rcases ZD hu with ⟨i,t,rfl,rfl⟩ | ⟨x,t,rfl,rfl⟩
  .rcases ZD hv with ⟨j,u,rfl,rfl⟩ | ⟨y,u,rfl,rfl⟩
   .rw[wI]at h;exact wpAny_eqBool_int h
   .rw[wG]at h;exact SeqAt.EqAt.int_str i t y u _ _ _ _ h
  .rcases ZD hv with ⟨j,u,rfl,rfl⟩ | ⟨y,u,rfl,rfl⟩
   .rw[wF]at h;exact SeqAt.EqAt.str_int x t j u _ _ _ _ h
   .rw[wH]at h;exact wpAny_eqBool_str h
 «strs»:=λk x t v h=>by
  rcases ZD h with ⟨i,u,rfl,e⟩ | ⟨y,u,rfl,e⟩
  .exact nomatch e
  .injection e with e1 _;subst e1;cases v <;> rfl
theorem bG(prog:Program)(w:World)(i:Int)(t:Tok):(VW prog w).is (.inl i) (.int i t)=true:=wK i t
theorem bF(prog:Program)(w:World)(x:Str)(t:Tok):(VW prog w).is (.inr x) (.str x t)=true:=wJ x t
inductive V where
 | non | bl (b:Bool) | int (i:Int) | str (x:Str) | byt (b:Array UInt8) | flt (b:UInt64) | ref (a:Addr) | ty (n:String)
 deriving DecidableEq
def RelV:V->Value->Prop
 | .non,u=>u=Value.none
 | .bl b,u=>u=Value.bool b
 | .int i,u=>∃ t,u=Value.int i t
 | .str x,u=>∃ t,u=Value.str x t
 | .byt b,u=>∃ t,u=Value.bytes b t
 | .flt b,u=>∃ t,u=Value.float b t
 | .ref a,u=>u=Value.ref a
 | .ty n,u=>u=Value.type n
abbrev Vals:List V->List Value->Prop:=Paired RelV
theorem Vals.length{xs:List V}{us:Ag}(r:Vals xs us):xs.length=us.length:=Paired.length r
theorem Vals.get:∀ {xs:List V} {us:Ag} {i:Nat} {x:V},Vals xs us->xs[i]?=some x->∃ u,us[i]?=some u/\RelV x u
 | _,_,_,_,.nil,e=>by simp at e
 | _,_,0,_,.cons r _,e=>by simp at e;subst e;exact⟨_,rfl,r⟩
 | _,_,i+1,x,.cons _ t,e=>by obtain⟨u,h1,h2⟩:=Vals.get (i:=i) (x:=x) t (by simpa using e);exact⟨u,by simpa using h1,h2⟩
theorem Vals.set{x:V}{u:Value}(r:RelV x u):∀ {xs:List V} {us:Ag} (i:Nat),Vals xs us->Vals (xs.set i x) (us.set i u)
 | _,_,_,.nil=>.nil
 | _,_,0,.cons _ t=>.cons r t
 | _,_,i+1,.cons q t=>.cons q (Vals.set r i t)
theorem Vals.append:∀ {xs ys:List V} {us ws:Ag},Vals xs us->Vals ys ws->Vals (xs++ys) (us++ws)
 | _,_,_,_,.nil,s=>s
 | _,_,_,_,.cons r t,s=>.cons r (Vals.append t s)
theorem Vals.take:∀ {xs:List V} {us:Ag} (n:Nat),Vals xs us->Vals (xs.take n) (us.take n)
 | _,_,0,_=>.nil
 | _,_,_+1,.nil=>.nil
 | _,_,n+1,.cons r t=>.cons r (Vals.take n t)
theorem Vals.drop:∀ {xs:List V} {us:Ag} (n:Nat),Vals xs us->Vals (xs.drop n) (us.drop n)
 | _,_,0,r=>r
 | _,_,_+1,.nil=>.nil
 | _,_,n+1,.cons _ t=>Vals.drop n t
def RelO:Option V->Option Value->Prop
 | some v,some u=>RelV v u
 | none,none=>True
 | _,_=>False
def KV{κ:Type}:List (κ × V)->List (κ × Value)->Prop:=Paired λ(p:κ × V) (q:κ × Value)=>p.1=q.1/\RelV p.2 q.2
def kV:Key->V
 | .inl i=>.int i
 | .inr x=>.str x
inductive HO where
 | lst (xs:List V)
 | tup (xs:List V)
 | dK (kvs:List (Key × V)) | dT (kvs:List (List Key × V))
 | set (S:Int->Bool) (n:Nat)
 | ins (C dx:Addr) (fs:List (Str × V))
 | own (x:Addr)
 | xd (fs:List (Str × V))
 | met (f x:Addr)
 | rng (lo hi:Int)
 | frz (o:Obj) (u:HO)
 | tbl (ps:Array Value)
 | ext (φ:Heap->Prop)
abbrev Hp:=Addr->Option HO
def upd(H:Hp)(a:Addr)(o:HO):Hp:=λb=>if b=a then some o else H b
theorem XS{H:Hp}{a:Addr}{o:HO}:upd H a o a=some o:=by unfold upd;rw[if_pos rfl]
theorem Zb{H:Hp}{a b:Addr}{o:HO}(h:b≠a):upd H a o b=H b:=by unfold upd;rw[if_neg h]
theorem Qw{H:Hp}{a b:Addr}{o u:HO}(h:H a=some o)(h':H b=some u)(d:o≠u):a≠b:=by intro e;subst e;rw[h]at h';exact d (Yi h')
theorem Zc{H:Hp}{a b:Addr}{o:HO}(h:H a=some o)(h':H b=none):a≠b:=by intro e;subst e;rw[h]at h';cases h'
section
variable(P:Program)(w:World)
def ObjOk(H:Hp)(h:Heap)(a:Addr):HO->Prop
 | .lst xs=>xs.length<=sizeLine/\∃(XW:Ag) (n:Nat),Vals xs XW/\h.get? a=some { cls:=.type "list",data:=.seq XW.toArray n }
 | .tup xs=>xs.length<=sizeLine/\∃ XW:Ag,Vals xs XW/\IsTup h a XW.toArray
 | .dK kvs=>kvs.length<=sizeLine/\(a == sysModules)=false/\∃ vs,KV kvs vs/\h.DictOf (VW P w) a vs
 | .dT kvs=>kvs.length<=sizeLine/\(a == sysModules)=false/\∃ xs:List (List Key × Addr × Value),
   Paired (λ(p:List Key × V) (q:List Key × Addr × Value)=>p.1=q.1/\H q.2.1=some (.tup (p.1.map kV))/\RelV p.2 q.2.2) kvs xs /\
   ∃ o es ep,h.get? a=some o/\o.ExactDict/\o.data=.dict es ep/\es.toList=xs.map (entryOfKey (tupleKind (VW P w)))/\(xs.map (·.1)).Nodup
 | .set S n=>h.SetOf (intKind P w) a S n
 | .ins C dx fs=>H dx=some (.own a)/\fs.length<=1000/\dx≠a/\h.get? a=some (PySem.W.instObj C dx) /\
   ∃ mA,h.Ns1 dx mA/\(∀ f,RelO (fs.lookup f) (mA f))/\PySem.Within mA (fs.map (·.1))
 | .own _=>∃ o,h.get? a=some o
 | .xd fs=>∃ mA,h.Ns1 a mA/\∀ f,RelO (fs.lookup f) (mA f)
 | .rng lo hi=>∃ t u v,h.get? a=some { cls:=.type "range",data:=.fields #[.int lo t,.int hi u,.int 1 v] }
 | .frz o u=>h.get? a=some o/\ObjOk H h a u
 | .tbl ps=>h.get? a=some { cls:=.none,data:=.fields ps }
 | .met f x=>h.get? a=some (PySem.W.methodObj (.ref f) (.ref x))
 | .ext φ=>φ h/\(∃ o,h.get? a=some o)/\∀ h1 h2:Heap,φ h1->(∀ o,h1.get? a=some o->h2.get? a=some o)->φ h2
def HOk(H:Hp)(h:Heap):Prop:=∀ a o,H a=some o->ObjOk P w H h a o
end
section
variable{P:Program}{w:World}{H H':Hp}{h h':Heap}{a:Addr}{o:HO}
theorem ObjOk.lt(x:ObjOk P w H h a o):a<h.objs.size:=by
 cases o with
 | lst xs=>obtain⟨_,_,_,_,e⟩:=x;exact Yl e
 | tup xs=>obtain⟨_,_,_,p⟩:=x;exact p.lt
 | dK kvs=>obtain⟨_,_,_,_,o,_,_,e,_⟩:=x;exact Yl e
 | dT kvs=>obtain⟨_,_,_,_,o,_,_,e,_⟩:=x;exact Yl e
 | set S n=>obtain⟨o,_,_,_,e,_⟩:=x;exact Yl e
 | ins C dx fs=>obtain⟨_,_,_,e,_⟩:=x;exact Yl e
 | own y=>obtain⟨_,e⟩:=x;exact Yl e
 | xd fs=>obtain⟨_,⟨_,_,_,e,_⟩,_⟩:=x;exact Yl e
 | rng lo hi=>obtain⟨_,_,_,e⟩:=x;exact Yl e
 | frz ob u=>obtain⟨e,_⟩:=x;exact Yl e
 | tbl ps=>exact Yl (show h.get? a=some _ from x)
 | met f y=>exact Yl (show h.get? a=some _ from x)
 | ext φ=>obtain⟨_,⟨_,e⟩,_⟩:=x;exact Yl e
theorem Paired.mapP{α β:Type}{F G:α->β->Prop}:∀ {l₁:List α} {l₂:List β},Paired F l₁ l₂->(∀ a b,F a b->G a b)->Paired G l₁ l₂
 | _,_,.nil,_=>.nil
 | _,_,.cons r t,f=>.cons (f _ _ r) (Paired.mapP t f)
theorem ObjOk.stay(x:ObjOk P w H h a o)(k:∀ b u,(b=a\/H b=some (.own a))->h.get? b=some u->h'.get? b=some u)
  (ho:∀ b,H b=some (.own a)->H' b=some (.own a)) (ht:∀ b xs,H b=some (.tup xs)->H' b=some (.tup xs)):ObjOk P w H' h' a o:=by
 induction o with
 | lst xs=>obtain⟨z,XW,n,r,e⟩:=x;exact⟨z,XW,n,r,k _ _ (.inl rfl) e⟩
 | tup xs=>obtain⟨z,XW,r,ob,e,c⟩:=x;exact⟨z,XW,r,ob,k _ _ (.inl rfl) e,c⟩
 | dK kvs=>obtain⟨z,y,vs,r,ob,es,ep,e,c⟩:=x;exact⟨z,y,vs,r,ob,es,ep,k _ _ (.inl rfl) e,c⟩
 | dT kvs =>
  obtain⟨z,y,xs,r,ob,es,ep,e,c⟩:=x;exact⟨z,y,xs,Paired.mapP r λp q z=>⟨z.1,ht _ _ z.2.1,z.2.2⟩,ob,es,ep,k _ _ (.inl rfl) e,c⟩
 | set S n=>obtain⟨ob,es,ep,t,e,c⟩:=x;exact⟨ob,es,ep,t,k _ _ (.inl rfl) e,c⟩
 | ins C dx fs =>
  obtain⟨d,z,ne,e,mA,⟨od,es,ep,e2,c⟩,r⟩:=x;exact⟨ho _ d,z,ne,k _ _ (.inl rfl) e,mA,⟨od,es,ep,k _ _ (.inr d) e2,c⟩,r⟩
 | own y=>obtain⟨ob,e⟩:=x;exact⟨ob,k _ _ (.inl rfl) e⟩
 | xd fs=>obtain⟨mA,⟨od,es,ep,e,c⟩,r⟩:=x;exact⟨mA,⟨od,es,ep,k _ _ (.inl rfl) e,c⟩,r⟩
 | rng lo hi=>obtain⟨t,u,v,e⟩:=x;exact⟨t,u,v,k _ _ (.inl rfl) e⟩
 | frz ob u ih=>obtain⟨e,q⟩:=x;exact⟨k _ _ (.inl rfl) e,ih q⟩
 | tbl ps =>
  have e:h.get? a=some { cls:=.none,data:=.fields ps }:=x;show h'.get? a=some { cls:=.none,data:=.fields ps }
  exact k a _ (.inl rfl) e
 | met f y =>
  have e:h.get? a=some (PySem.W.methodObj (.ref f) (.ref y)):=x;show h'.get? a=some (PySem.W.methodObj (.ref f) (.ref y))
  exact k a _ (.inl rfl) e
 | ext φ=>obtain⟨p,⟨o,e⟩,st⟩:=x;exact⟨st _ _ p λo q=>k _ _ (.inl rfl) q,⟨o,k _ _ (.inl rfl) e⟩,st⟩
theorem HOk.lt(x:HOk P w H h)(e:H a=some o):a<h.objs.size:=(x a o e).lt
theorem HOk.fresh(x:HOk P w H h)(e:h.objs.size<=a):H a=none:=by
 cases q:H a with
 | none=>rfl
 | some u=>exact absurd (Ym (x.lt q) e) (QX _)
theorem HOk.kept(x:HOk P w H h)(k:∀ b u,h.get? b=some u->h'.get? b=some u):HOk P w H h':=λa o e =>
 (x a o e).stay (λb u _ q=>k b u q) (λ_ q=>q) λ_ _ q=>q
theorem HOk.laid(x:HOk P w H h)(k:∀ b u,h.get? b=some u->h'.get? b=some u)(hp:h.objs.size<=a)(new:ObjOk P w (upd H a o) h' a o):HOk P w (upd H a o) h':=λb u e=>by
 have hn:=x.fresh hp;by_cases hb:b=a
 .subst hb;rw[XS]at e;cases e;exact new
 .rw[Zb hb]at e;exact(x b u e).stay (λc v _ q=>k c v q) (λc q=>by rw[Zb (Zc q hn)];exact q) λc xs q=>by rw[Zb (Zc q hn)];exact q
end
def Rd(H:Hp)(a:Addr)(u:HO):Prop:=H a=some u\/∃ o,H a=some (.frz o u)
theorem Rd.ok{P:Program}{w:World}{H:Hp}{h:Heap}{a:Addr}{u:HO}(r:Rd H a u)(x:HOk P w H h):ObjOk P w H h a u:=by
 rcases r with r | ⟨o,r⟩
 .exact x a u r
 .obtain⟨_,q⟩:=x a _ r;exact q
def GA:Option HO->Prop
 | some (.lst _)=>True
 | some (.dK _)=>True
 | some (.dT _)=>True
 | some (.set _ _)=>True
 | some (.ins _ _ _)=>True
 | some (.ext _)=>True
 | _=>False
section
variable{P:Program}{w:World}{H:Hp}{h h':Heap}{x e:Addr}{o':HO}
theorem HOk.write(ok:HOk P w H h)(mu:GA (H x))(he:e=x\/H e=some (.own x))(k:∀ b u,b≠e->h.get? b=some u->h'.get? b=some u)(HU:∃ u,h'.get? e=some u)
  (new:ObjOk P w (upd H x o') h' x o'):HOk P w (upd H x o') h':=λb u q=>by
 have Gz:∀ c y,H c=some (.own y)->c≠x:=λc y r z=>by subst z;rw[r]at mu;exact mu
 have wD:∀ c xs,H c=some (.tup xs)->c≠x:=λc xs r z=>by subst z;rw[r]at mu;exact mu
 by_cases hb:b=x
 .subst hb;rw[XS]at q;cases q;exact new
 .rw[Zb hb]at q;by_cases KG:b=e
  .have q':H b=some (.own x):=by
    rcases he with z | z
    .exact absurd (KG.trans z) hb
    .rw[KG];exact z
   rw[q]at q';cases q';obtain⟨v,hv⟩:=HU;exact⟨v,by rw[KG];exact hv⟩
  .refine(ok b u q).stay (λc v hc r=>k c v ?_ r) (λc r=>by rw[Zb (Gz c b r)];exact r) λc xs r=>by rw[Zb (wD c xs r)];exact r
   rcases hc with rfl | hc
   .exact KG
   .rintro rfl;rcases he with z | z
    .exact Gz c b hc z
    .rw[hc]at z;cases z;exact hb rfl
end
structure Un (fs ex:List Addr) (H H':Hp) (h h':Heap):Prop where
 keep:∀ b o,h.get? b=some o->H b=none->b∉fs->b∉ex->h'.get? b=some o
 slot:∀ b o,h.get? b=some o->H b=none->b∈fs->b∉ex->∃ sl,h'.get? b=some { o with slots:=sl }
 free:∀ b o,h.get? b=some o->H b=none->b∉ex->H' b=none
 there:∀ b o,h.get? b=some o->b∉ex->∃ o',h'.get? b=some o'
 tups:∀ b xs,H b=some (.tup xs)->H' b=some (.tup xs)
 frzs:∀ b o u,H b=some (.frz o u)->H' b=some (.frz o u)
 tbls:∀ b ps,H b=some (.tbl ps)->∃ more,H' b=some (.tbl (ps++more))
section
variable{fs ex:List Addr}{H H1:Hp}{h h1 h':Heap}{a x e:Addr}{o:HO}
theorem Un.any(u:Un fs ex H H1 h h1){b:Addr}{ob:Obj}(q:h.get? b=some ob)(n:H b=none)(hx:b∉ex):∃ sl,h1.get? b=some { ob with slots:=sl }:=by
 by_cases hb:b∈fs
 .exact u.slot b ob q n hb hx
 .exact⟨ob.slots,u.keep b ob q n hb hx⟩
theorem Un.kept(k:∀ b u,h.get? b=some u->h'.get? b=some u):Un fs ex H H h h' :=
 ⟨λb ob q _ _ _=>k b ob q,λb ob q _ _ _=>⟨ob.slots,k b ob q⟩,λ_ _ _ n _=>n,λb ob q _=>⟨ob,k b ob q⟩,λ_ _ q=>q,λ_ _ _ q=>q,λ_ ps q=>⟨#[],by rw[q];simp⟩⟩
theorem Un.refl:Un fs ex H H h h:=Un.kept λ_ _ q=>q
theorem Un.laid(k:∀ b u,h.get? b=some u->h'.get? b=some u)(hp:h.objs.size<=a)(hn:H a=none):Un fs ex H (upd H a o) h h' where
 keep:=λb u q _ _ _=>k b u q
 slot:=λb u q _ _ _=>⟨u.slots,k b u q⟩
 free:=λb u q n _=>by rw[Zb (Yt (Ym (Yl q) hp))];exact n
 there:=λb u q _=>⟨u,k b u q⟩
 tups:=λb xs q=>by rw[Zb (Zc q hn)];exact q
 frzs:=λb u xs q=>by rw[Zb (Zc q hn)];exact q
 tbls:=λb ps q=>⟨#[],by rw[Zb (Zc q hn),q];simp⟩
theorem Un.write(mu:GA (H x))(he:e=x\/H e=some (.own x))(k:∀ b u,b≠e->h.get? b=some u->h'.get? b=some u)(HU:∃ u,h'.get? e=some u):Un fs ex H (upd H x o) h h':=by
 have hx:∀ b,H b=none->b≠x:=λb n z=>by subst z;rw[n]at mu;exact mu
 have hb:∀ b,H b=none->b≠e:=λb n z=>by
  subst z;rcases he with r | r
  .exact hx b n r
  .rw[n]at r;cases r
 have hm:∀ b u,H b=some u->¬ GA (some u)->b≠x:=λb u q nm z=>by subst z;rw[q]at mu;exact nm mu
 refine⟨λb u q n _ _=>k b u (hb b n) q,λb u q n _ _=>⟨u.slots,k b u (hb b n) q⟩,λb u q n _=>by rw[Zb (hx b n)];exact n,λb u q _=>?_,
  λb xs q=>by rw[Zb (hm b _ q λz=>z)];exact q,λb u xs q=>by rw[Zb (hm b _ q λz=>z)];exact q,λb ps q=>⟨#[],by rw[Zb (hm b _ q λz=>z),q];simp⟩⟩
 by_cases KG:b=e
 .subst KG;exact HU
 .exact⟨u,k b u KG q⟩
end
def z5(h:Heap)(H:Hp):List Addr:=(List.range h.objs.size).filter λa=>(H a).isSome
def Vh(h:Heap)(H:Hp):Heap:=PySem.W.hideAll h (z5 h H)
theorem bE(h:Heap)(H:Hp):(Vh h H).objs.size=h.objs.size:=PySem.W.hideAll_size _ _
theorem wC{h:Heap}{H:Hp}{b:Addr}{o:Obj}(e:h.get? b=some o)(n:H b=none):(Vh h H).get? b=some o :=
 PySem.W.hideAll_get _ e λhm=>by have q:(H b).isSome=true:=(Yf.mp hm).2;rw[n]at q;simp at q
theorem Gy{h:Heap}{H:Hp}{b:Addr}{o:Obj}(e:(Vh h H).get? b=some o):h.get? b=some o/\H b=none:=by
 have e':h.get? b=some o:=PySem.W.of_hideAll (z5 h H) e;refine⟨e',?_⟩;cases q:H b with
 | none=>rfl
 | some x =>
  have hm:b∈z5 h H:=Yf.mpr ⟨YI.mpr (Yl e'),by simp[q]⟩;have z:(Vh h H).get? b=none:=xt (z5 h H) hm
  rw[z]at e;cases e
def wB(g h:Heap)(L:Addr):List (Addr × Obj):=(List.range h.objs.size).filterMap λa=>if a=L\/(g.get? a).isSome=true then none else (h.get? a).map λo=>(a,o)
def rest(g h:Heap)(L d:Addr):List (Addr × Obj):=(wB g h L).filter λp=>decide (p.1≠d)
structure Mod (K:Ad) (mg:Af) (base:Heap):Prop where
 kin:K.In base
 glob:base.Ns mainGlobals mg
 blt:∃ mb,base.Ns builtinsNs mb/\∀ x:Str,x≠"__name__"->mb x=bootBuiltins x
 nolimit:base.NoLimit
structure Cx where
 prog:Program
 w:World
 K:Ad
 mg:Af
 base:Heap
 A:Around
 N:List Str
 s₀:Shared
 H₀:Hp
 env:Env
 outer:List Env
 stack:List Env
 ex:List Addr
 fn:Str->Bool
 calm:Bool
 pn:List (Addr × Obj)
 xe:Ae
def Wr(l:List Env):List Addr:=l.filterMap (·.frame)
abbrev Cx.fs(X:Cx):List Addr:=Wr X.outer
def wA(sc:Scope)(x:Str):Prop:=sc.names.lookup x=some .local\/sc.names.lookup x=some .cell\/sc.names.lookup x=some .free
def Loc(sc:Scope)(x:Str):Prop:=sc.names.lookup x=some .local\/sc.names.lookup x=some .cell
def Look(env:Env)(h:Heap)(m:Af)(x:Str)(u:Value):Prop :=
 (env.kindOf x=some .local/\m x=some u)\/((env.kindOf x=some .cell\/env.kindOf x=some .free)/\∃ c,env.cells.lookup x=some c/\h.IsCell c (some u))
structure Cx.Ok (X:Cx):Prop where
 mod:Mod X.K X.mg X.base
 kind:X.env.scope.kind=.function
 glob:X.env.globals=mainGlobals
 blt:X.env.builtins=builtinsNs
 above:X.s₀.heap.objs.size<=X.env.locals
 inj:∀ x y c,X.env.cells.lookup x=some c->X.env.cells.lookup y=some c->x=y
 has:∀ x,(X.env.kindOf x=some .cell\/X.env.kindOf x=some .free)->∃ c,X.env.cells.lookup x=some c
 cab:∀ x c,X.fn x=true->X.env.cells.lookup x=some c->X.s₀.heap.objs.size<=c
 hd:X.calm=true->X.A.handled=none
 frames:X.A.frames=some X.stack
 stk:X.stack=X.outer\/(X.stack=X.env :: X.outer/\X.env.frame=some X.env.locals)
 exf:∀ b∈X.ex,b≠X.env.locals/\∀ x c,X.env.cells.lookup x=some c->c≠b
 bs:∀ b o,X.base.get? b=some o->X.s₀.heap.get? b=some o/\X.H₀ b=none
 bsz:X.base.objs.size<=X.s₀.heap.objs.size
 noex:∀ b o,X.base.get? b=some o->b∉X.ex
 exfs:∀ b∈X.ex,b∉X.fs
 funs:X.s₀.heap.FunFrames X.base X.outer
 frf:∀ b∈X.fs,X.H₀ b=none
structure Inv (X:Cx) (pins:List (Addr × Obj)) (σ:List (Option V)) (H:Hp) (s:Shared):Prop where
 ok:X.Ok
 os:s.os=X.s₀.os
 bare:AllBare s.gens
 base:Un X.fs X.ex X.H₀ H X.s₀.heap s.heap
 loc:∃ m,s.heap.Ns X.env.locals m/\∀(i:Nat) (x:Str) (v:V),X.N[i]?=some x->σ[i]?=some (some v)->wA X.env.scope x->∃ u,RelV v u/\Look X.env s.heap m x u
 cell:∀ x c,X.env.cells.lookup x=some c->∃ v,s.heap.IsCell c v
 free:H X.env.locals=none
 freeC:∀ x c,X.env.cells.lookup x=some c->H c=none
 pin:∀ p∈X.pn++pins,s.heap.get? p.1=some p.2/\H p.1=none/\p.1≠X.env.locals/\p.1∉X.fs/\∀ v,p.2.data≠.cell v
 hok:HOk X.prog X.w H s.heap
 len:σ.length=X.N.length
section
variable{X:Cx}{pins:List (Addr × Obj)}{σ:List (Option V)}{H H':Hp}{s:Shared}{h':Heap}
theorem Cx.Ok.nofr(ok:X.Ok){b:Addr}{o:Obj}(e:X.base.get? b=some o):b∉X.fs:=λhb=>by
 have:=(ok.funs.mem hb).1
 rw[e]at this;cases this
theorem Inv.bs(I:Inv X pins σ H s):∀ b o,X.base.get? b=some o->s.heap.get? b=some o/\H b=none:=λb o e =>
 ⟨I.base.keep b o (I.ok.bs b o e).1 (I.ok.bs b o e).2 (I.ok.nofr e) (I.ok.noex b o e),I.base.free b o (I.ok.bs b o e).1 (I.ok.bs b o e).2 (I.ok.noex b o e)⟩
theorem Inv.bk(I:Inv X pins σ H s):∀ b o,X.base.get? b=some o->s.heap.get? b=some o:=λb o e=>(I.bs b o e).1
theorem Inv.mod(I:Inv X pins σ H s):Mod X.K X.mg X.base:=I.ok.mod
theorem Inv.kIn(I:Inv X pins σ H s):X.K.In s.heap:=I.ok.mod.kin.keeps I.bk
theorem Inv.lt(I:Inv X pins σ H s):X.env.locals<s.heap.objs.size:=let ⟨_,hn,_⟩:=I.loc;hn.lt
theorem Inv.sz(I:Inv X pins σ H s):X.s₀.heap.objs.size<=s.heap.objs.size:=Yr I.ok.above (Oq I.lt)
theorem Inv.nofs(I:Inv X pins σ H s){a:Addr}(h:s.heap.objs.size<=a):a∉X.fs:=λhb=>by obtain⟨_,o,ho,_⟩:=I.ok.funs.mem hb;exact absurd (Ym (Yl ho) (Yr I.sz h)) (QX _)
theorem Inv.cne(I:Inv X pins σ H s):∀ x c,X.env.cells.lookup x=some c->c≠X.env.locals:=λx c e z=>by obtain⟨v,o,ho,hd⟩:=I.cell x c e;obtain⟨m,⟨o',es,ep,WQ,TZ,_⟩,_⟩:=I.loc;rw[z,WQ]at ho;cases ho;rw[TZ]at hd;cases hd
theorem Inv.funs(I:Inv X pins σ H s):s.heap.FunFrames X.base X.outer:=by
 have all:∀(l:List Env),(∀ b∈Wr l,b∈X.fs)->X.s₀.heap.FunFrames X.base l->s.heap.FunFrames X.base l:=by
  intro l
  induction l with
  | nil=>intro _ _;trivial
  | cons env r ih =>
   intro hs hl;obtain⟨hk,⟨L,o,hf,hn,ho,hd⟩,hr⟩:=hl;have hL:L∈X.fs:=hs L (by unfold Wr;rw[GW,hf];exact Ye)
   obtain⟨sl,e⟩:=I.base.slot L o ho (I.ok.frf L hL) hL λz=>I.ok.exfs L z hL;exact⟨hk,⟨L,_,hf,hn,e,hd⟩,ih (λb hb=>hs b (by unfold Wr;rw[GW,hf];exact Yh _ hb)) hr⟩
 exact all X.outer (λ_ hb=>hb) I.ok.funs
theorem Inv.stack(I:Inv X pins σ H s):s.heap.FunFrames X.base X.stack:=by
 rcases I.ok.stk with e | ⟨e,hf⟩
 .rw[e];exact I.funs
 .rw[e];obtain⟨m,hn,_⟩:=I.loc;refine .cons (by rw[I.ok.kind];decide) hf hn ?_ I.funs;exact Heap.get?_none_of_le (Yr I.ok.bsz I.ok.above)
theorem Inv.stkSub(I:Inv X pins σ H s):∀ b∈Wr X.stack,b∈X.env.locals :: X.fs:=λb hb=>by
 rcases I.ok.stk with e | ⟨e,hf⟩
 .rw[e]at hb;exact Yh _ hb
 .rw[e]at hb;unfold Wr at hb;rw[GW,hf]at hb;exact hb
theorem Inv.stkFree(I:Inv X pins σ H s):∀ b∈Wr X.stack,H b=none:=λb hb=>by
 rcases Yg.mp (I.stkSub b hb) with e | hb
 .rw[e];exact I.free
 .obtain⟨_,o,ho,_⟩:=I.ok.funs.mem hb;exact I.base.free b o ho (I.ok.frf b hb) λz=>I.ok.exfs b z hb
theorem Inv.step{g':Array GenState}{t':Nat}{d':Drawn}{ch:List Addr}(I:Inv X pins σ H s)
  (OV:∀ b∈ch,(b∈X.ex\/X.s₀.heap.objs.size<=b)/\b≠X.env.locals/\(∀ x c,X.env.cells.lookup x=some c->c≠b)/\∀ p∈X.pn++pins,p.1≠b)
  (keep:∀ b o,b≠X.env.locals->b∉X.fs->b∉ch->s.heap.get? b=some o->H b=none->h'.get? b=some o)
  (slot:∀ b o,b≠X.env.locals->b∈X.fs->b∉ch->s.heap.get? b=some o->H b=none->∃ sl,h'.get? b=some { o with slots:=sl }) (free:∀ b o,b∉ch->s.heap.get? b=some o->H b=none->H' b=none)
  (there:∀ b o,b∉ch->s.heap.get? b=some o->∃ o',h'.get? b=some o')
  (tups:∀ b xs,H b=some (.tup xs)->H' b=some (.tup xs)) (frzs:∀ b o u,H b=some (.frz o u)->H' b=some (.frz o u)) (tbls:∀ b ps,H b=some (.tbl ps)->∃ more,H' b=some (.tbl (ps++more)))
  (ns:∀ m,s.heap.Ns X.env.locals m->h'.Ns X.env.locals m) (hok:HOk X.prog X.w H' h') (hg:AllBare g') :
  Inv X pins σ H' { s with heap:=h',gens:=g',drawn:=d',toks:=t' }:=by
 have Gx:∀ b o,X.s₀.heap.get? b=some o->b≠X.env.locals:=λb o e=>Yt (Ym (Yl e) I.ok.above);have z4:∀ b o,X.s₀.heap.get? b=some o->b∉X.ex->b∉ch:=λb o e hx hb=>by
  rcases(OV b hb).1 with z | z
  .exact hx z
  .exact absurd (Ym (Yl e) z) (QX _)
 have cellK:∀ x c,X.env.cells.lookup x=some c->∀ v,s.heap.IsCell c v->h'.IsCell c v:=λx c e v ⟨o,ho,hd⟩=>by
  have Gw:c∉ch:=λz=>(OV c z).2.2.1 x c e rfl;by_cases hc:c∈X.fs
  .obtain⟨sl,q⟩:=slot c o (I.cne x c e) hc Gw ho (I.freeC x c e);exact⟨_,q,hd⟩
  .exact⟨o,keep c o (I.cne x c e) hc Gw ho (I.freeC x c e),hd⟩
 refine⟨I.ok,I.os,hg,⟨λb o e n hb hx=>?_,λb o e n hb hx=>?_,λb o e n hx=>?_,λb o e hx=>?_,λb xs e=>tups b xs (I.base.tups b xs e),λb o xs e=>frzs b o xs (I.base.frzs b o xs e),λb ps e=>?_⟩,?_,λx c e=>?_,?_,λx c e=>?_,λp hp=>?_,hok,I.len⟩
 .exact keep b o (Gx b o e) hb (z4 b o e hx) (I.base.keep b o e n hb hx) (I.base.free b o e n hx)
 .obtain⟨sl,e1⟩:=I.base.slot b o e n hb hx;obtain⟨KD,e2⟩:=slot b _ (Gx b o e) hb (z4 b o e hx) e1 (I.base.free b o e n hx);exact⟨KD,e2⟩
 .obtain⟨o',e1⟩:=I.base.there b o e hx;exact free b o' (z4 b o e hx) e1 (I.base.free b o e n hx)
 .obtain⟨o',e1⟩:=I.base.there b o e hx;exact there b o' (z4 b o e hx) e1
 .obtain⟨m1,e1⟩:=I.base.tbls b ps e;obtain⟨m2,e2⟩:=tbls b _ e1;exact⟨m1++m2,by rw[e2,Array.append_assoc]⟩
 .obtain⟨m,hn,hl⟩:=I.loc;refine⟨m,ns m hn,λi x v e1 e2 e3=>?_⟩;obtain⟨u,r,l⟩:=hl i x v e1 e2 e3;refine⟨u,r,?_⟩;rcases l with l | ⟨k,c,e,z⟩
  .exact .inl l
  .exact .inr ⟨k,c,e,cellK x c e _ z⟩
 .obtain⟨v,z⟩:=I.cell x c e;exact⟨v,cellK x c e v z⟩
 .obtain⟨m,⟨o,_,_,ho,_⟩,_⟩:=I.loc;exact free _ o (λz=>(OV _ z).2.1 rfl) ho I.free
 .obtain⟨v,o,ho,hd⟩:=I.cell x c e;exact free c o (λz=>(OV c z).2.2.1 x c e rfl) ho (I.freeC x c e)
 .obtain⟨e,n,ne,nf,d⟩:=I.pin p hp;have Gw:p.1∉ch:=λz=>(OV p.1 z).2.2.2 p hp rfl
  exact⟨keep p.1 p.2 ne nf Gw e n,free p.1 p.2 Gw e n,ne,nf,d⟩
theorem Inv.un{t':Nat}(I:Inv X pins σ H s)(u:Un X.fs [] H H' s.heap h')(hok:HOk X.prog X.w H' h'):Inv X pins σ H' { s with heap:=h',toks:=t' }:=by
 obtain⟨m,⟨o,es,ep,ho,r⟩,_⟩:=id I.loc;obtain⟨sl,hL⟩:=u.any ho I.free (by simp);exact I.step (g':=s.gens) (d':=s.drawn) (ch:=[]) (λ_ z=>nomatch z) (λb o _ hb _ e n=>u.keep b o e n hb (by simp)) (λb o _ hb _ e n=>u.slot b o e n hb (by simp)) (λb o _ e n=>u.free b o e n (by simp)) (λb o _ e=>u.there b o e (by simp)) u.tups u.frzs u.tbls (λm' hm=>by obtain⟨o',z3,zZ,WQ,r'⟩:=hm;rw[ho]at WQ;cases WQ;exact⟨_,z3,zZ,hL,r'⟩) hok I.bare
theorem Inv.call{g':Array GenState}{t':Nat}{d':Drawn}{ch:List Addr}(I:Inv X pins σ H s)(u:Un (Wr X.stack) ch H H' s.heap h')(hok:HOk X.prog X.w H' h')(hg:AllBare g')
  (OV:∀ b∈ch,(b∈X.ex\/X.s₀.heap.objs.size<=b)/\b≠X.env.locals/\(∀ x c,X.env.cells.lookup x=some c->c≠b)/\∀ p∈X.pn++pins,p.1≠b) :
  Inv X pins σ H' { s with heap:=h',gens:=g',drawn:=d',toks:=t' }:=by
 obtain⟨m,⟨o,es,ep,ho,r⟩,_⟩:=id I.loc;obtain⟨sl,hL⟩:=u.any ho I.free λz=>(OV _ z).2.1 rfl;exact I.step (ch:=ch) OV (λb o hL hb hc e n=>u.keep b o e n (λz=>(Yg.mp (I.stkSub b z)).elim hL hb) hc) (λb o _ _ hc e n=>u.any e n hc) (λb o hc e n=>u.free b o e n hc) (λb o hc e=>u.there b o e hc) u.tups u.frzs u.tbls (λm' hm=>by obtain⟨o',z3,zZ,WQ,r'⟩:=hm;rw[ho]at WQ;cases WQ;exact⟨_,z3,zZ,hL,r'⟩) hok hg
theorem Inv.turned{t':Nat}{it:Addr}(I:Inv X pins σ H s)(k:∀ b o,b≠it->s.heap.get? b=some o->h'.get? b=some o)(hn:H it=none)(hL:it≠X.env.locals)
  (h1:it∈X.ex\/X.s₀.heap.objs.size<=it) (h2:∀ x c,X.env.cells.lookup x=some c->c≠it) (h3:∀ p∈X.pn++pins,p.1≠it):Inv X pins σ H { s with heap:=h',toks:=t' }:=by
 have jn:∀ b u,H b=some u->b≠it:=λb u e z=>by rw[z,hn]at e;cases e
 refine I.step (g':=s.gens) (d':=s.drawn) (ch:=[it]) (λb hb=>?_) (λb o _ _ hc e _=>k b o (λz=>hc (by simp[z])) e) (λb o _ _ hc e _=>⟨o.slots,k b o (λz=>hc (by simp[z])) e⟩) (λ_ _ _ _ n=>n)
  (λb o hc e=>⟨o,k b o (λz=>hc (by simp[z])) e⟩) (λ_ _ e=>e) (λ_ _ _ e=>e) (λb ps e=>⟨#[],by rw[e];simp⟩) (λm hm=>?_) (λb u e=>?_) I.bare
 .have e:b=it:=by simpa using hb
  subst e;exact⟨h1,hL,h2,h3⟩
 .obtain⟨o,es,ep,ho,r⟩:=hm;exact⟨o,es,ep,k _ o (YW hL) ho,r⟩
 .refine(I.hok b u e).stay (λc v hc q=>k c v ?_ q) (λ_ q=>q) λ_ _ q=>q;rcases hc with z | z
  .rw[z];exact jn b u e
  .exact jn c _ z
theorem Inv.tok(I:Inv X pins σ H s)(t:Nat):Inv X pins σ H { s with toks:=t }:=I.un (h':=s.heap) (t':=t) Un.refl I.hok
theorem Inv.kept{t':Nat}(I:Inv X pins σ H s)(k:∀ b u,s.heap.get? b=some u->h'.get? b=some u):Inv X pins σ H { s with heap:=h',toks:=t' }:=I.un (Un.kept k) (I.hok.kept k)
theorem Inv.laid{a:Addr}{o:HO}{t':Nat}(I:Inv X pins σ H s)(k:∀ b u,s.heap.get? b=some u->h'.get? b=some u)(hp:s.heap.objs.size<=a)(new:ObjOk X.prog X.w (upd H a o) h' a o) :
  Inv X pins σ (upd H a o) { s with heap:=h',toks:=t' }:=I.un (Un.laid k hp (I.hok.fresh hp)) (I.hok.laid k hp new)
theorem Inv.write{x e:Addr}{o:HO}{t':Nat}(I:Inv X pins σ H s)(mu:GA (H x))(he:e=x\/H e=some (.own x))(k:∀ b u,b≠e->s.heap.get? b=some u->h'.get? b=some u)(HU:∃ u,h'.get? e=some u)
  (new:ObjOk X.prog X.w (upd H x o) h' x o):Inv X pins σ (upd H x o) { s with heap:=h',toks:=t' }:=I.un (Un.write mu he k HU) (I.hok.write mu he k HU new)
theorem Inv.weak{σ':List (Option V)}(I:Inv X pins σ H s)(hl:σ'.length=σ.length)(w:∀(i:Nat) v,σ'[i]?=some (some v)->σ[i]?=some (some v)):Inv X pins σ' H s :=
 ⟨I.ok,I.os,I.bare,I.base,let ⟨m,hn,Sr⟩:=I.loc;⟨m,hn,λi x v e1 e2 e3=>Sr i x v e1 (w i v e2) e3⟩,I.cell,I.free,I.freeC,I.pin,I.hok,hl.trans I.len⟩
theorem Inv.pins_of{pins':List (Addr × Obj)}(I:Inv X pins σ H s)(h:∀ p∈pins',s.heap.get? p.1=some p.2/\H p.1=none/\p.1≠X.env.locals/\p.1∉X.fs/\∀ v,p.2.data≠.cell v):Inv X pins' σ H s :=
 ⟨I.ok,I.os,I.bare,I.base,I.loc,I.cell,I.free,I.freeC,λp hp=>(Xy.mp hp).elim (λz=>I.pin p (Yb _ z)) (h p),I.hok,I.len⟩
theorem KC{N:List Str}(hN:N.Nodup){i j:Nat}{x:Str}(a:N[i]?=some x)(b:N[j]?=some x):i=j:=by obtain⟨h1,e1⟩:=Xp.mp a;obtain⟨h2,e2⟩:=Xp.mp b;exact(List.getElem_inj hN).mp (e1.trans e2.symm)
theorem jm{M:Model}{A:Around}{E:Ae}{i:Nat}{x:Str}{v:V}{u:Value}{Q:Unit->Shared->Prop}(I:Inv X pins σ H s)(hN:X.N.Nodup)(hi:X.N[i]?=some x)(hx:Loc X.env.scope x)(r:RelV v u)
  (h:∀ s',Inv X pins (σ.set i (some v)) H s'->(∃ a,Heap.SameBut a s.heap s'.heap/\(a=X.env.locals\/X.env.cells.lookup x=some a))->Q () s') (hf:X.fn x=true\/X.env.scope.names.lookup x=some .local:=by first | exact .inl rfl | exact .inr rfl | assumption):wpAny M A (storeName X.env x u) Q E s:=by
 obtain⟨m,hn,hl⟩:=id I.loc;have wz:(X.env.scope.kind == .class || (X.env.scope.kind == .module && X.env.locals != X.env.globals))=false:=by rw[I.ok.kind];rfl
 have Oi:i<σ.length:=by rw[I.len];exact(Xp.mp hi).1
 have cne:=I.cne;have tracked:∀ {a:Addr} {h':Heap},(∃ o,s.heap.get? a=some o/\H a=none)->Heap.SameBut a s.heap h'->HOk X.prog X.w H h':=λ{a h'} ha hs b ob e=>by
  obtain⟨_,_,Mg⟩:=ha;refine(I.hok b ob e).stay (λc w' hc q=>(hs.2 c ?_).trans q) (λ_ q=>q) λ_ _ q=>q;rintro rfl;rcases hc with rfl | hc
  .rw[Mg]at e;cases e
  .rw[Mg]at hc;cases hc
 rcases hx with hk | hk
 .refine wpAny_storeName_local hk hn (λh' TY hs=>?_) wz;obtain⟨oL,_,_,Mf,_⟩:=id hn;refine h _ ⟨I.ok,I.os,I.bare,⟨λb o e n hb hx=>?_,λb o e n hb hx=>?_,I.base.free,λb o e hx=>?_,I.base.tups,I.base.frzs,I.base.tbls⟩,⟨_,TY,λj y v' e1 e2 e3=>?_⟩,λy c e=>?_,I.free,I.freeC,λp hp=>?_,tracked ⟨oL,Mf,I.free⟩ hs,by simpa using I.len⟩ ⟨_,hs,.inl rfl⟩
  .exact(hs.2 b (Yt (Ym (Yl e) I.ok.above))).trans (I.base.keep b o e n hb hx)
  .obtain⟨sl,e1⟩:=I.base.slot b o e n hb hx;exact⟨sl,(hs.2 b (Yt (Ym (Yl e) I.ok.above))).trans e1⟩
  .obtain⟨o',e1⟩:=I.base.there b o e hx;exact⟨o',(hs.2 b (Yt (Ym (Yl e) I.ok.above))).trans e1⟩
  .by_cases hj:j=i
   .subst hj;rw[hi]at e1;cases e1;rw[xx Oi]at e2;cases e2;exact⟨u,r,.inl ⟨hk,by simp⟩⟩
   .rw[xp (YW hj)]at e2;obtain⟨u',r',q⟩:=hl j y v' e1 e2 e3;refine⟨u',r',?_⟩;rcases q with ⟨k,e⟩ | ⟨k,c,e,z⟩
    .refine .inl ⟨k,?_⟩
     have:y≠x:=λe=>hj (KC hN e1 (e ▸ hi))
     simp[this,e]
    .exact .inr ⟨k,c,e,z.sameBut hs (cne y c e)⟩
  .obtain⟨w',z⟩:=I.cell y c e;exact⟨w',z.sameBut hs (cne y c e)⟩
  .obtain⟨e,n,ne,nf,d⟩:=I.pin p hp;exact⟨(hs.2 p.1 ne).trans e,n,ne,nf,d⟩
 .have HS:X.fn x=true:=by
   rcases hf with z | z
   .exact z
   .rw[z]at hk;cases hk
  obtain⟨c,hc⟩:=I.ok.has x (.inl hk);obtain⟨w',z⟩:=I.cell x c hc;refine wpAny_storeName_cell I.ok.kind hk hc z (λh' WI hs=>?_);obtain⟨oc,zY,wy⟩:=id z;refine h { s with heap:=h' } ⟨I.ok,I.os,I.bare,⟨λb o e n hb hx=>?_,λb o e n hb hx=>?_,I.base.free,λb o e hx=>?_,I.base.tups,I.base.frzs,I.base.tbls⟩,⟨m,hn.sameBut hs (YW (cne x c hc)),λj y v' e1 e2 e3=>?_⟩,λy c' e=>?_,I.free,I.freeC,λp hp=>?_,tracked ⟨oc,zY,I.freeC x c hc⟩ hs,by simpa using I.len⟩ ⟨c,hs,.inr hc⟩
  .exact(hs.2 b (Yt (Ym (Yl e) (I.ok.cab x c HS hc)))).trans (I.base.keep b o e n hb hx)
  .obtain⟨sl,e1⟩:=I.base.slot b o e n hb hx;exact⟨sl,(hs.2 b (Yt (Ym (Yl e) (I.ok.cab x c HS hc)))).trans e1⟩
  .obtain⟨o',e1⟩:=I.base.there b o e hx;exact⟨o',(hs.2 b (Yt (Ym (Yl e) (I.ok.cab x c HS hc)))).trans e1⟩
  .by_cases hj:j=i
   .subst hj;rw[hi]at e1;cases e1;rw[xx Oi]at e2;cases e2;exact⟨u,r,.inr ⟨.inl hk,c,hc,WI⟩⟩
   .rw[xp (YW hj)]at e2;obtain⟨u',r',q⟩:=hl j y v' e1 e2 e3;refine⟨u',r',?_⟩;rcases q with q | ⟨k,c',e,z'⟩
    .exact .inl q
    .refine .inr ⟨k,c',e,z'.sameBut hs ?_⟩;rintro rfl;exact hj (KC hN e1 (I.ok.inj _ _ _ e hc ▸ hi))
  .by_cases jl:c'=c
   .subst jl;exact⟨_,WI⟩
   .obtain⟨w2,z2⟩:=I.cell y c' e;exact⟨w2,z2.sameBut hs jl⟩
  .obtain⟨e,n,ne,nf,d⟩:=I.pin p hp;refine⟨(hs.2 p.1 ?_).trans e,n,ne,nf,d⟩;intro q;rw[q,zY]at e;have q':oc=p.2:=Yi e
   exact d w' (by rw[<- q'];exact wy)
theorem wx{M:Model}{A:Around}{E:Ae}{i:Nat}{x:Str}{v:V}{u:Value}{Q:Unit->Shared->Prop}(I:Inv X pins σ H s)(hN:X.N.Nodup)(hi:X.N[i]?=some x)(hx:Loc X.env.scope x)(r:RelV v u)
  (h:∀ s',Inv X pins (σ.set i (some v)) H s'->Q () s') (hf:X.fn x=true\/X.env.scope.names.lookup x=some .local:=by first | exact .inl rfl | exact .inr rfl | assumption):wpAny M A (storeName X.env x u) Q E s :=
 jm I hN hi hx r (λs' I' _=>h s' I') hf
theorem Inv.call'{s':Shared}{ch:List Addr}(I:Inv X pins σ H s)(ho:s'.os=s.os)(u:Un (Wr X.stack) ch H H' s.heap s'.heap)(hok:HOk X.prog X.w H' s'.heap)(hg:AllBare s'.gens)
  (OV:∀ b∈ch,(b∈X.ex\/X.s₀.heap.objs.size<=b)/\b≠X.env.locals/\(∀ x c,X.env.cells.lookup x=some c->c≠b)/\∀ p∈X.pn++pins,p.1≠b):Inv X pins σ H' s':=by
 obtain⟨h',g',d',t',o'⟩:=s';have e:o'=s.os:=ho
 subst e;exact I.call (g':=g') (t':=t') (d':=d') u hok hg OV
end
abbrev XK:=Value->Option Addr->Hp->Prop
abbrev St:=List (Option V)
abbrev VK:=V->Hp->Prop
abbrev TE:=St->Hp->VK->Prop
abbrev TT:=St->Hp->(Bool->Hp->Prop)->Prop
abbrev TA:=St->Hp->(List V->Hp->Prop)->Prop
structure Ends where
 nx:St->Hp->Prop
 rt:VK
 bk:St->Hp->Prop:=λ_ _=>False
 ct:St->Hp->Prop:=λ_ _=>False
abbrev TS:=Ends->St->Hp->Prop
def EP(X:Cx)(pins:List (Addr × Obj))(σ:St)(Q:VK)(u:Value)(s':Shared):Prop:=∃ v H',Inv X pins σ H' s'/\RelV v u/\Q v H'
def TP(X:Cx)(pins:List (Addr × Obj))(σ:St)(Q:Bool->Hp->Prop)(b:Bool)(s':Shared):Prop:=∃ H',Inv X pins σ H' s'/\Q b H'
def AP(X:Cx)(pins:List (Addr × Obj))(σ:St)(Q:List V->Hp->Prop)(us:Ag)(s':Shared):Prop:=∃ vs H',Inv X pins σ H' s'/\Vals vs us/\Q vs H'
def SP(X:Cx)(pins:List (Addr × Obj))(D:Ends)(f:Flow)(s':Shared):Prop :=
 match f with
 | .next=>∃ σ' H',Inv X pins σ' H' s'/\D.nx σ' H'
 | .brk=>∃ σ' H',Inv X pins σ' H' s'/\D.bk σ' H'
 | .cont=>∃ σ' H',Inv X pins σ' H' s'/\D.ct σ' H'
 | .ret u=>∃ v σ' H',Inv X pins σ' H' s'/\RelV v u/\D.rt v H'
def PE(X:Cx)(e:Expr)(t:TE):Prop :=
 ∀(pins:List (Addr × Obj)) (s:Shared) (σ:St) (H:Hp) (Q:VK),Inv X pins σ H s->t σ H Q->wpAny (model X.prog X.w) X.A (eval e X.env) (EP X pins σ Q) X.xe s
def PT(X:Cx)(e:Expr)(t:TT):Prop :=
 ∀(pins:List (Addr × Obj)) (s:Shared) (σ:St) (H:Hp) (Q:Bool->Hp->Prop),Inv X pins σ H s->t σ H Q->wpAny (model X.prog X.w) X.A (isTrue e X.env (eval e X.env)) (TP X pins σ Q) X.xe s
def PW(X:Cx)(e:Expr)(t:TT):Prop :=
 ∀(whole:Sem Value) (pins:List (Addr × Obj)) (s:Shared) (σ:St) (H:Hp) (Q:Bool->Hp->Prop),Inv X pins σ H s->t σ H Q->wpAny (model X.prog X.w) X.A (isTrue e X.env whole) (TP X pins σ Q) X.xe s
theorem PW.pt{X:Cx}{e:Expr}{t:TT}(h:PW X e t):PT X e t:=h _
def PA(X:Cx)(es:List Expr)(t:TA):Prop :=
 ∀(pos:Pos) (pins:List (Addr × Obj)) (s:Shared) (σ:St) (H:Hp) (Q:List V->Hp->Prop),Inv X pins σ H s->t σ H Q->wpAny (model X.prog X.w) X.A (spliced (backTo pos (starEach es X.env))) (AP X pins σ Q) X.xe s
def PS(X:Cx)(st:Stmt)(t:TS):Prop :=
 ∀(pins:List (Addr × Obj)) (s:Shared) (σ:St) (H:Hp) (D:Ends),Inv X pins σ H s->t D σ H->wpAny (model X.prog X.w) X.A (exec st X.env) (SP X pins D) X.xe s
def PSs(X:Cx)(st:List Stmt)(t:TS):Prop :=
 ∀(pins:List (Addr × Obj)) (s:Shared) (σ:St) (H:Hp) (D:Ends),Inv X pins σ H s->t D σ H->wpAny (model X.prog X.w) X.A (execs st X.env) (SP X pins D) X.xe s
theorem thn{α:Type}{t:Sem α}{Q Q':α->Shared->Prop}{M:Model}{A:Around}{E:Ae}{s:Shared}(h:wpAny M A t Q E s)(hQ:∀ a s,Q a s->Q' a s):wpAny M A t Q' E s:=Uj h hQ λ_ _ x=>x
section
variable{X:Cx}
def Gv(i:Nat):TE:=λσ H Q=>∃ v,σ[i]?=some (some v)/\Q v H
def tC(v:V):TE:=λ_ H Q=>Q v H
theorem wu {i:Nat} {x:Str} {pos:Pos} (hN:X.N[i]?=some x) (hv:wA X.env.scope x) (hd:(x == ("__debug__":Str))=false:=by decide) (Ui:(x == ("__classdict__":Str))=false:=by decide):PE X (.Name x pos) (Gv i):=by
 intro pins s σ H Q I h;obtain⟨v,e,h⟩:=h;obtain⟨m,hn,hl⟩:=I.loc;obtain⟨u,r,l⟩:=hl i x v hN e hv;have fin:EP X pins σ Q u s:=⟨v,H,I,r,h⟩
 rcases l with ⟨hk,hm⟩ | ⟨hk,c,hc,Sq⟩
 .exact wpAny_Name (wpAny_loadName_local I.ok.kind hk hn hm fin) hd
 .rcases hk with hk | hk
  .exact wpAny_Name (wpAny_loadName_cell I.ok.kind hk hc Sq fin) hd
  .exact wpAny_Name (wpAny_loadName_free I.ok.kind hk hc Sq fin Ui) hd
theorem XQ{i j pos}:PE X (.Constant (.int i) j pos) (tC (.int i)):=λ_ _ _ H _ I h=>wpAny_Constant_int ⟨.int i,H,I.tok _,⟨_,rfl⟩,h⟩
theorem RQ{b j pos}:PE X (.Constant (.bool b) j pos) (tC (.bl b)):=λ_ _ _ H _ I h=>Constant_bool ⟨.bl b,H,I,rfl,h⟩
theorem Gu{j pos}:PE X (.Constant .none j pos) (tC .non):=λ_ _ _ H _ I h=>Constant_none ⟨.non,H,I,rfl,h⟩
def Gl(X:Cx)(x:Str):Prop:=X.env.kindOf x=some .globalImplicit
theorem Gs{E:Ae}{pins:List (Addr × Obj)}{s:Shared}{σ:St}{H:Hp}{x:Str}{u:Value}{pos:Pos}{Q:Ae}(I:Inv X pins σ H s)(hg:Gl X x)(hm:X.mg x=some u)(h:Q u s)
  (hd:(x == ("__debug__":Str))=false:=by decide):wpAny (model X.prog X.w) X.A (eval (.Name x pos) X.env) Q E s :=
 KU I.ok.kind hg (Calls.loadGlobal_global (by rw[I.ok.glob];exact I.mod.glob.keeps I.bk) hm h) hd
theorem QW{E:Ae}{pins:List (Addr × Obj)}{s:Shared}{σ:St}{H:Hp}{x:Str}{u:Value}{pos:Pos}{Q:Ae}(I:Inv X pins σ H s)(hg:Gl X x)(hm:X.mg x=none)(hv:bootBuiltins x=some u)(h:Q u s)
  (hn:x≠"__name__":=by decide) (hd:(x == ("__debug__":Str))=false:=by decide):wpAny (model X.prog X.w) X.A (eval (.Name x pos) X.env) Q E s:=by obtain⟨mb,h1,h2⟩:=I.mod.blt;exact KU I.ok.kind hg (Calls.loadGlobal_builtin (by rw[I.ok.glob];exact I.mod.glob.keeps I.bk) hm (by rw[I.ok.blt];exact h1.keeps I.bk) ((h2 x hn).trans hv) h) hd
theorem Gr {x:Str} {v:V} {u:Value} {pos:Pos} (hg:Gl X x) (hm:X.mg x=some u) (r:RelV v u) (hd:(x == ("__debug__":Str))=false:=by decide):PE X (.Name x pos) (tC v) :=
 λ_ _ _ H _ I h=>Gs I hg hm ⟨v,H,I,r,h⟩ hd
theorem jk {x:Str} {v:V} {u:Value} {pos:Pos} (hg:Gl X x) (hm:X.mg x=none) (hv:bootBuiltins x=some u) (r:RelV v u) (hn:x≠"__name__":=by decide) (hd:(x == ("__debug__":Str))=false:=by decide):PE X (.Name x pos) (tC v) :=
 λ_ _ _ H _ I h=>QW I hg hm hv ⟨v,H,I,r,h⟩ hn hd
variable{a b:Expr}{ta tb:TE}{pos:Pos}
def PC(X:Cx)(op:CmpOp)(a b:Expr)(t:TE):Prop :=
 ∀(pins:List (Addr × Obj)) (s:Shared) (σ:St) (H:Hp) (Q:VK),Inv X pins σ H s->t σ H Q ->
  wpAny (model X.prog X.w) X.A (eval a X.env) (λv s₁=>wpAny (model X.prog X.w) X.A (eval b X.env) (λu s₂=>wpAny (model X.prog X.w) X.A (compareOp op v u) (EP X pins σ Q) X.xe s₂) X.xe s₁) X.xe s
def tB(t:TE):TT:=λσ H Q=>t σ H λx H1=>∃ c,x=.bl c/\Q c H1
theorem OU{e:Expr}{t:TE}(h:PE X e t)(he:∀ whole,isTrue e X.env whole=(do let v <- whole;standAt e.pos;holding [v] (truthy v)):=by intro _;rfl):PT X e (tB t):=by intro pins s σ H Q I hw;refine isTrue_plain (thn (h pins s σ H _ I hw) λv s1 ⟨x,H1,I1,r1,q1⟩=>?_) (he _);obtain⟨d,rfl,q⟩:=q1;cases r1;exact Ow ⟨H1,I1,q⟩
variable{tA zX:TT}{rest:List Expr}
def wq(t u:TT):TT:=λσ H Q=>t σ H λc H1=>if c=true then u σ H1 Q else Q false H1
def bD(t u:TT):TT:=λσ H Q=>t σ H λc H1=>if c=true then Q true H1 else u σ H1 Q
def wm(t:TT):TT:=λσ H Q=>t σ H λc H1=>Q (!c) H1
theorem jj(ha:PT X a tA):PW X (.BoolOp .And [a] pos) tA:=by
 intro wh pins s σ H Q I h;refine isTrue_and (thn (ha pins s σ H Q I h) λc s1 e=>?_);cases c with
 | true=>exact isTrue_and_nil e
 | false=>exact e
theorem SU(ha:PT X a tA):PW X (.BoolOp .Or [a] pos) tA:=by
 intro wh pins s σ H Q I h;refine isTrue_or (thn (ha pins s σ H Q I h) λc s1 e=>?_);cases c with
 | false=>exact isTrue_or_nil e
 | true=>exact e
theorem Gq(ha:PT X a tA)(hb:PW X (.BoolOp .And (b :: rest) pos) zX):PW X (.BoolOp .And (a :: b :: rest) pos) (wq tA zX):=by
 intro wh pins s σ H Q I h;refine isTrue_and (thn (ha pins s σ H _ I h) λc s1 Xv=>?_);obtain⟨H1,I1,q1⟩:=Xv;cases c with
 | true=>exact hb wh pins s1 σ H1 Q I1 q1
 | false=>exact⟨H1,I1,q1⟩
theorem KA(ha:PT X a tA)(hb:PW X (.BoolOp .Or (b :: rest) pos) zX):PW X (.BoolOp .Or (a :: b :: rest) pos) (bD tA zX):=by
 intro wh pins s σ H Q I h;refine isTrue_or (thn (ha pins s σ H _ I h) λc s1 Xv=>?_);obtain⟨H1,I1,q1⟩:=Xv;cases c with
 | true=>exact⟨H1,I1,q1⟩
 | false=>exact hb wh pins s1 σ H1 Q I1 q1
theorem Oh(ha:PT X a tA):PT X (.UnaryOp .Not a pos) (wm tA):=by intro pins s σ H Q I h;exact isTrue_not (ha pins s σ H (λc H1=>Q (!c) H1) I h)
def Gp(ta tb:TE):TE:=λσ H Q=>ta σ H λx H1=>∃ c,x=.bl c/\if c=true then tb σ H1 Q else Q (.bl false) H1
def Gn(ta:TE):TE:=λσ H Q=>ta σ H λx H1=>∃ c,x=.bl c/\Q (.bl (!c)) H1
theorem Gm{op}{t:TE}(h:PE X a t):PE X (.BoolOp op [a] pos) t:=λpins s σ H Q I hw=>BoolOp_one (h pins s σ H Q I hw)
theorem wk(ha:PE X a ta)(hb:PE X (.BoolOp .And (b :: rest) pos) tb):PE X (.BoolOp .And (a :: b :: rest) pos) (Gp ta tb):=by
 intro pins s σ H Q I h;refine BoolOp_and (thn (ha pins s σ H _ I h) λv s1 Xv=>?_);obtain⟨x,H1,I1,r1,q1⟩:=Xv;obtain⟨c,rfl,q1⟩:=q1;cases r1;refine Ow ?_;cases c with
 | true=>exact hb pins s1 σ H1 Q I1 q1
 | false=>exact⟨.bl false,H1,I1,rfl,q1⟩
theorem wj(ha:PE X a ta):PE X (.UnaryOp .Not a pos) (Gn ta):=by intro pins s σ H Q I h;refine UnaryOp_ (thn (ha pins s σ H _ I h) λv s1 Xv=>?_);obtain⟨x,H1,I1,r1,q1⟩:=Xv;obtain⟨c,rfl,q1⟩:=q1;cases r1;exact not_of (Ow ⟨.bl (!c),H1,I1,rfl,q1⟩)
def bC(t:TT)(ta tb:TE):TE:=λσ H Q=>t σ H λc H1=>if c=true then ta σ H1 Q else tb σ H1 Q
theorem ji{c:Expr}(hc:PT X c tA)(ha:PE X a ta)(hb:PE X b tb):PE X (.IfExp c a b pos) (bC tA ta tb):=by
 intro pins s σ H Q I h;refine wpAny_IfExp (thn (hc pins s σ H _ I h) λd s1 Xv=>?_);obtain⟨H1,I1,q1⟩:=Xv;cases d with
 | true=>exact ha pins s1 σ H1 Q I1 q1
 | false=>exact hb pins s1 σ H1 Q I1 q1
end
def SqL(K:Ad)(H:Hp)(a:Addr)(xs:List V):Prop :=
 Rd H a (.lst xs) \/
  ∃(o:Obj) (XW:Array Value) (n:Nat),K.lookup a=some o/\o.cls=.type "list"/\o.dict=none/\o.data=.seq XW n/\XW.size<=sizeLine/\Vals xs XW.toList
def SqT(K:Ad)(H:Hp)(a:Addr)(xs:List V):Prop :=
 Rd H a (.tup xs) \/
  ∃(o:Obj) (XW:Array Value) (n:Nat),K.lookup a=some o/\o.cls=.type "tuple"/\o.data=.seq XW n/\XW.size<=sizeLine/\Vals xs XW.toList
def wg:Value->Option V
 | .none=>some .non
 | .bool b=>some (.bl b)
 | .int i _=>some (.int i)
 | .str x _=>some (.str x)
 | .bytes b _=>some (.byt b)
 | .float b _=>some (.flt b)
 | .ref a=>some (.ref a)
 | .type n=>some (.ty n)
 | _=>none
theorem RelV.abs{x:V}{u:Value}(r:RelV x u):wg u=some x:=by
 cases x with
 | non=>cases r;rfl
 | bl _=>cases r;rfl
 | int _=>obtain⟨t,rfl⟩:=r;rfl
 | str _=>obtain⟨t,rfl⟩:=r;rfl
 | byt _=>obtain⟨t,rfl⟩:=r;rfl
 | flt _=>obtain⟨t,rfl⟩:=r;rfl
 | ref _=>cases r;rfl
 | ty _=>cases r;rfl
theorem RelV.inj{x y:V}{u:Value}(r:RelV x u)(q:RelV y u):x=y:=Yi (r.abs.symm.trans q.abs)
theorem Vals.inj:∀ {xs ys:List V} {us:Ag},Vals xs us->Vals ys us->xs=ys
 | _,_,_,.nil,.nil=>rfl
 | _,_,_,.cons r t,.cons r' t'=>by rw[r.inj r',Vals.inj t t']
section
variable{X:Cx}{pins:List (Addr × Obj)}{σ:St}{H:Hp}{s:Shared}{a:Addr}{xs ys:List V}
theorem SqL.of{K:Ad}(h:H a=some (.lst xs)):SqL K H a xs:=.inl (.inl h)
theorem SqT.of{K:Ad}(h:H a=some (.tup xs)):SqT K H a xs:=.inl (.inl h)
theorem Inv.list(I:Inv X pins σ H s)(h:SqL X.K H a xs):∃ XW:Ag,Vals xs XW/\PlainL s.heap a XW.toArray/\xs.length<=sizeLine:=by
 rcases h with h | ⟨o,XW,n,hk,hc,hd,hs,hz,r⟩
 .obtain⟨z,XW,n,r,e⟩:=h.ok I.hok;exact⟨XW,r,⟨_,n,e,rfl,rfl,rfl⟩,z⟩
 .refine⟨XW.toList,r,⟨o,n,I.kIn a o hk,hc,hd,by simpa using hs⟩,?_⟩;have e:=r.length
  simp only [YD]at e;omega
theorem Inv.tuple(I:Inv X pins σ H s)(h:SqT X.K H a xs):∃ XW:Ag,Vals xs XW/\IsTup s.heap a XW.toArray/\xs.length<=sizeLine:=by
 rcases h with h | ⟨o,XW,n,hk,hc,hs,hz,r⟩
 .obtain⟨z,XW,r,p⟩:=h.ok I.hok;exact⟨XW,r,p,z⟩
 .refine⟨XW.toList,r,⟨o,I.kIn a o hk,hc,n,by simpa using hs⟩,?_⟩;have e:=r.length
  simp only [YD]at e;omega
theorem Inv.list_inj(I:Inv X pins σ H s)(h:SqL X.K H a xs)(h':SqL X.K H a ys):xs=ys:=by
 obtain⟨XW,r,⟨o,n,e,_,_,d⟩,_⟩:=I.list h;obtain⟨its',r',⟨o',n',e',_,_,d'⟩,_⟩:=I.list h';rw[e]at e';cases e';rw[d]at d';injection d' with d1 _
 have:XW=its':=by simpa using Xw Array.toList d1
 subst this;exact r.inj r'
theorem Inv.tuple_inj(I:Inv X pins σ H s)(h:SqT X.K H a xs)(h':SqT X.K H a ys):xs=ys:=by
 obtain⟨XW,r,⟨o,e,_,n,d⟩,_⟩:=I.tuple h;obtain⟨its',r',⟨o',e',_,n',d'⟩,_⟩:=I.tuple h';rw[e]at e';cases e';rw[d]at d';injection d' with d1 _
 have:XW=its':=by simpa using Xw Array.toList d1
 subst this;exact r.inj r'
end
abbrev Cx.wish(X:Cx)(E:Ae):Cx:={ X with xe:=E }
abbrev Cx.nox(X:Cx):Cx:=X.wish λ_ _=>False
theorem Cx.Ok.wish{X:Cx}(ok:X.Ok)(E:Ae):(X.wish E).Ok :=
 ⟨ok.mod,ok.kind,ok.glob,ok.blt,ok.above,ok.inj,ok.has,ok.cab,ok.hd,ok.frames,ok.stk,ok.exf,ok.bs,ok.bsz,ok.noex,ok.exfs,ok.funs,ok.frf⟩
theorem Cx.Ok.unwish{X:Cx}{E:Ae}(ok:(X.wish E).Ok):X.Ok :=
 ⟨ok.mod,ok.kind,ok.glob,ok.blt,ok.above,ok.inj,ok.has,ok.cab,ok.hd,ok.frames,ok.stk,ok.exf,ok.bs,ok.bsz,ok.noex,ok.exfs,ok.funs,ok.frf⟩
section
variable{X:Cx}{pins:List (Addr × Obj)}{σ:St}{H:Hp}{s:Shared}{E:Ae}
theorem Inv.wish(I:Inv X pins σ H s)(E:Ae):Inv (X.wish E) pins σ H s:=⟨I.ok.wish E,I.os,I.bare,I.base,I.loc,I.cell,I.free,I.freeC,I.pin,I.hok,I.len⟩
theorem Inv.unwish(I:Inv (X.wish E) pins σ H s):Inv X pins σ H s:=⟨I.ok.unwish,I.os,I.bare,I.base,I.loc,I.cell,I.free,I.freeC,I.pin,I.hok,I.len⟩
theorem SP.unwish{D:Ends}{f:Flow}{s':Shared}(h:SP (X.wish E) pins D f s'):SP X pins D f s':=by
 cases f with
 | next=>obtain⟨σ',H',I,q⟩:=h;exact⟨σ',H',I.unwish,q⟩
 | brk=>obtain⟨σ',H',I,q⟩:=h;exact⟨σ',H',I.unwish,q⟩
 | cont=>obtain⟨σ',H',I,q⟩:=h;exact⟨σ',H',I.unwish,q⟩
 | ret u=>obtain⟨v,σ',H',I,r,q⟩:=h;exact⟨v,σ',H',I.unwish,r,q⟩
theorem PSs.nox{st:List Stmt}{t:TS}(h:PSs X.nox st t):PSs X st t:=λpins s σ H D I hw =>
 Uj (h pins s σ H D (I.wish _) hw) (λ_ _ q=>q.unwish) λ_ _ z=>False.elim z
end
section
variable{X:Cx}{st:Stmt}{rest:List Stmt}{t u:TS}{e:Expr}{te:TE}{pos:Pos}
def Gk:TS:=λD σ H=>D.nx σ H
def Vg(t u:TS):TS:=λD σ H=>t { D with nx:=u D } σ H
theorem Zp:PSs X [] Gk:=λ_ _ σ H _ I h=>Qx ⟨σ,H,I,h⟩
theorem XN(h1:PS X st t)(h2:PSs X rest u):PSs X (st :: rest) (Vg t u):=by
 intro pins s σ H D I h;refine wpAny_execs_cons (thn (h1 pins s σ H { D with nx:=u D } I h) λf s1 q=>?_);cases f with
 | next =>
  obtain⟨σ',H',I',q⟩:=q;exact h2 pins s1 σ' H' D I' q
 | ret v=>exact q
 | brk=>exact q
 | cont=>exact q
theorem XF(h1:PS X st t):PSs X [st] t:=by
 intro pins s σ H D I h;refine wpAny_execs_cons (thn (h1 pins s σ H D I h) λf s1 q=>?_);cases f with
 | next=>exact Qx q
 | ret v=>exact q
 | brk=>exact q
 | cont=>exact q
theorem Inv.quiet{pins:List (Addr × Obj)}{σ:St}{H:Hp}{s:Shared}(I:Inv X pins σ H s):interactive X.env=false:=by simp[interactive,I.ok.kind]
def Gj(te:TE):TS:=λD σ H=>te σ H λ_ H1=>D.nx σ H1
theorem Wh(he:PE X e te)(hs:swapsWith e none pos.line X.env=pure false:=by rfl):PS X (.Expr e pos) (Gj te):=by intro pins s σ H D I h;exact wpAny_Expr_any (thn (he pins s σ H _ I h) λv s1 ⟨x,H1,I1,r1,q1⟩=>⟨σ,H1,I1,q1⟩) I.quiet hs
def Gi(te:TE):TS:=λD σ H=>te σ H D.rt
theorem Zk(he:PE X e te):PS X (.Return (some e) pos) (Gi te):=by intro pins s σ H D I h;exact wpAny_Return_some (thn (he pins s σ H _ I h) λv s1 ⟨x,H1,I1,r1,q1⟩=>⟨x,σ,H1,I1,r1,q1⟩)
def we(c:TT)(t u:TS):TS:=λD σ H=>c σ H λb H1=>if b=true then t D σ H1 else u D σ H1
theorem Wx{c:Expr}{a b:List Stmt}{tc:TT}(hc:PT X c tc)(ha:PSs X a t)(hb:PSs X b u):PS X (.If c a b pos) (we tc t u):=by
 intro pins s σ H D I h;refine wpAny_If (thn (hc pins s σ H _ I h) λd s1 Xv=>?_);obtain⟨H1,I1,q1⟩:=Xv;cases d with
 | true=>exact ha pins s1 σ H1 D I1 q1
 | false=>exact hb pins s1 σ H1 D I1 q1
def Gh:TS:=λ_ _ _=>False
theorem Kz:PS X st Gh:=λ_ _ _ _ _ _ h=>h.elim
end
abbrev TG:=V->St->Hp->(St->Hp->Prop)->Prop
abbrev Qu:=List V->St->Hp->(St->Hp->Prop)->Prop
def PG(X:Cx)(target:Expr)(t:TG):Prop :=
 ∀(pins:List (Addr × Obj)) (s:Shared) (σ:St) (H:Hp) (v:V) (u:Value) (Q:St->Hp->Prop),Inv X pins σ H s->RelV v u->t v σ H Q ->
  wpAny (model X.prog X.w) X.A (assign target X.env u) (λ_ s'=>∃ σ' H',Inv X pins σ' H' s'/\Q σ' H') X.xe s
def Gg(X:Cx)(ts:List Expr)(t:Qu):Prop :=
 ∀(pins:List (Addr × Obj)) (s:Shared) (σ:St) (H:Hp) (vs:List V) (us:Ag) (Q:St->Hp->Prop),Inv X pins σ H s->Vals vs us->t vs σ H Q ->
  wpAny (model X.prog X.w) X.A (assignInOrder ((assignEach ts X.env).map (·.2)) us) (λ_ s'=>∃ σ' H',Inv X pins σ' H' s'/\Q σ' H') X.xe s
abbrev Qt:=V->V->V->Hp->(Hp->Prop)->Prop
def Ky(X:Cx)(t:Qt):Prop :=
 ∀(pins:List (Addr × Obj)) (s:Shared) (σ:St) (H:Hp) (o i v:V) (ov iv u:Value) (Q:Hp->Prop),Inv X pins σ H s->RelV o ov->RelV i iv->RelV v u->t o i v H Q ->
  wpAny (model X.prog X.w) X.A (setItem ov iv u) (λ_ s'=>∃ H',Inv X pins σ H' s'/\Q H') X.xe s
abbrev zW:=V->V->Hp->VK->Prop
def wd(X:Cx)(op:Operator)(t:zW):Prop :=
 ∀(pins:List (Addr × Obj)) (s:Shared) (σ:St) (H:Hp) (x y:V) (v u:Value) (Q:VK),Inv X pins σ H s->RelV x v->RelV y u->t x y H Q ->
  wpAny (model X.prog X.w) X.A (inplaceOp op v u) (EP X pins σ Q) X.xe s
section
variable{X:Cx}{pos:Pos}
def SS(i:Nat):TG:=λv σ H Q=>Q (σ.set i (some v)) H
theorem Zf{i:Nat}{x:Str}(hN:X.N.Nodup)(hi:X.N[i]?=some x)(hx:Loc X.env.scope x)(hf:X.fn x=true\/X.env.scope.names.lookup x=some .local:=by first | exact .inl rfl | exact .inr rfl | assumption):PG X (.Name x pos) (SS i):=by intro pins s σ H v u Q I r h;exact wpAny_assign_Name (wx I hN hi hx r (λs' I'=>⟨_,H,I',h⟩) hf)
def Gf:Qu:=λvs σ H Q=>vs=[]/\Q σ H
def Ge(t:TG)(u:Qu):Qu:=λvs σ H Q=>∃ v r,vs=v :: r/\t v σ H λσ' H'=>u r σ' H' Q
theorem QV:Gg X [] Gf:=by intro pins s σ H vs us Q I r h;obtain⟨e,h⟩:=h;subst e;cases r;exact assignInOrder_nil ⟨σ,H,I,h⟩
theorem Zr{e:Expr}{es:List Expr}{t:TG}{u:Qu}(h1:PG X e t)(h2:Gg X es u)
  (hs:(assignEach (e :: es) X.env).map (·.2)=assign e X.env :: (assignEach es X.env).map (·.2):=by rfl):Gg X (e :: es) (Ge t u):=by
 intro pins s σ H vs us Q I r h;obtain⟨v,vr,e1,h⟩:=h;subst e1;cases r with
 | cons r rr =>
  rw[hs];refine assignInOrder_cons (thn (h1 pins s σ H _ _ _ I r h) λ_ s1 Xv=>?_);obtain⟨σ1,H1,I1,q1⟩:=Xv;exact h2 pins s1 σ1 H1 _ _ Q I1 rr q1
def Kx(K:Ad)(n:Nat)(t:Qu):TG:=λv σ H Q=>∃ a xs,v=.ref a/\SqT K H a xs/\xs.length=n/\t xs σ H Q
theorem wc{es:List Expr}{k:Nat}{t:Qu}{n:Nat}(hc:X.calm=true)(h:Gg X es t)
  (hn:(assignEach es X.env).length=n:=by rfl) (WE:(assignEach es X.env).findIdx? (·.1)=none:=by rfl):PG X (.Tuple es k pos) (Kx X.K n t):=by
 intro pins s σ H v u Q I r hw;obtain⟨a,xs,e1,hq,hl,hw⟩:=hw;subst e1;cases r;obtain⟨XW,rv,ht,hz⟩:=I.tuple hq;refine assign_Tuple_tuple (I.ok.hd hc) ht (by simp[hn,<- hl,rv.length]) WE λh' hx=>?_;have I1:Inv X pins σ H { s with heap:=h' }:=I.kept (t':=s.toks) λb o e=>hx b o (Yt (Yl e)) e
 exact h pins _ σ H xs _ Q I1 (by simpa using rv) hw
def wb(to ti:TE)(t:Qt):TG:=λv σ H Q=>to σ H λo H1=>ti σ H1 λi H2=>t o i v H2 λH3=>Q σ H3
theorem wa{o i:Expr}{to ti:TE}{t:Qt}(ho:PE X o to)(hi:PE X i ti)(hs:Ky X t)
  (ha:∀ v,assign (.Subscript o i pos) X.env v=(do
   let ov <- holding [v] (eval o X.env)
   let iv <- holding [v,ov] (eval i X.env)
   standAt pos
   holding [v,ov,iv] (setItem ov iv v)
   release [v,ov,iv] []):=by intro _;rfl):PG X (.Subscript o i pos) (wb to ti t):=by intro pins s σ H v u Q I r h;rw[ha];refine XU (Su (thn (ho pins s σ H _ I h) λov s1 Xv=>?_));obtain⟨x,H1,I1,r1,q1⟩:=Xv;refine XU (Su (thn (hi pins s1 σ H1 _ I1 q1) λiv s2 Xv=>?_));obtain⟨y,H2,I2,r2,q2⟩:=Xv;refine XU (wpAny_standAt (XU (Su (thn (hs pins s2 σ H2 x y v ov iv u _ I2 r1 r2 r q2) λ_ s3 Xv=>?_))));obtain⟨H3,I3,q3⟩:=Xv;exact wpAny_release ⟨σ,H3,I3,q3⟩
def Kw(te:TE)(g:TG):TS:=λD σ H=>te σ H λx H1=>g x σ H1 D.nx
theorem Gd{tg e:Expr}{te:TE}{g:TG}(he:PE X e te)(hg:PG X tg g)(hs:swapsWithSole [tg] e pos.line X.env=pure false:=by rfl)(hw:swappedStores [tg] e X.env=pure none:=by rfl)
  (h1:(assignEach [tg] X.env).map (·.2)=[assign tg X.env]:=by rfl):PS X (.Assign [tg] e pos) (Kw te g):=by intro pins s σ H D I h;refine wpAny_Assign_stores (thn (he pins s σ H _ I h) λv s1 Xv=>?_) hs hw;obtain⟨x,H1,I1,r1,q1⟩:=Xv;rw[h1];exact thn (hg pins s1 σ H1 x v _ I1 r1 q1) λ_ s2 q=>q
theorem Zh{i:Nat}{x:Str}{e:Expr}{te:TE}{pos':Pos}(hN:X.N.Nodup)(hi:X.N[i]?=some x)(hx:Loc X.env.scope x)(he:PE X e te)(hs:swapsWith e (some (.Name x pos')) pos.line X.env=pure false:=by rfl)(hf:X.fn x=true\/X.env.scope.names.lookup x=some .local:=by first | exact .inl rfl | exact .inr rfl | assumption) :
  PS X (.Assign [.Name x pos'] e pos) (Kw te (SS i)):=by intro pins s σ H D I h;refine wpAny_Assign_Name (thn (he pins s σ H _ I h) λv s1 Xv=>?_) hs;obtain⟨y,H1,I1,r1,q1⟩:=Xv;exact wx I1 hN hi hx r1 (λs2 I2=>⟨_,H1,I2,q1⟩) hf
def Gb(to ti te:TE)(tget:V->V->Hp->VK->Prop)(zV:zW)(tset:Qt):TS:=λD σ H=>to σ H λo H1=>ti σ H1 λi H2=>tget o i H2 λx H3=>te σ H3 λy H4=>zV x y H4 λz H5=>tset o i z H5 λH6=>D.nx σ H6
def Ga(X:Cx)(t:V->V->Hp->VK->Prop):Prop :=
 ∀(pins:List (Addr × Obj)) (s:Shared) (σ:St) (H:Hp) (o i:V) (ov iv:Value) (Q:VK),Inv X pins σ H s->RelV o ov->RelV i iv->t o i H Q ->
  wpAny (model X.prog X.w) X.A (getItem ov iv) (EP X pins σ Q) X.xe s
theorem zU{o i e:Expr}{to ti te:TE}{tget:V->V->Hp->VK->Prop}{zV:zW}{tset:Qt}{op:Operator}{SR:Pos}(ho:PE X o to)(hi:PE X i ti)(hg:Ga X tget)(he:PE X e te)(hp:wd X op zV)(hs:Ky X tset)
  (ha:∀ ov iv new,augStore i ov iv new=(do holding [new,ov,iv] (setItem ov iv new);release [new,ov,iv] [];pure .next):=by intros;rfl):PS X (.AugAssign (.Subscript o i SR) op e pos) (Gb to ti te tget zV tset):=by intro pins s σ H D I h;refine wpAny_AugAssign_SubscriptAny (thn (ho pins s σ H _ I h) λov s1 Xv=>?_) ha;obtain⟨x1,H1,I1,r1,q1⟩:=Xv;refine thn (hi pins s1 σ H1 _ I1 q1) λiv s2 Xv=>?_;obtain⟨x2,H2,I2,r2,q2⟩:=Xv;refine thn (hg pins s2 σ H2 x1 x2 ov iv _ I2 r1 r2 q2) λold s3 Xv=>?_;obtain⟨x3,H3,I3,r3,q3⟩:=Xv;refine thn (he pins s3 σ H3 _ I3 q3) λv s4 Xv=>?_;obtain⟨x4,H4,I4,r4,q4⟩:=Xv;refine thn (hp pins s4 σ H4 x3 x4 old v _ I4 r3 r4 q4) λnew s5 Xv=>?_;obtain⟨x5,H5,I5,r5,q5⟩:=Xv;exact thn (hs pins s5 σ H5 x1 x2 x5 ov iv new _ I5 r1 r2 r5 q5) λ_ s6 ⟨H6,I6,q6⟩=>⟨σ,H6,I6,q6⟩
def jh(f:Int->Int->Int):zW:=λx y H Q=>∃ i j,x=.int i/\y=.int j/\Q (.int (f i j)) H
theorem FZ:wd X .Add (jh λi j=>i+j):=by intro pins s σ H x y v u Q I r1 r2 h;obtain⟨i,j,e1,e2,q⟩:=h;subst e1;subst e2;obtain⟨t,rfl⟩:=r1;obtain⟨t',rfl⟩:=r2;exact iadd_int ⟨.int _,H,I.tok _,⟨_,rfl⟩,q⟩
theorem FY:wd X .Sub (jh λi j=>i - j):=by intro pins s σ H x y v u Q I r1 r2 h;obtain⟨i,j,e1,e2,q⟩:=h;subst e1;subst e2;obtain⟨t,rfl⟩:=r1;obtain⟨t',rfl⟩:=r2;exact isub_int ⟨.int _,H,I.tok _,⟨_,rfl⟩,q⟩
def FW(c:TT)(tb:TS):TS:=λD σ H=>∃ W:Nat->St->Hp->Prop,(∃ m,W m σ H)/\∀ m σ H,W m σ H ->
 c σ H λb H1=>if b=true then ∃ N:St->Hp->Prop,(∀ σ' H',N σ' H'->∃ m',m'<m/\W m' σ' H')/\tb { D with nx:=N,ct:=N,bk:=D.nx } σ H1 else D.nx σ H1
theorem jg{c:Expr}{body:List Stmt}{tc:TT}{tb:TS}(hp:PassesOwn (model X.prog X.w) X.A X.env X.xe)(hc:PT X c tc)(hb:PSs X body tb):PS X (.While c body [] pos) (FW tc tb):=by
 intro pins s σ H D I h;obtain⟨W,⟨m0,w0⟩,turn⟩:=h;refine wpAny_While (codeAny_whileLoop (λn s'=>∃ σ' H',Inv X pins σ' H' s'/\W n σ' H') ?_ m0 ⟨σ,H,I,w0⟩);rintro n s1 ⟨σ1,H1,I1,w1⟩;refine Le hp (thn (hc pins s1 σ1 H1 _ I1 (turn n σ1 H1 w1)) λb s2 Xv=>?_);obtain⟨H2,I2,q2⟩:=Xv;cases b with
 | true =>
  obtain⟨N,hN,q2⟩:=q2;rw[if_pos rfl];refine Le hp (thn (hb pins s2 σ1 H2 _ I2 q2) λf s3 q3=>?_);cases f with
  | next =>
   obtain⟨σ3,H3,I3,n3⟩:=q3;obtain⟨m',hm,w3⟩:=hN σ3 H3 n3;exact⟨m',hm,σ3,H3,I3,w3⟩
  | cont =>
   obtain⟨σ3,H3,I3,n3⟩:=q3;obtain⟨m',hm,w3⟩:=hN σ3 H3 n3;exact⟨m',hm,σ3,H3,I3,w3⟩
  | brk=>exact q3
  | ret v=>exact q3
 | false =>
  rw[if_neg Yw];exact Qx ⟨σ1,H2,I2,q2⟩
end
structure It where
 go:Nat->Hp->Prop
 yld:Nat->Hp->V->Hp->Prop
 stop:Nat->Hp->Prop
def FpOk(X:Cx)(pins:List (Addr × Obj))(H:Hp)(b:Addr):Prop :=
 H b=none/\b≠X.env.locals/\b∉X.fs/\(b∈X.ex\/X.s₀.heap.objs.size<=b)/\(∀ x c,X.env.cells.lookup x=some c->c≠b)/\∀ p∈X.pn++pins,p.1≠b
theorem Inv.fpOk{X:Cx}{pins:List (Addr × Obj)}{σ:St}{H H':Hp}{s:Shared}{b:Addr}(I:Inv X pins σ H s)(hb:s.heap.objs.size<=b)(hn:H' b=none):FpOk X pins H' b:=by
 refine⟨hn,RW (Ym I.lt hb),I.nofs hb,.inr (Yr I.sz hb),λx c e z=>?_,λp hp z=>?_⟩
 .obtain⟨v,q⟩:=I.cell x c e;exact absurd (Ym q.lt (by rw[z];exact hb)) (QX _)
 .exact absurd (Ym (Yl (I.pin p hp).1) (by rw[z];exact hb)) (QX _)
structure Turn (P:Program) (w:World) (K:Ad) (tg:Expr) (J:It) (fp:List Addr) (it:Addr) (tn:Nat->Heap->Prop):Prop where
 mem:it∈fp
 obj:∀ i h,tn i h->∀ b∈fp,∃ o,h.get? b=some o/\∀ v,o.data≠.cell v
 keep:∀ i h h',tn i h->(∀ b∈fp,∀ o,h.get? b=some o->h'.get? b=some o)->tn i h'
 item:∀(X:Cx),X.prog=P->X.w=w->X.K=K->X.calm=true->∀(i:Nat) (pins:List (Addr × Obj)) (s:Shared) (σ:St) (H:Hp) (E:Ae),Inv X pins σ H s->(∀ b∈fp,FpOk X pins H b)->tn i s.heap->J.go i H ->
  wpAny (model P w) X.A (pyNext (.ref it)) (λr s1=>∃ u,r=some u /\
   wpAny (model P w) X.A (letOwnedTupleGo tg (.ref it) u) (λ_ s2=>∃ x H',Inv X pins σ H' s2/\RelV x u/\J.yld i H x H'/\tn (i+1) s2.heap/\∀ b∈fp,H' b=none) E s1) E s
 done:∀(X:Cx),X.prog=P->X.w=w->X.K=K->X.calm=true->∀(i:Nat) (pins:List (Addr × Obj)) (s:Shared) (σ:St) (H:Hp) (E:Ae),Inv X pins σ H s->(∀ b∈fp,FpOk X pins H b)->tn i s.heap->J.stop i H ->
  wpAny (model P w) X.A (pyNext (.ref it)) (λr s1=>r=none/\Inv X pins σ H s1) E s
 self:∀(A:Around) (i:Nat) (s:Shared) (Q:Ae) (E:Ae),tn i s.heap->Q (.ref it) s->wpAny (model P w) A (pyIter (.ref it)) Q E s
abbrev TI:=St->Hp->(It->Hp->Prop)->Prop
def jf(X:Cx)(pins:List (Addr × Obj))(σ:St)(tg:Expr)(R:It->Hp->Prop)(v9:Value)(s2:Shared):Prop :=
 ∃(it:Addr) (fp:List Addr) (tn:Nat->Heap->Prop) (J:It) (H':Hp),v9=.ref it/\Inv X pins σ H' s2/\Turn X.prog X.w X.K tg J fp it tn/\tn 0 s2.heap/\(∀ b∈fp,FpOk X pins H' b)/\R J H'
def PI(X:Cx)(tg iter:Expr)(wi:TI):Prop :=
 ∀(pins:List (Addr × Obj)) (s:Shared) (σ:St) (H:Hp) (R:It->Hp->Prop),Inv X pins σ H s->wi σ H R ->
  wpAny (model X.prog X.w) X.A (eval iter X.env) (λv s1=>wpAny (model X.prog X.w) X.A (pyIter v) (jf X pins σ tg R) X.xe s1) X.xe s
theorem Kv{M:Model}{A:Around}{E:Ae}{s:Shared}{tg:Expr}{it:Addr}{u:Value}{o:Obj}{n:String}{vs:Array Value}{Q:Unit->Shared->Prop}(ho:s.heap.get? it=some o)(hc:o.cls=.type n)(hd:o.data=.fields vs)
  (hn:["enumerate","zip","dict_itemiterator","dict_reverseitemiterator","odict_iterator","itertools.zip_longest","itertools.pairwise"].contains n=false) (hQ:Q () s):wpAny M A (letOwnedTupleGo tg (.ref it) u) Q E s:=by
 unfold letOwnedTupleGo;cases tg <;> first
  | exact Yk hQ
  | (cases u <;> first
    | exact Yk hQ
    | (refine XU (wpAny_load ho ?_)
       rw[hc,hd];show wpAny M A (if (["enumerate","zip","dict_itemiterator","dict_reverseitemiterator","odict_iterator","itertools.zip_longest","itertools.pairwise"].contains n && vs[0]? == some (rawInt _))=true then _ else _) Q E s
       rw[if_neg (by intro h;rw[hn,Bool.false_and]at h;cases h)];exact Yk hQ))
def Qs(K:Ad)(a:Addr):It :=
 ⟨λi H=>∃ xs x,SqL K H a xs/\xs[i]?=some x,λi H x H'=>H'=H/\∀ xs,SqL K H a xs->xs[i]?=some x,λi H=>∃ xs,SqL K H a xs/\xs.length<=i⟩
def Qr(K:Ad)(a:Addr):It :=
 ⟨λi H=>∃ xs x,SqT K H a xs/\xs[i]?=some x,λi H x H'=>H'=H/\∀ xs,SqT K H a xs->xs[i]?=some x,λi H=>∃ xs,SqT K H a xs/\xs.length<=i⟩
def Ku(lo:Int)(n:Nat):It:=⟨λi _=>i<n,λi H x H'=>H'=H/\x=.int (lo+i),λi _=>n<=i⟩
theorem je{P:Program}{w:World}{K:Ad}{tg:Expr}(a it:Addr):Turn P w K tg (Qs K a) [it] it (λi h=>h.IsListIter it a i) where
 mem:=by simp
 obj:=λi h st b hb=>by
  have e:b=it:=by simpa using hb
  subst e;obtain⟨o,e,c,d⟩:=st;exact⟨o,e,λv z=>by rw[d]at z;cases z⟩
 keep:=λi h h' st k=>st.at λo e=>k it (by simp) o e
 item:=by
  intro X hP hw hK hc i pins s σ H E I hf st hg;subst hP hw hK;obtain⟨xs,x,hq,hx⟩:=hg;obtain⟨XW,rv,p,hz⟩:=I.list hq;obtain⟨u,hu,ru⟩:=rv.get hx;obtain⟨f0,f1,f2,f3,f4,f5⟩:=hf it (by simp);refine wpAny_pyNext_list_item st p.isList (x:=u) (by simpa using hu) λh' Tj sb=>?_;have I1:Inv X pins σ H { s with heap:=h' }:=I.turned (t':=s.toks) (λb o hb e=>(sb.2 b hb).trans e) f0 f1 f3 f4 f5
  obtain⟨o,e,c,d⟩:=id Tj;exact⟨u,rfl,Kv (s:={ s with heap:=h' }) e c d (by decide) ⟨x,H,I1,ru,⟨rfl,λys hy=>by rw[I.list_inj hy hq];exact hx⟩,Tj,λb hb=>(hf b hb).1⟩⟩
 done:=by
  intro X hP hw hK hc i pins s σ H E I hf st hg;subst hP hw hK;obtain⟨xs,hq,hx⟩:=hg;obtain⟨XW,rv,p,hz⟩:=I.list hq;obtain⟨f0,f1,f2,f3,f4,f5⟩:=hf it (by simp);have hl:=rv.length
  exact wpAny_pyNext_list_end (I.ok.hd hc) st p.isList (by simp;omega) λh' eb=>⟨rfl,I.turned (t':=s.toks) (λb o hb e=>eb b o hb e) f0 f1 f3 f4 f5⟩
 self:=λ_ _ _ _ _ st h=>wpAny_pyIter_listiter st h
theorem jd{P:Program}{w:World}{K:Ad}{tg:Expr}(a it:Addr):Turn P w K tg (Qr K a) [it] it (λi h=>h.IsTupleIter it a i) where
 mem:=by simp
 obj:=λi h st b hb=>by
  have e:b=it:=by simpa using hb
  subst e;obtain⟨o,e,c,d⟩:=st;exact⟨o,e,λv z=>by rw[d]at z;cases z⟩
 keep:=λi h h' st k=>st.at λo e=>k it (by simp) o e
 item:=by
  intro X hP hw hK hc i pins s σ H E I hf st hg;subst hP hw hK;obtain⟨xs,x,hq,hx⟩:=hg;obtain⟨XW,rv,p,hz⟩:=I.tuple hq;obtain⟨u,hu,ru⟩:=rv.get hx;obtain⟨f0,f1,f2,f3,f4,f5⟩:=hf it (by simp);refine wpAny_pyNext_tuple_item st (show s.heap.IsTuple a XW.toArray from p) (x:=u) (by simpa using hu) λh' Tj sb=>?_;have I1:Inv X pins σ H { s with heap:=h' }:=I.turned (t':=s.toks) (λb o hb e=>(sb.2 b hb).trans e) f0 f1 f3 f4 f5
  obtain⟨o,e,c,d⟩:=id Tj;exact⟨u,rfl,Kv (s:={ s with heap:=h' }) e c d (by decide) ⟨x,H,I1,ru,⟨rfl,λys hy=>by rw[I.tuple_inj hy hq];exact hx⟩,Tj,λb hb=>(hf b hb).1⟩⟩
 done:=by
  intro X hP hw hK hc i pins s σ H E I hf st hg;subst hP hw hK;obtain⟨xs,hq,hx⟩:=hg;obtain⟨XW,rv,p,hz⟩:=I.tuple hq;obtain⟨f0,f1,f2,f3,f4,f5⟩:=hf it (by simp);have hl:=rv.length
  exact wpAny_pyNext_tuple_end (I.ok.hd hc) st (show s.heap.IsTuple a XW.toArray from p) (by simp;omega) λh' eb=>⟨rfl,I.turned (t':=s.toks) (λb o hb e=>eb b o hb e) f0 f1 f3 f4 f5⟩
 self:=λ_ _ _ _ _ st h=>wpAny_pyIter_tupleiter st h
theorem bB{P:Program}{w:World}{K:Ad}{tg:Expr}(it:Addr)(lo:Int)(n:Nat):Turn P w K tg (Ku lo n) [it] it (λi h=>IsRangeIter h it (lo+(i:Nat) * 1) ((n:Int) - (i:Nat)) 1) where
 mem:=by simp
 obj:=λi h st b hb=>by
  have e:b=it:=by simpa using hb
  subst e;exact⟨_,st,λv z=>by have z':Data.fields _=Data.cell v:=z;cases z'⟩
 keep:=λi h h' st k=>k it (by simp) _ st
 item:=by
  intro X hP hw hK hc i pins s σ H E I hf st hg;subst hP hw hK;obtain⟨f0,f1,f2,f3,f4,f5⟩:=hf it (by simp);have W:=Walks.range (prog:=X.prog) (w:=X.w) (I.ok.hd hc) it lo 1 n
  refine W.item i s _ _ hg st λv h' tk hv Tj kk=>?_;obtain⟨t,rfl⟩:=hv;have I1:Inv X pins σ H { s with heap:=h',toks:=tk }:=I.turned (λb o hb e=>kk b o (by simpa using hb) e) f0 f1 f3 f4 f5
  refine⟨_,rfl,Kv (s:={ s with heap:=h',toks:=tk }) (n:="range_iterator") Tj rfl rfl (by decide) ⟨.int (lo+i),H,I1,⟨t,?_⟩,⟨rfl,rfl⟩,Tj,λb hb=>(hf b hb).1⟩⟩;rw[Mi]
 done:=by intro X hP hw hK hc i pins s σ H E I hf st hg;subst hP hw hK;obtain⟨f0,f1,f2,f3,f4,f5⟩:=hf it (by simp);exact wpAny_pyNext_range_end (I.ok.hd hc) st (by have:n<=i:=hg;omega) λh' eb=>⟨rfl,I.turned (t':=s.toks) (λb o hb e=>eb b o hb e) f0 f1 f3 f4 f5⟩
 self:=λ_ _ _ _ _ st h=>wpAny_pyIter_rangeiter st h
section
variable{X:Cx}{tg:Expr}
def FV(K:Ad)(tl:TE):TI:=λσ H R=>tl σ H λx H1=>∃ a,x=.ref a/\(∃ xs,SqL K H1 a xs)/\R (Qs K a) H1
def FU(K:Ad)(tl:TE):TI:=λσ H R=>tl σ H λx H1=>∃ a,x=.ref a/\(∃ xs,SqT K H1 a xs)/\R (Qr K a) H1
theorem v8{l:Expr}{tl:TE}(hl:PE X l tl):PI X tg l (FV X.K tl):=by
 intro pins s σ H R I h;refine thn (hl pins s σ H _ I h) λv s1 Xv=>?_;obtain⟨x,H1,I1,r1,q1⟩:=Xv;obtain⟨a,e,⟨xs,hq⟩,q⟩:=q1;subst e;cases r1;obtain⟨XW,rv,p,hz⟩:=I1.list hq;refine wW p.isList ?_;refine⟨s1.heap.objs.size,[s1.heap.objs.size],_,_,H1,rfl,I1.kept (t':=s1.toks) λb o e=>WZ _ e,je a _,⟨_,Yo _ rfl,rfl,rfl⟩,λb hb=>?_,q⟩;have e:b=s1.heap.objs.size:=by simpa using hb
 subst e;exact I1.fpOk (XM _) (I1.hok.fresh (XM _))
theorem v7{l:Expr}{tl:TE}(hl:PE X l tl):PI X tg l (FU X.K tl):=by
 intro pins s σ H R I h;refine thn (hl pins s σ H _ I h) λv s1 Xv=>?_;obtain⟨x,H1,I1,r1,q1⟩:=Xv;obtain⟨a,e,⟨xs,hq⟩,q⟩:=q1;subst e;cases r1;obtain⟨XW,rv,p,hz⟩:=I1.tuple hq;refine wpAny_pyIter_tuple (show s1.heap.IsTuple a XW.toArray from p) ?_;refine⟨s1.heap.objs.size,[s1.heap.objs.size],_,_,H1,rfl,I1.kept (t':=s1.toks) λb o e=>WZ _ e,jd a _,⟨_,Yo _ rfl,rfl,rfl⟩,λb hb=>?_,q⟩;have e:b=s1.heap.objs.size:=by simpa using hb
 subst e;exact I1.fpOk (XM _) (I1.hok.fresh (XM _))
theorem bA{pins:List (Addr × Obj)}{σ:St}{H:Hp}{s:Shared}{R:It->Hp->Prop}{E:Ae}{lo hi:Int}{t u v:Tok}{tk:Nat}(I:Inv X pins σ H s)(h1:-(2 ^ 62)<=lo)(h2:lo<2 ^ 62)(h3:-(2 ^ 62)<=hi)(h4:hi<2 ^ 62)
  (q:R (Ku lo (hi - lo).toNat) H):wpAny (model X.prog X.w) X.A (pyIter (.ref s.heap.objs.size)) (jf X pins σ tg R) E { s with heap:=s.heap.push { cls:=.type "range",data:=.fields #[.int lo t,.int hi u,.int 1 v] },toks:=tk }:=by
 refine wpAny_pyIter_range (IsRange.new ..) (small_one h1 h2 h3 h4) ?_;have I1:Inv X pins σ H { s with heap:=s.heap.push { cls:=.type "range",data:=.fields #[.int lo t,.int hi u,.int 1 v] },toks:=tk }:=I.kept λb o e=>WZ _ e
 refine⟨(s.heap.push { cls:=.type "range",data:=.fields #[.int lo t,.int hi u,.int 1 v] }).objs.size,[(s.heap.push { cls:=.type "range",data:=.fields #[.int lo t,.int hi u,.int 1 v] }).objs.size],_,_,H,rfl,
  I1.kept (t':=tk) λb o e=>WZ _ e,bB _ lo (hi - lo).toNat,?_,λb hb=>?_,q⟩
 .have e1:lo+((0:Nat):Int) * 1=lo:=by simp
  have e2:(((hi - lo).toNat:Nat):Int) - ((0:Nat):Int)=Builtin.Range.rangeSize lo hi 1:=by rw[rangeSize_one];split <;> omega
  show IsRangeIter _ _ (lo+((0:Nat):Int) * 1) ((((hi - lo).toNat:Nat):Int) - ((0:Nat):Int)) 1;rw[e1,e2];exact Yo _ rfl
 .have e:b=(s.heap.push { cls:=.type "range",data:=.fields #[.int lo t,.int hi u,.int 1 v] }).objs.size:=by simpa using hb
  subst e;exact I1.fpOk (XM _) (I1.hok.fresh (XM _))
def vZ(ta:TA):TI:=λσ H R=>ta σ H λvs H1=>∃ j:Int,vs=[.int j]/\-(2 ^ 62)<=j/\j<2 ^ 62/\R (Ku 0 j.toNat) H1
theorem HR {a:Expr} {ta:TA} {p pos:Pos} (hg:Gl X "range") (hm:X.mg "range"=none) (ha:PA X [a] ta) (hs:starEach [a] X.env=[(false,eval a X.env)]:=by rfl):PI X tg (.Call (.Name "range" p) [a] [] pos) (vZ ta):=by
 intro pins s σ H R I h;refine Call_ (QW I hg hm boot_range (Ln (thn (ha pos pins s σ H _ I h) λus s1 Xv=>?_) hs rfl));obtain⟨vs,H1,I1,r1,q1⟩:=Xv;obtain⟨j,e,q1,q2,q⟩:=q1;subst e;cases r1 with
 | cons r rr =>
  cases rr;obtain⟨t,rfl⟩:=r;exact call_range_1 (bA I1 (by omega) (by omega) q1 q2 (by simpa using q))
def vY(wi:TI)(g:TG)(tb:TS):TS:=λD σ H=>wi σ H λJ H1=>∃ W:Nat->Nat->St->Hp->Prop,(∃ m,W 0 m σ H1)/\∀ i m σ H,W i m σ H ->
 (J.stop i H/\D.nx σ H)\/(J.go i H/\∃ N:St->Hp->Prop,(∀ σ' H',N σ' H'->∃ m',m'<m/\W (i+1) m' σ' H')/\∀ x H',J.yld i H x H'->g x σ H' λσ2 H2=>tb { D with nx:=N,ct:=N,bk:=D.nx } σ2 H2)
def UA(fp:List Addr)(h:Heap):List (Addr × Obj):=fp.filterMap λb=>(h.get? b).map λo=>(b,o)
theorem zS{fp:List Addr}{h:Heap}{b:Addr}{o:Obj}(hb:b∈fp)(e:h.get? b=some o):(b,o)∈UA fp h:=Au.mpr ⟨b,hb,by rw[e];rfl⟩
theorem jc{fp:List Addr}{h:Heap}{p:Addr × Obj}(hp:p∈UA fp h):p.1∈fp/\h.get? p.1=some p.2:=by
 obtain⟨b,hb,e⟩:=Au.mp hp;cases q:h.get? b with
 | none=>rw[q]at e;cases e
 | some o =>
  rw[q]at e;have e':(b,o)=p:=Yi e
  subst e';exact⟨hb,q⟩
theorem Inv.pinned{pins:List (Addr × Obj)}{σ:St}{H:Hp}{s:Shared}{fp:List Addr}(I:Inv X pins σ H s)(hf:∀ b∈fp,FpOk X pins H b)(ho:∀ b∈fp,∃ o,s.heap.get? b=some o/\∀ v,o.data≠.cell v):Inv X (pins++UA fp s.heap) σ H s :=
 I.pins_of λp hp=>(Xy.mp hp).elim (λz=>I.pin p (Yc _ z)) λz=>by obtain⟨hb,e⟩:=jc z;obtain⟨f0,f1,f2,_⟩:=hf p.1 hb;obtain⟨o,e',d⟩:=ho p.1 hb;rw[e]at e';cases e';exact⟨e,f0,f1,f2,d⟩
theorem Inv.unpinned{pins pl:List (Addr × Obj)}{σ:St}{H:Hp}{s:Shared}(I:Inv X (pins++pl) σ H s):Inv X pins σ H s:=I.pins_of λp hp=>I.pin p (Yc _ (Yb _ hp))
theorem SQ{iter:Expr}{body:List Stmt}{wi:TI}{g:TG}{tb:TS}{pos:Pos}(hp:PassesOwn (model X.prog X.w) X.A X.env X.xe)(hc:X.calm=true)(hi:PI X tg iter wi)(hg:PG X tg g)(hb:PSs X body tb)
  (hs:∀ x,foldedSetIterable iter X.env x=pure x:=by intro _;rfl):PS X (.For tg iter body [] pos) (vY wi g tb):=by
 intro pins s σ H D I h;refine wpAny_For (thn (hi pins s σ H _ I h) λv s1 h1=>thn h1 λv9 s2 h2=>?_) hs;obtain⟨it,fp,tn,J,H2,e,I2,T,Og,f2,W,⟨m0,w0⟩,turn⟩:=h2;subst e;have Kt:∀ {H':Hp},(∀ b∈fp,H' b=none)->∀ b∈fp,FpOk X pins H' b:=λhn b hb=>⟨hn b hb,(f2 b hb).2⟩
 refine codeAny_forLoop_any (λn s'=>∃ i σ' H',Inv X pins σ' H' s'/\tn i s'.heap/\(∀ b∈fp,H' b=none)/\W i n σ' H') ?_ m0 ⟨0,σ,H2,I2,Og,λb hb=>(f2 b hb).1,w0⟩;rintro n s3 ⟨i,σ3,H3,I3,jb,ja,w3⟩;rcases turn i n σ3 H3 w3 with ⟨stop,qn⟩ | ⟨go,N,hN,step⟩
 .refine Le hp (thn (T.done X rfl rfl rfl hc i pins s3 σ3 H3 X.xe I3 (Kt ja) jb stop) λr s4 ⟨hr,I4⟩=>?_);subst hr;exact Qx ⟨σ3,H3,I4,qn⟩
 .refine Le hp (thn (T.item X rfl rfl rfl hc i pins s3 σ3 H3 X.xe I3 (Kt ja) jb go) λr s4 Xv=>?_);obtain⟨u,hr,h4⟩:=Xv;subst hr;refine Le hp (thn h4 λ_ s5 Xv=>?_);obtain⟨x,H5,I5,r5,y5,Ks,vX⟩:=Xv;have vW:=I5.pinned (Kt vX) (T.obj _ _ Ks)
  refine Le hp (thn (hg _ s5 σ3 H5 x u _ vW r5 (step x H5 y5)) λ_ s6 Xv=>?_);obtain⟨σ6,H6,I6,q6⟩:=Xv;refine Le hp (thn (hb _ s6 σ6 H6 _ I6 q6) λf s7 q7=>?_);have again:∀ {σ7:St} {H7:Hp},Inv X (pins++UA fp s5.heap) σ7 H7 s7->N σ7 H7->∃ m,m<n/\∃ i σ' H',Inv X pins σ' H' s7/\tn i s7.heap/\(∀ b∈fp,H' b=none)/\W i m σ' H':=λ{σ7 H7} I7 n7=>by obtain⟨m',hm,w7⟩:=hN σ7 H7 n7;refine⟨m',hm,i+1,σ7,H7,I7.unpinned,T.keep _ _ _ Ks λb hb o e=>(I7.pin (b,o) (Yc _ (Yc _ (zS hb e)))).1,λb hb=>?_,w7⟩;obtain⟨o,e,d⟩:=T.obj _ _ Ks b hb;exact(I7.pin (b,o) (Yc _ (Yc _ (zS hb e)))).2.1
  cases f with
  | next=>obtain⟨σ7,H7,I7,n7⟩:=q7;exact again I7 n7
  | cont=>obtain⟨σ7,H7,I7,n7⟩:=q7;exact again I7 n7
  | brk=>obtain⟨σ7,H7,I7,q7⟩:=q7;exact⟨σ7,H7,I7.unpinned,q7⟩
  | ret v=>obtain⟨x7,σ7,H7,I7,r7,q7⟩:=q7;exact⟨x7,σ7,H7,I7.unpinned,r7,q7⟩
end
theorem vV{K:Ad}{a:Addr}{xs:List V}{g:TG}{tb:TS}{D:Ends}{σ:St}{H:Hp}(Pv:Nat->St->Hp->Prop)(h0:Pv 0 σ H)(hl:∀ i σ H,i<=xs.length->Pv i σ H->SqL K H a xs)
  (hs:∀ i x σ H,xs[i]?=some x->Pv i σ H->g x σ H λσ2 H2=>tb { D with nx:=Pv (i+1),ct:=Pv (i+1),bk:=D.nx } σ2 H2) (hd:∀ σ H,Pv xs.length σ H->D.nx σ H) :
  ∃ W:Nat->Nat->St->Hp->Prop,(∃ m,W 0 m σ H)/\∀ i m σ H,W i m σ H ->
   ((Qs K a).stop i H/\D.nx σ H)\/((Qs K a).go i H/\∃ N:St->Hp->Prop,(∀ σ' H',N σ' H'->∃ m',m'<m/\W (i+1) m' σ' H')/\∀ x H',(Qs K a).yld i H x H'->g x σ H' λσ2 H2=>tb { D with nx:=N,ct:=N,bk:=D.nx } σ2 H2):=by
 refine⟨λi m σ H=>m=xs.length - i/\i<=xs.length/\Pv i σ H,⟨xs.length,by simp,Yn _,h0⟩,?_⟩;rintro i m σ H ⟨rfl,hi,p⟩;have q:=hl i σ H hi p
 by_cases Xi:i<xs.length
 .refine .inr ⟨⟨xs,xs[i],q,by simp[Xi]⟩,Pv (i+1),λσ' H' p'=>⟨xs.length - (i+1),by omega,rfl,Xi,p'⟩,λx H' y=>?_⟩;obtain⟨e,y⟩:=y;subst e;exact hs i x σ _ (y xs q) p
 .have e:i=xs.length:=by omega
  subst e;exact .inl ⟨⟨xs,q,XM _⟩,hd σ H p⟩
theorem FT{K:Ad}{a:Addr}{xs:List V}{g:TG}{tb:TS}{D:Ends}{σ:St}{H:Hp}(Pv:Nat->St->Hp->Prop)(h0:Pv 0 σ H)(hl:∀ i σ H,i<=xs.length->Pv i σ H->SqT K H a xs)
  (hs:∀ i x σ H,xs[i]?=some x->Pv i σ H->g x σ H λσ2 H2=>tb { D with nx:=Pv (i+1),ct:=Pv (i+1),bk:=D.nx } σ2 H2) (hd:∀ σ H,Pv xs.length σ H->D.nx σ H) :
  ∃ W:Nat->Nat->St->Hp->Prop,(∃ m,W 0 m σ H)/\∀ i m σ H,W i m σ H ->
   ((Qr K a).stop i H/\D.nx σ H)\/((Qr K a).go i H/\∃ N:St->Hp->Prop,(∀ σ' H',N σ' H'->∃ m',m'<m/\W (i+1) m' σ' H')/\∀ x H',(Qr K a).yld i H x H'->g x σ H' λσ2 H2=>tb { D with nx:=N,ct:=N,bk:=D.nx } σ2 H2):=by
 refine⟨λi m σ H=>m=xs.length - i/\i<=xs.length/\Pv i σ H,⟨xs.length,by simp,Yn _,h0⟩,?_⟩;rintro i m σ H ⟨rfl,hi,p⟩;have q:=hl i σ H hi p
 by_cases Xi:i<xs.length
 .refine .inr ⟨⟨xs,xs[i],q,by simp[Xi]⟩,Pv (i+1),λσ' H' p'=>⟨xs.length - (i+1),by omega,rfl,Xi,p'⟩,λx H' y=>?_⟩;obtain⟨e,y⟩:=y;subst e;exact hs i x σ _ (y xs q) p
 .have e:i=xs.length:=by omega
  subst e;exact .inl ⟨⟨xs,q,XM _⟩,hd σ H p⟩
theorem i9{lo:Int}{n:Nat}{g:TG}{tb:TS}{D:Ends}{σ:St}{H:Hp}(Pv:Nat->St->Hp->Prop)(h0:Pv 0 σ H)
  (hs:∀ i σ H,i<n->Pv i σ H->g (.int (lo+i)) σ H λσ2 H2=>tb { D with nx:=Pv (i+1),ct:=Pv (i+1),bk:=D.nx } σ2 H2) (hd:∀ σ H,Pv n σ H->D.nx σ H) :
  ∃ W:Nat->Nat->St->Hp->Prop,(∃ m,W 0 m σ H)/\∀ i m σ H,W i m σ H ->
   ((Ku lo n).stop i H/\D.nx σ H)\/((Ku lo n).go i H/\∃ N:St->Hp->Prop,(∀ σ' H',N σ' H'->∃ m',m'<m/\W (i+1) m' σ' H')/\∀ x H',(Ku lo n).yld i H x H'->g x σ H' λσ2 H2=>tb { D with nx:=N,ct:=N,bk:=D.nx } σ2 H2):=by
 refine⟨λi m σ H=>m=n - i/\i<=n/\Pv i σ H,⟨n,by simp,Yn _,h0⟩,?_⟩;rintro i m σ H ⟨rfl,hi,p⟩;by_cases Xi:i<n
 .refine .inr ⟨Xi,Pv (i+1),λσ' H' p'=>⟨n - (i+1),by omega,rfl,Xi,p'⟩,λx H' y=>?_⟩;obtain⟨e,y⟩:=y;subst e y;exact hs i σ _ Xi p
 .have e:i=n:=by omega
  subst e;exact .inl ⟨XM _,hd σ H p⟩
abbrev R2:=V->V->Hp->VK->Prop
def WH(X:Cx)(f:Value->Value->Sem Value)(r:R2):Prop :=
 ∀(pins:List (Addr × Obj)) (s:Shared) (σ:St) (H:Hp) (x y:V) (v u:Value) (Q:VK),Inv X pins σ H s->RelV x v->RelV y u->r x y H Q ->
  wpAny (model X.prog X.w) X.A (f v u) (EP X pins σ Q) X.xe s
def vU(X:Cx)(f:Value->Sem Value)(r:V->Hp->VK->Prop):Prop :=
 ∀(pins:List (Addr × Obj)) (s:Shared) (σ:St) (H:Hp) (x:V) (v:Value) (Q:VK),Inv X pins σ H s->RelV x v->r x H Q ->
  wpAny (model X.prog X.w) X.A (f v) (EP X pins σ Q) X.xe s
def Uh(X:Cx)(f:Value)(r:List V->Hp->VK->Prop):Prop :=
 ∀(pins:List (Addr × Obj)) (s:Shared) (σ:St) (H:Hp) (xs:List V) (us:Ag) (Q:VK),Inv X pins σ H s->Vals xs us->r xs H Q ->
  wpAny (model X.prog X.w) X.A (call f us) (EP X pins σ Q) X.xe s
def zR(r:R2)(ta tb:TE):TE:=λσ H Q=>ta σ H λx H1=>tb σ H1 λy H2=>r x y H2 Q
def bz(r:V->Hp->VK->Prop)(ta:TE):TE:=λσ H Q=>ta σ H λx H1=>r x H1 Q
def rI(C:Int->Int->Prop)(g:Int->Int->V):R2:=λx y H Q=>∃ i j,x=.int i/\y=.int j/\C i j/\Q (g i j) H
def Me(g:Int->Int->V):R2:=λx y H Q=>∃ i j,x=.int i/\y=.int j/\Q (g i j) H
def rU(g:Int->V):V->Hp->VK->Prop:=λx H Q=>∃ i,x=.int i/\Q (g i) H
section
variable{X:Cx}{a b:Expr}{ta tb:TE}{pos:Pos}
theorem Kr(ha:PE X a ta)(hb:PE X b tb){pins:List (Addr × Obj)}{s:Shared}{σ:St}{H:Hp}{R:V->V->Hp->Prop}(I:Inv X pins σ H s)
  (h:ta σ H λx H1=>tb σ H1 λy H2=>R x y H2) {Q:Ae} {f:Value->Value->Sem Value}
  (hf:∀ v u s2 x y H2,Inv X pins σ H2 s2->RelV x v->RelV y u->R x y H2->wpAny (model X.prog X.w) X.A (f v u) Q X.xe s2) :
  wpAny (model X.prog X.w) X.A (eval a X.env) (λv s₁=>wpAny (model X.prog X.w) X.A (eval b X.env) (λu s₂=>wpAny (model X.prog X.w) X.A (f v u) Q X.xe s₂) X.xe s₁) X.xe s:=by refine thn (ha pins s σ H _ I h) λv s1 Xv=>?_;obtain⟨x,H1,I1,r1,q1⟩:=Xv;refine thn (hb pins s1 σ H1 _ I1 q1) λu s2 Xv=>?_;obtain⟨y,H2,I2,r2,q2⟩:=Xv;exact hf v u s2 x y H2 I2 r1 r2 q2
theorem Zl{op:Operator}{r:R2}(ho:WH X (binaryOp op) r)(ha:PE X a ta)(hb:PE X b tb):PE X (.BinOp a op b pos) (zR r ta tb):=by intro pins s σ H Q I h;exact wpAny_BinOp (Kr ha hb I h λv u s2 x y H2 I2 rx ry q=>ho pins s2 σ H2 x y v u Q I2 rx ry q)
theorem RP{op:UnaryOp}{r:V->Hp->VK->Prop}(ho:vU X (unaryOp op) r)(ha:PE X a ta):PE X (.UnaryOp op a pos) (bz r ta):=by intro pins s σ H Q I h;exact UnaryOp_ (thn (ha pins s σ H _ I h) λv s1 ⟨x,H1,I1,r1,q1⟩=>ho pins s1 σ H1 x v Q I1 r1 q1)
theorem Kq{f:Value->Value->Sem Value}{C:Int->Int->Prop}{g:Int->Int->Int}
  (rule:∀(i j:Int) (t u:Tok) (s:Shared) (Q:Ae) (E:Ae),C i j->Q (.int (g i j) s.toks) { s with toks:=s.toks+1 }->wpAny (model X.prog X.w) X.A (f (.int i t) (.int j u)) Q E s) :
  WH X f (rI C λi j=>.int (g i j)):=by intro pins s σ H x y v u Q I rx ry h;obtain⟨i,j,rfl,rfl,hc,q⟩:=h;obtain⟨t,rfl⟩:=rx;obtain⟨t',rfl⟩:=ry;exact rule i j t t' s _ _ hc ⟨.int (g i j),H,I.tok _,⟨_,rfl⟩,q⟩
theorem FR{f:Value->Value->Sem Value}{g:Int->Int->Int}
  (rule:∀(i j:Int) (t u:Tok) (s:Shared) (Q:Ae) (E:Ae),Q (.int (g i j) s.toks) { s with toks:=s.toks+1 }->wpAny (model X.prog X.w) X.A (f (.int i t) (.int j u)) Q E s) :
  WH X f (Me λi j=>.int (g i j)):=by intro pins s σ H x y v u Q I rx ry h;obtain⟨i,j,rfl,rfl,q⟩:=h;obtain⟨t,rfl⟩:=rx;obtain⟨t',rfl⟩:=ry;exact rule i j t t' s _ _ ⟨.int (g i j),H,I.tok _,⟨_,rfl⟩,q⟩
theorem Of{f:Value->Value->Sem Value}{g:Int->Int->Bool}
  (rule:∀(i j:Int) (t u:Tok) (s:Shared) (Q:Ae) (E:Ae),Q (.bool (g i j)) s->wpAny (model X.prog X.w) X.A (f (.int i t) (.int j u)) Q E s) :
  WH X f (Me λi j=>.bl (g i j)):=by intro pins s σ H x y v u Q I rx ry h;obtain⟨i,j,rfl,rfl,q⟩:=h;obtain⟨t,rfl⟩:=rx;obtain⟨t',rfl⟩:=ry;exact rule i j t t' s _ _ ⟨.bl (g i j),H,I,rfl,q⟩
def vT(i j:Int):Prop:=0<j/\j<1073741824
def vS(i j:Int):Prop:=0<=j/\j<=1000000/\i.natAbs<2 ^ 64
def CMul(i j:Int):Prop:=(-(2 ^ 64)<i/\i<2 ^ 64)\/(-(2 ^ 64)<j/\j<2 ^ 64)
theorem CMul.ok{i j:Int}(h:CMul i j):IntMulOk i j:=by
 rcases h with ⟨h1,h2⟩ | ⟨h1,h2⟩
 .exact .of_left (intBits_le_64 h1 h2)
 .exact .of_right (intBits_le_64 h1 h2)
theorem ZW:WH X (binaryOp .Add) (Me λi j=>.int (i+j)):=FR λ_ _ _ _ _ _ _ q=>add_int q
theorem Uz:WH X (binaryOp .Sub) (Me λi j=>.int (i - j)):=FR λ_ _ _ _ _ _ _ q=>sub_int q
theorem FQ:WH X (binaryOp .Mult) (rI CMul λi j=>.int (i * j)):=Kq λ_ _ _ _ _ _ _ hc q=>mul_int q hc.ok
theorem OT:WH X (binaryOp .FloorDiv) (rI vT λi j=>.int (i / j)):=Kq λi j _ _ _ _ _ hc q=>by
 have h1:(0:Int)<j:=hc.1;have h2:j<1073741824:=hc.2
 exact floordiv_int (by omega) (by rw[Int.fdiv_eq_ediv_of_nonneg i (by omega)];exact q) (.inl (PyProof.noPylong_small (by omega)))
theorem ZF:WH X (binaryOp .Mod) (rI (λ_ j=>0<j) λi j=>.int (i % j)):=Kq λi j _ _ _ _ _ hc q=>by have h1:(0:Int)<j:=hc;exact mod_int' (by omega) (by rw[Int.fmod_eq_emod_of_nonneg i (by omega)];exact q)
theorem VL:WH X (binaryOp .Pow) (rI vS λi j=>.int (i ^ j.toNat)):=Kq λ_ _ _ _ _ _ _ hc q=>pow_int_small hc.1 hc.2.1 hc.2.2 q
theorem bw{f:Value->Sem Value}{g:Int->Int}
  (rule:∀(i:Int) (t:Tok) (s:Shared) (Q:Ae) (E:Ae),Q (.int (g i) s.toks) { s with toks:=s.toks+1 }->wpAny (model X.prog X.w) X.A (f (.int i t)) Q E s) :
  vU X f (rU λi=>.int (g i)):=by intro pins s σ H x v Q I rx h;obtain⟨i,rfl,q⟩:=h;obtain⟨t,rfl⟩:=rx;exact rule i t s _ _ ⟨.int (g i),H,I.tok _,⟨_,rfl⟩,q⟩
theorem HQ:vU X (unaryOp .USub) (rU λi=>.int (-i)):=bw λ_ _ _ _ _ q=>neg_int q
end
def scal:V->V->Bool
 | .non,.non=>true | .non,.int _=>true | .int _,.non=>true | .non,.bl _=>true | .bl _,.non=>true | .non,.str _=>true | .str _,.non=>true
 | .int _,.int _=>true | .bl _,.bl _=>true | .str _,.str _=>true | .byt _,.byt _=>true
 | .int _,.str _=>true | .str _,.int _=>true | .bl _,.str _=>true | .str _,.bl _=>true
 | _,_=>false
def bu:R2:=λx y H Q=>scal x y=true/\Q (.bl (decide (x=y))) H
def br:R2:=λx y H Q=>scal x y=true/\Q (.bl (!decide (x=y))) H
theorem ZA{i j:Int}:decide (V.int i=V.int j)=(i == j):=by rw[OX];simp
theorem FP{i j:Bool}:decide (V.bl i=V.bl j)=(i == j):=by rw[OX];simp
theorem i8{i j:Str}:decide (V.str i=V.str j)=(i == j):=by rw[OX];simp
theorem i7{i j:Array UInt8}:decide (V.byt i=V.byt j)=(i.toList == j.toList):=by rw[OX];cases i;cases j;simp
section
variable{X:Cx}{a b c:Expr}{ta tb tc:TE}{pos:Pos}
theorem ZG{pins:List (Addr × Obj)}{σ:St}{H:Hp}{s:Shared}{Q:VK}{k k':Bool}(I:Inv X pins σ H s)(q:Q (.bl k) H)(e:k=k'):EP X pins σ Q (.bool k') s:=by subst e;exact⟨.bl k,H,I,rfl,q⟩
theorem Qq:WH X (compareOp .Eq) bu:=by
 intro pins s σ H x y v u Q I rx ry h;obtain⟨hs,q⟩:=h;cases x with
 | non =>
  cases rx;cases y with
  | non=>cases ry;exact PySem.EqNone.eq_none_none (ZG I q (by simp))
  | bl j=>cases ry;exact PySem.EqNone.eq_none_bool (ZG I q (by simp))
  | int j=>obtain⟨t',rfl⟩:=ry;exact PySem.EqNone.eq_none_int (ZG I q (by simp))
  | str j=>obtain⟨t',rfl⟩:=ry;exact PySem.EqNone.eq_none_str (ZG I q (by simp))
  | _=>exact absurd (show false=true from hs) Yw
 | bl i =>
  cases rx;cases y with
  | non=>cases ry;exact PySem.EqNone.eq_bool_none (ZG I q (by simp))
  | bl j=>cases ry;exact eq_bool (ZG I q FP)
  | str j=>obtain⟨t',rfl⟩:=ry;exact PySem.EqMixed.eq_bool_str (ZG I q (by simp))
  | _=>exact absurd (show false=true from hs) Yw
 | int i =>
  obtain⟨t,rfl⟩:=rx;cases y with
  | non=>cases ry;exact PySem.EqNone.eq_int_none (ZG I q (by simp))
  | int j=>obtain⟨t',rfl⟩:=ry;exact eq_int (ZG I q ZA)
  | str j=>obtain⟨t',rfl⟩:=ry;exact PySem.EqMixed.eq_int_str (ZG I q (by simp))
  | _=>exact absurd (show false=true from hs) Yw
 | str i =>
  obtain⟨t,rfl⟩:=rx;cases y with
  | non=>cases ry;exact PySem.EqNone.eq_str_none (ZG I q (by simp))
  | bl j=>cases ry;exact PySem.EqMixed.eq_str_bool (ZG I q (by simp))
  | int j=>obtain⟨t',rfl⟩:=ry;exact PySem.EqMixed.eq_str_int (ZG I q (by simp))
  | str j=>obtain⟨t',rfl⟩:=ry;exact eq_str (ZG I q i8)
  | _=>exact absurd (show false=true from hs) Yw
 | byt i =>
  obtain⟨t,rfl⟩:=rx;cases y with
  | byt j=>obtain⟨t',rfl⟩:=ry;exact PySem.W.eq_bytes (ZG I q i7)
  | _=>exact absurd (show false=true from hs) Yw
 | _=>cases y <;> exact absurd (show false=true from hs) Yw
theorem QU:WH X (compareOp .NotEq) br:=by
 intro pins s σ H x y v u Q I rx ry h;obtain⟨hs,q⟩:=h;cases x with
 | non =>
  cases rx;cases y with
  | non=>cases ry;exact PySem.EqNone.ne_none_none (ZG I q (by simp))
  | bl j=>cases ry;exact PySem.EqNone.ne_none_bool (ZG I q (by simp))
  | int j=>obtain⟨t',rfl⟩:=ry;exact PySem.EqNone.ne_none_int (ZG I q (by simp))
  | str j=>obtain⟨t',rfl⟩:=ry;exact PySem.EqNone.ne_none_str (ZG I q (by simp))
  | _=>exact absurd (show false=true from hs) Yw
 | bl i =>
  cases rx;cases y with
  | non=>cases ry;exact PySem.EqNone.ne_bool_none (ZG I q (by simp))
  | bl j=>cases ry;exact ne_bool (ZG I q (Xw not FP))
  | str j=>obtain⟨t',rfl⟩:=ry;exact PySem.EqMixed.ne_bool_str (ZG I q (by simp))
  | _=>exact absurd (show false=true from hs) Yw
 | int i =>
  obtain⟨t,rfl⟩:=rx;cases y with
  | non=>cases ry;exact PySem.EqNone.ne_int_none (ZG I q (by simp))
  | int j=>obtain⟨t',rfl⟩:=ry;exact ne_int (ZG I q (Xw not ZA))
  | str j=>obtain⟨t',rfl⟩:=ry;exact PySem.EqMixed.ne_int_str (ZG I q (by simp))
  | _=>exact absurd (show false=true from hs) Yw
 | str i =>
  obtain⟨t,rfl⟩:=rx;cases y with
  | non=>cases ry;exact PySem.EqNone.ne_str_none (ZG I q (by simp))
  | bl j=>cases ry;exact PySem.EqMixed.ne_str_bool (ZG I q (by simp))
  | int j=>obtain⟨t',rfl⟩:=ry;exact PySem.EqMixed.ne_str_int (ZG I q (by simp))
  | str j=>obtain⟨t',rfl⟩:=ry;exact ne_str (ZG I q (Xw not i8))
  | _=>exact absurd (show false=true from hs) Yw
 | byt i =>
  obtain⟨t,rfl⟩:=rx;cases y with
  | byt j=>obtain⟨t',rfl⟩:=ry;exact PySem.W.ne_bytes (ZG I q (Xw not i7))
  | _=>exact absurd (show false=true from hs) Yw
 | _=>cases y <;> exact absurd (show false=true from hs) Yw
theorem RO:WH X (compareOp .Lt) (Me λi j=>.bl (decide (i<j))):=Of λ_ _ _ _ _ _ _ q=>lt_int q
theorem Qp:WH X (compareOp .LtE) (Me λi j=>.bl (decide (i<=j))):=Of λ_ _ _ _ _ _ _ q=>le_int q
theorem RN:WH X (compareOp .Gt) (Me λi j=>.bl (decide (j<i))):=Of λ_ _ _ _ _ _ _ q=>gt_int q
theorem FO:WH X (compareOp .GtE) (Me λi j=>.bl (decide (j<=i))):=Of λ_ _ _ _ _ _ _ q=>ge_int q
theorem vR:WH X (compareOp .Is) (λx y H Q=>y=.non/\Q (.bl (decide (x=.non))) H):=by
 intro pins s σ H x y v u Q I rx ry h;obtain⟨rfl,q⟩:=h;cases ry;refine is_none_gen (ZG I q ?_);cases x <;> first
  | (cases rx;rfl)
  | (obtain⟨t,rfl⟩:=rx;rfl)
theorem Zu(b:Expr){op:CmpOp}(h:op≠.In:=by decide)(h2:op≠.NotIn:=by decide):behindInMarks op b=false:=by
 have e1:(op == CmpOp.In)=false:=by cases op <;> first | rfl | exact absurd rfl h
 have e2:(op == CmpOp.NotIn)=false:=by cases op <;> first | rfl | exact absurd rfl h2
 cases b <;> simp[behindInMarks,e1,e2]
theorem Kp{op:CmpOp}{r:R2}(ho:WH X (compareOp op) r)(ha:PE X a ta)(hb:PE X b tb)(hm:behindInMarks op b=false):PE X (.Compare a [op] [b] pos) (zR r ta tb):=by intro pins s σ H Q I h;exact wpAny_Compare1 (Kr ha hb I h λv u s2 x y H2 I2 rx ry q=>ho pins s2 σ H2 x y v u Q I2 rx ry q) hm
def FN(t:TE):TT:=λσ H Q=>t σ H λx H'=>∃ k,x=.bl k/\Q k H'
theorem Zg{op:CmpOp}{r:R2}(ho:WH X (compareOp op) r)(ha:PE X a ta)(hb:PE X b tb)(hm:behindInMarks op b=false):PT X (.Compare a [op] [b] pos) (FN (zR r ta tb)):=by
 intro pins s σ H Q I h;refine wpAny_isTrue_Compare1 (thn (ha pins s σ H _ I h) λv s1 ⟨x,H1,I1,r1,q1⟩=>thn (hb pins s1 σ H1 _ I1 q1) λu s2 ⟨y,H2,I2,r2,q2⟩ =>
  thn (ho pins s2 σ H2 x y v u _ I2 r1 r2 q2) λc s3 ⟨z,H3,I3,r3,k,e,q3⟩=>?_) hm
 subst e;cases r3;exact Ow ⟨H3,I3,q3⟩
def FL(r r':R2)(ta tb tc:TE):TE:=λσ H Q=>ta σ H λx H1=>tb σ H1 λy H2=>r x y H2 λz H3=>∃ k,z=.bl k /\
 (if k=true then tc σ H3 λw' H4=>r' y w' H4 Q else Q (.bl false) H3)
theorem bq{op Ko:CmpOp}{r r':R2}(ho:WH X (compareOp op) r)(WQ:WH X (compareOp Ko) r')(ha:PE X a ta)(hb:PE X b tb)(hc:PE X c tc)
  (hm:lastMarks [op,Ko] [b,c]=false:=by with_unfolding_all rfl):PE X (.Compare a [op,Ko] [b,c] pos) (FL r r' ta tb tc):=by
 intro pins s σ H Q I h;refine Compare_chain (thn (ha pins s σ H _ I h) λv s1 ⟨x,H1,I1,r1,q1⟩=>chain_link (thn (hb pins s1 σ H1 _ I1 q1) λu s2 ⟨y,H2,I2,r2,q2⟩ =>
  thn (ho pins s2 σ H2 x y v u _ I2 r1 r2 q2) λd s3 ⟨z,H3,I3,r3,k,e,q3⟩=>?_)) hm
 subst e;cases r3;refine Ow ?_;cases k with
 | false=>exact ite_ff ⟨.bl false,H3,I3,rfl,q3⟩
 | true=>exact ite_tt (chain_last (thn (hc pins s3 σ H3 _ I3 q3) λw' s4 ⟨z',H4,I4,r4,q4⟩=>WQ pins s4 σ H4 y z' u w' Q I4 r2 r4 q4))
theorem i6{op Ko:CmpOp}{r r':R2}(ho:WH X (compareOp op) r)(WQ:WH X (compareOp Ko) r')(ha:PE X a ta)(hb:PE X b tb)(hc:PE X c tc)
  (hm:lastMarks [op,Ko] [b,c]=false:=by with_unfolding_all rfl):PT X (.Compare a [op,Ko] [b,c] pos) (FN (FL r r' ta tb tc)):=by
 intro pins s σ H Q I h;refine isTrue_chain (thn (ha pins s σ H _ I h) λv s1 ⟨x,H1,I1,r1,q1⟩=>test_link (thn (hb pins s1 σ H1 _ I1 q1) λu s2 ⟨y,H2,I2,r2,q2⟩ =>
  thn (ho pins s2 σ H2 x y v u _ I2 r1 r2 q2) λd s3 ⟨z,H3,I3,r3,k,e,q3⟩=>?_)) hm
 subst e;cases r3;refine Ow ?_;cases k with
 | false =>
  obtain⟨k',e',q'⟩:=q3;cases e';exact ite_ff ⟨H3,I3,q'⟩
 | true =>
  refine ite_tt (test_last (thn (hc pins s3 σ H3 _ I3 q3) λw' s4 ⟨z',H4,I4,r4,q4⟩=>thn (WQ pins s4 σ H4 y z' u w' _ I4 r2 r4 q4) λd' s5 Xv=>?_));obtain⟨z2,H5,I5,r5,k2,e2,q5⟩:=Xv;subst e2;cases r5;exact Ow ⟨H5,I5,q5⟩
theorem FK:(sizeLine:Nat)<2 ^ 63:=by rw[SX];decide
theorem RM{x:V}{us:Ag}(r:Vals [x] us):∃ u,us=[u]/\RelV x u:=by
 cases r with
 | cons r1 r2=>cases r2;exact⟨_,rfl,r1⟩
theorem Km{x y:V}{us:Ag}(r:Vals [x,y] us):∃ u w',us=[u,w']/\RelV x u/\RelV y w':=by
 cases r with
 | cons r1 r2 =>
  cases r2 with
  | cons r3 r4=>cases r4;exact⟨_,_,rfl,r1,r3⟩
theorem zQ (hc:X.calm=true):Uh X (.builtin "max") (λxs H Q=>∃ i j,xs=[.int i,.int j]/\Q (.int (if j > i then j else i)) H):=by
 intro pins s σ H xs us Q I r h;obtain⟨i,j,rfl,q⟩:=h;obtain⟨u,w',rfl,⟨t,rfl⟩,⟨t',rfl⟩⟩:=Km r;refine max_two_ints (I.ok.hd hc) λh' tk k=>⟨_,H,I.kept k,?_,q⟩;by_cases hj:j > i
 .rw[if_pos hj,if_pos hj];exact⟨_,rfl⟩
 .rw[if_neg hj,if_neg hj];exact⟨_,rfl⟩
theorem zP (hc:X.calm=true):Uh X (.builtin "min") (λxs H Q=>∃ i j,xs=[.int i,.int j]/\Q (.int (if j<i then j else i)) H):=by
 intro pins s σ H xs us Q I r h;obtain⟨i,j,rfl,q⟩:=h;obtain⟨u,w',rfl,⟨t,rfl⟩,⟨t',rfl⟩⟩:=Km r;refine min_two_ints (I.ok.hd hc) λh' tk k=>⟨_,H,I.kept k,?_,q⟩;by_cases hj:j<i
 .rw[if_pos hj,if_pos hj];exact⟨_,rfl⟩
 .rw[if_neg hj,if_neg hj];exact⟨_,rfl⟩
end
structure ObjM (h:Heap) (x dx C:Addr) (mA:Af):Prop where
 obj:h.get? x=some (PySem.W.instObj C dx)
 ns:h.Ns1 dx mA
 ne:dx≠x
theorem bp{h:Heap}{dx:Addr}{mA:Af}(n:h.Ns1 dx mA):∃ od,h.get? dx=some od/\∀ name,PySem.W.lookIn name od=some (mA name):=by
 obtain⟨o,es,ep,ho,hd,hk,_,hm⟩:=n;refine⟨o,ho,λname=>?_⟩;have e:=hm name
 unfold nsFind findBy at e;rw[<- Array.find?_toList]at e;unfold PySem.W.lookIn;rw[hd];dsimp only;split
 .rename_i y q;rw[q]at e;exact Xw some e
 .rename_i q;rw[q]at e;have a:es.toList.any (·.refKey)=false:=by rw[List.any_eq_false];intro y hy;obtain⟨z,t,vQ⟩:=hk y (Array.mem_toList_iff.mp hy);simp[DictEntry.refKey,vQ]
  have a':¬ es.toList.any (·.refKey)=true:=by rw[a];exact Yw
  rw[if_neg a'];exact Xw some e
theorem ObjM.look{h:Heap}{x dx C:Addr}{mA:Af}(I:ObjM h x dx C mA):∃ od,PySem.W.InstAt h x (PySem.W.instObj C dx) C (some od)/\∀ name,PySem.W.lookIn name od=some (mA name) :=
 let ⟨od,ho,hl⟩:=bp I.ns
 ⟨od,⟨I.obj,rfl,rfl,ho⟩,hl⟩
section
variable{prog:Program}{w:World}{A:Around}{E:Ae}{s:Shared}{K:Ad}{x dx C f:Addr}{mA:Af}{name:Str}{v:Value}
theorem vP{expr:Bool}{Q:Ae}(X:K.In s.heap)(I:ObjM s.heap x dx C mA)(hg:PySem.W.plainGet K C name=true)(hh:PySem.W.hasDictIn K C=true)
  (ha:PySem.W.findIn K (.ref C) name=some none) (hv:mA name=some v) (zN:PySem.W.handedIn v=true) (h:Q v { s with toks:=s.toks+1 }) :
  wpAny (model prog w) A (getAttr (.ref x) name expr) Q E s:=by obtain⟨od,J,hl⟩:=I.look;exact PySem.W.get_value X J (PySem.W.plainGet_of hg).1 (PySem.W.findObj_own hh ha rfl (by rw[hl,hv])) zN h
theorem vN{ns:List Str}{Q:Unit->Shared->Prop}(X:K.In s.heap)(I:ObjM s.heap x dx C mA)
  (hs:PySem.W.findIn K (.ref C) "__setattr__"=some (some (.builtin "object.__setattr__"))) (hp:PySem.W.plainOver K C=true) (ht:PySem.W.takerIn K C name=some none) (hh:PySem.W.hasDictIn K C=true)
  (hw:PySem.Within mA ns) (hsz:ns.length<=sizeLine)
  (h:∀ h',ObjM h' x dx C (λy=>if y=name then some v else mA y)->Heap.SameBut dx s.heap h'->Q () { s with heap:=h',toks:=s.toks+2 }) :
  wpAny (model prog w) A (setAttr (.ref x) name v) Q E s:=by
 obtain⟨od,J,hl⟩:=I.look;refine PySem.W.set_plain X J hs (PySem.W.osa_open (s:={ s with toks:=s.toks+1 }) (r:=none) X J hp ht λb=>?_);obtain⟨cd,hc,TZ⟩:=PySem.W.any_some hh;have hx:s.heap.get? x=some ⟨.ref C,some dx,.plain,#[]⟩:=I.obj
 refine XU (Yk (XU (XU (wpAny_loadPart hx (XU (PySem.W.Looks.here (s:={ s with toks:=s.toks+1 }) (PySem.W.looks_clsIn X hc) ?_))))));rw[TZ];refine Yk (a:=some dx) (XU (Yk (XU ?_)));refine wpAny_nsSet1 (s:={ s with toks:=s.toks+1 }) I.ns λh' Oe RL=>?_;obtain⟨oD,esD,epD,zM,i5,bo⟩:=Oe.count (PySem.Within.cons name v hw);refine XU (wpAny_lookBehind zM (by rw[i5];exact pastItsLine_dict (Yr bo (by rw[YB];omega))) ?_);exact Yk (h _ ⟨(RL.2 _ (YW I.ne)).trans I.obj,Oe,I.ne⟩ RL)
theorem FJ{R:Result->Shared->Prop}{vs:Ag}{kw:List (Str × Value)}(X:K.In s.heap)(hm:PySem.W.makesIn K C=true)
  (hi:PySem.W.findIn K (.ref C) "__init__"=some (some (.ref f))) (hf:PySem.W.typeIn K (.ref f)=some (.type "function"))
  (h:codeAny (model prog w) (A.under (.builtin "type.__call__" ⟨.ref C :: vs,kw⟩)) (.call (.ref f) ⟨.ref (s.heap.objs.size+1) :: vs,kw⟩) (PySem.W.InitBack (s.heap.objs.size+1) R)
   { s with heap:=(s.heap.push PySem.W.emptyDict).push (PySem.W.instObj C s.heap.objs.size) }) :
  codeAny (model prog w) A (.call (.ref C) ⟨vs,kw⟩) R s:=by obtain⟨hh,g,d,t,os⟩:=s;exact PySem.W.make_core (PySem.W.makes_of X hm) (PySem.W.looks_findIn X hi) (λself=>PySem.W.bind_fn X self hf) (.inl rfl) h
end
def XO(f:Str)(v:V):List (Str × V)->List (Str × V)
 | []=>[(f,v)]
 | (g,x) :: r=>if g=f then (g,v) :: r else (g,x) :: XO f v r
theorem FI(f g:Str)(v:V):∀ fs:List (Str × V),(XO f v fs).lookup g=if g=f then some v else fs.lookup g
 | []=>by
  show List.lookup g [(f,v)]=_;by_cases h:g=f
  .have hb:(g == f)=true:=SW.mpr h;simp only [List.lookup,hb,if_pos h]
  .have hb:(g == f)=false:=GZ.mpr h;simp only [List.lookup,hb,if_neg h]
 | (k,x) :: r=>by
  have ih:=FI f g v r;rw[show XO f v ((k,x) :: r)=(if k=f then (k,v) :: r else (k,x) :: XO f v r) from rfl];by_cases hk:k=f
  .rw[if_pos hk];by_cases h:g=k
   .have hb:(g == k)=true:=SW.mpr h;simp only [List.lookup,hb,if_pos (h.trans hk)]
   .have hb:(g == k)=false:=GZ.mpr h;simp only [List.lookup,hb,if_neg (λe:g=f=>h (e.trans hk.symm))]
  .rw[if_neg hk];by_cases h:g=k
   .have hb:(g == k)=true:=SW.mpr h;simp only [List.lookup,hb,if_neg (λe:g=f=>hk (h.symm.trans e))]
   .have hb:(g == k)=false:=GZ.mpr h;simp only [List.lookup,hb];exact ih
theorem Kl(f:Str)(v:V):∀ fs:List (Str × V),f∈(XO f v fs).map (·.1)/\∀ g,g∈fs.map (·.1)->g∈(XO f v fs).map (·.1)
 | []=>⟨by simp[XO],λg h=>by simp at h⟩
 | (k,x) :: r=>by
  obtain⟨i1,i2⟩:=Kl f v r;rw[show XO f v ((k,x) :: r)=(if k=f then (k,v) :: r else (k,x) :: XO f v r) from rfl];by_cases hk:k=f
  .rw[if_pos hk];subst hk;exact⟨by simp,λg h=>by simpa using h⟩
  .rw[if_neg hk];refine⟨?_,λg h=>?_⟩
   .rw[WC];exact Yh _ i1
   .rw[WC]at h ⊢;rcases Yg.mp h with e | e
    .exact Yg.mpr (.inl e)
    .exact Yh _ (i2 g e)
theorem i4(f:Str)(v:V):∀ fs:List (Str × V),(XO f v fs).length<=fs.length+1
 | []=>by simp[XO]
 | (k,x) :: r=>by
  have ih:=i4 f v r;rw[show XO f v ((k,x) :: r)=(if k=f then (k,v) :: r else (k,x) :: XO f v r) from rfl];by_cases hk:k=f
  .rw[if_pos hk,YB,YB];omega
  .rw[if_neg hk,YB,YB];omega
theorem RelO.some_of{v:V}{o:Option Value}(r:RelO (some v) o):∃ u,o=some u/\RelV v u:=by
 cases o with
 | none=>exact(show False from r).elim
 | some u=>exact⟨u,rfl,r⟩
theorem bj{v:V}{u:Value}(r:RelV v u):PySem.W.handedIn u=true:=by
 cases v with
 | non=>cases (show u=Value.none from r);rfl
 | bl b=>cases (show u=Value.bool b from r);rfl
 | int i=>obtain⟨t,e⟩:=(show ∃ t,u=Value.int i t from r);cases e;rfl
 | str x=>obtain⟨t,e⟩:=(show ∃ t,u=Value.str x t from r);cases e;rfl
 | byt b=>obtain⟨t,e⟩:=(show ∃ t,u=Value.bytes b t from r);cases e;rfl
 | flt b=>obtain⟨t,e⟩:=(show ∃ t,u=Value.float b t from r);cases e;rfl
 | ref a=>cases (show u=Value.ref a from r);rfl
 | ty n=>cases (show u=Value.type n from r);rfl
section
variable{P:Program}{w:World}{H:Hp}{h:Heap}{a C dx:Addr}{fs:List (Str × V)}
theorem vM(hok:HOk P w H h)(e:H a=some (.ins C dx fs)):∃ mA,ObjM h a dx C mA/\(∀ f,RelO (fs.lookup f) (mA f))/\PySem.Within mA (fs.map (·.1))/\fs.length<=1000/\H dx=some (.own a):=by obtain⟨d,z,ne,ob,mA,n,r,q⟩:=(show ObjOk P w H h a (.ins C dx fs) from hok a _ e);exact⟨mA,⟨ob,n,ne⟩,r,q,z,d⟩
end
structure Cls (K:Ad) (C:Addr):Prop where
 pg:PySem.W.plainGet K C Str.empty=true
 hd:PySem.W.hasDictIn K C=true
 po:PySem.W.plainOver K C=true
 sa:PySem.W.findIn K (.ref C) "__setattr__"=some (some (.builtin "object.__setattr__"))
theorem Cls.get{K:Ad}{C:Addr}(c:Cls K C)(f:Str):PySem.W.plainGet K C f=true:=c.pg
def NoAttr(K:Ad)(C:Addr)(f:Str):Prop:=PySem.W.findIn K (.ref C) f=some none
theorem NoAttr.taker{K:Ad}{C:Addr}{f:Str}(n:NoAttr K C f):PySem.W.takerIn K C f=some none:=by unfold PySem.W.takerIn;rw[show PySem.W.findIn K (.ref C) f=some none from n];rfl
structure Con (K:Ad) (C:Addr) (f:Str) (v:V) (u:Value):Prop where
 at_:PySem.W.findIn K (.ref C) f=some (some u)
 rel:RelV v u
 get:PySem.W.specialIn K u "__get__"=some none
 cp:PySem.W.copiedNames.contains f=false
structure Meth (K:Ad) (C:Addr) (m:Str) (f:Addr):Prop where
 at_:PySem.W.findIn K (.ref C) m=some (some (.ref f))
 fn:PySem.W.isFn K (.ref f)=true
 kp:PySem.W.keepIn K (.ref f)=true
section
variable{X:Cx}{pins:List (Addr × Obj)}{σ:St}{H:Hp}{s:Shared}{a C dx:Addr}{fs:List (Str × V)}{f:Str}{v:V}{A:Around}{E:Ae}
theorem bh{b:Bool}{Q:Ae}(I:Inv X pins σ H s)(e:H a=some (.ins C dx fs))(c:Cls X.K C)(n:NoAttr X.K C f)(l:fs.lookup f=some v)
  (h:∀ u s',Inv X pins σ H s'->RelV v u->Q u s'):wpAny (model X.prog X.w) A (getAttr (.ref a) f b) Q E s:=by obtain⟨mA,O,r,_,_,_⟩:=vM I.hok e;obtain⟨u,hu,ru⟩:=RelO.some_of (v:=v) (o:=mA f) (by rw[<- l];exact r f);exact vP I.kIn O (c.get f) c.hd n hu (bj ru) (h u _ (I.tok _) ru)
theorem vL{y:V}{u:Value}{Q:Unit->Shared->Prop}(I:Inv X pins σ H s)(e:H a=some (.ins C dx fs))(c:Cls X.K C)(n:NoAttr X.K C f)(hl:fs.length<1000)(ry:RelV y u)
  (h:∀ s',Inv X pins σ (upd H a (.ins C dx (XO f y fs))) s'->Q () s'):wpAny (model X.prog X.w) A (setAttr (.ref a) f u) Q E s:=by
 obtain⟨mA,O,r,wi,_,ho⟩:=vM I.hok e;have hz:(fs.map (·.1)).length<=sizeLine:=by rw[Yd,SX];omega
 refine vN I.kIn O c.sa c.po n.taker c.hd wi hz λh' O' sb=>h _ ?_;have hd:∃ o,h'.get? dx=some o:=let ⟨o,_,_,e',_⟩:=O'.ns;⟨o,e'⟩
 refine I.write (x:=a) (e:=dx) (by rw[e];exact True.intro) (.inr ho) (λb q hb z=>(sb.2 b hb).trans z) hd ?_;refine⟨by rw[Zb O.ne];exact ho,?_,O.ne,O'.obj,_,O'.ns,λg=>?_,λg hg=>?_⟩
 .have:=i4 f y fs;omega
 .show RelO ((XO f y fs).lookup g) (if g=f then some u else mA g);rw[FI];by_cases q:g=f
  .rw[if_pos q,if_pos q];exact ry
  .rw[if_neg q,if_neg q];exact r g
 .by_cases q:g=f
  .rw[q];exact(Kl f y fs).1
  .refine(Kl f y fs).2 g (wi g λz=>hg ?_);show(if g=f then some u else mA g)=none
   rw[if_neg q];exact z
theorem Inv.made(I:Inv X pins σ H s):Inv X pins σ (upd (upd H s.heap.objs.size (.own (s.heap.objs.size+1))) (s.heap.objs.size+1) (.ins C s.heap.objs.size []))
  { s with heap:=(s.heap.push PySem.W.emptyDict).push (PySem.W.instObj C s.heap.objs.size) }:=by
 have e1:(s.heap.push PySem.W.emptyDict).get? s.heap.objs.size=some PySem.W.emptyDict:=Yo s.heap rfl;have e2:((s.heap.push PySem.W.emptyDict).push (PySem.W.instObj C s.heap.objs.size)).get? (s.heap.objs.size+1)=some (PySem.W.instObj C s.heap.objs.size):=by
  have:=Yo (s.heap.push PySem.W.emptyDict) (o:=PySem.W.instObj C s.heap.objs.size) rfl
  rwa [UD]at this
 have e3:(s.heap.push PySem.W.emptyDict).Ns s.heap.objs.size (λ_=>none):=⟨PySem.W.emptyDict,#[],_,e1,rfl,(λe he=>absurd he (by simp)),λ_=>rfl⟩;have I1:=I.laid (a:=s.heap.objs.size) (o:=.own (s.heap.objs.size+1)) (h':=s.heap.push PySem.W.emptyDict) (t':=s.toks) (λb u q=>WZ _ q) (XM _) ⟨_,e1⟩
 refine I1.laid (a:=s.heap.objs.size+1) (o:=.ins C s.heap.objs.size []) (t':=s.toks) (λb u q=>WZ _ q) (Nat.le_of_eq (UD _ _)) ?_;have ne:s.heap.objs.size≠s.heap.objs.size+1:=Yt (OY _)
 refine⟨by rw[Zb ne,XS],Yn _,ne,e2,λ_=>none,(Heap.Ns1.of_empty e3).at λo q=>WZ _ q,λ_=>True.intro,λy hy=>absurd rfl hy⟩
theorem vK{prog:Program}{w:World}{env:Env}{e:Expr}{f:Str}{pos:Pos}{s:Shared}{Q:Ae}(hb:attributeBase e f env (eval e env)=eval e env)
  (h:wpAny (model prog w) A (eval e env) (λo s₁=>wpAny (model prog w) A (getAttr o f true) Q E s₁) E s):wpAny (model prog w) A (eval (.Attribute e f pos) env) Q E s :=
 Attribute_any_ h (by rw[arm_eval_Attribute,hb])
end
def FH(K:Ad)(ta:TE)(f:Str):TE:=λσ H Q=>ta σ H λx H1=>∃ a C dx fs v,x=.ref a/\H1 a=some (.ins C dx fs)/\Cls K C/\NoAttr K C f/\fs.lookup f=some v/\Q v H1
def vJ(K:Ad)(ta tv:TE)(f:Str):TS:=λD σ H=>tv σ H λy H1=>ta σ H1 λx H2=>∃ a C dx fs,x=.ref a/\H2 a=some (.ins C dx fs)/\Cls K C/\NoAttr K C f/\fs.length<1000 /\
 D.nx σ (upd H2 a (.ins C dx (XO f y fs)))
section
variable{X:Cx}{o e value:Expr}{f:Str}{pos pos':Pos}{ta tv:TE}
theorem vH(he:PE X e ta)(hb:attributeBase e f X.env (eval e X.env)=eval e X.env):PE X (.Attribute e f pos) (FH X.K ta f):=by intro pins s σ H Q I h;refine vK hb (thn (he pins s σ H _ I h) λu s1 Xv=>?_);obtain⟨x,H1,I1,rx,a,C,dx,fs,v,ex,ea,c,n,l,q⟩:=Xv;subst ex;obtain rfl:u=Value.ref a:=rx;exact bh I1 ea c n l λu' s2 I2 ru=>⟨v,H1,I2,ru,q⟩
theorem Uy(ha:PE X o ta)(hv:PE X value tv)(hs:swapsWith value (some (.Attribute o f pos')) pos.line X.env=pure false):PS X (.Assign [.Attribute o f pos'] value pos) (vJ X.K ta tv f):=by intro pins s σ H D I h;refine plainObj_wpAny_Assign_Attribute (thn (hv pins s σ H _ I h) λu s1 ⟨y,H1,I1,ry,q⟩=>thn (ha pins s1 σ H1 _ I1 q) λov s2 Xv=>?_) hs;obtain⟨x,H2,I2,rx,a,C,dx,fs,ex,ea,c,n,l,q2⟩:=Xv;subst ex;obtain rfl:ov=Value.ref a:=rx;exact vL I2 ea c n l ry λs3 I3=>⟨σ,_,I3,q2⟩
end
section
variable{X:Cx}{pins:List (Addr × Obj)}{σ:St}{H:Hp}{s:Shared}{A:Around}{E:Ae}{Q:Ae}{c:Value}{b:Bool}
inductive TyOf (K:Ad) (H:Hp):V->Value->Prop where
 | non:TyOf K H .non (.type "NoneType")
 | bl (x:Bool):TyOf K H (.bl x) (.type "bool")
 | int (i:Int):TyOf K H (.int i) (.type "int")
 | str (x:Str):TyOf K H (.str x) (.type "str")
 | flt (x:UInt64):TyOf K H (.flt x) (.type "float")
 | lst {a:Addr} {xs:List V} (e:H a=some (.lst xs)):TyOf K H (.ref a) (.type "list")
 | frz {a:Addr} {o:Obj} {xs:List V} (e:H a=some (.frz o (.lst xs))):TyOf K H (.ref a) (.type "list")
 | tup {a:Addr} {xs:List V} (e:H a=some (.tup xs)):TyOf K H (.ref a) (.type "tuple")
 | dK {a:Addr} {kvs:List (Key × V)} (e:H a=some (.dK kvs)):TyOf K H (.ref a) (.type "dict")
 | dT {a:Addr} {kvs:List (List Key × V)} (e:H a=some (.dT kvs)):TyOf K H (.ref a) (.type "dict")
 | ins {a C dx:Addr} {fs:List (Str × V)} (e:H a=some (.ins C dx fs)) (cl:Cls K C) (ha:PySem.W.findIn K (.ref C) "__class__"=some (some (.builtin "object.__class__")))
   (hn:PySem.W.specialIn K (.builtin "object.__class__") "__get__"=some (some (.builtin "getset_descriptor.__get__"))) (vG:PySem.W.takesIn K (.builtin "object.__class__")=some true)
   (hm:PySem.W.mroIn K C (.type "object")=some true):TyOf K H (.ref a) (.ref C)
theorem bg{x:V}{u t:Value}(I:Inv X pins σ H s)(rx:RelV x u)(ty:TyOf X.K H x t)(e:PySem.W.kitOne X.K t c=some b)(h:∀ tk,Q (.bool b) { s with toks:=tk }) :
  wpAny (model X.prog X.w) A (call (.builtin "isinstance") [u,c]) Q E s:=by
 cases ty with
 | non=>cases (show u=Value.none from rx);exact QC PySem.W.kitx_none I.kIn True.intro e (λz=>nomatch z) h
 | bl y=>cases (show u=Value.bool y from rx);exact QC PySem.W.kitx_bool I.kIn True.intro e (λz=>nomatch z) h
 | int i=>obtain⟨t,q⟩:=(show ∃ t,u=Value.int i t from rx);cases q;exact QC PySem.W.kitx_int I.kIn True.intro e (λz=>nomatch z) h
 | str y=>obtain⟨t,q⟩:=(show ∃ t,u=Value.str y t from rx);cases q;exact QC PySem.W.kitx_str I.kIn True.intro e (λz=>nomatch z) h
 | flt y=>obtain⟨t,q⟩:=(show ∃ t,u=Value.float y t from rx);cases q;exact QC PySem.W.kitx_float I.kIn True.intro e (λz=>nomatch z) h
 | @lst a xs ea =>
  cases (show u=Value.ref a from rx);obtain⟨_,_,n,_,h1⟩:=(show ObjOk X.prog X.w H s.heap a (.lst xs) from I.hok a _ ea);exact QC PySem.W.kitx_list I.kIn ⟨_,h1,rfl⟩ e (λz=>nomatch z) h
 | @frz a ob xs ea =>
  cases (show u=Value.ref a from rx);obtain⟨_,_,_,n,_,h1⟩:=(show ObjOk X.prog X.w H s.heap a (.frz ob (.lst xs)) from I.hok a _ ea);exact QC PySem.W.kitx_list I.kIn ⟨_,h1,rfl⟩ e (λz=>nomatch z) h
 | @tup a xs ea =>
  cases (show u=Value.ref a from rx);obtain⟨_,_,_,p⟩:=(show ObjOk X.prog X.w H s.heap a (.tup xs) from I.hok a _ ea);obtain⟨o,h1,h2,_⟩:=p;exact QC PySem.W.kitx_tuple I.kIn ⟨o,h1,h2⟩ e (λz=>nomatch z) h
 | @dK a kvs ea =>
  cases (show u=Value.ref a from rx);obtain⟨_,_,vs,_,p⟩:=(show ObjOk X.prog X.w H s.heap a (.dK kvs) from I.hok a _ ea);obtain⟨o,es,ep,h1,h2,_⟩:=p;exact QC PySem.W.kitx_dict I.kIn ⟨o,h1,h2.1⟩ e (λz=>nomatch z) h
 | @dT a kvs ea =>
  cases (show u=Value.ref a from rx);obtain⟨_,_,xs,_,o,es,ep,h1,h2,_⟩:=(show ObjOk X.prog X.w H s.heap a (.dT kvs) from I.hok a _ ea);exact QC PySem.W.kitx_dict I.kIn ⟨o,h1,h2.1⟩ e (λz=>nomatch z) h
 | @ins a C dx fs ea cl ha hn vG hm =>
  cases (show u=Value.ref a from rx);obtain⟨mA,O,_⟩:=vM I.hok ea;obtain⟨od,J,_⟩:=O.look;exact QC (PySem.W.kitx_own (cl.get _) cl.hd ha hn vG hm) I.kIn J e (λz=>nomatch z) h
end
structure Room (k:Nat) (A:Around):Prop where
 hd:A.handled=none
 dp:A.depth+3 * k+5<recursionLimit
 un:A.units+16 * k+200<cLine
theorem Room.mono{j k:Nat}{A:Around}(r:Room k A)(h:j<=k):Room j A:=⟨r.hd,by have:=r.dp;omega,by have:=r.un;omega⟩
theorem Room.deeper{k:Nat}{A:Around}(r:Room (k+1) A)(env:Env):Room k (A.deeper env) :=
 ⟨r.hd,by have:=r.dp;show A.depth+1+3 * k+5<_;omega,by have:=r.un;show A.units+3+16 * k+200<_;omega⟩
theorem Room.in1{k:Nat}{A:Around}(r:Room (k+1) A):Room k A.in1 :=
 ⟨r.hd,by have:=r.dp;show A.depth+3 * k+5<_;omega,by have:=r.un;show A.units+1+16 * k+200<_;omega⟩
theorem bc {A:Around} {C:Addr} {us:Ag} {kw:List (Str × Value)}:(A.under (.builtin "type.__call__" ⟨.ref C :: us,kw⟩)).depth=A.depth+1:=by
 first | rfl | simp[Around.under,Code.weight,Code.isCreation,Code.isGuard,Code.isCaller,Code.frames,Code.isFrame,guardIds]
theorem bb {A:Around} {C:Addr} {us:Ag} {kw:List (Str × Value)}:(A.under (.builtin "type.__call__" ⟨.ref C :: us,kw⟩)).units=A.units+1:=by
 first | rfl | simp[Around.under,Code.cUnits,Code.frames,Code.isFrame]
theorem Room.make {k:Nat} {A:Around} (r:Room (k+1) A) (C:Addr) (us:Ag) (kw:List (Str × Value)):Room k (A.under (.builtin "type.__call__" ⟨.ref C :: us,kw⟩)) :=
 ⟨r.hd,by have:=r.dp;rw[bc];omega,by have:=r.un;rw[bb];omega⟩
theorem Room.depth{k:Nat}{A:Around}(r:Room k A):A.depth<recursionLimit:=by have:=r.dp;omega
theorem Room.units{k:Nat}{A:Around}(r:Room k A):A.units+64<cLine:=by have:=r.un;omega
def Kk:TA:=λ_ H Q=>Q [] H
def Qo(ta:TE)(tr:TA):TA:=λσ H Q=>ta σ H λx H1=>tr σ H1 λxs H2=>Q (x :: xs) H2
section
variable{X:Cx}{e:Expr}{es:List Expr}{te:TE}{t:TA}{pos:Pos}
theorem XY:PA X [] Kk:=λ_ _ _ _ H Q I h=>wQ ⟨[],H,I,.nil,h⟩
theorem XZ(ha:PE X e te)(hr:PA X es t)(hs:starEach (e :: es) X.env=(false,eval e X.env) :: starEach es X.env:=by rfl):PA X (e :: es) (Qo te t):=by
 intro pos pins s σ H Q I h;rw[hs];show wpAny _ _ (spliced ((false,eval e X.env) :: backTo pos (starEach es X.env))) _ _ s
 refine KI (thn (ha pins s σ H _ I h) λu s1 Xv=>?_);obtain⟨x,H1,I1,r1,q1⟩:=Xv;exact thn (hr pos pins s1 σ H1 _ I1 q1) λus s2 ⟨xs,H2,I2,r2,q2⟩=>⟨x :: xs,H2,I2,.cons r1 r2,q2⟩
def vE(t:TA):TE:=λσ H Q=>t σ H λxs H1=>xs.length<=sizeLine/\∀ p,H1 p=none->Q (.ref p) (upd H1 p (.tup xs))
def vD(t:TA):TE:=λσ H Q=>t σ H λxs H1=>xs.length<=sizeLine/\∀ p,H1 p=none->Q (.ref p) (upd H1 p (.lst xs))
theorem SO{x1}(h:PA X es t):PE X (.Tuple es x1 pos) (vE t):=by
 intro pins s σ H Q I hq;refine wpAny_Tuple_spliced (thn (h pos pins s σ H _ I hq) λus s1 ⟨xs,H1,I1,r,z,q⟩=>⟨by rw[<- r.length];exact z,?_⟩);have hf:H1 s1.heap.objs.size=none:=I1.hok.fresh (XM _)
 refine⟨.ref s1.heap.objs.size,upd H1 s1.heap.objs.size (.tup xs),I1.laid (t':=s1.toks) (λb u e=>WZ _ e) (XM _) ?_,rfl,q _ hf⟩;exact⟨z,us,r,⟨_,Yo _ rfl,rfl,_,rfl⟩⟩
theorem TX(h:PA X es t):PE X (.List es pos) (vD t):=by
 intro pins s σ H Q I hq;refine wpAny_List_spliced (thn (h pos pins s σ H _ I hq) λus s1 ⟨xs,H1,I1,r,z,q⟩=>⟨by rw[<- r.length];exact z,?_⟩);have hf:H1 s1.heap.objs.size=none:=I1.hok.fresh (XM _)
 refine⟨.ref s1.heap.objs.size,upd H1 s1.heap.objs.size (.lst xs),I1.laid (t':=s1.toks) (λb u e=>WZ _ e) (XM _) ?_,rfl,q _ hf⟩;exact⟨z,us,0,r,Yo _ rfl⟩
end
abbrev Sp:=List V->Hp->VK->XK->Prop
abbrev RJ:=List Env->Hp->Shared->XK->Ae
structure Env0 (P:Program) (w:World) (K:Ad) (mg:Af) (base:Heap) (A:Around) (outer:List Env) (s:Shared) (H:Hp):Prop where
 frames:A.frames=some outer
 mod:Mod K mg base
 bs:∀ b o,base.get? b=some o->s.heap.get? b=some o/\H b=none
 bsz:base.objs.size<=s.heap.objs.size
 funs:s.heap.FunFrames base outer
 frf:∀ b∈Wr outer,H b=none
 hok:HOk P w H s.heap
 bare:AllBare s.gens
def CE(outer:List Env)(P:Program)(w:World)(H:Hp)(s:Shared)(Q:VK)(u:Value)(s':Shared):Prop :=
 ∃ v H',s'.os=s.os/\AllBare s'.gens/\Un (Wr outer) [] H H' s.heap s'.heap/\HOk P w H' s'.heap/\RelV v u/\Q v H'
def CR(CX:RJ)(outer:List Env)(P:Program)(w:World)(H:Hp)(s:Shared)(Q:VK)(E:XK)(r:Result)(s':Shared):Prop :=
 match r with
 | .ok (.ret u)=>CE outer P w H s Q u s'
 | .ok _=>False
 | .error e=>CX outer H s E e s'
structure FnOk (P:Program) (w:World) (K:Ad) (mg:Af) (base:Heap) (CX:RJ) (k:Nat) (f:Addr) (fd:FuncData) (ps:List Str) (sp:Sp):Prop where
 len:∀ vs H Q E,sp vs H Q E->vs.length=ps.length
 run:∀(A:Around) (outer:List Env) (s:Shared) (H:Hp) (args:Args) (us:Ag) (vs:List V) (Q:VK) (E:XK),Room k A->Env0 P w K mg base A outer s H->BindsTo s fd args (ps.zip us)->Vals vs us->sp vs H Q E ->
  codeAny (model P w) A (.call (.ref f) args) (CR CX outer P w H s Q E) s
theorem Env0.make{P:Program}{w:World}{K:Ad}{mg:Af}{base:Heap}{A:Around}{outer:List Env}{s:Shared}{H:Hp}(e:Env0 P w K mg base A outer s H)(C:Addr)(us:Ag)(kw:List (Str × Value)) :
  Env0 P w K mg base (A.under (.builtin "type.__call__" ⟨.ref C :: us,kw⟩)) outer s H:=⟨by first | exact e.frames | (simpa [Around.under,Code.envs,Code.isFrame,pushEnvs] using e.frames),e.mod,e.bs,e.bsz,e.funs,e.frf,e.hok,e.bare⟩
theorem Env0.in1{P:Program}{w:World}{K:Ad}{mg:Af}{base:Heap}{A:Around}{outer:List Env}{s:Shared}{H:Hp}(e:Env0 P w K mg base A outer s H) :
  Env0 P w K mg base A.in1 outer s H:=⟨e.frames,e.mod,e.bs,e.bsz,e.funs,e.frf,e.hok,e.bare⟩
section
variable{X:Cx}{pins:List (Addr × Obj)}{σ:St}{H:Hp}{s s':Shared}
theorem Inv.env0(I:Inv X pins σ H s):Env0 X.prog X.w X.K X.mg X.base X.A X.stack s H :=
 ⟨I.ok.frames,I.ok.mod,I.bs,Yr I.ok.bsz I.sz,I.stack,I.stkFree,I.hok,I.bare⟩
theorem Inv.after{Q:VK}{u:Value}(I:Inv X pins σ H s)(h:CE X.stack X.prog X.w H s Q u s'):EP X pins σ Q u s':=by obtain⟨v,H',os,bare,un,hok,r,q⟩:=h;obtain⟨hh,g,d,t,vC⟩:=s';obtain rfl:vC=s.os:=os;exact⟨v,H',I.call (h':=hh) (g':=g) (d':=d) (t':=t) (ch:=[]) un hok bare (λb z=>absurd z (by simp)),r,q⟩
end
def FG(sp:Sp)(VE:List V)(E:XK)(t:TA):TE:=λσ H Q=>t σ H λvs H1=>sp (vs++VE) H1 Q E
def FF(C:Addr)(sp:Sp)(VE:List V)(E:XK)(t:TA):TE:=λσ H Q=>t σ H λvs H1=>∀ x dx,H1 x=none->H1 dx=none->dx≠x ->
 sp (.ref x :: (vs++VE)) (upd (upd H1 dx (.own x)) x (.ins C dx [])) (λv H2=>v=.non/\Q (.ref x) H2) E
def Binds(K:Ad)(fd:FuncData)(ps:List Str)(ds:Ag):Prop :=
 ∀(s:Shared) (us:Ag),K.In s.heap->(us++ds).length=ps.length->BindsTo s fd ⟨us,[]⟩ (ps.zip (us++ds))
theorem Binds.all{K:Ad}{fd:FuncData}{ps:List Str}(h:∀ us:Ag,us.length=ps.length->bindArgs fd ⟨us,[]⟩=pure (ps.zip us)):Binds K fd ps []:=λs us _ hl=>by rw[YF]at hl ⊢;exact .of_eq (h us hl)
def Kj(CX:RJ)(X:Cx)(E:XK):Prop:=∀(pins:List (Addr × Obj)) (σ:St) (H:Hp) (s:Shared) (e:Value) (s':Shared),Inv X pins σ H s->CX X.stack H s E e s'->X.xe e s'
section
variable{X:Cx}{CX:RJ}{k:Nat}{f C:Addr}{fd:FuncData}{ps:List Str}{sp:Sp}{VE:List V}{ds:Ag}{E:XK}{x:Str}{p pos:Pos}{e:Expr}{es:List Expr}{t:TA}
theorem vB{pins:List (Addr × Obj)}{σ:St}{H:Hp}{s:Shared}{Q:VK}{us:Ag}{vs:List V}(F:FnOk X.prog X.w X.K X.mg X.base CX k f fd ps sp)(hr:Room k X.A)(hb:Binds X.K fd ps ds)(hd:Vals VE ds)(hx:Kj CX X E)
  (I:Inv X pins σ H s) (r:Vals vs us) (h:sp (vs++VE) H Q E):wpAny (model X.prog X.w) X.A (call (.ref f) us) (EP X pins σ Q) X.xe s:=by
 have r2:Vals (vs++VE) (us++ds):=r.append hd;have hl:(us++ds).length=ps.length:=by rw[<- r2.length];exact F.len _ _ _ _ h
 refine HV (Ml (F.run X.A X.stack s H ⟨us,[]⟩ (us++ds) (vs++VE) Q E hr I.env0 (hb s us I.kIn hl) r2 h) λr s' hq=>?_);cases r with
 | error e=>exact hx pins σ H s e s' I hq
 | ok fl =>
  cases fl with
  | ret u=>exact I.after hq
  | next=>exact False.elim hq
  | brk=>exact False.elim hq
  | cont=>exact False.elim hq
theorem Za(F:FnOk X.prog X.w X.K X.mg X.base CX k f fd ps sp)(hr:Room k X.A)(hg:Gl X x)(hm:X.mg x=some (.ref f))(hk:PySem.W.keepIn X.K (.ref f)=true)(hb:Binds X.K fd ps ds)(hd:Vals VE ds)(hx:Kj CX X E)
  (ha:PA X (e :: es) t) (TV:(x == ("__debug__":Str))=false:=by decide) (he:starEach (e :: es) X.env=(false,eval e X.env) :: starEach es X.env:=by rfl) (Vk:(backTo pos (starEach es X.env)).any (·.1)=false:=by rfl) :
  PE X (.Call (.Name x p) (e :: es) [] pos) (FG sp VE E t):=by intro pins s σ H Q I h;refine QF (Gs I hg hm ?_ TV);refine xi (h₀:=X.base) I.ok.mod.kin hk (thn (ha pos pins s σ H _ I h) λus s1 ⟨vs,H1,I1,r,q⟩=>⟨I1.kIn,?_⟩) he Vk;exact vB F hr hb hd hx I1 r q
structure Mk (K:Ad) (C f:Addr):Prop where
 makes:PySem.W.makesIn K C=true
 init:PySem.W.findIn K (.ref C) "__init__"=some (some (.ref f))
 fn:PySem.W.isFn K (.ref f)=true
 kp:PySem.W.keepIn K (.ref C)=true
theorem ba{pins:List (Addr × Obj)}{σ:St}{H:Hp}{s:Shared}{Q:VK}{us:Ag}{vs:List V}(M:Mk X.K C f)(F:FnOk X.prog X.w X.K X.mg X.base CX k f fd ps sp)(hr:Room (k+1) X.A)(hb:Binds X.K fd ps ds)(hd:Vals VE ds)
  (hx:Kj CX X E) (I:Inv X pins σ H s) (r:Vals vs us)
  (h:∀ x dx,H x=none->H dx=none->dx≠x->sp (.ref x :: (vs++VE)) (upd (upd H dx (.own x)) x (.ins C dx [])) (λv H2=>v=.non/\Q (.ref x) H2) E) :
  wpAny (model X.prog X.w) X.A (call (.ref C) us) (EP X pins σ Q) X.xe s:=by
 have hq:=h (s.heap.objs.size+1) s.heap.objs.size (I.hok.fresh (Uk _)) (I.hok.fresh (XM _)) (Yt (OY _));have I2:=Inv.made (C:=C) I
 have r2:Vals (V.ref (s.heap.objs.size+1) :: (vs++VE)) (Value.ref (s.heap.objs.size+1) :: (us++ds)):=.cons rfl (r.append hd);have hl:(Value.ref (s.heap.objs.size+1) :: us++ds).length=ps.length:=by have e:=r2.length;rw[F.len _ _ _ _ hq]at e;exact e.symm
 refine HV (FJ (f:=f) I.kIn M.makes M.init (SW.mp M.fn) (Ml (F.run _ X.stack _ _ ⟨Value.ref (s.heap.objs.size+1) :: us,[]⟩ (Value.ref (s.heap.objs.size+1) :: (us++ds)) _ _ E (hr.make C us [])
  (I2.env0.make C us []) (hb _ (Value.ref (s.heap.objs.size+1) :: us) I2.kIn hl) r2 hq) λr s' FE=>?_))
 cases r with
 | error e=>exact hx pins σ _ _ e s' I2 FE
 | ok fl =>
  cases fl with
  | ret u =>
   obtain⟨v,H',I3,rv,ev,q3⟩:=I2.after FE;subst ev;exact⟨rv,⟨V.ref (s.heap.objs.size+1),H',I3,rfl,q3⟩⟩
  | next=>exact False.elim FE
  | brk=>exact False.elim FE
  | cont=>exact False.elim FE
theorem FC(M:Mk X.K C f)(F:FnOk X.prog X.w X.K X.mg X.base CX k f fd ps sp)(hr:Room (k+1) X.A)(hg:Gl X x)(hm:X.mg x=some (.ref C))(hb:Binds X.K fd ps ds)(hd:Vals VE ds)(hx:Kj CX X E)
  (ha:PA X (e :: es) t) (TV:(x == ("__debug__":Str))=false:=by decide) (he:starEach (e :: es) X.env=(false,eval e X.env) :: starEach es X.env:=by rfl) (Vk:(backTo pos (starEach es X.env)).any (·.1)=false:=by rfl) :
  PE X (.Call (.Name x p) (e :: es) [] pos) (FF C sp VE E t):=by intro pins s σ H Q I h;refine QF (Gs I hg hm ?_ TV);refine xi (h₀:=X.base) I.ok.mod.kin M.kp (thn (ha pos pins s σ H _ I h) λus s1 ⟨vs,H1,I1,r,q⟩=>⟨I1.kIn,?_⟩) he Vk;exact ba M F hr hb hd hx I1 r q
end
section
variable{fd:FuncData}{ps ks:List Str}
structure KBinds (K:Ad) (fd:FuncData) (ps ks:List Str) (g:List Value->List Value->Ag) (gV:List V->List V->List V):Prop where
 to:∀(s:Shared) (us ws:Ag),K.In s.heap->(g us ws).length=ps.length->BindsTo s fd ⟨us,ks.zip ws⟩ (ps.zip (g us ws))
 rel:∀ {vs:List V} {us:Ag} {zs:List V} {ws:Ag},Vals vs us->Vals zs ws->Vals (gV vs zs) (g us ws)
end
structure FnScope (N P:List Str) (sc:Scope):Prop where
 kind:sc.kind=.function
 co:sc.isCoroutine=false
 gen:sc.isGenerator=false
 nd:N.Nodup
 pre:N.take P.length=P
 par:∀ x∈P,sc.names.lookup x=some .local\/sc.names.lookup x=some .cell
 nofree:∀ y∈sc.names,y.2≠.free
theorem i3{kindOf:Str->Option NameKind}{x:Str}:∀ {binds:List (Str × Value)} {m:Af},(∀ v,(x,v)∉binds)->bindL kindOf binds m x=m x
 | [],_,_=>rfl
 | (n,v) :: r,m,h=>by
  unfold bindL;rw[i3 λw hw=>h w (Yh _ hw)];split
  .have:x≠n:=by rintro rfl;exact h v Ye
   simp[this]
  .rfl
theorem iZ{kindOf:Str->Option NameKind}{x:Str}:∀ {binds:List (Str × Value)} {m:Af},(∀ v,(x,v)∉binds)->bindC kindOf binds m x=m x
 | [],_,_=>rfl
 | (n,v) :: r,m,h=>by
  unfold bindC;rw[iZ λw hw=>h w (Yh _ hw)];split
  .rfl
  .have:x≠n:=by rintro rfl;exact h v Ye
   simp[this]
theorem iY{kindOf:Str->Option NameKind}{x:Str}{v:Value}:∀ {P:List Str} {vs:Ag} {i:Nat} {m:Af},P.Nodup->P[i]?=some x->vs[i]?=some v->kindOf x=some .local ->
  bindL kindOf (P.zip vs) m x=some v
 | [],_,_,_,_,h,_,_=>by simp at h
 | _ :: _,[],_,_,_,_,h,_=>by simp at h
 | p :: P,w :: vs,0,m,nd,h1,h2,hk=>by
  simp at h1 h2;subst h1;subst h2;show bindL kindOf ((p,w) :: P.zip vs) m p=_
  unfold bindL;rw[i3 λv hv=>(QY.mp nd).1 (KO hv).1,if_pos hk];simp
 | p :: P,w :: vs,i+1,m,nd,h1,h2,hk=>by show bindL kindOf ((p,w) :: P.zip vs) m x=_;unfold bindL;exact iY (i:=i) (QY.mp nd).2 (by simpa using h1) (by simpa using h2) hk
theorem iX{kindOf:Str->Option NameKind}{x:Str}{v:Value}:∀ {P:List Str} {vs:Ag} {i:Nat} {m:Af},P.Nodup->P[i]?=some x->vs[i]?=some v->kindOf x≠some .local ->
  bindC kindOf (P.zip vs) m x=some v
 | [],_,_,_,_,h,_,_=>by simp at h
 | _ :: _,[],_,_,_,_,h,_=>by simp at h
 | p :: P,w :: vs,0,m,nd,h1,h2,hk=>by
  simp at h1 h2;subst h1;subst h2;show bindC kindOf ((p,w) :: P.zip vs) m p=_
  unfold bindC;rw[iZ λv hv=>(QY.mp nd).1 (KO hv).1,if_neg hk];simp
 | p :: P,w :: vs,i+1,m,nd,h1,h2,hk=>by show bindC kindOf ((p,w) :: P.zip vs) m x=_;unfold bindC;exact iX (i:=i) (QY.mp nd).2 (by simpa using h1) (by simpa using h2) hk
def start(N:List Str)(vs:List V):St:=vs.map some++List.replicate (N.length - vs.length) none
def Ws(CX:RJ)(P:Program)(w:World)(K:Ad)(mg:Af)(base:Heap)(N:List Str)(qual:Str)(scope:Scope)(f:Addr)(cd:Value)(A:Around)(outer:List Env)(s:Shared)(H:Hp)(E:XK):Cx where
 prog:=P
 w:=w
 K:=K
 mg:=mg
 base:=base
 A:=A.deeper (envOfC qual scope s.heap.objs.size f cd)
 N:=N
 s₀:=s
 H₀:=H
 env:=envOfC qual scope s.heap.objs.size f cd
 outer:=outer
 stack:=envOfC qual scope s.heap.objs.size f cd :: outer
 ex:=[]
 calm:=true
 fn:=λ_=>true
 pn:=[]
 xe:=λe s'=>wpAny (model P w) (A.deeper (envOfC qual scope s.heap.objs.size f cd)) (leaving (envOfC qual scope s.heap.objs.size f cd) e) (λ_ UO=>CX outer H s E e UO) (λe' UO=>CX outer H s E e' UO) s'
theorem iW{sc:Scope}{n:Nat}{x:Str}(h:sc.names.lookup x=some .cell):∃ c,(cellsFrom n sc.names []).lookup x=some c:=by have q:=jx sc.names n [] (.inl h);exact xB.mp q
theorem aZ{CX:RJ}{P:Program}{w:World}{K:Ad}{mg:Af}{base:Heap}{N ps:List Str}{qual:Str}{scope:Scope}{f:Addr}{cd:Value}{A:Around}{outer:List Env}{s s1:Shared}{H:Hp}{E:XK}{us:Ag}{vs:List V}
  (S:FnScope N ps scope) (hd:A.handled=none) (e0:Env0 P w K mg base A outer s H) (hl:vs.length=ps.length) (r:Vals vs us)
  (x:InCallC s s.heap.objs.size (bindL (envOfC qual scope s.heap.objs.size f cd).kindOf (ps.zip us) λ_=>none) (cellsFrom (s.heap.objs.size+1) scope.names []) (bindC (envOfC qual scope s.heap.objs.size f cd).kindOf (ps.zip us) λ_=>none) s1) :
  Inv (Ws CX P w K mg base N qual scope f cd A outer s H E) [] (start N vs) H s1:=by
 have Vk:ps.length<=N.length:=by have:=Xw List.length S.pre;rw[Yy]at this;omega
 obtain⟨h1,tk,rfl,hk⟩:=x.done;have Ki:∀ b:Addr,b∉(Ws CX P w K mg base N qual scope f cd A outer s H E).ex:=λb z=>absurd (show b∈([]:List Addr) from z) (by simp)
 refine⟨⟨e0.mod,S.kind,rfl,rfl,XM _,λy z c h1 h2=>?_,λy hy=>?_,λy c _ h=>?_,λ_=>hd,Around.frames_deeper e0.frames,.inr ⟨rfl,rfl⟩,λb z=>absurd z (Ki b),e0.bs,e0.bsz,λb _ _=>Ki b,λb z=>absurd z (Ki b),e0.funs,e0.frf⟩,
  rfl,e0.bare,Un.kept hk,⟨_,x.toInCall.ns,λi y v h1 h2 h3=>?_⟩,λy c h=>⟨_,x.cell y c h⟩,e0.hok.fresh (XM _),λy c h=>?_,λp hp=>absurd (show p∈([]:List (Addr × Obj)) from hp) (by simp),e0.hok.kept hk,?_⟩
 .exact name_of_addr x.apart (Lj h1) (Lj h2)
 .have hy:scope.names.lookup y=some .cell\/scope.names.lookup y=some .free:=hy;rcases hy with hy | hy
  .exact iW hy
  .exact absurd rfl (S.nofree _ (Lj hy))
 .exact Oq (x.above y c (Lj h))
 .have hi:i<vs.length:=by
   unfold start at h2;by_cases hi:i<vs.length
   .exact hi
   .rw[Yq (by simpa using hi)]at h2;rw[AA]at h2;split at h2 <;> cases h2
  have ha:vs[i]?=some v:=by
   unfold start at h2;rw[Ys (by simpa using hi),Yp]at h2;cases e:vs[i]? with
   | none=>rw[e]at h2;cases h2
   | some a=>rw[e]at h2;cases h2;rfl
  obtain⟨u,hu,rv⟩:=r.get ha;have hp:ps[i]?=some y:=by rw[<- S.pre,List.getElem?_take_of_lt (by omega)];exact h1
  have iV:ps.Nodup:=by rw[<- S.pre];exact S.nd.sublist (List.take_sublist _ _)
  refine⟨u,rv,?_⟩;rcases S.par y (Xg hp) with k | k
  .exact .inl ⟨k,iY iV hp hu k⟩
  .obtain⟨c,e⟩:=iW (n:=s.heap.objs.size+1) k;refine .inr ⟨.inl k,c,e,?_⟩;have q:=x.cell y c e
   rw[iX iV hp hu (by show scope.names.lookup y≠_;rw[k];decide)]at q;exact q
 .exact e0.hok.fresh (Oq (x.above y c (Lj h)))
 .unfold start;show _=N.length
  rw[Xs,Yd,YG];omega
theorem Kh{CX:RJ}{P:Program}{w:World}{K:Ad}{mg:Af}{base:Heap}{k:Nat}{f:Addr}{name qual:Str}{params:Arguments}{body:List Stmt}{scope:Scope}{dV kV doc pm Xz ct oc:Value}{an od:Option Addr}
  {Ux:Array (Option Value)} {N ps:List Str} {sp:Sp} (lk:K.lookup f=some ⟨oc,od,.func (PySem.W.fnOf name qual params body scope dV kV doc pm an Xz ct),Ux⟩) (Ui:PySem.W.codeIn K Xz qual=true) (S:FnScope N ps scope)
  (len:∀ vs H Q E,sp vs H Q E->vs.length=ps.length)
  (hbody:∀(A:Around) (outer:List Env) (s:Shared) (H:Hp) (vs:List V) (Q:VK) (E:XK),Room k (A.deeper (envOfC qual scope s.heap.objs.size f Xz))->sp vs H Q E ->
   ∃ t,PSs (Ws CX P w K mg base N qual scope f Xz A outer s H E) body t/\t { nx:=λ_ H'=>Q .non H',rt:=Q } (start N vs) H) :
  FnOk P w K mg base CX (k+1) f (PySem.W.fnOf name qual params body scope dV kV doc pm an Xz ct) ps sp:=by
 refine⟨len,λA outer s H args us vs Q E hr e0 hb r Ti=>?_⟩;have hl:=len _ _ _ _ Ti
 have KX:K.In s.heap:=e0.mod.kin.keeps λb o e=>(e0.bs b o e).1;have lim:s.heap.NoLimit:=e0.mod.nolimit.keeps λb o e=>(e0.bs b o e).1
 have FA:∀ y∈ps.zip us,scope.names.lookup y.1=some .local\/(scope.names.lookup y.1=some .cell/\((cellsFrom (s.heap.objs.size+1) scope.names []).lookup y.1).isSome=true):=λ⟨n,v⟩ hy=>by
  rcases S.par n (KO hy).1 with q | q
  .exact .inl q
  .exact .inr ⟨q,jx _ _ _ (.inl q)⟩
 refine codeAny_call_function hr.depth (KX _ _ lk) rfl S.co S.gen rfl (PySem.W.codeRec_of KX Ui) (hb _ _ _ _ ?_);refine wpAny_newFunctionEnv_cells S.kind FA λenv he s1 x=>?_;subst he;refine⟨lim.keeps x.toInCall.keep,codeAny_func ?_⟩;obtain⟨t,ht,hq⟩:=hbody A outer s H vs Q E (hr.deeper _) Ti;have I:Inv (Ws CX P w K mg base N qual scope f Xz A outer s H E) [] (start N vs) H s1:=aZ S hr.hd e0 hl r x
 refine Uj (ht [] s1 (start N vs) H _ I hq) (λfl s' hs=>?_) λe s' hs=>hs;have fin:∀ {σ':St} {H':Hp} {v:V} {u:Value},Inv (Ws CX P w K mg base N qual scope f Xz A outer s H E) [] σ' H' s'->RelV v u->Q v H'->CE outer P w H s Q u s' :=
  λ{σ' H' v u} J rv q=>⟨v,H',J.os,J.bare,J.base,J.hok,rv,q⟩
 cases fl with
 | ret u =>
  obtain⟨v,σ',H',J,rv,q⟩:=hs;exact fin J rv q
 | next =>
  obtain⟨σ',H',J,q⟩:=hs;exact fin (v:=V.non) (u:=Value.none) J rfl q
 | brk =>
  obtain⟨_,_,_,q⟩:=hs;exact False.elim q
 | cont =>
  obtain⟨_,_,_,q⟩:=hs;exact False.elim q
section
variable{X:Cx}{x:Str}{p pos:Pos}{e:Expr}{es:List Expr}{t:TA}{id T:String}{r:List V->Hp->VK->Prop}
def iU(r:List V->Hp->VK->Prop)(t:TA):TE:=λσ H Q=>t σ H λvs H1=>r vs H1 Q
theorem Zd (hc:Uh X (.builtin id) r) (hg:Gl X x) (hm:X.mg x=none) (hv:bootBuiltins x=some (.builtin id)) (ha:PA X (e :: es) t) (hn:x≠"__name__":=by decide) (TV:(x == ("__debug__":Str))=false:=by decide)
  (he:starEach (e :: es) X.env=(false,eval e X.env) :: starEach es X.env:=by rfl) (Vk:(backTo pos (starEach es X.env)).any (·.1)=false:=by rfl):PE X (.Call (.Name x p) (e :: es) [] pos) (iU r t):=by intro pins s σ H Q I h;refine QF (QW I hg hm hv ?_ hn TV);exact jO (thn (ha pos pins s σ H _ I h) λus s1 ⟨vs,H1,I1,r1,q1⟩=>hc pins s1 σ H1 vs us Q I1 r1 q1) he Vk
theorem Zs (hc:Uh X (.type T) r) (hg:Gl X x) (hm:X.mg x=none) (hv:bootBuiltins x=some (.type T)) (ha:PA X (e :: es) t) (hn:x≠"__name__":=by decide) (TV:(x == ("__debug__":Str))=false:=by decide)
  (he:starEach (e :: es) X.env=(false,eval e X.env) :: starEach es X.env:=by rfl) (Vk:(backTo pos (starEach es X.env)).any (·.1)=false:=by rfl):PE X (.Call (.Name x p) (e :: es) [] pos) (iU r t):=by intro pins s σ H Q I h;refine QF (QW I hg hm hv ?_ hn TV);exact Ln (thn (ha pos pins s σ H _ I h) λus s1 ⟨vs,H1,I1,r1,q1⟩=>hc pins s1 σ H1 vs us Q I1 r1 q1) he Vk
end
end L2
namespace HT
open PySem PyProof.Rows
def lexLt:Ac->Ac->Bool
 | [],[]=>false
 | [],_ :: _=>true
 | _ :: _,[]=>false
 | x :: xs,y :: ys=>if x=y then lexLt xs ys else decide (x<y)
theorem Xn(x y:Int)(xs ys:Ac):lexLt (x :: xs) (y :: ys)=if x=y then lexLt xs ys else decide (x<y):=rfl
section
variable{prog:Program}{w:World}{A:Around}{E:Ae}{s:Shared}
theorem Od{t b:Addr}{vs ws:Ag}{Q:Ae}(ht:IsTup s.heap t vs.toArray)(hb:IsTup s.heap b ws.toArray)(hv:vs≠[])
  (h1:ws=[]->Q (.ref t) s) (h2:ws≠[]->Q (.ref s.heap.objs.size) { s with heap:=s.heap.push { cls:=.type "tuple",data:=.seq (vs++ws).toArray } })
  (hsz:vs.length+ws.length<=sizeLine):wpAny (model prog w) A (binaryOp .Add (.ref t) (.ref b)) Q E s:=by
 obtain⟨⟨cls,dd,data,sl⟩,ho,hc,n,hd⟩:=id ht;obtain⟨⟨vA,zL,data2,zK⟩,SN,VD,n2,hd2⟩:=id hb;simp only at hc hd VD hd2;subst hc hd VD hd2;have e:vs.toArray++ws.toArray=(vs++ws).toArray:=by simp
 by_cases hw:ws=[]
 .exact concat_meets ⟨_,ho,rfl⟩ ⟨_,SN,rfl⟩ wO seq_tuple_add KS KW (xC _ _)
   (tuple_addW1 t b vs.toArray ws.toArray n n2 dd zL sl zK (by simpa using hv) (by simp[hw])) ⟨ho,SN,h1 hw⟩
 .refine concat_meets ⟨_,ho,rfl⟩ ⟨_,SN,rfl⟩ wO seq_tuple_add KS KW (xC _ _)
   (tuple_addW2 t b vs.toArray ws.toArray n n2 dd zL sl zK (by simpa using hv) (by simpa using hw) (by rw[Ya,Ya];exact hsz)) ⟨ho,SN,?_⟩
  rw[e];exact h2 hw
def VC(n d:Nat):Option Int->Nat
 | none=>d
 | some v=>if v<0 then (v+(n:Int)).toNat else min v.toNat n
theorem TU(n d:Nat):VC n d none=d:=rfl
end
end HT
namespace L2
open PySem PySem.Spec PyProof.Rows
abbrev TO:=St->Hp->(Option Int->Hp->Prop)->Prop
def PO(X:Cx)(e:Option Expr)(t:TO):Prop :=
 ∀(pins:List (Addr × Obj)) (s:Shared) (σ:St) (H:Hp) (Q:Option Int->Hp->Prop),Inv X pins σ H s->t σ H Q ->
  wpAny (model X.prog X.w) X.A (evalPart e X.env) (λu s'=>∃ o H',Inv X pins σ H' s'/\IsPart u o/\Q o H') X.xe s
def vy:TO:=λ_ H Q=>Q none H
def vw(t:TE):TO:=λσ H Q=>t σ H λx H1=>∃ i,x=.int i/\Q (some i) H1
section
variable{X:Cx}{e:Expr}{te:TE}{lo hi:Option Expr}{tl th:TO}{pos p2:Pos}
theorem Oc:PO X none vy:=by intro pins s σ H Q I h;rw[evalPart_none];exact Yk ⟨none,H,I,.none,h⟩
theorem Qn(h:PE X e te):PO X (some e) (vw te):=by intro pins s σ H Q I hw;rw[evalPart_some];refine thn (h pins s σ H _ I hw) λu s1 Xv=>?_;obtain⟨x,H1,I1,r1,q1⟩:=Xv;obtain⟨i,rfl,q⟩:=q1;obtain⟨t,rfl⟩:=r1;exact⟨some i,H1,I1,.int i t,q⟩
def vq(X:Cx)(r:V->Option Int->Option Int->Hp->VK->Prop):Prop :=
 ∀(pins:List (Addr × Obj)) (s:Shared) (σ:St) (H:Hp) (x:V) (v vl vu:Value) (lo hi:Option Int) (sl:Addr) (Q:VK),Inv X pins σ H s->RelV x v->s.heap.IsSliceOf sl vl vu .none->IsPart vl lo->IsPart vu hi->r x lo hi H Q ->
  ∃ T id,typeLookup (.type T) "__getitem__"=pure (some (.builtin id))/\s.TypeIs v T/\wpAny (model X.prog X.w) X.A (getItem v (.ref sl)) (EP X pins σ Q) X.xe s
def aY(r:V->Option Int->Option Int->Hp->VK->Prop)(te:TE)(tl th:TO):TE:=λσ H Q=>te σ H λx H1=>tl σ H1 λl H2=>th σ H2 λu H3=>r x l u H3 Q
theorem Vf{r:V->Option Int->Option Int->Hp->VK->Prop}(hr:vq X r)(he:PE X e te)(hl:PO X lo tl)(hu:PO X hi th):PE X (.Subscript e (.Slice lo hi none p2) pos) (aY r te tl th):=by
 intro pins s σ H Q I h;refine Subscript_ (thn (he pins s σ H _ I h) λv s1 Xv=>?_);obtain⟨x,H1,I1,r1,q1⟩:=Xv;refine wpAny_Slice (thn (hl pins s1 σ H1 _ I1 q1) λvl s2 ⟨l,H2,I2,pl,q2⟩=>thn (hu pins s2 σ H2 _ I2 q2) λvu s3 Xv=>?_);obtain⟨u,H3,I3,pu,q3⟩:=Xv;rw[evalPart_none];refine Yk ?_;have I4:Inv X pins σ H3 { s3 with heap:=s3.heap.push { cls:=.type "slice",data:=.fields #[vl,vu,.none] } }:=I3.kept (t':=s3.toks) λb ob q=>WZ _ q
 obtain⟨T,id,hT,ht,hg⟩:=hr pins { s3 with heap:=s3.heap.push { cls:=.type "slice",data:=.fields #[vl,vu,.none] } } σ H3 x v vl vu l u s3.heap.objs.size Q I4 r1 (Heap.IsSliceOf.new ..) pl pu q3;show wpAny (model X.prog X.w) X.A (subscriptTail e (.Slice lo hi none p2) v (.ref s3.heap.objs.size)) (EP X pins σ Q) X.xe { s3 with heap:=s3.heap.push { cls:=.type "slice",data:=.fields #[vl,vu,.none] } }
 exact tail_any (ops:=[.ref s3.heap.objs.size,v]) ht hT hg (by with_unfolding_all rfl)
def WU(xs:List V)(lo hi:Option Int):List V:=(xs.drop (HT.VC xs.length 0 lo)).take (HT.VC xs.length xs.length hi - HT.VC xs.length 0 lo)
theorem Fz(xs:List V)(lo hi:Option Int):(WU xs lo hi).length<=xs.length:=by unfold WU;rw[Yy,VX];omega
def Fy(K:Ad):R2:=λx y H Q=>∃ a b xs ys,x=.ref a/\y=.ref b/\SqT K H a xs/\SqT K H b ys/\xs≠[]/\xs.length+ys.length<=sizeLine /\
 (ys=[]->Q (.ref a) H)/\(ys≠[]->∀ p,H p=none->Q (.ref p) (upd H p (.tup (xs++ys))))
theorem Vals.nil_iff{xs:List V}{us:Ag}(r:Vals xs us):us=[]↔xs=[]:=by
 cases r with
 | nil=>simp
 | cons _ _=>simp
theorem vp:WH X (binaryOp .Add) (Fy X.K):=by intro pins s σ H x y v u Q I rx ry h;obtain⟨a,b,xs,ys,rfl,rfl,ha,hb,hx,hz,q1,q2⟩:=h;cases rx;cases ry;obtain⟨XW,r1,p1,_⟩:=I.tuple ha;obtain⟨VV,r2,p2,_⟩:=I.tuple hb;refine HT.Od p1 p2 (λz=>hx (r1.nil_iff.mp z)) (λz=>⟨.ref a,H,I,rfl,q1 (r2.nil_iff.mp z)⟩) (λz=>?_) (by rw[<- r1.length,<- r2.length];exact hz);refine⟨.ref s.heap.objs.size,_,I.laid (t':=s.toks) (o:=.tup (xs++ys)) (λb ob q=>WZ _ q) (XM _) ?_,rfl,q2 (λw=>z (r2.nil_iff.mpr w)) _ (I.hok.fresh (XM _))⟩;exact⟨by rw[Xs];exact hz,_,r1.append r2,IsTup.new _ _⟩
end
def OS(n:Nat)(i:Int):Option Nat:=if 0<=i then (if i<n then some i.toNat else none) else if -(n:Int)<=i then some (i+n).toNat else none
def Wg{α:Type}(xs:List α)(i:Int):Option α:=(OS xs.length i).bind λj=>xs[j]?
theorem iT{n:Nat}{i:Int}{j:Nat}(h:OS n i=some j):seqIndex? i n=some j/\j<n/\-(n:Int)<=i/\i<n:=by
 unfold OS at h;by_cases h0:0<=i
 .rw[if_pos h0]at h;by_cases h1:i<n
  .rw[if_pos h1]at h;have e:i.toNat=j:=Yi h
   exact⟨by rw[seqIndex_of h0 h1,e],by omega,by omega,h1⟩
  .rw[if_neg h1]at h;cases h
 .rw[if_neg h0]at h;by_cases h1:-(n:Int)<=i
  .rw[if_pos h1]at h;have e:(i+n).toNat=j:=Yi h
   exact⟨by rw[seqIndex_neg (by omega) h1,e],by omega,h1,by omega⟩
  .rw[if_neg h1]at h;cases h
theorem iS{α:Type}{xs:List α}{i:Int}{v:α}(h:Wg xs i=some v):∃ j,seqIndex? i xs.length=some j/\xs[j]?=some v/\j<xs.length/\-(xs.length:Int)<=i/\i<xs.length:=by
 unfold Wg at h;cases e:OS xs.length i with
 | none=>rw[e]at h;cases h
 | some j =>
  rw[e]at h;obtain⟨h1,h2,h3,h4⟩:=iT e;exact⟨j,h1,h,h2,h3,h4⟩
def vo(b:Expr):Prop:=∀ o i,subscripted b false o i=operate [o,i] (getItem o i)
def Fx(X:Cx)(r:R2):Prop :=
 ∀(value slice:Expr) (pins:List (Addr × Obj)) (s:Shared) (σ:St) (H:Hp) (x y:V) (v u:Value) (Q:VK),Inv X pins σ H s->RelV x v->RelV y u->r x y H Q ->
  subscripted slice false v u=operate [v,u] (getItem v u)->wpAny (model X.prog X.w) X.A (subscriptTail value slice v u) (EP X pins σ Q) X.xe s
def zJ(X:Cx)(id:String)(r:V->List V->Hp->VK->Prop):Prop :=
 ∀(pins:List (Addr × Obj)) (s:Shared) (σ:St) (H:Hp) (x:V) (xs:List V) (v:Value) (us:Ag) (Q:VK),Inv X pins σ H s->RelV x v->Vals xs us->r x xs H Q ->
  wpAny (model X.prog X.w) X.A (call (.builtin id) (v :: us)) (EP X pins σ Q) X.xe s
section
variable{X:Cx}{a b:Expr}{ta tb:TE}{pos:Pos}
theorem ZQ{r:R2}(hr:Fx X r)(ha:PE X a ta)(hb:PE X b tb)(hs:vo b):PE X (.Subscript a b pos) (zR r ta tb):=by intro pins s σ H Q I h;exact Subscript_ (Kr ha hb I h λv u s2 x y H2 I2 rx ry q=>hr a b pins s2 σ H2 x y v u Q I2 rx ry q (hs _ _))
def Fw(K:Ad):R2:=λx y H Q=>∃ p xs i v,x=.ref p/\y=.int i/\SqL K H p xs/\Wg xs i=some v/\Q v H
def Fv(K:Ad):R2:=λx y H Q=>∃ p xs i v,x=.ref p/\y=.int i/\SqT K H p xs/\Wg xs i=some v/\Q v H
theorem vn:Fx X (Fw X.K):=by
 intro value slice pins s σ H x y v u Q I rx ry h hs;obtain⟨p,xs,i,z,rfl,rfl,hq,he,q⟩:=h;cases rx;obtain⟨t,rfl⟩:=ry;obtain⟨XW,r,pl,hz⟩:=I.list hq;obtain⟨j,h1,h2,h3,h4,h5⟩:=iS he;obtain⟨w,ew,Ob⟩:=r.get h2;have hl:=r.length
 have hn:=FK;have fin:EP X pins σ Q w s:=⟨z,H,I,Ob,q⟩
 by_cases h0:0<=i
 .have hj:i.toNat=j:=by rw[seqIndex_of h0 h5]at h1;exact Yi h1
  exact item_listR pl.isList h0 (by omega) (by rw[hj];simpa using ew) fin hs
 .have hj:(i+(XW.toArray.size:Int)).toNat=j:=by rw[seqIndex_neg (by omega) h4]at h1;rw[Ya,<- hl];exact Yi h1
  exact subscriptTail_builtinR (x:=w) pl.isList.typeIs slot_list_getitem.lookup
   (wpAny_getItem_list_neg (Q:=λr s'=>r=w/\EP X pins σ Q r s') pl.isList (by omega) (by rw[Ya] <;> omega) (by omega) (by rw[hj];simpa using ew) ⟨rfl,fin⟩) hs
theorem vm:Fx X (Fv X.K):=by
 intro value slice pins s σ H x y v u Q I rx ry h hs;obtain⟨p,xs,i,z,rfl,rfl,hq,he,q⟩:=h;cases rx;obtain⟨t,rfl⟩:=ry;obtain⟨XW,r,pl,hz⟩:=I.tuple hq;obtain⟨j,h1,h2,h3,h4,h5⟩:=iS he;obtain⟨w,ew,Ob⟩:=r.get h2;have hl:=r.length
 have hn:=FK;have fin:EP X pins σ Q w s:=⟨z,H,I,Ob,q⟩
 exact subscriptTail_builtinR (x:=w) pl.typeIs slot_tuple_getitem.lookup
  (getItem_tuple (j:=j) (Q:=λr s'=>r=w/\EP X pins σ Q r s') pl (by omega) (by omega) (by rw[Ya,<- hl];exact h1) (by simpa using ew) ⟨rfl,fin⟩) hs
theorem aX (XW:Ag) (n j:Nat) (u:Value):Obj.mapSeq (·.setIfInBounds j u) { cls:=.type "list",data:=.seq XW.toArray n }={ cls:=.type "list",data:=.seq (XW.set j u).toArray n }:=by simp[Obj.mapSeq]
theorem Inv.lst{pins:List (Addr × Obj)}{σ:St}{H:Hp}{s:Shared}{p:Addr}{xs:List V}(I:Inv X pins σ H s)(h:H p=some (.lst xs)) :
  ∃(XW:Ag) (n:Nat),Vals xs XW/\s.heap.get? p=some { cls:=.type "list",data:=.seq XW.toArray n }/\xs.length<=sizeLine:=by obtain⟨z,XW,n,r,e⟩:=I.hok p _ h;exact⟨XW,n,r,e,z⟩
theorem Inv.lstUpd{pins:List (Addr × Obj)}{σ:St}{H:Hp}{s:Shared}{p:Addr}{xs ys:List V}{XW its':Ag}{n n':Nat}{f:Obj->Obj}(I:Inv X pins σ H s)(h:H p=some (.lst xs))
  (ho:s.heap.get? p=some { cls:=.type "list",data:=.seq XW.toArray n }) (hf:f { cls:=.type "list",data:=.seq XW.toArray n }={ cls:=.type "list",data:=.seq its'.toArray n' }) (r:Vals ys its') (hz:ys.length<=sizeLine) (t:Nat) :
  Inv X pins σ (upd H p (.lst ys)) { s with heap:=s.heap.update p f,toks:=t }:=by
 have e:(s.heap.update p f).get? p=some { cls:=.type "list",data:=.seq its'.toArray n' }:=by rw[Vx f ho (by rw[hf] <;> rfl),hf]
 refine I.write (x:=p) (e:=p) (by rw[h];trivial) (.inl rfl) (λb u hb q=>(YO _ _ (YW hb)).trans q) ⟨_,e⟩ ?_;exact⟨hz,its',n',r,e⟩
def vk:V->V->V->Hp->(Hp->Prop)->Prop:=λo i v H Q=>∃ p xs k j,o=.ref p/\i=.int k/\H p=some (.lst xs)/\OS xs.length k=some j/\Q (upd H p (.lst (xs.set j v)))
theorem Fu:Ky X vk:=by
 intro pins s σ H o i v ov iv u Q I ro ri rv h;obtain⟨p,xs,k,j,rfl,rfl,hp,hj,q⟩:=h;cases ro;obtain⟨t,rfl⟩:=ri;obtain⟨XW,n,r,ho,hz⟩:=I.lst hp;obtain⟨h1,h2,h3,h4⟩:=iT hj;have hl:=r.length
 have hn:=FK;have I':Inv X pins σ (upd H p (.lst (xs.set j v))) { s with heap:=s.heap.update p (Obj.mapSeq (·.setIfInBounds j u)) } :=
  I.lstUpd hp ho (aX XW n j u) (r.set rv j) (by rw[SV];exact hz) s.toks
 by_cases h0:0<=k
 .have hk:k.toNat=j:=by rw[seqIndex_of h0 h4]at h1;exact Yi h1
  exact PySem.W.ki_setAt ho h0 (by omega) (by rw[Ya,<- hl];exact h4) (by rw[hk];exact⟨_,I',q⟩)
 .have hk:(k+(XW.toArray.size:Int)).toNat=j:=by rw[seqIndex_neg (by omega) h3]at h1;rw[Ya,<- hl];exact Yi h1
  exact PySem.W.ki_setBack ho (by omega) (by rw[Ya,<- hl];exact h3) (by omega) (by rw[hk];exact⟨_,I',q⟩)
theorem vj(lo hi:Option Int)(n:Nat):(sliceBounds lo hi none n).1=((HT.VC n 0 lo:Nat):Int)/\(sliceBounds lo hi none n).2.1=((HT.VC n n hi:Nat):Int)/\(sliceBounds lo hi none n).2.2=1:=by
 refine⟨?_,?_,rfl⟩
 .cases lo with
  | none=>simp[sliceBounds,HT.VC]
  | some i =>
   simp only [sliceBounds,HT.VC,Option.getD_none,show(1:Int) > 0 by decide,OW];by_cases h:i<0
   .simp only [h,OW] <;> omega
   .simp only [h,KR] <;> omega
 .cases hi with
  | none=>simp[sliceBounds,HT.VC]
  | some i =>
   simp only [sliceBounds,HT.VC,Option.getD_none,show(1:Int) > 0 by decide,OW];by_cases h:i<0
   .simp only [h,OW] <;> omega
   .simp only [h,KR] <;> omega
theorem aW(XW:Ag)(lo hi:Option Int):slicePick XW.toArray lo hi none=((XW.drop (HT.VC XW.length 0 lo)).take (HT.VC XW.length XW.length hi - HT.VC XW.length 0 lo)).toArray:=by obtain⟨h1,h2,h3⟩:=vj lo hi XW.toArray.size;unfold slicePick;rw[h1,h2,h3];simp only [sliceRange_one,pick_run,Ya] <;> rfl
def Ft(K:Ad):V->Option Int->Option Int->Hp->VK->Prop:=λx lo hi H Q=>∃ a xs,x=.ref a/\SqL K H a xs/\∀ p,H p=none->Q (.ref p) (upd H p (.lst (WU xs lo hi)))
theorem vi:vq X (Ft X.K):=by
 intro pins s σ H x v vl vu lo hi sl Q I rx hs pl pu h;obtain⟨a,xs,rfl,hx,q⟩:=h;cases rx;obtain⟨XW,r,ht,hz⟩:=I.list hx;have hlen:=r.length
 refine⟨"list",_,slot_list_getitem.lookup,ht.isList.typeIs,?_⟩;refine wpAny_getItem_list_slice ht.isList hs pl pu .none (by simp) ?_ (by rw[Ya] <;> omega)
 rw[aW,<- hlen];refine⟨.ref s.heap.objs.size,_,I.laid (t':=s.toks) (o:=.lst (WU xs lo hi)) (λb ob q=>WZ _ q) (XM _) ?_,rfl,q _ (I.hok.fresh (XM _))⟩;exact⟨Yr (Fz xs lo hi) hz,_,0,(r.drop (HT.VC xs.length 0 lo)).take (HT.VC xs.length xs.length hi - HT.VC xs.length 0 lo),Yo _ rfl⟩
def Th:V->Bool
 | .non=>true
 | .bl _=>true
 | .int _=>true
 | .str _=>true
 | _=>false
def TR:V->V->Bool
 | .non,.non=>true
 | .bl a,.bl b=>a == b
 | .bl a,.int b=>(if a then 1 else 0) == b
 | .int a,.bl b=>a == (if b then 1 else 0)
 | .int a,.int b=>a == b
 | .str a,.str b=>a == b
 | _,_=>false
theorem Fs{A:Around}{s:Shared}{y x:V}{u v:Value}(ry:RelV y u)(rx:RelV x v)(fy:Th y=true)(fx:Th x=true):SeqAt.EqAt A s u v (TR y x):=by
 cases y with
 | non =>
  cases ry;cases x with
  | non=>cases rx;exact SeqAt.EqAt.same _
  | bl b=>cases rx;exact SeqAt.EqAt.none_bool b
  | int b=>obtain⟨t,rfl⟩:=rx;exact SeqAt.EqAt.none_int b t
  | str b=>obtain⟨t,rfl⟩:=rx;exact SeqAt.EqAt.none_str b t
  | _=>exact absurd (show false=true from fx) Yw
 | bl a =>
  cases ry;cases x with
  | non=>cases rx;exact SeqAt.EqAt.bool_none a
  | bl b=>cases rx;exact SeqAt.EqAt.bool_bool a b
  | int b=>obtain⟨t,rfl⟩:=rx;exact SeqAt.EqAt.bool_int a b t
  | str b=>obtain⟨t,rfl⟩:=rx;exact SeqAt.EqAt.bool_str a b t
  | _=>exact absurd (show false=true from fx) Yw
 | int a =>
  obtain⟨t',rfl⟩:=ry;cases x with
  | non=>cases rx;exact SeqAt.EqAt.int_none a t'
  | bl b=>cases rx;exact SeqAt.EqAt.int_bool a t' b
  | int b=>obtain⟨t,rfl⟩:=rx;exact SeqAt.EqAt.int_int a t' b t
  | str b=>obtain⟨t,rfl⟩:=rx;exact SeqAt.EqAt.int_str a t' b t
  | _=>exact absurd (show false=true from fx) Yw
 | str a =>
  obtain⟨t',rfl⟩:=ry;cases x with
  | non=>cases rx;exact SeqAt.EqAt.str_none a t'
  | bl b=>cases rx;exact SeqAt.EqAt.str_bool a t' b
  | int b=>obtain⟨t,rfl⟩:=rx;exact SeqAt.EqAt.str_int a t' b t
  | str b=>obtain⟨t,rfl⟩:=rx;exact SeqAt.EqAt.str_str a t' b t
  | _=>exact absurd (show false=true from fx) Yw
 | _=>exact absurd (show false=true from fy) Yw
def Ug(x:V)(u:Value):Bool:=match u with
 | .none=>TR .non x
 | .bool b=>TR (.bl b) x
 | .int i _=>TR (.int i) x
 | .str z _=>TR (.str z) x
 | _=>false
theorem Fq{x y:V}{u:Value}(r:RelV y u)(f:Th y=true):Ug x u=TR y x:=by
 cases y with
 | non=>cases r;rfl
 | bl b=>cases r;rfl
 | int i=>obtain⟨t,rfl⟩:=r;rfl
 | str z=>obtain⟨t,rfl⟩:=r;rfl
 | _=>exact absurd (show false=true from f) Yw
theorem Fp{x:V}:∀ {xs:List V} {us:Ag},Vals xs us->xs.all Th=true->us.any (Ug x)=xs.any λy=>TR y x
 | _,_,.nil,_=>rfl
 | y :: xs,u :: us,.cons r t,f=>by rw[List.all_cons,Mr]at f;rw[GK,GK,Fq r f.1,Fp t f.2]
theorem RH{A:Around}{s:Shared}{x:V}{v:Value}(rx:RelV x v)(fx:Th x=true):∀ {xs:List V} {us:Ag},Vals xs us->xs.all Th=true->∀ u∈us,SeqAt.EqAt A s u v (Ug x u)
 | _,_,.nil,_=>λu hu=>by cases hu
 | y :: xs,u :: us,.cons r t,f=>λu' hu=>by
  rw[List.all_cons,Mr]at f;rcases Yg.mp hu with rfl | hu
  .rw[Fq r f.1];exact Fs r rx f.1 fx
  .exact RH rx fx t f.2 u' hu
def HP(x:V)(xs:List V):Bool:=xs.any λy=>TR y x
def iR(K:Ad)(neg:Bool):R2:=λx y H Q=>∃ p xs,y=.ref p/\(SqL K H p xs\/SqT K H p xs)/\Th x=true/\xs.all Th=true/\Q (.bl (if neg then !HP x xs else HP x xs)) H
theorem aV:WH X (compareOp .In) (iR X.K false):=by
 intro pins s σ H x y v u Q I rx ry h;obtain⟨p,xs,rfl,hq,fx,fs,q⟩:=h;cases ry;rcases hq with hq | hq
 .obtain⟨XW,r,pl,hz⟩:=I.list hq;refine SeqAt.in_listAt (Ug x) pl.isList (λw hw=>RH rx fx r fs w (by simpa using hw)) ⟨.bl _,H,I,rfl,?_⟩;rw[show XW.toArray.any (Ug x)=XW.any (Ug x) by simp,Fp r fs];exact q
 .obtain⟨XW,r,pl,hz⟩:=I.tuple hq;refine SeqAt.in_tupleAt (Ug x) pl (λw hw=>RH rx fx r fs w (by simpa using hw)) ⟨.bl _,H,I,rfl,?_⟩;rw[show XW.toArray.any (Ug x)=XW.any (Ug x) by simp,Fp r fs];exact q
theorem vh:WH X (compareOp .NotIn) (iR X.K true):=by
 intro pins s σ H x y v u Q I rx ry h;obtain⟨p,xs,rfl,hq,fx,fs,q⟩:=h;cases ry;rcases hq with hq | hq
 .obtain⟨XW,r,pl,hz⟩:=I.list hq;refine SeqAt.notIn_listAt (Ug x) pl.isList (λw hw=>RH rx fx r fs w (by simpa using hw)) ⟨.bl _,H,I,rfl,?_⟩;rw[show XW.toArray.any (Ug x)=XW.any (Ug x) by simp,Fp r fs];exact q
 .obtain⟨XW,r,pl,hz⟩:=I.tuple hq;refine SeqAt.notIn_tupleAt (Ug x) pl (λw hw=>RH rx fx r fs w (by simpa using hw)) ⟨.bl _,H,I,rfl,?_⟩;rw[show XW.toArray.any (Ug x)=XW.any (Ug x) by simp,Fp r fs];exact q
theorem aT:Uh X (.builtin "len") (λxs H Q=>∃ p ys,xs=[.ref p]/\(SqL X.K H p ys\/SqT X.K H p ys)/\Q (.int ys.length) H):=by
 intro pins s σ H xs us Q I r h;obtain⟨p,ys,rfl,hq,q⟩:=h;obtain⟨u,rfl,rx⟩:=RM r;cases rx;have hn:=FK
 rcases hq with hq | hq
 .obtain⟨XW,r',pl,hz⟩:=I.list hq;have hlen:=r'.length
  exact Calls.call_len_list pl.isList (by simp only [Ya] <;> omega) ⟨.int ys.length,H,I.tok _,⟨s.toks+1,by rw[Ya,hlen]⟩,q⟩
 .obtain⟨XW,r',pl,hz⟩:=I.tuple hq;have hlen:=r'.length
  exact len_tuple pl (by simp only [Ya] <;> omega) ⟨.int ys.length,H,I.tok _,⟨s.toks+1,by rw[Ya,hlen]⟩,q⟩
theorem aS:Uh X (.type "list") (λxs H Q=>∃ p ys,xs=[.ref p]/\(SqL X.K H p ys\/SqT X.K H p ys)/\∀ l,H l=none->Q (.ref l) (upd H l (.lst ys))):=by
 intro pins s σ H xs us Q I r h;obtain⟨p,ys,rfl,hq,q⟩:=h;obtain⟨u,rfl,rx⟩:=RM r;cases rx;have fin:∀(XW:Ag),Vals ys XW->ys.length<=sizeLine->∀(h':Heap) (c':Nat),(∀ b o',s.heap.get? b=some o'->h'.get? b=some o') ->
   h'.get? s.heap.objs.size=some { cls:=.type "list",dict:=none,data:=.seq XW.toArray c',slots:=#[] }->EP X pins σ Q (.ref s.heap.objs.size) { s with heap:=h' }:=λXW r' hz h' c' kp e =>
  ⟨.ref s.heap.objs.size,_,I.laid (t':=s.toks) kp (XM _) (show ObjOk X.prog X.w _ h' _ (.lst ys) from⟨hz,XW,c',r',e⟩),rfl,q _ (I.hok.fresh (XM _))⟩
 rcases hq with hq | hq
 .obtain⟨XW,r',pl,hz⟩:=I.list hq;have hlen:=r'.length
  obtain⟨o,ho,hc,n,hd⟩:=pl.isList;exact call_list_seq p (.inl rfl) ho hc hd (λh' c' kp e=>fin XW r' hz h' c' kp e) (by simp only [Ya] <;> omega)
 .obtain⟨XW,r',pl,hz⟩:=I.tuple hq;have hlen:=r'.length
  obtain⟨o,ho,hc,n,hd⟩:=pl;exact call_list_seq p (.inr rfl) ho hc hd (λh' c' kp e=>fin XW r' hz h' c' kp e) (by simp only [Ya] <;> omega)
theorem aR:Uh X (.type "tuple") (λxs H Q=>∃ p ys,xs=[.ref p]/\((SqL X.K H p ys/\∀ l,H l=none->Q (.ref l) (upd H l (.tup ys)))\/(SqT X.K H p ys/\Q (.ref p) H))):=by
 intro pins s σ H xs us Q I r h;obtain⟨p,ys,rfl,h⟩:=h;obtain⟨u,rfl,rx⟩:=RM r;cases rx;rcases h with ⟨hq,q⟩ | ⟨hq,q⟩
 .obtain⟨XW,r',pl,hz⟩:=I.list hq;have hlen:=r'.length
  refine call_tuple_list pl.isList (λh' kp=>?_) (by simp only [Ya] <;> omega)
  have I1:Inv X pins σ H { s with heap:=h' }:=I.kept (t':=s.toks) kp;have I2:Inv X pins σ (upd H h'.objs.size (.tup ys)) { s with heap:=h'.push { cls:=.type "tuple",data:=.seq XW.toArray } } :=
   I1.laid (t':=s.toks) (λb o e=>WZ _ e) (XM _) (show ObjOk X.prog X.w _ _ _ (.tup ys) from⟨hz,XW,r',IsTup.new _ _⟩)
  exact⟨.ref h'.objs.size,_,I2,rfl,q _ (I1.hok.fresh (XM _))⟩
 .obtain⟨XW,r',pl,hz⟩:=I.tuple hq;exact call_tuple_same pl ⟨.ref p,H,I,rfl,q⟩
def vg(K:Ad)(T:String)(x:V)(H:Hp):Prop:=match x with
 | .str _=>T="str"
 | .int _=>T="int"
 | .ref p=>(T="list"/\∃ xs,SqL K H p xs)\/(T="tuple"/\∃ o,K.lookup p=some o/\o.cls=.type "tuple"/\o.dict=none) \/
   (T="dict"/\((∃ kvs,H p=some (.dK kvs))\/∃ kvs,H p=some (.dT kvs)))\/(T="set"/\∃ S n,H p=some (.set S n))
 | _=>False
theorem Fo{pins:List (Addr × Obj)}{σ:St}{H:Hp}{s:Shared}{T:String}{x:V}{v:Value}(I:Inv X pins σ H s)(r:RelV x v)(ty:vg X.K T x H) :
  s.TypeIs v T/\∀ a,v=.ref a->∃ ob,s.heap.get? a=some ob/\ob.dict=none:=by
 cases x with
 | str z =>
  obtain⟨t,rfl⟩:=r;cases (show T="str" from ty);exact⟨typeIs_str s z t,λ_ e=>nomatch e⟩
 | int i =>
  obtain⟨t,rfl⟩:=r;cases (show T="int" from ty);exact⟨typeIs_int s i t,λ_ e=>nomatch e⟩
 | ref p =>
  cases r;rcases ty with ⟨rfl,xs,hq⟩ | ⟨rfl,o,hk,hc,hd⟩ | ⟨rfl,hk⟩ | ⟨rfl,S,n,hk⟩
  .obtain⟨XW,_,pl,_⟩:=I.list hq;refine⟨pl.isList.typeIs,λa e=>?_⟩;cases e;obtain⟨o,n,e,c,hd,_⟩:=pl;exact⟨o,e,hd⟩
  .refine⟨⟨o,I.kIn p o hk,hc⟩,λa e=>?_⟩;cases e;exact⟨o,I.kIn _ o hk,hd⟩
  .have z:∃ o,s.heap.get? p=some o/\o.ExactDict:=by
    rcases hk with ⟨kvs,hk⟩ | ⟨kvs,hk⟩
    .obtain⟨_,_,_,_,o,_,_,e,ex,_⟩:=I.hok p _ hk;exact⟨o,e,ex⟩
    .obtain⟨_,_,_,_,o,_,_,e,ex,_⟩:=I.hok p _ hk;exact⟨o,e,ex⟩
   obtain⟨o,e,ex⟩:=z;refine⟨⟨o,e,ex.1⟩,λa e2=>?_⟩;cases e2;exact⟨o,e,ex.2.1⟩
  .obtain⟨o,_,_,_,e,ex,_⟩:=I.hok p _ hk;refine⟨⟨o,e,ex.1⟩,λa e2=>?_⟩;cases e2;exact⟨o,e,ex.2.1⟩
 | _=>exact False.elim ty
def Fn(K:Ad)(T:String)(r:V->List V->Hp->VK->Prop)(to:TE):TE:=λσ H Q=>to σ H λx H1=>vg K T x H1/\r x [] H1 Q
def iQ(K:Ad)(T:String)(r:V->List V->Hp->VK->Prop)(to:TE)(t:TA):TE:=λσ H Q=>to σ H λx H1=>vg K T x H1/\t σ H1 λxs H2=>r x xs H2 Q
variable{o e:Expr}{es:List Expr}{to:TE}{t:TA}{name:Str}{apos Xm:Pos}{T id:String}{r:V->List V->Hp->VK->Prop}
theorem vf (pa:PlainAttrs T) (slot:Slot T name id) (Kg:typeOf (.builtin id)=pure (.type "method_descriptor")) (hm:zJ X id r) (ho:PE X o to)
  (Vw:attributeBase o name X.env (eval o X.env)=eval o X.env:=by rfl) (Vv:(apos.endLine == Xm.line)=true:=by rfl):PE X (.Call (.Attribute o name apos) [] [] Xm) (Fn X.K T r to):=by intro pins s σ H Q I h;refine wpAny_Call_method0_late Vw Vv (thn (ho pins s σ H _ I h) λv s1 Xv=>?_);obtain⟨x,H1,I1,r1,ty,q1⟩:=Xv;obtain⟨h1,h2⟩:=Fo I1 r1 ty;exact⟨T,id,pa,slot,Kg,h1,h2,Calls.callWith_builtin rfl (PySem.evalArgs_none (hm pins s1 σ H1 x [] v [] Q I1 r1 .nil q1))⟩
theorem ve (pa:PlainAttrs T) (slot:Slot T name id) (Kg:typeOf (.builtin id)=pure (.type "method_descriptor")) (hm:zJ X id r) (ho:PE X o to) (ha:PA X (e :: es) t)
  (Vw:attributeBase o name X.env (eval o X.env)=eval o X.env:=by rfl)
  (Kf:((backTo Xm (starEach (e :: es) X.env)).all (λx=>!x.1) && (backToKw Xm (keywordEach [] X.env)).all (λx=>x.1.isSome)
   && decide ((e :: es).length+([]:List Keyword).length+(if ([]:List Keyword).isEmpty then 0 else 1)<30))=true:=by rfl)
  (Vv:(apos.endLine == Xm.line)=true:=by rfl) (hs:starEach (e :: es) X.env=(false,eval e X.env) :: starEach es X.env:=by rfl) (Vu:(backTo Xm (starEach es X.env)).any (·.1)=false:=by rfl) :
  PE X (.Call (.Attribute o name apos) (e :: es) [] Xm) (iQ X.K T r to t):=by
 intro pins s σ H Q I h;refine wpAny_Call_method_late Vw Kf Vv rfl (thn (ho pins s σ H _ I h) λv s1 Xv=>?_);obtain⟨x,H1,I1,r1,ty,q1⟩:=Xv;obtain⟨h1,h2⟩:=Fo I1 r1 ty;refine⟨T,id,pa,slot,Kg,h1,h2,?_⟩;have hA:=ha Xm pins s1 σ H1 _ I1 q1
 rw[hs]at hA ⊢;refine Calls.callWith_builtin (by show(false || (backTo Xm (starEach es X.env)).any (·.1))=false;rw[Vu] <;> rfl) (Calls.evalArgs_plain ?_)
 exact thn hA λus s2 ⟨vs,H2,I2,r2,q2⟩=>hm pins s2 σ H2 x vs v us Q I2 r1 r2 q2
end
def Md(X:Cx)(id:String)(r:V->List V->Hp->VK->Prop):Prop :=
 ∀(pins:List (Addr × Obj)) (s:Shared) (σ:St) (H:Hp) (x:V) (xs:List V) (v:Value) (us:Ag) (Q:VK),Inv X pins σ H s->RelV x v->Vals xs us->r x xs H Q ->
  wpAny (model X.prog X.w) X.A (call (.builtin id) (v :: us)) (EP X pins σ Q) X.xe s
theorem Vals.one{x:V}{us:Ag}(r:Vals [x] us):∃ u,us=[u]/\RelV x u:=by
 cases r with
 | cons a r=>cases r;exact⟨_,rfl,a⟩
theorem Vals.zero:∀ {us:Ag},Vals [] us->us=[]
 | _,.nil=>rfl
theorem Vals.eraseIdx:∀ {xs:List V} {us:Ag} (i:Nat),Vals xs us->Vals (xs.eraseIdx i) (us.eraseIdx i)
 | _,_,_,.nil=>.nil
 | _,_,0,.cons _ t=>t
 | _,_,i+1,.cons r t=>.cons r (Vals.eraseIdx i t)
theorem Vals.rep{xs:List V}{us:Ag}(h:Vals xs us):∀ k:Nat,Vals (List.replicate k xs).flatten (List.replicate k us).flatten
 | 0=>.nil
 | k+1=>by rw[Li,Li,GQ,GQ];exact Vals.append h (Vals.rep h k)
theorem iP{α:Type}:∀(l:List α) (i:Nat),(l.eraseIdx i).length<=l.length
 | [],_=>XM _
 | _ :: _,0=>Uk _
 | _ :: r,i+1=>Nat.succ_le_succ (iP r i)
theorem iO(XW:Ag):∀(k:Nat) (acc:Ag),
  List.foldl (λx1 x2=>x1++x2) acc.toArray (List.replicate k XW.toArray)=(acc++(List.replicate k XW).flatten).toArray
 | 0,acc=>by simp
 | k+1,acc=>by
  have e:acc.toArray++XW.toArray=(acc++XW).toArray:=by simp
  have e2:(acc++XW)++(List.replicate k XW).flatten=acc++(List.replicate (k+1) XW).flatten:=by rw[Li,GQ,QE]
  rw[<- e2,<- iO XW k (acc++XW),<- e,Li,Aq]
section
variable{X:Cx}{pins:List (Addr × Obj)}{σ:St}{H:Hp}{s:Shared}{l:Addr}{xs ys:List V}
theorem Inv.lset{XW its':Ag}{n:Nat}{f:Array Value->Array Value}{t':Nat}(I:Inv X pins σ H s)(hH:H l=some (.lst xs))
  (e:s.heap.get? l=some { cls:=.type "list",data:=.seq XW.toArray n }) (hf:f XW.toArray=its'.toArray) (hv:Vals ys its') (hz:ys.length<=sizeLine) :
  Inv X pins σ (upd H l (.lst ys)) { s with heap:=s.heap.update l (Obj.mapSeq f),toks:=t' }:=by have q:=PySem.IsL.update e f;rw[hf]at q;refine I.write (x:=l) (e:=l) (by rw[hH];exact trivial) (.inl rfl) (λb' u hb hu=>(YO s.heap (Obj.mapSeq f) (YW hb)).trans hu) ⟨_,q⟩ ?_;exact⟨hz,its',_,hv,q⟩
theorem Inv.lnew{XW:Ag}{t':Nat}(I:Inv X pins σ H s)(hv:Vals ys XW)(hz:ys.length<=sizeLine) :
  Inv X pins σ (upd H s.heap.objs.size (.lst ys)) { s with heap:=s.heap.push { cls:=.type "list",data:=.seq XW.toArray },toks:=t' } :=
 I.laid (λ_ _ q=>WZ _ q) (XM _) ⟨hz,XW,0,hv,Yo _ rfl⟩
theorem Inv.fresh(I:Inv X pins σ H s):H s.heap.objs.size=none:=I.hok.fresh (XM _)
theorem Inv.lstM (I:Inv X pins σ H s) (hH:H l=some (.lst xs)):xs.length<=sizeLine/\∃(XW:Ag) (n:Nat),Vals xs XW/\xs.length=XW.length/\s.heap.get? l=some { cls:=.type "list",data:=.seq XW.toArray n }:=by obtain⟨z,XW,n,r,e⟩:=I.hok l _ hH;exact⟨z,XW,n,r,r.length,e⟩
theorem iM{n:Nat}(h:n<=sizeLine):Builtin.List.listTooLong n=false:=by unfold Builtin.List.listTooLong;exact Sw (by omega)
end
section
variable{X:Cx}
def vd:V->List V->Hp->VK->Prop:=λx vs H Q=>∃ l xs y,x=.ref l/\vs=[y]/\H l=some (.lst xs)/\xs.length<sizeLine/\Q .non (upd H l (.lst (xs++[y])))
theorem Fm:Md X "list.append" vd:=by intro pins s σ H x vs v us Q I rx rv h;obtain⟨l,xs,y,rfl,rfl,hH,hz,q⟩:=h;cases rx;obtain⟨u,rfl,ru⟩:=rv.one;obtain⟨z,XW,n,r,hl,e⟩:=I.lstM hH;refine Ua F.slot_list_append ⟨_,e,rfl⟩ F.entry_list_append (F.args_list_append_2 _ _) (PySem.list_append l XW.toArray n u (by rw[Ya];omega)) ⟨e,?_⟩;refine⟨.non,_,I.lset (its':=XW++[u]) hH e (by simp) (r.append (.cons ru .nil)) ?_,rfl,q⟩;rw[Xs,Yj];omega
def vc:V->List V->Hp->VK->Prop:=λx vs H Q=>∃ l b xs zs,x=.ref l/\vs=[.ref b]/\H l=some (.lst xs)/\H b=some (.lst zs)/\xs.length+zs.length<=sizeLine/\Q .non (upd H l (.lst (xs++zs)))
theorem iL:Md X "list.extend" vc:=by
 intro pins s σ H x vs v us Q I rx rv h;obtain⟨l,b,xs,zs,rfl,rfl,hH,hB,hz,q⟩:=h;cases rx;obtain⟨u,rfl,ru⟩:=rv.one;cases ru;obtain⟨z,XW,n,r,hl,e⟩:=I.lstM hH;obtain⟨z2,VV,n2,r2,QT,e2⟩:=I.lstM hB;have hsz:XW.toArray.size+VV.toArray.size<=sizeLine:=by rw[Ya,Ya];omega
 have Qm:¬ (!XW.toArray.isEmpty && Builtin.List.listTooLong (XW.toArray.size+VV.toArray.size))=true:=by rw[iM hsz,Bool.and_false];exact Yw
 refine Ua F.slot_list_extend ⟨_,e,rfl⟩ F.entry_list_extend (F.args_list_extend_2 _ _)
  (AutoSeq1.list_extend_list_list_0 l XW.toArray n b VV.toArray n2 Qm (by rw[Ya];omega) (by omega)) ⟨e,e2,?_⟩
 refine⟨.non,_,I.lset (its':=XW++VV) hH e (by simp) (r.append r2) ?_,rfl,q⟩;rw[Xs];omega
def va:V->List V->Hp->VK->Prop:=λx vs H Q=>∃ l xs i k y,x=.ref l/\vs=[.int i]/\H l=some (.lst xs)/\-(2 ^ 63)<=i/\i<2 ^ 63/\seqIndex? i xs.length=some k/\xs[k]?=some y/\Q y (upd H l (.lst (xs.eraseIdx k)))
theorem iK:Md X "list.pop" va:=by
 intro pins s σ H x vs v us Q I rx rv h;obtain⟨l,xs,i,k,y,rfl,rfl,hH,h1,h2,hk,hy,q⟩:=h;cases rx;obtain⟨u,rfl,ru⟩:=rv.one;obtain⟨t,rfl⟩:=ru;obtain⟨z,XW,n,r,hl,e⟩:=I.lstM hH;obtain⟨w,hw,Ob⟩:=r.get hy;refine Ua F.slot_list_pop ⟨_,e,rfl⟩ F.entry_list_pop (F.args_list_pop_2 _ _)
  (MeetsSeq.list_pop_at l XW.toArray n i t k w (fitsIndex_both h1 h2) (by rw[Ya,<- hl];exact hk) (by rw[<- YU];exact hw) (by rw[Ya];omega)) ⟨e,?_⟩
 refine⟨y,_,I.lset (its':=XW.eraseIdx k) hH e ?_ (r.eraseIdx k) ?_,Ob,q⟩
 .show XW.toArray.eraseIdxIfInBounds k=(XW.eraseIdx k).toArray;rw[List.eraseIdxIfInBounds_toArray]
 .have:=iP xs k
  omega
def uZ:V->List V->Hp->VK->Prop:=λx vs H Q=>∃ l xs,x=.ref l/\vs=[]/\H l=some (.lst xs)/\Q .non (upd H l (.lst []))
theorem Fl:Md X "list.clear" uZ:=by
 intro pins s σ H x vs v us Q I rx rv h;obtain⟨l,xs,rfl,rfl,hH,q⟩:=h;cases rx;have aQ:=rv.zero
 subst aQ;obtain⟨z,XW,n,r,hl,e⟩:=I.lstM hH;refine Ua F.slot_list_clear ⟨_,e,rfl⟩ F.entry_list_clear (F.args_list_clear_1 _) (AutoSeq1.list_clear_list_0 l XW.toArray n (by rw[Ya];omega)) ⟨e,?_⟩;exact⟨.non,_,I.lset (its':=[]) (ys:=[]) hH e rfl .nil (Yn _),rfl,q⟩
def Fj:R2:=λx y H Q=>∃ l b xs zs,x=.ref l/\y=.ref b/\H l=some (.lst xs)/\H b=some (.lst zs)/\xs.length+zs.length<=sizeLine/\∀ p,H p=none->Q (.ref p) (upd H p (.lst (xs++zs)))
theorem Fi:WH X (binaryOp .Add) Fj:=by
 intro pins s σ H x y v u Q I rx ry h;obtain⟨l,b,xs,zs,rfl,rfl,hH,hB,hz,q⟩:=h;cases rx;cases ry;obtain⟨z,XW,n,r,hl,e⟩:=I.lstM hH;obtain⟨z2,VV,n2,r2,QT,e2⟩:=I.lstM hB;refine PySem.P.add_list e e2 ?_ (by rw[Ya,Ya];omega);have ea:XW.toArray++VV.toArray=(XW++VV).toArray:=by simp
 rw[ea];exact⟨.ref _,_,I.lnew (t':=s.toks) (r.append r2) (by rw[Xs];omega),rfl,q _ I.fresh⟩
def uY:R2:=λx y H Q=>∃ l k xs,x=.ref l/\y=.int k/\H l=some (.lst xs)/\-(2 ^ 63)<=k/\k<2 ^ 63/\xs.length * k.toNat<=sizeLine /\
 ∀ p,H p=none->Q (.ref p) (upd H p (.lst (List.replicate k.toNat xs).flatten))
theorem Fh{α:Type}(xs:List α)(k:Nat):(List.replicate k xs).flatten.length=k * xs.length:=by
 induction k with
 | zero=>simp
 | succ k ih=>rw[Li,GQ,Xs,ih,Nat.succ_mul,Nat.add_comm]
theorem Fg:WH X (binaryOp .Mult) uY:=by
 intro pins s σ H x y v u Q I rx ry h;obtain⟨l,k,xs,rfl,rfl,hH,h1,h2,hz,q⟩:=h;cases rx;obtain⟨t,rfl⟩:=ry;obtain⟨z,XW,n,r,hl,e⟩:=I.lstM hH;have hlen:XW.toArray.size * k.toNat<=sizeLine:=by rw[Ya,<- hl];exact hz
 have uX:¬ XW.toArray.size * k.toNat > (2 ^ 63 - 1) / 8:=by
  have:(sizeLine:Nat)<=(2 ^ 63 - 1) / 8:=by decide
  omega
 have uW:¬ (!Builtin.List.listFitsIndex k)=true:=by rw[fitsIndex_both h1 h2];exact Yw
 have Qm:¬ Builtin.List.listTooLong (XW.toArray.size * k.toNat)=true:=by rw[iM hlen];exact Yw
 have RG:List.foldl (λx1 x2=>x1++x2) #[] (List.replicate (if XW.toArray.isEmpty=true then 0 else k.toNat) XW.toArray)=(List.replicate k.toNat XW).flatten.toArray:=by
  have f0:∀ m:Nat,List.foldl (λx1 x2=>x1++x2) #[] (List.replicate m XW.toArray)=(List.replicate m XW).flatten.toArray:=λm=>by
   have:=iO XW m []
   rw[Mp]at this;exact this
  rw[f0];cases XW with
  | nil=>simp
  | cons a r'=>rw[if_neg (by simp)]
 refine wpAny_binaryOp_repeat_ref (T:="list") (U:="int") (by decide) ⟨_,e,rfl⟩ (λs'=>typeIs_int s' k t) noFill_list_mul F.fills_int_mul F.slot_int_rmul repeat_list F.slot_int_index.lookup
  (Ua F.slot_int_rmul (typeIs_int s k t) F.entry_int_rmul (F.args_int_rmul_2 _ _) (int___rmul___int_list k t l XW.toArray n)
   ⟨e,rfl,⟨_,e,rfl⟩,Ua F.slot_list_mul ⟨_,e,rfl⟩ F.entry_list_mul (F.args_list_mul_2 _ _) (AutoListH.list___mul___list_int_3 l XW.toArray n k t uW uX Qm) ⟨e,?_⟩⟩)
 rw[RG];exact⟨.ref _,_,I.lnew (t':=s.toks) (r.rep k.toNat) (by rw[Fh,Ai];exact hz),rfl,q _ I.fresh⟩
end
section
variable{κ:Type}[DecidableEq κ]
def WB(kvs:List (κ × V))(k:κ):Option V:=(kvs.find? λkv=>decide (kv.1=k)).map (·.2)
def putK(kvs:List (κ × V))(k:κ)(v:V):List (κ × V) :=
 if (kvs.any λkv=>decide (kv.1=k))=true then kvs.map (λkv=>if kv.1=k then (kv.1,v) else kv) else kvs++[(k,v)]
theorem uV{p:κ × V}{r:List (κ × V)}{k:κ}(e:p.1=k):WB (p :: r) k=some p.2:=by simp[WB,Ap,e]
theorem uU{p:κ × V}{r:List (κ × V)}{k:κ}(e:¬ p.1=k):WB (p :: r) k=WB r k:=by simp[WB,Ap,e]
theorem iJ(k:κ):∀ kvs:List (κ × V),(kvs.any λkv=>decide (kv.1=k))=(WB kvs k).isSome
 | []=>rfl
 | p :: r=>by
  rw[GK];by_cases e:p.1=k
  .simp only [uV e,Yx e,Bool.true_or,Option.isSome_some]
  .rw[uU e,Sw e,Bool.false_or];exact iJ k r
theorem aP(kvs:List (κ × V))(k:κ)(v:V):(putK kvs k v).length<=kvs.length+1:=by
 unfold putK;split
 .rw[Yd];omega
 .rw[Xs,YB,Ib];omega
theorem aO{kvs:List (κ × V)}{k:κ}(v:V)(h:WB kvs k=none):putK kvs k v=kvs++[(k,v)]:=by unfold putK;rw[iJ,h];exact if_neg (by decide)
theorem KV.val{kvs:List (κ × V)}{vs:List (κ × Value)}(r:KV kvs vs)(k:κ):RelO (WB kvs k) (valueAt vs k):=by
 unfold KV at r
 induction r with
 | nil=>exact True.intro
 | @cons p q ps qs h t ih =>
  obtain⟨h1,h2⟩:=h;by_cases e:p.1=k
  .have e':q.1=k:=h1.symm.trans e;have b:valueAt (q :: qs) k=some q.2:=by simp[valueAt,Ap,e']
   rw[uV e,b];exact h2
  .have e':¬ q.1=k:=λz=>e (h1.trans z);have b:valueAt (q :: qs) k=valueAt qs k:=by simp[valueAt,Ap,e']
   rw[uU e,b];exact ih
theorem KV.any{kvs:List (κ × V)}{vs:List (κ × Value)}(r:KV kvs vs)(k:κ):(kvs.any λkv=>decide (kv.1=k))=vs.any λkv=>decide (kv.1=k):=by
 unfold KV at r
 induction r with
 | nil=>rfl
 | cons h t ih=>rw[GK,GK,ih,h.1]
theorem KV.repl{kvs:List (κ × V)}{vs:List (κ × Value)}(r:KV kvs vs)(k:κ){y:V}{u:Value}(ry:RelV y u) :
  KV (kvs.map λkv=>if kv.1=k then (kv.1,y) else kv) (vs.map λkv=>if kv.1=k then (kv.1,u) else kv):=by
 unfold KV at r ⊢
 induction r with
 | nil=>exact .nil
 | @cons p q ps qs h t ih =>
  rw[WC,WC];refine .cons ?_ ih;obtain⟨h1,h2⟩:=h;by_cases e:p.1=k
  .rw[if_pos e,if_pos (h1.symm.trans e)];exact⟨h1,ry⟩
  .rw[if_neg e,if_neg (λz=>e (h1.trans z))];exact⟨h1,h2⟩
theorem KV.put{kvs:List (κ × V)}{vs:List (κ × Value)}(r:KV kvs vs)(k:κ){y:V}{u:Value}(ry:RelV y u):KV (putK kvs k y) (stored vs k u):=by
 unfold putK stored;rw[r.any k];by_cases e:(vs.any λkv=>decide (kv.1=k))=true
 .rw[if_pos e,if_pos e];exact r.repl k ry
 .rw[if_neg e,if_neg e];exact Paired.snoc r ⟨rfl,ry⟩
theorem KV.length{kvs:List (κ × V)}{vs:List (κ × Value)}(r:KV kvs vs):kvs.length=vs.length:=Paired.length r
end
theorem uS{P:Program}{w:World}{k:Key}{u:Value}(r:RelV (kV k) u):(VW P w).is k u=true:=by
 cases k with
 | inl i=>obtain⟨t,e⟩:=(show ∃ t,u=Value.int i t from r);subst e;exact bG P w i t
 | inr x=>obtain⟨t,e⟩:=(show ∃ t,u=Value.str x t from r);subst e;exact bF P w x t
section
variable{P:Program}{w:World}{H:Hp}{h:Heap}{a:Addr}
theorem uR{u:HO}(ok:HOk P w H h)(e:Rd H a u):ObjOk P w H h a u:=e.ok ok
theorem uQ{kvs:List (Key × V)}(ok:HOk P w H h)(e:Rd H a (.dK kvs)):kvs.length<=sizeLine/\(a == sysModules)=false/\∃ vs,KV kvs vs/\h.DictOf (VW P w) a vs :=
 show ObjOk P w H h a (.dK kvs) from uR ok e
theorem Ke{kvs:List (Key × V)}(ok:HOk P w H h)(e:H a=some (.dK kvs)):kvs.length<=sizeLine/\(a == sysModules)=false/\∃ vs,KV kvs vs/\h.DictOf (VW P w) a vs:=uQ ok (.inl e)
end
section
variable{X:Cx}{pins:List (Addr × Obj)}{σ:St}{H:Hp}{s:Shared}{a:Addr}
theorem Inv.big(I:Inv X pins σ H s):sysModules<s.heap.objs.size:=by have h:mainGlobals<s.heap.objs.size:=(I.mod.glob.keeps I.bk).lt;exact Ah (by decide) h
theorem uP{h':Heap}{t':Nat}{ob:HO}(I:Inv X pins σ H s)(mu:GA (H a))(hs:Heap.SameBut a s.heap h')(he:∃ q,h'.get? a=some q)(new:ObjOk X.prog X.w (upd H a ob) h' a ob) :
  Inv X pins σ (upd H a ob) { s with heap:=h',toks:=t' } :=
 I.write (x:=a) (e:=a) mu (.inl rfl) (λb q hb z=>(hs.2 b hb).trans z) he new
theorem uN{P:Program}{w:World}{H':Hp}{h':Heap}{kvs:List (Key × V)}{vs:List (Key × Value)}(z:kvs.length<=sizeLine)(hd:(a == sysModules)=false)(rel:KV kvs vs)(dd:h'.DictOf (VW P w) a vs) :
  ObjOk P w H' h' a (.dK kvs):=⟨z,hd,vs,rel,dd⟩
end
theorem uM {P:Program} {w:World} {H:Hp} (h:Heap) (hb:sysModules<h.objs.size):ObjOk P w H (h.push { cls:=.type "dict",data:=.dict #[] }) h.objs.size (.dK []) :=
 ⟨Yn _,GZ.mpr (YW (Yt hb)),[],.nil,Heap.DictOf.new h⟩
def Ff:TE:=λ_ H Q=>∀ p,H p=none->Q (.ref p) (upd H p (.dK []))
section
variable{X:Cx}{pos:Pos}
theorem aN:PE X (.Dict [] [] pos) Ff:=λpins s σ H Q I h =>
 wpAny_Dict_empty ⟨.ref s.heap.objs.size,_,I.laid (a:=s.heap.objs.size) (o:=.dK []) (t':=s.toks) (λ_ _ q=>WZ _ q) (XM _) (uM s.heap I.big),rfl,h _ (I.hok.fresh (XM _))⟩
end
structure M1 (X:Cx) (o:Expr) (m:Str) (apos:Pos) (e:Expr) (Xm:Pos):Prop where
 base:attributeBase o m X.env (eval o X.env)=eval o X.env
 few:((backTo Xm (starEach [e] X.env)).all (λx=>!x.1) && (backToKw Xm (keywordEach [] X.env)).all (λx=>x.1.isSome)
  && decide (([e]:List Expr).length+([]:List Keyword).length+(if ([]:List Keyword).isEmpty then 0 else 1)<30))=true
 line:(apos.endLine == Xm.line)=true
 trees:backTo Xm (starEach [e] X.env)=[(false,eval e X.env)]
structure M2 (X:Cx) (o:Expr) (m:Str) (apos:Pos) (e f:Expr) (Xm:Pos):Prop where
 base:attributeBase o m X.env (eval o X.env)=eval o X.env
 few:((backTo Xm (starEach [e,f] X.env)).all (λx=>!x.1) && (backToKw Xm (keywordEach [] X.env)).all (λx=>x.1.isSome)
  && decide (([e,f]:List Expr).length+([]:List Keyword).length+(if ([]:List Keyword).isEmpty then 0 else 1)<30))=true
 line:(apos.endLine == Xm.line)=true
 trees:backTo Xm (starEach [e,f] X.env)=[(false,eval e X.env),(false,eval f X.env)]
end L2
namespace Att
open PySem PySem.W PySem.Calls PyProof.Rows
theorem aL{P:Params}{h:Heap}:∀(ns:Ac) (vs:Ag),WellAll P h vs (ns.map WData.int)->IntsAre vs ns:=by
 intro ns
 induction ns with
 | nil =>
  intro vs w;rw[List.map_nil]at w;cases w;exact .nil
 | cons n ns ih =>
  intro vs w;rw[WC]at w;cases w with
  | cons a b =>
   cases a;exact .cons _ _ (ih _ b)
theorem aK{l:OpenLaw}{n:Nat}(hn:l.most=some n){P:Params}{h:Heap}{args:List WData}{vals:Ag}
  (Oa:l.row.toRowW.claim.pre args=true) (Fe:WellAll P h vals args) :
  ∃ a vs ns,vals=[Value.ref a]/\args=[WData.list (ns.map WData.int)]/\h.get? a=some { cls:=.type "list",data:=.seq vs.toArray }/\IntsAre vs ns/\ns.length<=n:=by
 have aJ:WShape.hasAll [] args [.list .int]=true:=(pre_splitW Oa).1;have hc:l.pre.holds [] { args:=args }=true:=(pre_splitW Oa).2
 obtain⟨d,r,rfl,h1,h2⟩:=hasAllW_cons aJ;obtain rfl:=hasAllW_nil h2;obtain⟨xs,rfl,h3⟩:=hasW_list h1;obtain⟨ns,rfl⟩:=items_int h3;have hlen:ns.length<=n:=by
  unfold OpenLaw.pre at hc;have h4:(WTm.not (.lt (.lit (.int (n:Int))) (.len (.arg 0)))).holds [] { args:=[.list (ns.map .int)] }=true:=by have h4:=(holds_andW hc).1;rw[hn]at h4;exact h4
  have h5:=condW_of h4 (w_not (w_lt w_lit (w_len_list (w_arg rfl))));rw[Yd]at h5;refine As λq=>?_;have q':(n:Int)<((ns.length:Nat):Int):=by omega
  first
   | (rw[Yx q']at h5;exact absurd h5 (by decide))
   | (simp at h5;omega)
 cases Fe with
 | cons w1 w2 =>
  cases w2;cases w1 with
  | list ho Vt=>exact⟨_,_,ns,rfl,rfl,ho,aL ns _ Vt,hlen⟩
theorem aI(l:OpenLaw)(args:List WData):l.row.toRowW.claim.post args (.bool true) args=true :=
 postW_of (r:=l.row.toRowW) (X:=(true == true))
  (show WShape.has [] (.bool true) .bool=true by first | rfl | decide | simp[WShape.has,WShape.arms,WShape.armsAll])
  (show(WTm.eq .res (.lit (.bool true))).value [] { args:=args,res:=some (.bool true),after:=args }=some (.bool (true == true)) from w_eq_bool (w_res rfl) w_lit) rfl
theorem TQ{l:OpenLaw}{n:Nat}{q:Program}{loose:List Str}{XP:Af->Heap->Prop}{YP:World->Heap->Prop}{d:DefRec}
  (hn:l.most=some n) (uL:d.params.defaults=[])
  (call:∀(w:World) (s₀ s₁:Shared) (mg mb:Af) (fa:Addr) (o:Obj) (pm cd doc:Value) (a:Addr) (vs:Ag) (ns:Ac),
   Ground q loose [] XP w s₀ mg mb s₁.heap->YP w s₁.heap ->
   s₁.heap.get? fa=some o->o.data=.func (docDef d.name d.params d.body d.scope pm cd doc)->s₁.heap.CodeRec cd d.name->mg d.name=some (.ref fa) ->
   s₁.heap.get? a=some { cls:=.type "list",data:=.seq vs.toArray }->IntsAre vs ns->ns.length<=n->s₁.gens=#[] ->
   codeAny (model l.prog w) callerA (.call (.ref fa) ⟨[.ref a],[]⟩) (λr s'=>r=.ok (.ret (.bool true))/\OldK s₁.heap s'.heap/\s'.os=s₁.os/\AllBare s'.gens) s₁) :
  WalkO q loose XP YP l.row.toRowW d [] (λf vs=>PySem.call f vs):=by intro w s₀ s₁ mg mb G Y fa o pm cd doc dV kV ho hd Ui hD Fd hg args vals as Oa aH hrd Fe hlo;obtain rfl:dV=.none:=Dflts.none hD uL;obtain rfl:kV=.none:=Dflts.noKw hD;obtain⟨a,vs,ns,rfl,rfl,Kd,hints,hlen⟩:=aK hn Oa Fe;refine enter_call (Ml (call w s₀ s₁ mg mb fa o pm cd doc a vs ns G Y ho (fd_plain hd) Ui Fd Kd hints hlen hg) λr s' hq=>?_);obtain⟨rfl,h2,h3,h4⟩:=hq;exact⟨.inl ⟨.bool true,.bool true,[],rfl,λ_=>rfl,.bool true,aI l _,λ_=>⟨List.Pairwise.nil,λ_ hm=>(nomatch hm)⟩⟩,h2,h3,h4⟩
section
def aG(h:Heap)(L d:Addr):List (Addr × Obj):=(List.range h.objs.size).filterMap λa=>if a=L\/a=d then none else (h.get? a).map λo=>(a,o)
end
end Att
namespace L2
open PySem PySem.Spec PyProof.Rows
theorem iI:∀ {vs:Ag} {ns:Ac},IntsAre vs ns->Vals (ns.map V.int) vs
 | _,_,.nil=>.nil
 | _,_,.cons n t h=>.cons ⟨t,rfl⟩ (iI h)
abbrev XG{K:Ad}{h:Heap}(_:K.In h):Ad:=K
def iH(s:Stmt)(j:Nat):Stmt:=match s with
 | .ClassDef _ _ _ body _ _ _ _ _ _ _=>body.getD j (.Pass ⟨0,0,0,0⟩)
 | _=>.Pass ⟨0,0,0,0⟩
def Kc(s:Stmt):Arguments:=match s with
 | .FunctionDef _ a _ _ _ _ _ _ _ _=>a
 | _=>{ posonlyargs:=[],args:=[],vararg:=none,kwonlyargs:=[],kw_defaults:=[],kwarg:=none,defaults:=[] }
def Ql(s:Stmt):List Stmt:=match s with
 | .FunctionDef _ _ b _ _ _ _ _ _ _=>b
 | _=>[]
def XA(s:Stmt):Scope:=match s with
 | .FunctionDef _ _ _ _ _ _ sc _ _ _=>sc
 | _=>{ kind:=.function,names:=[],isGenerator:=false,isCoroutine:=false }
abbrev Xf:RJ:=λ_ _ _ _ _ _=>False
abbrev E0:XK:=λ_ _ _=>False
theorem Zt{X:Cx}:Kj Xf X E0:=λ_ _ _ _ _ _ _ h=>h.elim
structure Fun (K:Ad) (x qual:Str) (st:Stmt) (f:Addr) (fd:FuncData):Prop where
 ex:∃(oc:Value) (od:Option Addr) (kV doc pm:Value) (an:Option Addr) (Xz ct:Value) (Ux:Array (Option Value)),
  fd=PySem.W.fnOf x qual (Kc st) (Ql st) (XA st) .none kV doc pm an Xz ct/\K.lookup f=some ⟨oc,od,.func fd,Ux⟩/\PySem.W.codeIn K Xz qual=true
 kp:PySem.W.keepIn K (.ref f)=true
section
variable{P:Program}{w:World}{K:Ad}{mg:Af}{base:Heap}
theorem Fun.ok{x qual:Str}{st:Stmt}{f:Addr}{fd:FuncData}{N ps:List Str}{k:Nat}{sp:Sp}(F:Fun K x qual st f fd)(S:FnScope N ps (XA st))(len:∀ vs H Q E,sp vs H Q E->vs.length=ps.length)
  (hbody:∀(Xz:Value) (A:Around) (outer:List Env) (s:Shared) (H:Hp) (vs:List V) (Q:VK) (E:XK),Room k (A.deeper (envOfC qual (XA st) s.heap.objs.size f Xz))->sp vs H Q E ->
   ∃ t,PSs (Ws Xf P w K mg base N qual (XA st) f Xz A outer s H E).nox (Ql st) t/\t { nx:=λ_ H'=>Q .non H',rt:=Q } (start N vs) H):FnOk P w K mg base Xf (k+1) f fd ps sp:=by obtain⟨oc,od,kV,doc,pm,an,Xz,ct,Ux,rfl,lk,Ui⟩:=F.ex;refine Kh lk Ui S len λA outer s H vs Q E hr Ti=>?_;obtain⟨t,h,q⟩:=hbody Xz A outer s H vs Q E hr Ti;exact⟨t,h.nox,q⟩
theorem Fun.binds{x qual:Str}{st:Stmt}{f:Addr}{fd:FuncData}{ps:List Str}(F:Fun K x qual st f fd)
  (h:∀(kV doc pm:Value) (an:Option Addr) (Xz ct:Value) (us:Ag),us.length=ps.length->bindArgs (PySem.W.fnOf x qual (Kc st) (Ql st) (XA st) .none kV doc pm an Xz ct) ⟨us,[]⟩=pure (ps.zip us)):Binds K fd ps []:=by obtain⟨oc,od,kV,doc,pm,an,Xz,ct,Ux,rfl,lk,Ui⟩:=F.ex;exact .all (h kV doc pm an Xz ct)
theorem Kb{x qual:Str}{st:Stmt}{f:Addr}{oc:Value}{od an:Option Addr}{Ux:Array (Option Value)}{kV doc pm Xz ct:Value}(l:K.lookup f=some ⟨oc,od,.func (PySem.W.fnOf x qual (Kc st) (Ql st) (XA st) .none kV doc pm an Xz ct),Ux⟩)
  (c:PySem.W.codeIn K Xz qual=true) (k:PySem.W.keepIn K (.ref f)=true):Fun K x qual st f (PySem.W.fnOf x qual (Kc st) (Ql st) (XA st) .none kV doc pm an Xz ct):=⟨⟨oc,od,kV,doc,pm,an,Xz,ct,Ux,rfl,l,c⟩,k⟩
end
section
variable{X:Cx}
theorem pv (i:Nat) {x:Str} {pos:Pos} (hN:X.N[i]?=some x:=by rfl) (hv:wA X.env.scope x:=by first | exact Or.inl rfl | exact Or.inr (Or.inl rfl) | exact Or.inr (Or.inr rfl)) (hd:(x == ("__debug__":Str))=false:=by decide)
  (Ui:(x == ("__classdict__":Str))=false:=by decide):PE X (.Name x pos) (Gv i):=wu hN hv hd Ui
end
theorem VJ{A B:Prop}(h:B):if false=true then A else B:=by rw[if_neg Yw];exact h
theorem Ve{A B:Prop}(h:A):if true=true then A else B:=by rw[if_pos rfl];exact h
theorem Fc{c A B:Prop}[Decidable c](h1:c->A)(h2:¬ c->B):if c then A else B:=by
 by_cases h:c
 .rw[if_pos h];exact h1 h
 .rw[if_neg h];exact h2 h
def Same(H H':Hp):Prop:=∀ b o,H b=some o->H' b=some o
theorem Same.refl(H:Hp):Same H H:=λ_ _ h=>h
theorem Same.trans{H H1 H2:Hp}(a:Same H H1)(b:Same H1 H2):Same H H2:=λc o h=>b c o (a c o h)
theorem Same.free{H H':Hp}(e:Same H H'){l:Addr}(h:H' l=Option.none):H l=Option.none:=by
 cases q:H l with
 | none=>rfl
 | some o =>
  rw[e l o q]at h;cases h
theorem Same.seq{K:Ad}{H H':Hp}{a:Addr}{xs:List V}(e:Same H H')(h:SqL K H a xs):SqL K H' a xs:=by
 rcases h with (h | ⟨o,h⟩) | h
 .exact .inl (.inl (e _ _ h))
 .exact .inl (.inr ⟨o,e _ _ h⟩)
 .exact .inr h
def Fb(X:Cx)(ifs:List Expr)(t:TT):Prop :=
 ∀(pins:List (Addr × Obj)) (s:Shared) (σ:St) (H:Hp) (Q:Bool->Hp->Prop),Inv X pins σ H s->t σ H Q ->
  wpAny (model X.prog X.w) X.A (forIn ifs true λc r=>if r=true then do let ok <- isTrue c X.env (eval c X.env);pure (ForInStep.yield ok) else pure (ForInStep.yield r)) (TP X pins σ Q) X.xe s
def tYes:TT:=λ_ H Q=>Q true H
theorem QS{X:Cx}:Fb X [] tYes:=λ_ _ _ H _ I h=>wpAny_tests_nil ⟨H,I,h⟩
theorem Qk{X:Cx}{c:Expr}{t:TT}(hc:PT X c t):Fb X [c] t:=λpins s σ H Q I h=>wpAny_tests_one (hc pins s σ H Q I h)
theorem aE{prog:Program}{w:World}{A:Around}{s:Shared}{R:Result->Shared->Prop}{elt target iter:Expr}{ifs:List Expr}{scope:Scope}{pos:Pos}{it acc:Value}{env:Env}(J:Nat->Shared->Prop)
  (turn:∀ n s,J n s->wpAny (model prog w) A (pyNext it) (λr s1=>match r with
   | none=>R (.ok .next) s1
   | some v=>wpAny (model prog w) A (letOwnedTupleGo target it v) (λ_ s2=>wpAny (model prog w) A (assign target env v) (λ_ s3 =>
     wpAny (model prog w) A (forIn ifs true λc r=>if r=true then do let ok <- isTrue c env (eval c env);pure (ForInStep.yield ok) else pure (ForInStep.yield r)) (λok s4 =>
      if ok=true then wpAny (model prog w) A (eval elt env) (λx s5 =>
       wpAny (model prog w) A (call (.builtin "list.append") [acc,x]) (λ_ s6=>∃ m,m<n/\J m s6) (λ_ _=>False) s5) (λ_ _=>False) s4
      else ∃ m,m<n/\J m s4) (λ_ _=>False) s3) (λ_ _=>False) s2) (λ_ _=>False) s1) (λ_ _=>False) s)
  (n:Nat) (h:J n s):codeAny (model prog w) A (.compLoop (.ListComp elt [⟨target,iter,ifs,0⟩] scope pos) 0 it acc env) R s:=by
 refine codeAny_loop rfl J (λn s hI=>?_) n h;show wpAny _ A ((compTurn (.ListComp elt [⟨target,iter,ifs,0⟩] scope pos) 0 it acc env).onRaise (λx=>do noteFrame x env;theTreesLotGoes x)) _ _ s
 refine wpAny_noted ?_;rw[compTurn_list];refine XU (wpAny_standAt (XU (Uj (turn n s hI) (λr s1 h1=>?_) λ_ _ z=>z.elim)));cases r with
 | none=>exact Yk h1
 | some v =>
  refine XU (Uj h1 (λ_ s2 h2=>?_) λ_ _ z=>z.elim);refine XU (Uj h2 (λ_ s3 h3=>XU (Uj h3 (λok s4 h4=>?_) λ_ _ z=>z.elim)) λ_ _ z=>z.elim);cases ok with
  | false=>exact Yk ⟨rfl,h4⟩
  | true =>
   exact XU (XU (Uj h4 (λx s5 h5=>XU (Uj h5 (λ_ s6 h6=>Yk (Yk ⟨rfl,h6⟩)) λ_ _ z=>z.elim)) λ_ _ z=>z.elim))
def So(cells:List (Str × Addr)):List (Str × NameKind)->List (Str × Addr)->List (Str × Addr)
 | [],acc=>acc
 | (n,k) :: r,acc=>if k == .free then So cells r ((n,(cells.lookup n).getD 0) :: acc) else So cells r acc
theorem iG{env:Env}:∀(names:List (Str × NameKind)) (acc:List (Str × Addr)),(∀ y∈names,y.2=.free->∃ c,env.cells.lookup y.1=some c) ->
  (forIn names acc λ(x:Str × NameKind) (cs:List (Str × Addr))=>(if (x.2 == .free)=true then do let a <- cellOf env x.1;pure (ForInStep.yield ((x.1,a) :: cs)) else pure (ForInStep.yield cs):Sem (ForInStep (List (Str × Addr)))))=pure (So env.cells names acc)
 | [],acc,_=>rfl
 | (n,k) :: r,acc,h=>by
  have ih:=λacc=>iG r acc λy hy=>h y (Yh _ hy);rw[List.forIn_cons];unfold So;by_cases hk:(k == NameKind.free)=true
  .obtain⟨c,hc⟩:=h (n,k) Ye (by simpa using hk);have e:cellOf env n=pure c:=by unfold cellOf;rw[show env.cells.lookup n=some c from hc]
   simp only [hk,OW,e,pure_bind];rw[ih,show env.cells.lookup n=some c from hc];rfl
  .simp only [hk,GU,KR,pure_bind];exact ih acc
theorem az{env:Env}{scope:Scope}(h:∀ y∈scope.names,y.2=.free->∃ c,env.cells.lookup y.1=some c):closureFor scope env=pure (So env.cells scope.names []):=by have e:=iG scope.names [] h;unfold closureFor;simp only [bind_pure]at e ⊢;exact e
theorem uK{env:Env}:∀(names:List (Str × NameKind)) (acc:List (Str × Addr)),(∀ y∈names,y.2=.free->∃ c,env.cells.lookup y.1=some c)->(∀ x c,acc.lookup x=some c->env.cells.lookup x=some c) ->
  ∀ x c,(So env.cells names acc).lookup x=some c->env.cells.lookup x=some c
 | [],acc,_,ha,x,c,e=>ha x c e
 | (n,k) :: r,acc,h,ha,x,c,e=>by
  unfold So at e;by_cases hk:(k == NameKind.free)=true
  .rw[if_pos hk]at e;obtain⟨d,hd⟩:=h (n,k) Ye (by simpa using hk);refine uK r _ (λy hy=>h y (Yh _ hy)) (λy b q=>?_) x c e;rw[Mt]at q;by_cases hy:(y == n)=true
   .rw[hy]at q;have Ka:y=n:=by simpa using hy
    have TZ:env.cells.lookup n=some d:=hd;rw[TZ]at q;have q':d=b:=Yi q
    rw[Ka,TZ,q']
   .have Ka:(y == n)=false:=by simpa using hy
    rw[Ka]at q;exact ha y b q
  .rw[if_neg hk]at e;exact uK r acc (λy hy=>h y (Yh _ hy)) ha x c e
theorem uJ{cells:List (Str × Addr)}:∀(names:List (Str × NameKind)) (acc:List (Str × Addr)) (x:Str),(acc.lookup x).isSome=true->((So cells names acc).lookup x).isSome=true
 | [],_,_,h=>h
 | (n,k) :: r,acc,x,h=>by
  unfold So;by_cases hk:(k == NameKind.free)=true
  .rw[if_pos hk];refine uJ r _ x ?_;rw[Mt];by_cases hx:(x == n)=true
   .rw[hx];rfl
   .have Vd:(x == n)=false:=by simpa using hx
    rw[Vd];exact h
  .rw[if_neg hk];exact uJ r acc x h
theorem zH{cells:List (Str × Addr)}:∀(names:List (Str × NameKind)) (acc:List (Str × Addr)) (x:Str),(x,NameKind.free)∈names->((So cells names acc).lookup x).isSome=true
 | [],_,_,h=>nomatch h
 | (n,k) :: r,acc,x,h=>by
  unfold So;rcases Yg.mp h with e | h
  .cases e;rw[if_pos (by rfl)];refine uJ r _ _ ?_;rw[Mt];simp
  .by_cases hk:(k == NameKind.free)=true
   .rw[if_pos hk];exact zH r _ x h
   .rw[if_neg hk];exact zH r _ x h
theorem ZS{env:Env}:∀ {names:List (Str × NameKind)} {x:Str} {k:NameKind},(names.map λ(n,k)=>if (k == NameKind.free && env.scope.kind == .function && env.kindOf n == some .cell) then (n,NameKind.cell) else (n,k)).lookup x=some k ->
  (k=.cell\/k=.free)->(x,NameKind.free)∈names\/(x,NameKind.cell)∈names
 | [],_,_,h,_=>by simp at h
 | (n,q) :: r,x,k,h,hk=>by
  have h':List.lookup x ((if (q == NameKind.free && env.scope.kind == .function && env.kindOf n == some .cell)=true then (n,NameKind.cell) else (n,q)) :: r.map λ(n,k)=>if (k == NameKind.free && env.scope.kind == .function && env.kindOf n == some .cell) then (n,NameKind.cell) else (n,k))=some k:=h;by_cases hc:(q == NameKind.free && env.scope.kind == .function && env.kindOf n == some .cell)=true
  .rw[if_pos hc,Mt]at h';have hq:q=.free:=by simp only [Mr,SW]at hc;exact hc.1.1
   by_cases hx:(x == n)=true
   .have Vd:x=n:=by simpa using hx
    subst Vd;subst hq;exact .inl Ye
   .have Vd:(x == n)=false:=by simpa using hx
    rw[Vd]at h';rcases ZS (env:=env) h' hk with z | z
    .exact .inl (Yh _ z)
    .exact .inr (Yh _ z)
  .rw[if_neg hc,Mt]at h';by_cases hx:(x == n)=true
   .rw[hx]at h';have Vd:x=n:=by simpa using hx
    subst Vd;have e:q=k:=Yi h'
    subst e;rcases hk with rfl | rfl
    .exact .inr Ye
    .exact .inl Ye
   .have Vd:(x == n)=false:=by simpa using hx
    rw[Vd]at h';rcases ZS (env:=env) h' hk with z | z
    .exact .inl (Yh _ z)
    .exact .inr (Yh _ z)
theorem uH{env:Env}:∀ {names:List (Str × NameKind)} {x:Str},names.lookup x=some .free ->
  (names.map λ(n,k)=>if (k == NameKind.free && env.scope.kind == .function && env.kindOf n == some .cell) then (n,NameKind.cell) else (n,k)).lookup x=some .cell \/
  (names.map λ(n,k)=>if (k == NameKind.free && env.scope.kind == .function && env.kindOf n == some .cell) then (n,NameKind.cell) else (n,k)).lookup x=some .free
 | [],_,h=>by simp at h
 | (n,q) :: r,x,h=>by
  show List.lookup x ((if (q == NameKind.free && env.scope.kind == .function && env.kindOf n == some .cell)=true then (n,NameKind.cell) else (n,q)) :: _)=_\/List.lookup x ((if (q == NameKind.free && env.scope.kind == .function && env.kindOf n == some .cell)=true then (n,NameKind.cell) else (n,q)) :: _)=_;rw[Mt]at h;by_cases hc:(q == NameKind.free && env.scope.kind == .function && env.kindOf n == some .cell)=true
  .rw[if_pos hc,Mt];by_cases hx:(x == n)=true
   .rw[hx];exact .inl rfl
   .have Vd:(x == n)=false:=by simpa using hx
    rw[Vd]at h ⊢;exact uH h
  .rw[if_neg hc,Mt];by_cases hx:(x == n)=true
   .rw[hx]at h ⊢;exact .inr h
   .have Vd:(x == n)=false:=by simpa using hx
    rw[Vd]at h ⊢;exact uH h
def UN(X:Cx)(N':List Str)(scope:Scope)(C:Addr)(s:Shared)(H:Hp)(fp:List Addr):Cx where
 prog:=X.prog
 w:=X.w
 K:=X.K
 mg:=X.mg
 base:=X.base
 A:=X.A
 N:=N'
 s₀:=s
 H₀:=H
 env:=compEnvC scope (So X.env.cells scope.names []) C X.env
 outer:=X.stack
 stack:=X.stack
 ex:=fp
 fn:=λ_=>false
 calm:=X.calm
 pn:=[]
 xe:=λ_ _=>False
def σC(o:Nat)(fr:List Nat)(σ:St):St:=List.replicate o none++fr.map λj=>(σ[j]?).join
structure CompScope (sc0:Scope) (N N':List Str) (o:Nat) (fr:List Nat) (scope:Scope):Prop where
 kind:scope.kind=.function
 nocell:(scope.names.all λy=>y.2 != .cell)=true
 loc:(scope.names.all λy=>y.2 != .local || scope.names.lookup y.1 == some .local)=true
 free:(scope.names.all λy=>y.2 != .free || sc0.names.lookup y.1 == some .cell || sc0.names.lookup y.1 == some .free)=true
 len:N'.length=o+fr.length
 sees:((List.range fr.length).all λj=>match fr[j]? with
  | none=>false
  | some y=>match N[y]? with
   | none=>false
   | some x=>N'[o+j]? == some x && scope.names.lookup x == some .free)=true
def Mc(J:It)(g:TG)(tt:TT)(te:TE)(o:Nat)(fr:List Nat)(σ:St)(H1:Hp)(Q:VK):Prop:=∃ W:Nat->Nat->List V->Hp->Prop,(∃ m,W 0 m [] H1)/\∀ i m ys H,W i m ys H ->
 (J.stop i H/\ys.length<=sizeLine/\∀ p,H p=none->Q (.ref p) (upd H p (.lst ys))) \/
 (J.go i H/\ys.length<sizeLine/\∀ x H',J.yld i H x H'->g x (σC o fr σ) H' λσ2 H2=>tt σ2 H2 λb H3=>if b=true then te σ2 H3 λy H4=>∃ m',m'<m/\W (i+1) m' (ys++[y]) H4 else ∃ m',m'<m/\W (i+1) m' ys H3)
def uG(wi:TI)(g:TG)(tt:TT)(te:TE)(o:Nat)(fr:List Nat):TE:=λσ H Q=>wi σ H λJ H1=>Mc J g tt te o fr σ H1 Q
def Qj(o:Nat)(g:TG):Prop:=∀(x:V) (ow fr:St) (H:Hp) (Q:St->Hp->Prop),ow.length=o->g x (ow++fr) H Q->g x (ow++fr) H λσ2 H2=>(∃ EZ,EZ.length=o/\σ2=EZ++fr)/\Q σ2 H2
theorem Zz{o i:Nat}(h:i<o):Qj o (SS i):=λx ow fr H Q hl q=>⟨⟨ow.set i (some x),by rw[SV];exact hl,by rw[List.set_append_left _ _ (by lia)]⟩,q⟩
def NZ(o:Nat)(g:Qu):Prop:=∀(xs:List V) (ow fr:St) (H:Hp) (Q:St->Hp->Prop),ow.length=o->g xs (ow++fr) H Q->g xs (ow++fr) H λσ2 H2=>(∃ EZ,EZ.length=o/\σ2=EZ++fr)/\Q σ2 H2
theorem EY{o:Nat}:NZ o Gf:=λ_ ow _ _ _ hl ⟨e,q⟩=>⟨e,⟨ow,hl,rfl⟩,q⟩
theorem Vc{o i:Nat}{u:Qu}(h:i<o)(h2:NZ o u):NZ o (Ge (SS i) u):=by
 rintro xs ow fr H Q hl ⟨v,r,rfl,q⟩;refine⟨v,r,rfl,?_⟩;have q':u r ((ow++fr).set i (some v)) H Q:=q
 show u r ((ow++fr).set i (some v)) H _;rw[List.set_append_left _ _ (by omega)]at q' ⊢;exact h2 r (ow.set i (some v)) fr H Q (by rw[SV];exact hl) q'
theorem EX{K:Ad}{o n:Nat}{u:Qu}(h:NZ o u):Qj o (Kx K n u):=by rintro x ow fr H Q hl ⟨a,xs,rfl,hs,hn,q⟩;exact⟨a,xs,rfl,hs,hn,h xs ow fr H Q hl q⟩
section
variable{X:Cx}{pins:List (Addr × Obj)}{σ:St}{H:Hp}{s:Shared}{N':List Str}{o:Nat}{fr:List Nat}{scope:Scope}{fp:List Addr}
abbrev UM (us:Ag):Obj:={ cls:=.type "list",data:=.seq us.toArray us.length }
theorem CompScope.nocell'{sc0:Scope}{N:List Str}(S:CompScope sc0 N N' o fr scope):∀ y∈scope.names,y.2≠.cell:=λy hy e=>by have q:=QD.mp S.nocell y hy;rw[e]at q;exact absurd q (by decide)
theorem CompScope.loc'{sc0:Scope}{N:List Str}(S:CompScope sc0 N N' o fr scope):∀ y∈scope.names,y.2=.local->scope.names.lookup y.1=some .local:=λy hy e=>by have q:=QD.mp S.loc y hy;rw[e]at q;simpa using q
theorem CompScope.free'{sc0:Scope}{N:List Str}(S:CompScope sc0 N N' o fr scope)(hs:X.env.scope=sc0):∀ y∈scope.names,y.2=.free->X.env.kindOf y.1=some .cell\/X.env.kindOf y.1=some .free:=λy hy e=>by
 have q:=QD.mp S.free y hy;rw[e]at q;show X.env.scope.names.lookup y.1=_\/X.env.scope.names.lookup y.1=_
 rw[hs];simpa using q
theorem CompScope.sees'{sc0:Scope}{N:List Str}(S:CompScope sc0 N N' o fr scope):∀ j y,fr[j]?=some y->∃ x,N[y]?=some x/\N'[o+j]?=some x/\scope.names.lookup x=some .free:=λj y e=>by
 have hj:j<fr.length:=(Xp.mp e).1;have q:=QD.mp S.sees j (YI.mpr hj)
 rw[e]at q;dsimp only at q;cases ex:N[y]? with
 | none=>rw[ex]at q;cases q
 | some x =>
  rw[ex]at q;dsimp only at q;rw[Mr,SW,SW]at q;exact⟨x,rfl,q.1,q.2⟩
theorem CompScope.cells{sc0:Scope}{N0:List Str}(S:CompScope sc0 N0 N' o fr scope)(hs:X.env.scope=sc0)(I:Inv X pins σ H s):∀ y∈scope.names,y.2=.free->∃ c,X.env.cells.lookup y.1=some c:=λy hy e=>I.ok.has y.1 (S.free' hs y hy e)
theorem CompScope.sub{sc0:Scope}{N0:List Str}(S:CompScope sc0 N0 N' o fr scope)(hs:X.env.scope=sc0)(I:Inv X pins σ H s):∀ x c,(So X.env.cells scope.names []).lookup x=some c->X.env.cells.lookup x=some c :=
 uK (env:=X.env) scope.names [] (S.cells hs I) (λ_ _ z=>nomatch z)
theorem Inv.block{sc0:Scope}{N0:List Str}(S:CompScope sc0 N0 N' o fr scope)(hs:X.env.scope=sc0)(hN:X.N=N0)(I:Inv X pins σ H s)(hf:∀ b∈fp,FpOk X pins H b)(RF:∀ b∈fp,b<s.heap.objs.size){h1:Heap}{C D:Addr}{m:Af}{us:Ag}{t:Nat}
  (hC:s.heap.objs.size<=C) (hD:s.heap.objs.size<=D) (OR:D≠C)
  (old:∀ b ob,s.heap.get? b=some ob->h1.get? b=some ob) (hn:h1.Ns C m) (ha:h1.get? D=some (UM us)):Inv (UN X N' scope C s H fp) [(D,UM us)] (σC o fr σ) H { s with heap:=h1,toks:=t }:=by
 have sub:=S.sub hs I;have ay:∀ b∈Wr X.stack,b<s.heap.objs.size:=λb hb=>by obtain⟨_,ob,ho,_⟩:=I.stack.mem hb;exact Yl ho
 refine⟨⟨I.ok.mod,S.kind,I.ok.glob,I.ok.blt,hC,λx y c h1 h2=>I.ok.inj x y c (sub x c h1) (sub y c h2),λx hx=>?_,λx c ax _=>(nomatch ax),I.ok.hd,I.ok.frames,.inl rfl,λb hb=>?_,I.bs,Yr I.ok.bsz I.sz,λb ob e hb=>?_,λb hb Qi=>?_,I.stack,I.stkFree⟩,
  rfl,I.bare,Un.kept old,⟨m,hn,λi x v e1 e2 e3=>?_⟩,λx c e=>?_,I.hok.fresh hC,λx c e=>I.freeC x c (sub x c e),λp hp=>?_,I.hok.kept old,?_⟩
 .have Vd:(relabel scope X.env).names.lookup x=some .cell\/(relabel scope X.env).names.lookup x=some .free:=hx;have key:(x,NameKind.free)∈scope.names:=by
   rcases Vd with z | z
   .rcases ZS (env:=X.env) z (.inl rfl) with q | q
    .exact q
    .exact absurd rfl (S.nocell' _ q)
   .rcases ZS (env:=X.env) z (.inr rfl) with q | q
    .exact q
    .exact absurd rfl (S.nocell' _ q)
  exact xB.mp (zH (cells:=X.env.cells) scope.names [] x key)
 .obtain⟨f0,f1,f2,f3,f4,f5⟩:=hf b hb;exact⟨Yt (Ym (RF b hb) hC),λx c e=>f4 x c (sub x c e)⟩
 .obtain⟨f0,f1,f2,f3,f4,f5⟩:=hf b hb;rcases f3 with z | z
  .exact I.ok.noex b ob e z
  .exact absurd (Ym (Yl e) (Yr I.ok.bsz z)) (QX _)
 .obtain⟨f0,f1,f2,f3,f4,f5⟩:=hf b hb;rcases Yg.mp (I.stkSub b Qi) with z | z
  .exact f1 z
  .exact f2 z
 .unfold σC at e2;by_cases hi:i<o
  .rw[Ys (by rw[YG];exact hi),AA,if_pos hi]at e2;cases e2
  .rw[Yq (by rw[YG];exact Nat.not_lt.mp hi),YG,Yp]at e2;cases hy:fr[i - o]? with
   | none=>rw[hy]at e2;cases e2
   | some y =>
    rw[hy]at e2;have zE:(σ[y]?).join=some v:=Yi e2
    have aw:σ[y]?=some (some v):=by
     cases q:σ[y]? with
     | none=>rw[q]at zE;cases zE
     | some z=>rw[q]at zE;exact Xw some zE
    obtain⟨x',s2,s1,s3⟩:=S.sees' (i - o) y hy;rw[<- hN]at s2;rw[show o+(i - o)=i by grind]at s1;have ex:x=x':=by have av:N'[i]?=some x:=e1;rw[av]at s1;exact Yi s1
    subst ex;have hmem:=Lj s3
    obtain⟨m0,_,hl⟩:=I.loc;have hk:=S.free' hs (x,.free) hmem rfl
    obtain⟨u,ru,lk⟩:=hl y x v s2 aw (by rcases hk with z | z;exact .inr (.inl z);exact .inr (.inr z));refine⟨u,ru,.inr ⟨uH (env:=X.env) s3,?_⟩⟩;obtain⟨c',WI⟩:=xB.mp (zH (cells:=X.env.cells) scope.names [] x hmem);refine⟨c',WI,?_⟩;rcases lk with ⟨z,_⟩ | ⟨_,c,e,ob,ho,hd⟩
    .rcases hk with z' | z'
     .rw[z]at z';cases z'
     .rw[z]at z';cases z'
    .have ec:c=c':=by
      have:=sub x c' WI
      rw[e]at this;exact Yi this
     subst ec;exact⟨ob,old _ _ ho,hd⟩
 .obtain⟨v,ob,ho,hd⟩:=I.cell x c (sub x c e);exact⟨v,ob,old _ _ ho,hd⟩
 .have e:p=(D,UM us):=by simpa using (show p∈([]:List (Addr × Obj))++[(D,UM us)] from hp)
  subst e;refine⟨ha,I.hok.fresh hD,OR,λz=>absurd (Ym (ay D z) hD) (QX _),λv z=>nomatch z⟩
 .show(σC o fr σ).length=N'.length;unfold σC;rw[Xs,YG,Yd,S.len]
theorem Inv.unblock(I:Inv X pins σ H s)(hf:∀ b∈fp,FpOk X pins H b){C D:Addr}{us:Ag}{ys:List V}{σ':St}{H':Hp}{s':Shared}(hC:s.heap.objs.size<=C)(hD:s.heap.objs.size<=D)(OR:D≠C)
  (I':Inv (UN X N' scope C s H fp) [(D,UM us)] σ' H' s') (r:Vals ys us) (hz:ys.length<=sizeLine):∃ oC m,s'.heap.get? C=some oC/\s'.heap.Ns C m/\Inv X (pins++[(C,oC)]) σ (upd H' D (.lst ys)) s':=by
 obtain⟨aD,nD,_,_,_⟩:=I'.pin (D,UM us) (by simp);have aD:s'.heap.get? D=some (UM us):=aD
 have nD:H' D=none:=nD;have un:Un (Wr X.stack) fp H H' s.heap s'.heap:=I'.base
 have lt:∀ b u,H b=some u->b≠D:=λb u e=>Yt (Ym (I.hok.lt e) hD);have VI:Un (Wr X.stack) fp H (upd H' D (.lst ys)) s.heap s'.heap:=by
  refine⟨un.keep,un.slot,λb ob e n hx=>?_,un.there,λb xs e=>?_,λb ob u e=>?_,λb ps e=>?_⟩
  .rw[Zb (Yt (Ym (Yl e) hD))];exact un.free b ob e n hx
  .rw[Zb (lt b _ e)];exact un.tups b xs e
  .rw[Zb (lt b _ e)];exact un.frzs b ob u e
  .obtain⟨more,q⟩:=un.tbls b ps e;exact⟨more,by rw[Zb (lt b _ e)];exact q⟩
 have hok:HOk X.prog X.w (upd H' D (.lst ys)) s'.heap:=λb u e=>by
  by_cases hb:b=D
  .subst hb;rw[XS]at e;cases e;exact⟨hz,us,us.length,r,aD⟩
  .rw[Zb hb]at e;exact(I'.hok b u e).stay (λc v _ q=>q) (λc q=>by rw[Zb (Zc q nD)];exact q) λc xs q=>by rw[Zb (Zc q nD)];exact q
 have os:s'.os=s.os:=I'.os;have J:Inv X pins σ (upd H' D (.lst ys)) s':=I.call' (ch:=fp) os VI hok I'.bare λb hb=>by obtain⟨f0,f1,f2,f3,f4,f5⟩:=hf b hb;exact⟨f3,f1,f4,f5⟩
 obtain⟨m,hn,_⟩:=I'.loc;have hn:s'.heap.Ns C m:=hn
 obtain⟨oC,es,ep,uE,au,_⟩:=id hn;refine⟨oC,m,uE,hn,J.pins_of λp hp=>?_⟩;rcases Xy.mp hp with z | z
 .exact J.pin p (Yc _ z)
 .have e:p=(C,oC):=by simpa using z
  subst e;have nC:H' C=none:=I'.free
  refine⟨uE,by rw[Zb (YW OR)];exact nC,RW (Ym I.lt hC),I.nofs hC,λv z=>?_⟩;have z':oC.data=.cell v:=z
  rw[au]at z';cases z'
end
section
variable{X:Cx}{N':List Str}{o:Nat}{fr:List Nat}{scope:Scope}{elt tg iter:Expr}{ifs:List Expr}{pos:Pos}{wi:TI}{g:TG}{tt:TT}{te:TE}
theorem Mb(hc:X.calm=true){sc0:Scope}{N0:List Str}(S:CompScope sc0 N0 N' o fr scope)(hi:PI X tg iter wi)(ho:Qj o g)
  (hg:∀(C:Addr) (s:Shared) (H:Hp) (fp:List Addr),PG (UN X N' scope C s H fp) tg g)
  (ht:∀(C:Addr) (s:Shared) (H:Hp) (fp:List Addr),Fb (UN X N' scope C s H fp) ifs tt)
  (he:∀(C:Addr) (s:Shared) (H:Hp) (fp:List Addr),PE (UN X N' scope C s H fp) elt te)
  (hs:∀ x,foldedSetIterable iter X.env x=pure x) (QR:X.env.scope=sc0) (EW:X.N=N0) {pins:List (Addr × Obj)} {s:Shared} {σ:St} {H:Hp} {Qv:VK} (I:Inv X pins σ H s) (h:uG wi g tt te o fr σ H Qv)
  {use:Option (Value->Sem Unit)} {Q:Ae} {E:Ae}
  (hE:∀ e s',X.xe e s'->E e s')
  (fin:∀(C oC D:_) (m:Af) (H':Hp) (ys:List V) (s':Shared),Inv X (pins++[(C,oC)]) σ (upd H' D (.lst ys)) s'->Qv (.ref D) (upd H' D (.lst ys))->s'.heap.Ns C m->H' C=none->C≠D ->
   C≠X.env.locals->X.s₀.heap.objs.size<=C->(∀ x c,X.env.cells.lookup x=some c->c≠C)->(∀ p∈X.pn++pins,p.1≠C)->compPost (model X.prog X.w) X.A E use Q (.ref D) C (.ok .next) s') :
  wpAny (model X.prog X.w) X.A (comprehension (.ListComp elt [⟨tg,iter,ifs,0⟩] scope pos) scope X.env (firstIterPos [⟨tg,iter,ifs,0⟩] pos) (newList []) false (eval iter X.env) use) Q E s:=by
 refine wpAny_comprehension_free (use:=use) rfl hs (az (S.cells QR I)) S.kind S.loc' (Uj (hi pins s σ H _ I h) (λxv s1 h1=>Uj h1 (λv9 s2 h2=>?_) hE) hE);obtain⟨it,fp,tn,J,H2,rfl,I2,T,Og,f2,W,⟨m0,w0⟩,turn⟩:=h2;have RF:∀ b∈fp,b<s2.heap.objs.size:=λb hb=>by obtain⟨ob,e,_⟩:=T.obj 0 _ Og b hb;exact Yl e
 refine Mu (wpAny_newFunctionEnv S.nocell' (by intro y hy;simp at hy) (λh1 JZ NY=>?_) S.kind);dsimp only at JZ NY ⊢;generalize uD:s2.heap.push { cls:=.type "list",dict:=none,data:=.seq ([]:Ag).toArray }=G at JZ NY ⊢;have iF:G.objs.size=s2.heap.objs.size+1:=by rw[<- uD,UD]
 have hC:s2.heap.objs.size<=G.objs.size:=by rw[iF];exact Uk _
 have OR:s2.heap.objs.size≠G.objs.size:=by rw[iF];exact Yt (OY _)
 have old:∀ b ob,s2.heap.get? b=some ob->h1.get? b=some ob:=λb ob e =>
  NY.extBut b ob (Yt (Ym (Yl e) hC)) (WZ _ (uD ▸ WZ _ e))
 have Uw:h1.get? s2.heap.objs.size=some (UM []):=NY.extBut _ _ OR (WZ _ (uD ▸ Yo _ rfl));have JY:tn 0 h1:=T.keep _ _ _ Og λb _ ob e=>old b ob e
 have uC:∀ {us:Ag} {H':Hp},(∀ b∈fp,H' b=none)->∀ b∈fp,FpOk (UN X N' scope G.objs.size s2 H2 fp) [(s2.heap.objs.size,UM us)] H' b:=λ{us H'} hn b hb=>by
  obtain⟨f0,f1,f3,f4,f5,f6⟩:=f2 b hb;refine⟨hn b hb,Yt (Ym (RF b hb) hC),λz=>?_,.inl hb,λx c e=>f5 x c (S.sub QR I2 x c e),λp hp=>?_⟩
  .rcases Yg.mp (I2.stkSub b z) with q | q
   .exact f1 q
   .exact f3 q
  .have e:p=(s2.heap.objs.size,UM us):=by simpa using (show p∈([]:List (Addr × Obj))++[(s2.heap.objs.size,UM us)] from hp)
   subst e;exact RW (RF b hb)
 have loop:∀ s3:Shared,s3={ s2 with heap:=h1,toks:=s2.toks+([]:List (Str × Value)).length } ->
   codeAny (model X.prog X.w) X.A (.compLoop (.ListComp elt [⟨tg,iter,ifs,0⟩] scope pos) 0 (.ref it) (.ref s2.heap.objs.size) (compEnvC scope (So X.env.cells scope.names []) G.objs.size X.env))
    (compPost (model X.prog X.w) X.A E use Q (.ref s2.heap.objs.size) G.objs.size) s3:=by
  rintro s3 rfl;refine aE (λn s'=>∃ i σ' H' ys us,Inv (UN X N' scope G.objs.size s2 H2 fp) [(s2.heap.objs.size,UM us)] σ' H' s'/\σ'=σC o fr σ/\Vals ys us/\tn i s'.heap/\(∀ b∈fp,H' b=none)/\W i n ys H') ?_ m0
   ⟨0,_,H2,[],[],I2.block S QR EW f2 RF hC (XM _) OR old JZ Uw,rfl,.nil,JY,λb hb=>(f2 b hb).1,w0⟩
  rintro n s' ⟨i,σ',H',ys,us,I',rfl,rv,Tj,iE,w'⟩;rcases turn i n ys H' w' with ⟨stop,hz,q⟩ | ⟨go,hz,step⟩
  .refine thn (T.done (UN X N' scope G.objs.size s2 H2 fp) rfl rfl rfl hc i _ s' _ H' _ I' (uC iE) Tj stop) λr s4 ⟨hr,I4⟩=>?_;subst hr;obtain⟨oC,m,uE,hn,J4⟩:=I2.unblock f2 hC (XM _) OR I4 rv hz;exact fin _ oC _ m H' ys s4 J4 (q _ (I4.pin (s2.heap.objs.size,UM us) (by simp)).2.1) hn I4.free (YW OR) (RW (Ym I2.lt hC)) (Yr I2.sz hC)
    (λx c e=>by obtain⟨v,z⟩:=I2.cell x c e;exact Yt (Ym z.lt hC)) λp hp=>Yt (Ym (Yl (I2.pin p hp).1) hC)
  .refine thn (T.item (UN X N' scope G.objs.size s2 H2 fp) rfl rfl rfl hc i _ s' _ H' _ I' (uC iE) Tj go) λr s4 Xv=>?_;obtain⟨u,hr,h4⟩:=Xv;subst hr;refine thn h4 λ_ s5 Xv=>?_;obtain⟨x,H5,I5,r5,y5,Ks,vX⟩:=Xv;have WE:=step x H5 y5
   have uB:=ho x (List.replicate o none) (fr.map λj=>(σ[j]?).join) H5 _ (YG ..) WE;have vW:=I5.pinned (uC (us:=us) vX) (T.obj _ _ Ks)
   refine thn (hg _ _ _ _ _ s5 _ H5 x u _ vW r5 uB) λ_ s6 Xv=>?_;obtain⟨σ6,H6,I6,⟨ow,QQ,e6⟩,q6⟩:=Xv;subst e6;refine thn (ht _ _ _ _ _ s6 _ H6 _ I6 q6) λb s7 Xv=>?_;obtain⟨H7,I7,q7⟩:=Xv;have back:∀ {us':Ag} {σ8:St} {H8:Hp} {s8:Shared},Inv (UN X N' scope G.objs.size s2 H2 fp) ([(s2.heap.objs.size,UM us')]++UA fp s5.heap) (ow++fr.map λj=>(σ[j]?).join) H8 s8 ->
     Inv (UN X N' scope G.objs.size s2 H2 fp) [(s2.heap.objs.size,UM us')] (σC o fr σ) H8 s8/\tn (i+1) s8.heap/\∀ b∈fp,H8 b=none:=λ{us' σ8 H8 s8} I8=>by
    refine⟨I8.unpinned.weak ?_ λj v e=>?_,T.keep _ _ _ Ks λb hb ob e=>(I8.pin (b,ob) (Yc _ (Yc _ (zS hb e)))).1,λb hb=>?_⟩
    .unfold σC;rw[Xs,Xs,YG,QQ]
    .unfold σC at e;by_cases hj:j<o
     .rw[Ys (by rw[YG];exact hj),AA,if_pos hj]at e;cases e
     .rw[Yq (by rw[YG];exact Nat.not_lt.mp hj),YG]at e;rw[Yq (by rw[QQ];exact Nat.not_lt.mp hj),QQ];exact e
    .obtain⟨ob,e,_⟩:=T.obj _ _ Ks b hb;exact(I8.pin (b,ob) (Yc _ (Yc _ (zS hb e)))).2.1
   cases b with
   | false =>
    rw[if_neg Yw]at q7 ⊢;obtain⟨m',hm,w7⟩:=q7;obtain⟨I8,aq,ak⟩:=back (us':=us) (σ8:=[]) I7;exact⟨m',hm,i+1,_,H7,ys,us,I8,rfl,rv,aq,ak,w7⟩
   | true =>
    rw[if_pos rfl]at q7 ⊢;refine thn (he _ _ _ _ _ s7 _ H7 _ I7 q7) λy s8 Xv=>?_;obtain⟨yv,H8,I8,r8,m',hm,w8⟩:=Xv;obtain⟨aD,nD,_,_,_⟩:=I8.pin (s2.heap.objs.size,UM us) (by simp);have aD:s8.heap.get? s2.heap.objs.size=some (UM us):=aD
    have nD:H8 s2.heap.objs.size=none:=nD;have aj:us.length<=sizeLine:=by rw[<- rv.length];exact Oq hz
    refine append_at (hsz:=by show us.toArray.size<=sizeLine;rw[Ya];exact aj) aD λh9 ai ah=>?_;have uz:h9.get? s2.heap.objs.size=some (UM (us++[y])):=by
     rw[ah];show some ({ cls:=.type "list",data:=.seq (us.toArray.push y) (us.length+1) }:Obj)=some { cls:=.type "list",data:=.seq (us++[y]).toArray (us++[y]).length }
     rw[Xs,Yj,List.push_toArray]
    have I9:Inv (UN X N' scope G.objs.size s2 H2 fp) (UA fp s5.heap) (ow++fr.map λj=>(σ[j]?).join) H8 { s8 with heap:=h9 } :=
     (I8.pins_of (pins':=UA fp s5.heap) λp hp=>I8.pin p (Yc _ (Yc _ hp))).turned (t':=s8.toks) (it:=s2.heap.objs.size) (λb ob hb e=>ai.extBut b ob hb e) nD OR (.inr (XM _))
      (λx c e=>by obtain⟨v,z⟩:=I2.cell x c (S.sub QR I2 x c e);exact Yt z.lt)
      λp hp=>by obtain⟨hb,_⟩:=jc (show p∈UA fp s5.heap from by simpa [UN] using hp);exact Yt (RF p.1 hb)
    have af:Inv (UN X N' scope G.objs.size s2 H2 fp) ([(s2.heap.objs.size,UM (us++[y]))]++UA fp s5.heap) (ow++fr.map λj=>(σ[j]?).join) H8 { s8 with heap:=h9 } :=
     I9.pins_of λp hp=>by
      rcases Xy.mp hp with z | z
      .have e:p=(s2.heap.objs.size,UM (us++[y])):=by simpa using z
       subst e;refine⟨uz,nD,OR,λz=>?_,λv z=>nomatch z⟩;obtain⟨_,ob,RE,_⟩:=I2.stack.mem z;exact QX _ (Yl RE)
      .exact I9.pin p (Yc _ z)
    obtain⟨ae,uw,uu⟩:=back (us':=us++[y]) (σ8:=[]) af;exact⟨m',hm,i+1,_,H8,ys++[yv],us++[y],ae,rfl,Vals.append rv (.cons r8 .nil),uw,uu,w8⟩
 exact codeAny_compStart_list (loop _ rfl) (T.self _ 0 _ _ _ JY (loop _ rfl))
theorem Sn(hc:X.calm=true){sc0:Scope}{N0:List Str}(S:CompScope sc0 N0 N' o fr scope)(hi:PI X tg iter wi)(ho:Qj o g)
  (hg:∀(C:Addr) (s:Shared) (H:Hp) (fp:List Addr),PG (UN X N' scope C s H fp) tg g)
  (ht:∀(C:Addr) (s:Shared) (H:Hp) (fp:List Addr),Fb (UN X N' scope C s H fp) ifs tt)
  (he:∀(C:Addr) (s:Shared) (H:Hp) (fp:List Addr),PE (UN X N' scope C s H fp) elt te)
  (hs:∀ x,foldedSetIterable iter X.env x=pure x:=by intro _;rfl) (QR:X.env.scope=sc0:=by rfl) (EW:X.N=N0:=by rfl):PE X (.ListComp elt [⟨tg,iter,ifs,0⟩] scope pos) (uG wi g tt te o fr):=by intro pins s σ H Q I h;rw[eval_ListComp];refine Mb hc S hi ho hg ht he hs QR EW I h (use:=none) (λ_ _ z=>z) λC oC D m H' ys s' J q hn nC ur uq uo um uj=>?_;refine⟨m,hn,λh' OQ=>⟨.ref D,upd H' D (.lst ys),?_,rfl,q⟩⟩;refine J.unpinned.turned (t':=s'.toks) (it:=C) (λb ob hb e=>OQ.extBut b ob hb e) (by rw[Zb ur];exact nC) uq (.inr uo) um uj
theorem NX{i:Nat}{x:Str}{px:Pos}{EV:Pos}(hc:X.calm=true)(hN:X.N.Nodup)(hx:X.N[i]?=some x)(hl:X.env.kindOf x=some .local){sc0:Scope}{N0:List Str}(S:CompScope sc0 N0 N' o fr scope)(hi:PI X tg iter wi)(ho:Qj o g)
  (hg:∀(C:Addr) (s:Shared) (H:Hp) (fp:List Addr),PG (UN X N' scope C s H fp) tg g)
  (ht:∀(C:Addr) (s:Shared) (H:Hp) (fp:List Addr),Fb (UN X N' scope C s H fp) ifs tt)
  (he:∀(C:Addr) (s:Shared) (H:Hp) (fp:List Addr),PE (UN X N' scope C s H fp) elt te)
  (hs:∀ x,foldedSetIterable iter X.env x=pure x:=by intro _;rfl) (QR:X.env.scope=sc0:=by rfl) (EW:X.N=N0:=by rfl)
  (aa:swapsWith (.ListComp elt [⟨tg,iter,ifs,0⟩] scope pos) (some (.Name x px)) EV.line X.env=pure true:=by rfl) :
  PS X (.Assign [.Name x px] (.ListComp elt [⟨tg,iter,ifs,0⟩] scope pos) EV) (Kw (uG wi g tt te o fr) (SS i)):=by
 intro pins s σ H D I h;rw[exec_Assign_Name_used _ _ _ _ aa];refine XU (wpAny_standAt (XU ?_));show wpAny _ X.A (do let _ <- comprehension (.ListComp elt [⟨tg,iter,ifs,0⟩] scope pos) scope X.env (firstIterPos [⟨tg,iter,ifs,0⟩] pos) (newList []) false (eval iter X.env) (some (assign (.Name x px) X.env))) _ _ s
 refine XU (Uj (Mb (Q:=λ_ s'=>SP X pins D .next s') hc S hi ho hg ht he hs QR EW I h (use:=some (assign (.Name x px) X.env)) (λ_ _ z=>z) λC oC Dd m H' ys s' J q hn nC ur uq uo um uj=>?_) (λ_ s' hq=>Yk (Yk hq)) λ_ _ e=>e);show wpAny _ X.A (assign (.Name x px) X.env (.ref Dd)) _ _ _
 refine wpAny_assign_Name (wx J hN hx (.inl hl) (v:=.ref Dd) rfl (λs2 I2=>?_) (.inr hl));have g1:=(I2.pin (C,oC) (by simp)).1
 have g1:s2.heap.get? C=some oC:=g1;have n2:s2.heap.Ns C m:=by
  obtain⟨oc,es,ep,e,r⟩:=hn;have e0:=(J.pin (C,oC) (by simp)).1
  have e0:s'.heap.get? C=some oC:=e0;rw[e]at e0;cases e0;exact⟨_,es,ep,g1,r⟩
 refine⟨m,n2,λh' OQ=>⟨_,upd H' Dd (.lst ys),?_,q⟩⟩;exact I2.unpinned.turned (t':=s2.toks) (it:=C) (λb ob hb e=>OQ.extBut b ob hb e) (by rw[Zb ur];exact nC) uq (.inr uo) um uj
end
section
variable{X:Cx}
theorem ui{x y:V}{us:Ag}(r:Vals [x,y] us):∃ u v,us=[u,v]/\RelV x u/\RelV y v:=by
 cases r with
 | cons a r =>
  cases r with
  | cons b r=>cases r;exact⟨_,_,rfl,a,b⟩
theorem ZM:∀ {ns:Ac} {us:Ag},Vals (ns.map V.int) us->IntsAre us ns
 | [],_,.nil=>.nil
 | n :: ns,_,.cons r t=>by obtain⟨tk,rfl⟩:=r;exact .cons n tk (ZM t)
theorem Zt8:Uh X (.type "range") (λxs H Q=>∃ j:Int,xs=[.int j]/\∀ p,H p=none->Q (.ref p) (upd H p (.rng 0 j))):=by intro pins s σ H xs us Q I r h;obtain⟨j,rfl,q⟩:=h;obtain⟨u,rfl,t,rfl⟩:=RM r;refine call_range_1 ?_;exact⟨.ref s.heap.objs.size,_,I.laid (o:=.rng 0 j) (λb u e=>WZ _ e) (XM _) ⟨_,_,_,Yo _ rfl⟩,rfl,q _ (I.hok.fresh (XM _))⟩
def TN(lo hi:Int):Ac:=(List.range (hi - lo).toNat).map λ(i:Nat)=>lo+(i:Int)
theorem Zr5(lo hi:Int):(TN lo hi).length=(hi - lo).toNat:=by unfold TN;rw[Yd,OZ]
theorem Zq9{lo:Int}{n:Nat}:∀ {us:Ag},us.length=n->(∀(j:Nat) (v:Value),us[j]?=some v->∃ t,v=Value.int (lo+(j:Int)) t)->Vals (((List.range n).map λ(i:Nat)=>lo+(i:Int)).map V.int) us:=by
 induction n generalizing lo with
 | zero =>
  intro us h _;rw[YS.mp h];exact .nil
 | succ n ih =>
  intro us h hv;cases us with
  | nil=>cases h
  | cons u us =>
   rw[List.range_succ_eq_map,WC,WC];refine .cons ?_ ?_
   .obtain⟨t,e⟩:=hv 0 u rfl;exact⟨t,e⟩
   .have q:=ih (lo:=lo+1) (us:=us) (UB h) λj v e=>by obtain⟨t,e'⟩:=hv (j+1) v (by simpa using e);refine⟨t,?_⟩;rw[e'];congr 1;lia
    have e:(List.range n).map (λ(i:Nat)=>lo+1+(i:Int))=((List.range n).map Nat.succ).map (λ(i:Nat)=>lo+(i:Int)):=by
     rw[Mm];refine YX λi _=>?_;show lo+1+(i:Int)=lo+((i+1:Nat):Int)
     lia
    rw[e]at q;exact q
theorem ZO3 (hc:X.calm=true):Uh X (.type "list") (λxs H Q=>∃ p lo hi,xs=[.ref p]/\H p=some (.rng lo hi)/\(-(2 ^ 62)<=lo/\lo<2 ^ 62/\-(2 ^ 62)<=hi/\hi<2 ^ 62)/\(hi - lo).toNat<=16777216 /\
  ∀ l,H l=none->Q (.ref l) (upd H l (.lst ((TN lo hi).map V.int)))):=by
 intro pins s σ H xs us Q I r h;obtain⟨p,lo,hi,rfl,hp,⟨b1,b2,b3,b4⟩,hz,q⟩:=h;obtain⟨u,rfl,ru⟩:=RM r;obtain rfl:u=Value.ref p:=ru;obtain⟨t,u,v,e⟩:=(show ObjOk X.prog X.w H s.heap p (.rng lo hi) from I.hok p _ hp);have hn:Builtin.Range.rangeSize lo hi 1=(((hi - lo).toNat:Nat):Int):=by rw[rangeSize_one];split <;> grind
 refine call_list_range (I.ok.hd hc) (t:=t) (u:=u) (v:=v) e (small_one b1 b2 b3 b4) hn hz λh' tk acc c' hk hS ha=>?_;have hl:acc.toList.length=(hi - lo).toNat:=by rw[YD];exact ha.1
 have rv:Vals ((TN lo hi).map V.int) acc.toList:=Zq9 (lo:=lo) hl λj w ew=>by obtain⟨t,e⟩:=ha.2 j w (by simpa using ew);exact⟨t,by rw[e,Mi]⟩
 refine⟨.ref s.heap.objs.size,_,I.laid (o:=.lst ((TN lo hi).map V.int)) hk (XM _) ⟨?_,acc.toList,c',rv,?_⟩,rfl,q _ (I.hok.fresh (XM _))⟩
 .rw[Yd,Zr5]
  have:sizeLine=16777216:=SX
  lia
 .rw[hS]
def seen(ns:Ac):Ac:=firstMet (λi=>ns.getD i 0) ns.length
theorem uh {T:String}:Uh X (.builtin "isinstance") (λxs H Q=>∃ x t b,xs=[x,.ty T]/\TyOf X.K H x t/\PySem.W.kitOne X.K t (.type T)=some b/\Q (.bl b) H):=by intro pins s σ H xs us Q I r h;obtain⟨x,t,b,rfl,ty,e,q⟩:=h;obtain⟨u,v,rfl,ru,rv⟩:=ui r;obtain rfl:v=Value.type T:=rv;exact bg I ru ty e λtk=>⟨.bl b,H,I.tok tk,rfl,q⟩
def HN(K:Ad)(a:Addr):It :=
 ⟨λi H=>∃ xs x,SqL K H a xs/\xs[i]?=some x,λi H v H'=>∃ T x,H T=none/\v=.ref T/\H'=upd H T (.tup [.int i,x])/\∀ xs,SqL K H a xs->xs[i]?=some x,λi H=>∃ xs,SqL K H a xs/\xs.length<=i⟩
def EU(K:Ad)(ta:TA):TI:=λσ H R=>ta σ H λvs H1=>∃ a,vs=[.ref a]/\(∃ xs,SqL K H1 a xs)/\R (HN K a) H1
theorem ZC7{P:Program}{w:World}{K:Ad}{elts:List Expr}{x1:Nat}{pos:Pos}(a e it:Addr)(XJ:e≠it):Turn P w K (.Tuple elts x1 pos) (HN K a) [e,it] e (λi h=>(∃ old,IsEnum h e it i old)/\h.IsListIter it a i) where
 mem:=by simp
 obj:=λi h st b hb=>by
  obtain⟨⟨old,he⟩,o,eo,c,d⟩:=st;rcases Yg.mp hb with z | hb
  .subst z;exact⟨_,he,λv z=>by have z':Data.fields _=Data.cell v:=z;cases z'⟩
  .have z:b=it:=by simpa using hb
   subst z;exact⟨o,eo,λv z=>by rw[d]at z;cases z⟩
 keep:=λi h h' st k=>by obtain⟨⟨old,he⟩,hit⟩:=st;exact⟨⟨old,k e (by simp) _ he⟩,hit.at λo x=>k it (by simp) o x⟩
 item:=by
  intro X hP hw hK hc i pins s σ H E I hf st hg;subst hP hw hK;obtain⟨xs,x,hq,hx⟩:=hg;obtain⟨⟨old,he⟩,hit⟩:=st;obtain⟨XW,rv,p,hz⟩:=I.list hq;obtain⟨u,hu,ru⟩:=rv.get hx;obtain⟨f0,f1,f2,f3,f4,f5⟩:=hf e (by simp);obtain⟨g0,g1,g2,g3,g4,g5⟩:=hf it (by simp);have ug:H s.heap.objs.size=none:=I.hok.fresh (XM _)
  refine wpAny_pyNext_enum_item he hit p.isList (x:=u) (by simpa using hu) XJ λh' ho uf hT hsz hk=>?_;have OP:∀ b ob,s.heap.get? b=some ob->b≠s.heap.objs.size:=λb ob z=>Yt (Yl z)
  have Qh:∀ b ob,H b=some ob->b≠s.heap.objs.size:=λb ob z=>Yt (I.hok.lt z);have OO:∀ b ob,H b=some ob->b≠e/\b≠it:=λb ob z=>⟨λq=>(by rw[q,f0]at z;cases z),λq=>(by rw[q,g0]at z;cases z)⟩
  have I1:Inv X pins σ (upd H s.heap.objs.size (.tup [.int i,x])) { s with heap:=h',toks:=s.toks+1 }:=by
   refine I.step (g':=s.gens) (d':=s.drawn) (ch:=[e,it]) (λb hb=>?_) (λb o _ _ Wv z _=>hk b o (λq=>Wv (by simp[q])) (λq=>Wv (by simp[q])) z) (λb o _ _ Wv z _=>⟨o.slots,hk b o (λq=>Wv (by simp[q])) (λq=>Wv (by simp[q])) z⟩)
    (λb o _ z n=>by rw[Zb (OP b o z)];exact n) (λb o Wv z=>⟨o,hk b o (λq=>Wv (by simp[q])) (λq=>Wv (by simp[q])) z⟩) (λb ys z=>by rw[Zb (Qh b _ z)];exact z) (λb o v z=>by rw[Zb (Qh b _ z)];exact z)
    (λb ps z=>⟨#[],by rw[Zb (Qh b _ z),z];simp⟩) (λm hm=>?_) (λb v z=>?_) I.bare
   .rcases Yg.mp hb with q | hb
    .rw[q];exact⟨f3,f1,f4,f5⟩
    .have q:b=it:=by simpa using hb
     rw[q];exact⟨g3,g1,g4,g5⟩
   .obtain⟨o,es,ep,WQ,r⟩:=hm;exact⟨o,es,ep,hk _ o (YW f1) (YW g1) WQ,r⟩
   .by_cases hb:b=s.heap.objs.size
    .subst hb;rw[XS]at z;cases z;exact⟨by show 2<=sizeLine;decide,[.int i s.toks,u],.cons ⟨_,rfl⟩ (.cons ru .nil),⟨_,hT,rfl,_,rfl⟩⟩
    .rw[Zb hb]at z;refine(I.hok b v z).stay (λc w' WI q=>?_) (λc q=>by rw[Zb (Qh c _ q)];exact q) λc ys q=>by rw[Zb (Qh c _ q)];exact q
     rcases WI with rfl | WI
     .exact hk c w' (OO c _ z).1 (OO c _ z).2 q
     .exact hk c w' (OO c _ WI).1 (OO c _ WI).2 q
  refine⟨_,rfl,wpAny_letOwnedTupleGo_enum ho λh2 Qg RL=>?_⟩;have fT:e≠s.heap.objs.size:=OP e _ he
  have I2:Inv X pins σ (upd H s.heap.objs.size (.tup [.int i,x])) { s with heap:=h2,toks:=s.toks+1 }:=Inv.turned (s:={ s with heap:=h',toks:=s.toks+1 }) (h':=h2) (t':=s.toks+1) (it:=e) I1 (λb o hb z=>RL.extBut b o hb z) (by rw[Zb fT];exact f0) f1 f3 f4 f5;refine⟨.ref s.heap.objs.size,_,I2,rfl,⟨_,x,ug,rfl,rfl,λys hy=>by rw[I.list_inj hy hq];exact hx⟩,⟨⟨u,by simpa using Qg⟩,uf.at λo z=>RL.extBut it o (YW XJ) z⟩,λb hb=>?_⟩;rcases Yg.mp hb with q | hb
  .rw[q,Zb fT];exact f0
  .have q:b=it:=by simpa using hb
   obtain⟨o,eo,_⟩:=hit;rw[q,Zb (OP it o eo)];exact g0
 done:=by
  intro X hP hw hK hc i pins s σ H E I hf st hg;subst hP hw hK;obtain⟨xs,hq,hx⟩:=hg;obtain⟨⟨old,he⟩,hit⟩:=st;obtain⟨XW,rv,p,hz⟩:=I.list hq;obtain⟨g0,g1,g2,g3,g4,g5⟩:=hf it (by simp);have hl:=rv.length
  exact wpAny_pyNext_enum_end (I.ok.hd hc) he hit p.isList (by simp;lia) λh' eb=>⟨rfl,I.turned (t':=s.toks) (it:=it) (λb o hb z=>eb b o hb z) g0 g1 g3 g4 g5⟩
 self:=λ_ _ _ _ _ st h=>let ⟨⟨_,he⟩,_⟩:=st;wpAny_pyIter_enum he h
theorem ue {elts:List Expr} {x1:Nat} {SR:Pos} {a:Expr} {ta:TA} {p pos:Pos} (hg:Gl X "enumerate") (hm:X.mg "enumerate"=none) (ha:PA X [a] ta) (hs:starEach [a] X.env=[(false,eval a X.env)]:=by rfl) :
  PI X (.Tuple elts x1 SR) (.Call (.Name "enumerate" p) [a] [] pos) (EU X.K ta):=by
 intro pins s σ H R I h;refine Call_ (QW I hg hm Boot.«enumerate» (Ln (thn (ha pos pins s σ H _ I h) λus s1 Xv=>?_) hs rfl));obtain⟨vs,H1,I1,r1,q1⟩:=Xv;obtain⟨b,e,⟨xs,hq⟩,q⟩:=q1;subst e;obtain⟨u,rfl,ru⟩:=RM r1;obtain rfl:u=Value.ref b:=ru;obtain⟨XW,rv,pl,hz⟩:=I1.list hq;refine call_enumerate_list pl.isList λh' he hit hsz hk=>?_;have I2:Inv X pins σ H1 { s1 with heap:=h' }:=I1.kept (t':=s1.toks) hk
 refine wpAny_pyIter_enum he ?_;have nn:∀ k,s1.heap.objs.size<=k->H1 k=none:=λk hk=>I1.hok.fresh hk
 refine⟨s1.heap.objs.size+1,[s1.heap.objs.size+1,s1.heap.objs.size],_,_,H1,rfl,I2,ZC7 b _ _ (Nat.succ_ne_self _),⟨⟨_,he⟩,hit⟩,λc hc=>?_,q⟩;have hle:s1.heap.objs.size<=c:=by
  rcases Yg.mp hc with q | hc
  .rw[q];exact Uk _
  .have q:c=s1.heap.objs.size:=by simpa using hc
   rw[q];exact XM _
 exact I1.fpOk hle (nn c hle)
theorem ud{k:Key}{y:V}{us:Ag}(r:Vals [kV k,y] us):∃ u v,us=[u,v]/\RelV (kV k) u/\RelV y v:=ui r
def uc:V->List V->Hp->VK->Prop:=λx vs H Q=>∃ d kvs k y,x=.ref d/\vs=[kV k,y]/\H d=some (.dK kvs)/\kvs.length<sizeLine/\(∀ v,WB kvs k=some v->Q v H)/\(WB kvs k=none->Q y (upd H d (.dK (kvs++[(k,y)]))))
theorem ZF3:Md X "dict.setdefault" uc:=by
 intro pins s σ H x vs v us Q I rx rv h;obtain⟨d,kvs,k,y,rfl,rfl,hH,hz,h1,h2⟩:=h;cases rx;obtain⟨uk,uy,rfl,rk,ry⟩:=ud rv;obtain⟨z,hd,ws,rel,dd⟩:=Ke I.hok hH;refine call_meetsIn jN dd.typeIs PySem.F.entry_dict_setdefault (PySem.F.args_dict_setdefault_3 _ _ _) (kt_meets_setdefault (VW X.prog X.w) d (uS rk) hd uy)
  ⟨ws,dd,by rw[<- rel.length];exact z,λv' zN=>?_,λhn h' iD hs=>?_⟩
 .cases e:WB kvs k with
  | none =>
   have q:=rel.val k;rw[e,zN]at q;exact False.elim q
  | some w' =>
   have q:=rel.val k;rw[e,zN]at q;exact⟨w',H,I.tok _,q,h1 w' e⟩
 .have e:WB kvs k=none:=by
   cases e:WB kvs k with
   | none=>rfl
   | some w' =>
    have q:=rel.val k;rw[e,hn]at q;exact False.elim q
  have he:∃ q,h'.get? d=some q:=let ⟨q,_,_,hq,_⟩:=iD;⟨q,hq⟩
  refine⟨y,_,uP (ob:=.dK (putK kvs k y)) I (by rw[hH];exact True.intro) hs he (uN ?_ hd (rel.put k ry) iD),ry,?_⟩
  .have:=aP kvs k y;lia
  .rw[aO y e];exact h2 e
def RD(p d:Addr):HO:=.ext λh=>h.IsValuesView p d
def t9:V->List V->Hp->VK->Prop:=λx vs H Q=>∃ d kvs,x=.ref d/\vs=[]/\H d=some (.dK kvs)/\∀ p,H p=none->Q (.ref p) (upd H p (RD p d))
theorem ZS7:Md X "dict.values" t9:=by
 intro pins s σ H x vs v us Q I rx rv h;obtain⟨d,kvs,rfl,rfl,hH,q⟩:=h;cases rx;cases rv;obtain⟨z,hd,ws,rel,dd⟩:=Ke I.hok hH;refine call_meetsIn jF dd.typeIs PySem.F.entry_dict_values (PySem.F.args_dict_values_1 _) (meets_dict_values (VW X.prog X.w) d hd) ⟨⟨ws,dd⟩,?_⟩;refine⟨.ref s.heap.objs.size,_,I.laid (o:=RD s.heap.objs.size d) (λb u e=>WZ _ e) (XM _) ?_,rfl,q _ (I.hok.fresh (XM _))⟩;have e:=Yo s.heap (o:={ cls:=.type "dict_values",data:=.fields #[.ref d] }) rfl
 exact⟨⟨_,e,rfl,rfl⟩,⟨_,e⟩,λh1 h2 ⟨o,ho,r⟩ k=>⟨o,k o ho,r⟩⟩
theorem Zq8{P:Program}{w:World}{h:Heap}{d:Addr}{ws:List (Key × Value)}(dd:h.DictOf (VW P w) d ws):∃ ep,h.DictAt (VW P w) d ws ep:=by obtain⟨o,es,ep,r⟩:=dd;exact⟨ep,o,es,r⟩
theorem iC{κ:Type}:∀ {kvs:List (κ × V)} {ws:List (κ × Value)},KV kvs ws->Vals (kvs.map (·.2)) (ws.map (·.2))
 | _,_,.nil=>.nil
 | _,_,.cons r t=>.cons r.2 (iC t)
theorem Zk3 (hc:X.calm=true):Uh X (.type "list") (λxs H Q=>∃ p d kvs,xs=[.ref p]/\H p=some (RD p d)/\H d=some (.dK kvs)/\∀ l,H l=none->Q (.ref l) (upd H l (.lst (kvs.map (·.2))))):=by
 intro pins s σ H xs us Q I r h;obtain⟨p,d,kvs,rfl,hp,hd,q⟩:=h;obtain⟨u,rfl,ru⟩:=RM r;obtain rfl:u=Value.ref p:=ru;obtain⟨hv,_,_⟩:=(show ObjOk X.prog X.w H s.heap p (RD p d) from I.hok p _ hp);obtain⟨z,hds,ws,rel,dd⟩:=Ke I.hok hd;obtain⟨ep,da⟩:=Zq8 dd;have hl:ws.length=kvs.length:=rel.length.symm
 refine PySem.W.kdl_call (PySem.W.kdl_values (knd:=VW X.prog X.w) (kvs:=ws) (ep:=ep) (r:=p) (d:=d)) (I.ok.hd hc) ⟨hv,da⟩ (by lia) λh' tk acc c' hk hS ha=>?_;have ea:acc.toList=ws.map (·.2):=by
  refine RT λi=>?_;cases e:acc.toList[i]? with
  | none =>
   have:ws.length<=i:=by
    have:=jK.mp e
    rw[YD,ha.1]at this;exact this
   rw[jK.mpr (by rw[Yd];exact this)]
  | some v =>
   obtain⟨k,ek⟩:=ha.2 i v (by simpa using e);rw[Yp,ek];rfl
 refine⟨.ref s.heap.objs.size,_,I.laid (o:=.lst (kvs.map (·.2))) hk (XM _) ⟨by rw[Yd];exact z,acc.toList,c',?_,by rw[hS]⟩,rfl,q _ (I.hok.fresh (XM _))⟩;rw[ea];exact iC rel
end
inductive EqD (K:Ad) (H:Hp):Nat->V->V->Bool->Prop
 | flat {n:Nat} {x y:V} (fx:Th x=true) (fy:Th y=true):EqD K H n x y (TR x y)
 | lsts {n:Nat} {a b:Addr} {xs ys:List V} {e:Nat->Bool} (ha:SqL K H a xs) (hb:SqL K H b ys) (hl:xs.length=ys.length) (h:∀ i x y,xs[i]?=some x->ys[i]?=some y->EqD K H n x y (e i)):EqD K H (n+1) (.ref a) (.ref b) ((List.range xs.length).all e)
 | lens {n:Nat} {a b:Addr} {xs ys:List V} (ha:SqL K H a xs) (hb:SqL K H b ys) (hl:xs.length≠ys.length):EqD K H (n+1) (.ref a) (.ref b) false
 | tups {n:Nat} {a b:Addr} {xs ys:List V} {e:Nat->Bool} (ha:SqT K H a xs) (hb:SqT K H b ys) (h:∀ i x y,xs[i]?=some x->ys[i]?=some y->EqD K H n x y (e i)) :
   EqD K H (n+1) (.ref a) (.ref b) ((List.range (min xs.length ys.length)).all e && xs.length == ys.length)
theorem t8{x:V}(h:Th x=true):TR x x=true:=by cases x <;> first | rfl | (simp[TR];done) | exact absurd (show false=true from h) Yw
section
variable{X:Cx}{pins:List (Addr × Obj)}{σ:St}{H:Hp}{s:Shared}
theorem Vals.at{xs:List V}{us:Ag}{j:Nat}(r:Vals xs us)(h:j<us.length):∃ x,xs[j]?=some x/\RelV x us[j]:=by
 have hl:=r.length;have hx:xs[j]?=some (xs[j]'(by lia)):=Xr (by omega)
 obtain⟨u,e,ru⟩:=r.get hx;rw[Xr h]at e;cases e;exact⟨_,hx,ru⟩
theorem EqD.self{n:Nat}{x y:V}{b:Bool}(q:EqD X.K H n x y b)(I:Inv X pins σ H s):x=y->b=true:=by
 induction q with
 | flat fx fy=>intro e;subst e;exact t8 fx
 | @lsts n a b xs ys e ha hb hl h ih =>
  intro z;cases z;have e1:xs=ys:=I.list_inj ha hb
  subst e1;rw[QD];intro i hi;have hx:xs[i]?=some (xs[i]'(YI.mp hi)):=Xr _
  exact ih i _ _ hx hx rfl
 | @lens n a b xs ys ha hb hl =>
  intro z;cases z;exact absurd (Xw List.length (I.list_inj ha hb)) hl
 | @tups n a b xs ys e ha hb h ih =>
  intro z;cases z;have e1:xs=ys:=I.tuple_inj ha hb
  subst e1;rw[Nat.min_self,Mr,QD];refine⟨λi hi=>?_,by simp⟩;have hx:xs[i]?=some (xs[i]'(YI.mp hi)):=Xr _
  exact ih i _ _ hx hx rfl
theorem EqD.at{n:Nat}{x y:V}{b:Bool}(q:EqD X.K H n x y b)(I:Inv X pins σ H s):∀ {A:Around} {u v:Value},A.units+n<cLine->RelV x u->RelV y v->SeqAt.EqAt A s u v b:=by
 induction q with
 | flat fx fy=>intro A u v _ ru rv;exact Fs ru rv fx fy
 | @lsts n a b xs ys e ha hb hl h ih =>
  intro A u v hu ru rv;obtain rfl:u=Value.ref a:=ru;obtain rfl:v=Value.ref b:=rv;by_cases VN:a=b
  .have z:=EqD.self (EqD.lsts ha hb hl h) I (Xw V.ref VN);rw[z,VN];exact SeqAt.EqAt.same _
  obtain⟨us,rx,px,_⟩:=I.list ha;obtain⟨vs,ry,py,_⟩:=I.list hb;have l1:=rx.length
  have l2:=ry.length;have z:=SeqAt.RcAt.lists (A:=A) (s:=s) (e:=e) px.isList py.isList (by rw[Ya,Ya];lia) (by lia) λj h1 h2=>by obtain⟨x,ex,Qf⟩:=rx.at (j:=j) (by simpa using h1);obtain⟨y,ey,Qe⟩:=ry.at (j:=j) (by simpa using h2);exact ih j x y ex ey (A:=A.in1) (by show A.units+1+n<cLine;lia) (by simpa using Qf) (by simpa using Qe)
  rw[Ya,<- l1]at z;exact wX VN z
 | @lens n a b xs ys ha hb hl =>
  intro A u v hu ru rv;obtain rfl:u=Value.ref a:=ru;obtain rfl:v=Value.ref b:=rv;obtain⟨us,rx,px,_⟩:=I.list ha;obtain⟨vs,ry,py,_⟩:=I.list hb;have l1:=rx.length
  have l2:=ry.length;have VN:a≠b:=λz=>by subst z;exact hl (Xw List.length (I.list_inj ha hb))
  exact wX VN (SeqAt.RcAt.lists_lengths px.isList py.isList (by rw[Ya,Ya];simp;lia) (by omega))
 | @tups n a b xs ys e ha hb h ih =>
  intro A u v hu ru rv;obtain rfl:u=Value.ref a:=ru;obtain rfl:v=Value.ref b:=rv;by_cases VN:a=b
  .have z:=EqD.self (EqD.tups ha hb h) I (Xw V.ref VN);rw[z,VN];exact SeqAt.EqAt.same _
  obtain⟨us,rx,px,_⟩:=I.tuple ha;obtain⟨vs,ry,py,_⟩:=I.tuple hb;have l1:=rx.length
  have l2:=ry.length;have z:=SeqAt.RcAt.tuples (A:=A) (s:=s) (e:=e) (show s.heap.IsTuple a us.toArray from px) (show s.heap.IsTuple b vs.toArray from py) (by omega) λj h1 h2=>by obtain⟨x,ex,Qf⟩:=rx.at (j:=j) (by simpa using h1);obtain⟨y,ey,Qe⟩:=ry.at (j:=j) (by simpa using h2);exact ih j x y ex ey (A:=A.in1) (by show A.units+1+n<cLine;omega) (by simpa using Qf) (by simpa using Qe)
  rw[Ya,Ya,<- l1,<- l2]at z;exact wX VN z
end
section
variable{X:Cx}
def NW(K:Ad)(neg:Bool):R2:=λx y H Q=>∃ n b p q,x=.ref p/\y=.ref q/\n<=6/\EqD K H n x y b/\Q (.bl (if neg then !b else b)) H
theorem t7(hu:X.A.units+8<cLine):WH X (compareOp .Eq) (NW X.K false):=by
 intro pins s σ H x y u v Q I ru rv h;obtain⟨n,b,p,q,rfl,rfl,hn,d,hq⟩:=h;obtain rfl:u=Value.ref p:=ru;obtain rfl:v=Value.ref q:=rv;have fin:EP X pins σ Q (.bool b) s:=⟨.bl b,H,I,rfl,hq⟩
 cases d with
 | flat fx fy=>exact absurd (show false=true from fx) Yw
 | @lsts n _ _ xs ys e ha hb hl h =>
  obtain⟨us,rx,px,_⟩:=I.list ha;obtain⟨vs,ry,py,_⟩:=I.list hb;have l1:=rx.length
  have l2:=ry.length;refine SeqAt.eq_listAt (e:=e) px.isList py.isList (by rw[Ya,Ya];lia) (by lia) (λj h1 h2=>?_) (by rw[Ya,<- l1];exact fin);obtain⟨x,ex,Qf⟩:=rx.at (j:=j) (by simpa using h1);obtain⟨y,ey,Qe⟩:=ry.at (j:=j) (by simpa using h2);exact(h j x y ex ey).at I (A:=X.A.in1) (by show X.A.units+1+n<cLine;lia) (by simpa using Qf) (by simpa using Qe)
 | @lens n _ _ xs ys ha hb hl =>
  obtain⟨us,rx,px,_⟩:=I.list ha;obtain⟨vs,ry,py,_⟩:=I.list hb;have l1:=rx.length
  have l2:=ry.length;exact SeqAt.eq_list_lengthsAt px.isList py.isList (by rw[Ya,Ya];simp;lia) (by omega) fin
 | @tups n _ _ xs ys e ha hb h =>
  obtain⟨us,rx,px,_⟩:=I.tuple ha;obtain⟨vs,ry,py,_⟩:=I.tuple hb;have l1:=rx.length
  have l2:=ry.length;refine SeqAt.eq_tupleAt (e:=e) (show s.heap.IsTuple p us.toArray from px) (show s.heap.IsTuple q vs.toArray from py) (by omega) (λj h1 h2=>?_) (by rw[Ya,Ya,<- l1,<- l2];exact fin);obtain⟨x,ex,Qf⟩:=rx.at (j:=j) (by simpa using h1);obtain⟨y,ey,Qe⟩:=ry.at (j:=j) (by simpa using h2);exact(h j x y ex ey).at I (A:=X.A.in1) (by show X.A.units+1+n<cLine;omega) (by simpa using Qf) (by simpa using Qe)
theorem t6(hu:X.A.units+8<cLine):WH X (compareOp .NotEq) (NW X.K true):=by
 intro pins s σ H x y u v Q I ru rv h;obtain⟨n,b,p,q,rfl,rfl,hn,d,hq⟩:=h;obtain rfl:u=Value.ref p:=ru;obtain rfl:v=Value.ref q:=rv;have fin:EP X pins σ Q (.bool (!b)) s:=⟨.bl (!b),H,I,rfl,hq⟩
 cases d with
 | flat fx fy=>exact absurd (show false=true from fx) Yw
 | @lsts n _ _ xs ys e ha hb hl h =>
  obtain⟨us,rx,px,_⟩:=I.list ha;obtain⟨vs,ry,py,_⟩:=I.list hb;have l1:=rx.length
  have l2:=ry.length;refine SeqAt.RcNeAt.lists (e:=e) px.isList py.isList (by rw[Ya,Ya];omega) (by omega) (λj h1 h2=>?_) _ _ _ _ (by rw[Ya,<- l1];exact fin);obtain⟨x,ex,Qf⟩:=rx.at (j:=j) (by simpa using h1);obtain⟨y,ey,Qe⟩:=ry.at (j:=j) (by simpa using h2);exact(h j x y ex ey).at I (A:=X.A.in1) (by show X.A.units+1+n<cLine;omega) (by simpa using Qf) (by simpa using Qe)
 | @lens n _ _ xs ys ha hb hl =>
  obtain⟨us,rx,px,_⟩:=I.list ha;obtain⟨vs,ry,py,_⟩:=I.list hb;have l1:=rx.length
  have l2:=ry.length;exact SeqAt.RcNeAt.lists_lengths px.isList py.isList (by rw[Ya,Ya];simp;omega) (by omega) _ _ _ _ fin
 | @tups n _ _ xs ys e ha hb h =>
  obtain⟨us,rx,px,_⟩:=I.tuple ha;obtain⟨vs,ry,py,_⟩:=I.tuple hb;have l1:=rx.length
  have l2:=ry.length;refine SeqAt.RcNeAt.tuples (e:=e) (show s.heap.IsTuple p us.toArray from px) (show s.heap.IsTuple q vs.toArray from py) (by omega) (λj h1 h2=>?_) _ _ _ _ (by rw[Ya,Ya,<- l1,<- l2];exact fin);obtain⟨x,ex,Qf⟩:=rx.at (j:=j) (by simpa using h1);obtain⟨y,ey,Qe⟩:=ry.at (j:=j) (by simpa using h2);exact(h j x y ex ey).at I (A:=X.A.in1) (by show X.A.units+1+n<cLine;omega) (by simpa using Qf) (by simpa using Qe)
end
end L2
namespace My
open PySem L2
abbrev IL(ns:Ac):List V:=ns.map V.int
theorem Xq(ns:Ac):(IL ns).length=ns.length:=Yd ..
theorem ET(a b:Ac):IL (a++b)=IL a++IL b:=YR ..
theorem ZY(a:Ac)(r:Int):IL (a++[r])=IL a++[.int r]:=YR ..
theorem ES(a:Ac)(n:Nat):IL (a.take n)=(IL a).take n:=List.map_take ..
theorem t5(a:Ac)(n:Nat):IL (a.drop n)=(IL a).drop n:=List.map_drop ..
theorem t4(a:Ac)(n:Nat)(z:Int):IL (a.set n z)=(IL a).set n (.int z):=List.map_set ..
theorem Ue{ns:Ac}{i:Nat}{z:Int}(h:ns[i]?=some z):(IL ns)[i]?=some (.int z):=by rw[Yp,h];rfl
theorem UL{ns:Ac}{i:Nat}{x:V}(h:(IL ns)[i]?=some x):∃ z,x=.int z/\ns[i]?=some z:=by
 rw[Yp]at h;cases e:ns[i]? with
 | none=>rw[e]at h;cases h
 | some z=>rw[e]at h;exact⟨z,(Yi h).symm,rfl⟩
theorem ZE{H H2:Hp}{a:Addr}{o:HO}(hn:H a=none)(s:Same H H2):Same H (upd H2 a o):=λb u e=>by rw[Zb (Zc e hn)];exact s b u e
theorem Zy{H H2:Hp}{p:Addr}{o:HO}(s:Same H H2)(hp:H2 p=none):Same H (upd H2 p o):=ZE (s.free hp) s
theorem XH{H:Hp}{p:Addr}{o:HO}(hp:H p=none):Same H (upd H p o):=Zy (Same.refl H) hp
theorem Ma{K:Ad}{H H':Hp}{a:Addr}{xs:List V}(e:Same H H')(h:SqT K H a xs):SqT K H' a xs:=by
 rcases h with (h | ⟨o,h⟩) | h
 .exact .inl (.inl (e _ _ h))
 .exact .inl (.inr ⟨o,e _ _ h⟩)
 .exact .inr h
theorem NV{n:Nat}(h:n<=1000000):n<=sizeLine:=Yr h (by decide)
theorem Zo{n:Nat}(h:n<=1000000):n<sizeLine:=GV h (by decide)
theorem JX{A:Around}{k:Nat}(hr:Room k A):A.units+8<cLine:=GV (Nat.add_le_add_left (by decide:8<=64) _) hr.units
theorem ZK{α:Type}{xs:List α}{i:Int}{n:Nat}{x:α}(hi:i=(n:Int))(h:xs[n]?=some x):Wg xs i=some x:=by
 subst hi;have hn:n<xs.length:=(Xp.mp h).1
 unfold Wg OS;rw[if_pos (Int.natCast_nonneg n),if_pos (by omega)];simpa using h
theorem zD{c A B:Prop}[Decidable c](hc:c)(h:A):if decide c=true then A else B:=by rw[if_pos (Yx hc)];exact h
theorem JW{c A B:Prop}[Decidable c](hc:¬ c)(h:B):if decide c=true then A else B:=by rw[if_neg (by simp[hc])];exact h
theorem tZ{c A B:Prop}[Decidable c](hc:c)(h:B):if (!decide c)=true then A else B:=by rw[if_neg (by simp[hc])];exact h
theorem tY{c A B:Prop}[Decidable c](hc:¬ c)(h:A):if (!decide c)=true then A else B:=by rw[if_pos (by simp[hc])];exact h
theorem WT{c A B:Prop}[Decidable c](h1:c->A)(h2:¬ c->B):if decide c=true then A else B:=by
 by_cases h:c
 .exact zD h (h1 h)
 .exact JW h (h2 h)
theorem WM{c A B:Prop}[Decidable c](h1:c->B)(h2:¬ c->A):if (!decide c)=true then A else B:=by
 by_cases h:c
 .exact tZ h (h1 h)
 .exact tY h (h2 h)
theorem tX{b:Bool}{A B:Prop}(h1:b=true->A)(h2:b=false->B):if b=true then A else B:=by
 cases b with
 | true=>exact Ve (h1 rfl)
 | false=>exact VJ (h2 rfl)
theorem ER{b:Bool}{A B:Prop}(h1:b=true->B)(h2:b=false->A):if (!b)=true then A else B:=by
 cases b with
 | true=>exact VJ (h1 rfl)
 | false=>exact Ve (h2 rfl)
def SqK(k:Bool)(K:Ad)(H:Hp)(a:Addr)(xs:List V):Prop:=match k with
 | false=>SqL K H a xs
 | true=>SqT K H a xs
theorem SqK.same{k:Bool}{K:Ad}{H H':Hp}{a:Addr}{xs:List V}(e:Same H H')(h:SqK k K H a xs):SqK k K H' a xs:=by
 cases k with
 | false=>exact e.seq h
 | true=>exact Ma e h
theorem SqK.or{k:Bool}{K:Ad}{H:Hp}{a:Addr}{xs:List V}(h:SqK k K H a xs):SqL K H a xs\/SqT K H a xs:=by
 cases k with
 | false=>exact .inl h
 | true=>exact .inr h
def EO(K:Ad)(tl:TE):TI:=λσ H R=>tl σ H λx H1=>∃ a,x=.ref a/\(((∃ xs,SqL K H1 a xs)/\R (Qs K a) H1)\/((∃ xs,SqT K H1 a xs)/\R (Qr K a) H1))
theorem JV{X:Cx}{tg:Expr}{l:Expr}{tl:TE}(hl:PE X l tl):PI X tg l (EO X.K tl):=by
 intro pins s σ H R I h;refine thn (hl pins s σ H _ I h) λv s1 Xv=>?_;obtain⟨x,H1,I1,r1,q1⟩:=Xv;obtain⟨a,e,q⟩:=q1;subst e;cases r1;rcases q with ⟨⟨xs,hq⟩,q⟩ | ⟨⟨xs,hq⟩,q⟩
 .obtain⟨XW,rv,p,hz⟩:=I1.list hq;refine wW p.isList ?_;refine⟨s1.heap.objs.size,[s1.heap.objs.size],_,_,H1,rfl,I1.kept (t':=s1.toks) λb o e=>WZ _ e,je a _,⟨_,Yo _ rfl,rfl,rfl⟩,λb hb=>?_,q⟩;have e:b=s1.heap.objs.size:=by simpa using hb
  subst e;exact I1.fpOk (XM _) (I1.hok.fresh (XM _))
 .obtain⟨XW,rv,p,hz⟩:=I1.tuple hq;refine wpAny_pyIter_tuple (show s1.heap.IsTuple a XW.toArray from p) ?_;refine⟨s1.heap.objs.size,[s1.heap.objs.size],_,_,H1,rfl,I1.kept (t':=s1.toks) λb o e=>WZ _ e,jd a _,⟨_,Yo _ rfl,rfl,rfl⟩,λb hb=>?_,q⟩;have e:b=s1.heap.objs.size:=by simpa using hb
  subst e;exact I1.fpOk (XM _) (I1.hok.fresh (XM _))
theorem zC{K:Ad}{k:Bool}{a:Addr}{xs:List V}{g:TG}{tb:TS}{D:Ends}{σ:St}{H:Hp}(Pv:Nat->St->Hp->Prop)(h0:Pv 0 σ H)(hl:∀ i σ H,i<=xs.length->Pv i σ H->SqK k K H a xs)
  (hs:∀ i x σ H,xs[i]?=some x->Pv i σ H->g x σ H λσ2 H2=>tb { D with nx:=Pv (i+1),ct:=Pv (i+1),bk:=D.nx } σ2 H2) (hd:∀ σ H,Pv xs.length σ H->D.nx σ H) :
  (((∃ xs,SqL K H a xs)/\∃ W:Nat->Nat->St->Hp->Prop,(∃ m,W 0 m σ H)/\∀ i m σ H,W i m σ H ->
   ((Qs K a).stop i H/\D.nx σ H)\/((Qs K a).go i H/\∃ N:St->Hp->Prop,(∀ σ' H',N σ' H'->∃ m',m'<m/\W (i+1) m' σ' H')/\∀ x H',(Qs K a).yld i H x H'->g x σ H' λσ2 H2=>tb { D with nx:=N,ct:=N,bk:=D.nx } σ2 H2)) \/
  ((∃ xs,SqT K H a xs)/\∃ W:Nat->Nat->St->Hp->Prop,(∃ m,W 0 m σ H)/\∀ i m σ H,W i m σ H ->
   ((Qr K a).stop i H/\D.nx σ H)\/((Qr K a).go i H/\∃ N:St->Hp->Prop,(∀ σ' H',N σ' H'->∃ m',m'<m/\W (i+1) m' σ' H')/\∀ x H',(Qr K a).yld i H x H'->g x σ H' λσ2 H2=>tb { D with nx:=N,ct:=N,bk:=D.nx } σ2 H2))):=by
 cases k with
 | false=>exact .inl ⟨⟨xs,hl 0 σ H (Yn _) h0⟩,vV (K:=K) (a:=a) (xs:=xs) Pv h0 hl hs hd⟩
 | true=>exact .inr ⟨⟨xs,hl 0 σ H (Yn _) h0⟩,FT (K:=K) (a:=a) (xs:=xs) Pv h0 hl hs hd⟩
def PairV(H:Hp)(v:V)(p:Int × Int):Prop:=∃ t,v=.ref t/\H t=some (.tup [.int p.1,.int p.2])
def PairsV(H:Hp)(xs:List V)(ps:Aa):Prop:=xs.length=ps.length/\∀(i:Nat) (p:Int × Int),ps[i]?=some p->∃ v,xs[i]?=some v/\PairV H v p
theorem PairV.same{H H':Hp}{v:V}{p:Int × Int}(s:Same H H')(h:PairV H v p):PairV H' v p:=let ⟨t,e,q⟩:=h;⟨t,e,s _ _ q⟩
theorem PairsV.same{H H':Hp}{xs:List V}{ps:Aa}(s:Same H H')(h:PairsV H xs ps):PairsV H' xs ps:=⟨h.1,λi p e=>let ⟨v,e1,q⟩:=h.2 i p e;⟨v,e1,q.same s⟩⟩
theorem PairsV.at{H:Hp}{xs:List V}{ps:Aa}(h:PairsV H xs ps){i:Nat}{v:V}(e:xs[i]?=some v):∃ p,ps[i]?=some p/\PairV H v p:=by
 have hi:i<xs.length:=(Xp.mp e).1;have hp:i<ps.length:=by rw[<- h.1];exact hi
 obtain⟨v',e1,q⟩:=h.2 i ps[i] (Xr hp);rw[e]at e1;cases e1;exact⟨_,Xr hp,q⟩
theorem PairsV.nil{H:Hp}:PairsV H [] []:=⟨rfl,λi p e=>by simp at e⟩
theorem PairsV.snoc{H:Hp}{xs:List V}{ps:Aa}{v:V}{p:Int × Int}(h:PairsV H xs ps)(q:PairV H v p):PairsV H (xs++[v]) (ps++[p]):=by
 refine⟨by rw[Xs,Xs,h.1];rfl,λi p' e=>?_⟩;by_cases hi:i<ps.length
 .rw[Ys hi]at e;rw[Ys (by rw[h.1];exact hi)];exact h.2 i p' e
 .have hl:i=ps.length:=by
   have:=(Xp.mp e).1
   rw[Xs,Yj]at this;lia
  subst hl;rw[Yq (XM _),Ot]at e;rw[Yq (by rw[h.1];exact XM _),h.1,Ot];have e':p=p':=Yi e
  subst e';exact⟨v,rfl,q⟩
theorem PairsV.app{H:Hp}{xs ys:List V}{ps qs:Aa}(h:PairsV H xs ps)(h2:PairsV H ys qs):PairsV H (xs++ys) (ps++qs):=by
 refine⟨by rw[Xs,Xs,h.1,h2.1],λi p e=>?_⟩;by_cases hi:i<ps.length
 .rw[Ys hi]at e;rw[Ys (by rw[h.1];exact hi)];exact h.2 i p e
 .rw[Yq (by lia)]at e;rw[Yq (by rw[h.1];omega),h.1];exact h2.2 _ p e
theorem tW:¬ (("places":Str)="ties"):=by decide +kernel
def wf (n:Int) (tl:Addr):List (Str × V):=XO "ties" (.ref tl) (XO "places" (.int n) [])
theorem JU (n:Int) (tl:Addr):(wf n tl).lookup ("places":Str)=some (.int n):=by unfold wf;rw[FI,if_neg tW,FI,if_pos rfl]
theorem ON (n:Int) (tl:Addr):(wf n tl).lookup ("ties":Str)=some (.ref tl):=by unfold wf;rw[FI,if_pos rfl]
def WebAt(C:Addr)(H:Hp)(w:Addr)(n:Int)(ps:Aa):Prop:=∃ dx tl xs,H w=some (.ins C dx (wf n tl))/\H tl=some (.lst xs)/\PairsV H xs ps
theorem WebAt.same{C:Addr}{H H':Hp}{w:Addr}{n:Int}{ps:Aa}(s:Same H H')(h:WebAt C H w n ps):WebAt C H' w n ps:=let ⟨dx,tl,xs,a,b,c⟩:=h;⟨dx,tl,xs,s _ _ a,s _ _ b,c.same s⟩
def Zv(n:Int)(ps:Aa):Prop:=1<=n/\n<=14/\ps.length<=30/\∀ p∈ps,0<=p.1/\p.1<n/\0<=p.2/\p.2<n
def FX(K:Ad)(mg:Af)(x qual:Str)(st:Stmt):Prop:=∃(f:Addr) (fd:FuncData),mg x=some (.ref f)/\Fun K x qual st f fd
theorem XR{K:Ad}{h:Heap}{mg:Af}{x:Str}{st:Stmt}{f:Addr}{oc:Value}{od an:Option Addr}{Ux:Array (Option Value)}{kV doc pm Xz ct:Value}(X:K.In h)(G:h.Ns mainGlobals mg)
  (a:PySem.W.nsIn K mainGlobals x=some (some (.ref f))) (l:K.lookup f=some ⟨oc,od,.func (PySem.W.fnOf x x (Kc st) (Ql st) (XA st) .none kV doc pm an Xz ct),Ux⟩) (c:PySem.W.codeIn K Xz x=true) (k:PySem.W.keepIn K (.ref f)=true):FX K mg x x st :=
 ⟨f,_,Mo X G a,Kb l c k⟩
def iz (K:Ad) (mg:Af) (x qual:Str) (st:Stmt) (fs:List Str):Prop:=∃(C f:Addr) (fd:FuncData),mg x=some (.ref C)/\Fun K "__init__" qual st f fd/\Cls K C/\Mk K C f/\∀ a∈fs,NoAttr K C a
theorem EN{K:Ad}{h:Heap}{mg:Af}{x qual:Str}{fs:List Str}{st:Stmt}{C f:Addr}{oc:Value}{od an:Option Addr}{Ux:Array (Option Value)}{kV doc pm Xz ct:Value}(X:K.In h)(G:h.Ns mainGlobals mg)
  (aC:PySem.W.nsIn K mainGlobals x=some (some (.ref C))) (a:PySem.W.findIn K (.ref C) "__init__"=some (some (.ref f))) (i:PySem.W.isFn K (.ref f)=true)
  (l:K.lookup f=some ⟨oc,od,.func (PySem.W.fnOf "__init__" qual (Kc st) (Ql st) (XA st) .none kV doc pm an Xz ct),Ux⟩) (c:PySem.W.codeIn K Xz qual=true) (k:PySem.W.keepIn K (.ref f)=true)
  (pg:PySem.W.plainGet K C Str.empty=true) (hd:PySem.W.hasDictIn K C=true) (po:PySem.W.plainOver K C=true) (sa:PySem.W.findIn K (.ref C) "__setattr__"=some (some (.builtin "object.__setattr__"))) (mk:PySem.W.makesIn K C=true) (kc:PySem.W.keepIn K (.ref C)=true)
  (na:∀ a∈fs,PySem.W.findIn K (.ref C) a=some none):iz K mg x qual st fs :=
 ⟨C,f,_,Mo X G aC,Kb l c k,⟨pg,hd,po,sa⟩,⟨mk,a,i,kc⟩,na⟩
theorem TM{K:Ad}{h:Heap}{mg:Af}{x:Str}{z:Int}{v:Value}(X:K.In h)(G:h.Ns mainGlobals mg)(a:PySem.W.nsIn K mainGlobals x=some (some v))(e:∃ tk,v=.int z tk):∃ tk,mg x=some (.int z tk):=by obtain⟨tk,rfl⟩:=e;exact⟨tk,Mo X G a⟩
theorem iy{i:Nat}{x:V}{σ:St}{H:Hp}{A B:St->Hp->Prop}(h:A (σ.set i (some x)) H):SS i x σ H λσ2 H2=>tYes σ2 H2 λb H3=>if b=true then A σ2 H3 else B σ2 H3 :=
 (show if true=true then A (σ.set i (some x)) H else B (σ.set i (some x)) H from Ve h)
theorem nm{i:Nat}{x:V}{σ:St}{H:Hp}{Q:St->Hp->Prop}(h:Q (σ.set i (some x)) H):SS i x σ H Q:=h
section
variable{K:Ad}{a:Addr}{xs:List V}{g:TG}{tt:TT}{te:TE}{o:Nat}{fr:List Nat}{σ:St}{H:Hp}{Q:VK}
abbrev HM(Pv:Nat->List V->Hp->Prop)(g:TG)(tt:TT)(te:TE)(o:Nat)(fr:List Nat)(σ:St)(i:Nat)(x:V)(ys:List V)(H:Hp):Prop :=
 ∀ S:Nat->List V->Hp->Prop,(∀ ys H,Pv (i+1) ys H->S (i+1) ys H)->g x (σC o fr σ) H λσ2 H2=>tt σ2 H2 λb H3=>if b=true then te σ2 H3 λy H4=>S (i+1) (ys++[y]) H4 else S (i+1) ys H3
theorem NU(Pv:Nat->List V->Hp->Prop)(h0:Pv 0 [] H)(hz:xs.length<sizeLine)(hl:∀ i ys H,i<=xs.length->Pv i ys H->SqL K H a xs/\ys.length<=i)
  (hs:∀ i x ys H,xs[i]?=some x->Pv i ys H->HM Pv g tt te o fr σ i x ys H) (hd:∀ ys H,Pv xs.length ys H->∀ p,H p=none->Q (.ref p) (upd H p (.lst ys))):Mc (Qs K a) g tt te o fr σ H Q:=by
 refine⟨λi m ys H=>m=xs.length - i/\i<=xs.length/\Pv i ys H,⟨xs.length,by simp,Yn _,h0⟩,?_⟩;rintro i m ys H ⟨rfl,hi,p⟩;obtain⟨q,hy⟩:=hl i ys H hi p;by_cases Xi:i<xs.length
 .refine .inr ⟨⟨xs,xs[i],q,by simp[Xi]⟩,by lia,λx H' ⟨e,y⟩=>?_⟩;subst e;have hx:=y xs q
  exact hs i x ys _ hx p (λj ys H=>∃ m',m'<xs.length - i/\m'=xs.length - j/\j<=xs.length/\Pv j ys H) λys H p'=>⟨xs.length - (i+1),by grind,rfl,Xi,p'⟩
 .have e:i=xs.length:=by lia
  subst e;exact .inl ⟨⟨xs,q,XM _⟩,by lia,hd ys H p⟩
theorem JT(Pv:Nat->List V->Hp->Prop)(h0:Pv 0 [] H)(hz:xs.length<sizeLine)(hl:∀ i ys H,i<=xs.length->Pv i ys H->SqT K H a xs/\ys.length<=i)
  (hs:∀ i x ys H,xs[i]?=some x->Pv i ys H->HM Pv g tt te o fr σ i x ys H) (hd:∀ ys H,Pv xs.length ys H->∀ p,H p=none->Q (.ref p) (upd H p (.lst ys))):Mc (Qr K a) g tt te o fr σ H Q:=by
 refine⟨λi m ys H=>m=xs.length - i/\i<=xs.length/\Pv i ys H,⟨xs.length,by simp,Yn _,h0⟩,?_⟩;rintro i m ys H ⟨rfl,hi,p⟩;obtain⟨q,hy⟩:=hl i ys H hi p;by_cases Xi:i<xs.length
 .refine .inr ⟨⟨xs,xs[i],q,by simp[Xi]⟩,by omega,λx H' ⟨e,y⟩=>?_⟩;subst e;have hx:=y xs q
  exact hs i x ys _ hx p (λj ys H=>∃ m',m'<xs.length - i/\m'=xs.length - j/\j<=xs.length/\Pv j ys H) λys H p'=>⟨xs.length - (i+1),by omega,rfl,Xi,p'⟩
 .have e:i=xs.length:=by omega
  subst e;exact .inl ⟨⟨xs,q,XM _⟩,by omega,hd ys H p⟩
theorem NT{k:Bool}(Pv:Nat->List V->Hp->Prop)(h0:Pv 0 [] H)(hz:xs.length<sizeLine)(hl:∀ i ys H,i<=xs.length->Pv i ys H->SqK k K H a xs/\ys.length<=i)
  (hs:∀ i x ys H,xs[i]?=some x->Pv i ys H->HM Pv g tt te o fr σ i x ys H) (hd:∀ ys H,Pv xs.length ys H->∀ p,H p=none->Q (.ref p) (upd H p (.lst ys))) :
  ((∃ xs,SqL K H a xs)/\Mc (Qs K a) g tt te o fr σ H Q)\/((∃ xs,SqT K H a xs)/\Mc (Qr K a) g tt te o fr σ H Q):=by
 cases k with
 | false=>exact .inl ⟨⟨xs,(hl 0 [] H (Yn _) h0).1⟩,NU Pv h0 hz hl hs hd⟩
 | true=>exact .inr ⟨⟨xs,(hl 0 [] H (Yn _) h0).1⟩,JT Pv h0 hz hl hs hd⟩
theorem NS{lo:Int}{n:Nat}(Pv:Nat->List V->Hp->Prop)(h0:Pv 0 [] H)(hz:n<sizeLine)(hl:∀ i ys H,i<=n->Pv i ys H->ys.length<=i)
  (hs:∀ i ys H,i<n->Pv i ys H->HM Pv g tt te o fr σ i (.int (lo+i)) ys H) (hd:∀ ys H,Pv n ys H->∀ p,H p=none->Q (.ref p) (upd H p (.lst ys))):Mc (Ku lo n) g tt te o fr σ H Q:=by
 refine⟨λi m ys H=>m=n - i/\i<=n/\Pv i ys H,⟨n,by simp,Yn _,h0⟩,?_⟩;rintro i m ys H ⟨rfl,hi,p⟩;have hy:=hl i ys H hi p
 by_cases Xi:i<n
 .refine .inr ⟨Xi,by lia,λx H' ⟨e,y⟩=>?_⟩;subst e;subst y;exact hs i ys _ Xi p (λj ys H=>∃ m',m'<n - i/\m'=n - j/\j<=n/\Pv j ys H) λys H p'=>⟨n - (i+1),by grind,rfl,Xi,p'⟩
 .have e:i=n:=by lia
  subst e;exact .inl ⟨XM _,by lia,hd ys H p⟩
end
theorem HL{α:Type}{l:List α}(h:l.Nodup){i j:Nat}{x:α}(a:l[i]?=some x)(b:l[j]?=some x):i=j:=by obtain⟨h1,e1⟩:=Xp.mp a;obtain⟨h2,e2⟩:=Xp.mp b;exact(List.getElem_inj h).mp (e1.trans e2.symm)
theorem ZP{α:Type}{l:List α}{i:Nat}{x d:α}(h:l[i]?=some x):l.getD i d=x:=by rw[WJ,h];rfl
theorem ix{α:Type}{l:List α}{x:α}(h:l.Nodup)(hx:x∉l):(l++[x]).Nodup:=by rw[YT];refine⟨h,by simp,λa ha b hb=>?_⟩;rw[XD]at hb;subst hb;rintro rfl;exact hx ha
theorem zB{K:Ad}{a:Addr}{xs:List V}{g:TG}{tb:TS}{D:Ends}{σ:St}{H:Hp}(Pv:Nat->St->Hp->Prop)(h0:Pv 0 σ H)(hl:∀ i σ H,i<=xs.length->Pv i σ H->SqL K H a xs)
  (hs:∀(i:Nat) x σ H (p:Addr),H p=none->xs[i]?=some x->Pv i σ H->g (.ref p) σ (upd H p (.tup [.int i,x])) λσ2 H2=>tb { D with nx:=Pv (i+1),ct:=Pv (i+1),bk:=D.nx } σ2 H2) (hd:∀ σ H,Pv xs.length σ H->D.nx σ H) :
  ∃ W:Nat->Nat->St->Hp->Prop,(∃ m,W 0 m σ H)/\∀ i m σ H,W i m σ H ->
   ((HN K a).stop i H/\D.nx σ H)\/((HN K a).go i H/\∃ N:St->Hp->Prop,(∀ σ' H',N σ' H'->∃ m',m'<m/\W (i+1) m' σ' H')/\∀ x H',(HN K a).yld i H x H'->g x σ H' λσ2 H2=>tb { D with nx:=N,ct:=N,bk:=D.nx } σ2 H2):=by
 refine⟨λi m σ H=>m=xs.length - i/\i<=xs.length/\Pv i σ H,⟨xs.length,by simp,Yn _,h0⟩,?_⟩;rintro i m σ H ⟨rfl,hi,p⟩;have q:=hl i σ H hi p
 by_cases Xi:i<xs.length
 .refine .inr ⟨⟨xs,xs[i],q,by simp[Xi]⟩,Pv (i+1),λσ' H' p'=>⟨xs.length - (i+1),by omega,rfl,Xi,p'⟩,λx H' ⟨T,y,hT,ex,eH,hy⟩=>?_⟩;subst ex eH;exact hs i y σ H T hT (hy xs q) p
 .have e:i=xs.length:=by lia
  subst e;exact .inl ⟨⟨xs,q,XM _⟩,hd σ H p⟩
end My
namespace L2
open PySem PySem.Spec PyProof.Rows
section
variable{X:Cx}{a b o e:Expr}{es:List Expr}{ta to:TE}{t:TA}{pos:Pos}
theorem Zi(K:Ad)(h:X.K=K:=by rfl):Fx X (Fw K):=h ▸ vn
theorem ZL(K:Ad)(h:X.K=K:=by rfl):Fx X (Fv K):=h ▸ vm
theorem Vb(K:Ad)(h:X.K=K:=by rfl):vq X (Ft K):=h ▸ vi
theorem tV(K:Ad)(h:X.K=K:=by rfl):WH X (compareOp .In) (λx y H Q=>∃ p xs,y=.ref p/\(SqL K H p xs\/SqT K H p xs)/\Th x=true/\xs.all Th=true/\Q (.bl (HP x xs)) H):=h ▸ aV
theorem HK(K:Ad)(h:X.K=K:=by rfl):WH X (compareOp .NotIn) (λx y H Q=>∃ p xs,y=.ref p/\(SqL K H p xs\/SqT K H p xs)/\Th x=true/\xs.all Th=true/\Q (.bl (!HP x xs)) H):=h ▸ vh
theorem tU(K:Ad)(hu:X.A.units+8<cLine)(h:X.K=K:=by rfl):WH X (compareOp .Eq) (NW K false):=h ▸ t7 hu
theorem tT(K:Ad)(hu:X.A.units+8<cLine)(h:X.K=K:=by rfl):WH X (compareOp .NotEq) (NW K true):=h ▸ t6 hu
theorem ZZ9(K:Ad)(h:X.K=K:=by rfl):WH X (binaryOp .Add) (Fy K):=h ▸ vp
theorem Zm(K:Ad){f:Str}(he:PE X e ta)(hb:attributeBase e f X.env (eval e X.env)=eval e X.env)(h:X.K=K:=by rfl):PE X (.Attribute e f pos) (FH K ta f):=h ▸ vH he hb
theorem Zn (K:Ad) (h:X.K=K:=by rfl):Uh X (.builtin "len") (λxs H Q=>∃ p ys,xs=[.ref p]/\(SqL K H p ys\/SqT K H p ys)/\Q (.int ys.length) H):=h ▸ aT
theorem SM (K:Ad) (h:X.K=K:=by rfl):Uh X (.type "list") (λxs H Q=>∃ p ys,xs=[.ref p]/\(SqL K H p ys\/SqT K H p ys)/\∀ l,H l=none->Q (.ref l) (upd H l (.lst ys))):=h ▸ aS
theorem ZI (K:Ad) (h:X.K=K:=by rfl):Uh X (.type "tuple") (λxs H Q=>∃ p ys,xs=[.ref p]/\((SqL K H p ys/\∀ l,H l=none->Q (.ref l) (upd H l (.tup ys)))\/(SqT K H p ys/\Q (.ref p) H))):=h ▸ aR
theorem Zu8 (K:Ad) {T:String} (h:X.K=K:=by rfl):Uh X (.builtin "isinstance") (λxs H Q=>∃ x t b,xs=[x,.ty T]/\TyOf K H x t/\PySem.W.kitOne K t (.type T)=some b/\Q (.bl b) H):=h ▸ uh
theorem Va(K:Ad){tg:Expr}{l:Expr}{tl:TE}(hl:PE X l tl)(h:X.K=K:=by rfl):PI X tg l (FV K tl):=h ▸ v8 hl
theorem tS(K:Ad){tg:Expr}{l:Expr}{tl:TE}(hl:PE X l tl)(h:X.K=K:=by rfl):PI X tg l (FU K tl):=h ▸ v7 hl
theorem TL(K:Ad){tg:Expr}{l:Expr}{tl:TE}(hl:PE X l tl)(h:X.K=K:=by rfl):PI X tg l (My.EO K tl):=h ▸ My.JV hl
theorem LZ (K:Ad) {elts:List Expr} {x1:Nat} {SR:Pos} {a:Expr} {ta:TA} {p pos:Pos} (hg:Gl X "enumerate") (hm:X.mg "enumerate"=none) (ha:PA X [a] ta) (hs:starEach [a] X.env=[(false,eval a X.env)]:=by rfl) (h:X.K=K:=by rfl) :
  PI X (.Tuple elts x1 SR) (.Call (.Name "enumerate" p) [a] [] pos) (EU K ta):=h ▸ ue hg hm ha hs
theorem QO(K:Ad){es:List Expr}{k:Nat}{t:Qu}{n:Nat}(hc:X.calm=true)(ht:Gg X es t)
  (hn:(assignEach es X.env).length=n:=by rfl) (WE:(assignEach es X.env).findIdx? (·.1)=none:=by rfl) (h:X.K=K:=by rfl):PG X (.Tuple es k pos) (Kx K n t):=h ▸ wc hc ht hn WE
theorem VH (K:Ad) {name:Str} {apos Xm:Pos} {T id:String} {r:V->List V->Hp->VK->Prop} (pa:PlainAttrs T) (slot:Slot T name id) (Kg:typeOf (.builtin id)=pure (.type "method_descriptor")) (hm:zJ X id r) (ho:PE X o to) (ha:PA X (e :: es) t)
  (Vw:attributeBase o name X.env (eval o X.env)=eval o X.env:=by rfl)
  (Kf:((backTo Xm (starEach (e :: es) X.env)).all (λx=>!x.1) && (backToKw Xm (keywordEach [] X.env)).all (λx=>x.1.isSome)
   && decide ((e :: es).length+([]:List Keyword).length+(if ([]:List Keyword).isEmpty then 0 else 1)<30))=true:=by rfl)
  (Vv:(apos.endLine == Xm.line)=true:=by rfl) (hs:starEach (e :: es) X.env=(false,eval e X.env) :: starEach es X.env:=by rfl) (Vu:(backTo Xm (starEach es X.env)).any (·.1)=false:=by rfl) (h:X.K=K:=by rfl) :
  PE X (.Call (.Attribute o name apos) (e :: es) [] Xm) (iQ K T r to t):=h ▸ ve pa slot Kg hm ho ha Vw Kf Vv hs Vu
theorem iw (K:Ad) {name:Str} {apos Xm:Pos} {T id:String} {r:V->List V->Hp->VK->Prop} (pa:PlainAttrs T) (slot:Slot T name id) (Kg:typeOf (.builtin id)=pure (.type "method_descriptor")) (hm:zJ X id r) (ho:PE X o to)
  (Vw:attributeBase o name X.env (eval o X.env)=eval o X.env:=by rfl) (Vv:(apos.endLine == Xm.line)=true:=by rfl) (h:X.K=K:=by rfl):PE X (.Call (.Attribute o name apos) [] [] Xm) (Fn K T r to):=h ▸ vf pa slot Kg hm ho Vw Vv
end
end L2
namespace My
abbrev mk(m:Ac)(i:Nat):Int:=m.getD i 0
def pm(m:Ac)(a b:Nat):Ac :=
 if min (mk m a) (mk m b)<max (mk m a) (mk m b) then m.map (λk=>if k=max (mk m a) (mk m b) then min (mk m a) (mk m b) else k) else m
def lm(m:Ac)(a b:Nat):Ac :=
 if mk m a≠mk m b then m.map (λk=>if k=mk m b then mk m a else k) else m
def SameP(m l:Ac):Prop:=m.length=l.length/\∀ i j,i<m.length->j<m.length->(mk m i=mk m j↔mk l i=mk l j)
theorem zA(m:Ac)(f:Int->Int){i:Nat}(h:i<m.length):mk (m.map f) i=f (mk m i):=by simp[mk,WJ,Yp,Xr h]
theorem EM(m:Ac)(a b:Nat):(pm m a b).length=m.length:=by unfold pm;split <;> simp
theorem zz(m:Ac)(a b:Nat):(lm m a b).length=m.length:=by unfold lm;split <;> simp
def HJ(m:Ac)(a b i j:Nat):Prop:=mk m i=mk m j\/((mk m i=mk m a\/mk m i=mk m b)/\(mk m j=mk m a\/mk m j=mk m b))
theorem tR{x y p q:Int}:((if x=q then p else x)=(if y=q then p else y))↔(x=y\/((x=p\/x=q)/\(y=p\/y=q))):=by grind
theorem iu{x y p:Int}:x=y↔(x=y\/((x=p\/x=p)/\(y=p\/y=p))):=⟨.inl,λh=>h.elim id λh=>(h.1.elim id id).trans (h.2.elim id id).symm⟩
theorem tQ{m:Ac}{a b i j:Nat}(hi:i<m.length)(hj:j<m.length):mk (pm m a b) i=mk (pm m a b) j↔HJ m a b i j:=by
 unfold pm HJ;split
 .rename_i h;rw[zA _ _ hi,zA _ _ hj];by_cases zy:mk m a<mk m b
  .rw[KL (La zy),wZ (La zy)];exact tR
  .rw[w4 (GF.mp zy),KJ (GF.mp zy),Or.comm (a:=mk m i=mk m a),Or.comm (a:=mk m j=mk m a)];exact tR
 .rename_i h;have hh:=GF.mp h
  rw[show mk m a=mk m b from Int.le_antisymm (RS (Int.le_max_left _ _) (RS hh (Int.min_le_right _ _))) (RS (Int.le_max_right _ _) (RS hh (Int.min_le_left _ _)))];exact iu
theorem EL{m:Ac}{a b i j:Nat}(hi:i<m.length)(hj:j<m.length):mk (lm m a b) i=mk (lm m a b) j↔HJ m a b i j:=by
 unfold lm HJ;split
 .rename_i h;rw[zA _ _ hi,zA _ _ hj];exact tR
 .rename_i h;rw[show mk m a=mk m b from Classical.not_not.mp h];exact iu
theorem SameP.step{m l:Ac}(s:SameP m l){a b:Nat}(ha:a<m.length)(hb:b<m.length):SameP (pm m a b) (lm l a b):=by obtain⟨hl,h⟩:=s;refine⟨by rw[EM,zz,hl],λi j hi hj=>?_⟩;rw[EM]at hi hj;rw[tQ hi hj,EL (by omega) (by omega)];unfold HJ;rw[h i j hi hj,h i a hi ha,h i b hi hb,h j a hj ha,h j b hj hb]
def Xx(n:Nat)(es:List (Nat × Nat)):Ac:=es.foldl (λm e=>pm m e.1 e.2) ((List.range n).map λ(i:Nat)=>(i:Int))
def WV(n:Nat)(es:List (Nat × Nat)):Ac:=es.foldl (λm e=>lm m e.1 e.2) ((List.range n).map λ(i:Nat)=>(i:Int))
theorem Zw(n:Nat)(es:List (Nat × Nat)):(Xx n es).length=n:=by
 have:∀(es:List (Nat × Nat)) (m:Ac),(es.foldl (λm e=>pm m e.1 e.2) m).length=m.length:=by
  intro es
  induction es with
  | nil=>intro m;rfl
  | cons e es ih=>intro m;rw[Aq,ih,EM]
 unfold Xx;rw[this];simp
theorem ZB(n:Nat)(es:List (Nat × Nat)):(WV n es).length=n:=by
 have:∀(es:List (Nat × Nat)) (m:Ac),(es.foldl (λm e=>lm m e.1 e.2) m).length=m.length:=by
  intro es
  induction es with
  | nil=>intro m;rfl
  | cons e es ih=>intro m;rw[Aq,ih,zz]
 unfold WV;rw[this];simp
theorem ZO9(n:Nat)(es:List (Nat × Nat))(e:Nat × Nat):Xx n (es++[e])=pm (Xx n es) e.1 e.2:=by unfold Xx;rw[Om];rfl
theorem NR(n:Nat)(es:List (Nat × Nat))(e:Nat × Nat):WV n (es++[e])=lm (WV n es) e.1 e.2:=by unfold WV;rw[Om];rfl
theorem zx{n:Nat}:∀ {es:List (Nat × Nat)},(∀ e∈es,e.1<n/\e.2<n)->SameP (Xx n es) (WV n es):=by
 intro es;have key:∀(es:List (Nat × Nat)) (m l:Ac),SameP m l->m.length=n->(∀ e∈es,e.1<n/\e.2<n)->SameP (es.foldl (λm e=>pm m e.1 e.2) m) (es.foldl (λm e=>lm m e.1 e.2) l):=by
  intro es
  induction es with
  | nil=>intro m l s _ _;exact s
  | cons e es ih =>
   intro m l s hm he;have h1:=he e Ye
   exact ih _ _ (s.step (by omega) (by omega)) (by rw[EM];exact hm) λx hx=>he x (Yh _ hx)
 exact key es _ _ ⟨rfl,λi j _ _=>Iff.rfl⟩ (by simp)
def Wo(g:List (Int × Ac))(place k:Int):List (Int × Ac) :=
 if k∈g.map (·.1) then g.map (λkv=>if kv.1=k then (kv.1,kv.2++[place]) else kv) else g++[(k,[place])]
def Xu(M:Ac):Nat->List (Int × Ac)
 | 0=>[]
 | i+1=>Wo (Xu M i) (i:Int) (mk M i)
def JS(M:Ac):List (Int × Ac):=Xu M M.length
theorem NQ(g:List (Int × Ac))(p k:Int):(Wo g p k).map (·.1)=if k∈g.map (·.1) then g.map (·.1) else g.map (·.1)++[k]:=by
 unfold Wo;split
 .rw[Mm];refine YX λkv _=>?_;show(if kv.1=k then (kv.1,kv.2++[p]) else kv).1=kv.1
  split <;> rfl
 .simp
theorem Zy5{g:List (Int × Ac)}{p k:Int}(h:(g.map (·.1)).Nodup):((Wo g p k).map (·.1)).Nodup:=by
 rw[NQ];split
 .exact h
 .rename_i hk;rw[YT];refine⟨h,by simp,λa ha b hb=>?_⟩;rw[XD]at hb;subst hb;rintro rfl;exact hk ha
theorem tP(M:Ac):∀ i,((Xu M i).map (·.1)).Nodup
 | 0=>by simp[Xu]
 | i+1=>Zy5 (tP M i)
theorem Vs(M:Ac):∀ i kv,kv∈Xu M i->∀ z:Int,z∈kv.2↔(0<=z/\z<(i:Int)/\mk M z.toNat=kv.1)
 | 0,kv,h,z=>by simp[Xu]at h
 | i+1,kv,h,z=>by
  unfold Xu Wo at h;split at h
  .rename_i hk;obtain⟨zw,h0,e⟩:=YC.mp h;have ih:=Vs M i zw h0 z
   by_cases hc:zw.1=mk M i
   .rw[if_pos hc]at e;subst e;rw[Xy,ih,XD];constructor
    .rintro(⟨a,b,c⟩ | rfl)
     .exact⟨a,by lia,c⟩
     .exact⟨by lia,by lia,by simpa using hc.symm⟩
    .rintro⟨a,b,c⟩;by_cases hz:z<(i:Int)
     .exact .inl ⟨a,hz,c⟩
     .exact .inr (by lia)
   .rw[if_neg hc]at e;subst e;rw[ih];constructor
    .rintro⟨a,b,c⟩;exact⟨a,by omega,c⟩
    .rintro⟨a,b,c⟩;refine⟨a,?_,c⟩;by_cases hz:z<(i:Int)
     .exact hz
     .have e:z.toNat=i:=by grind
      rw[e]at c;exact absurd c.symm hc
  .rename_i hk;rcases Xy.mp h with h0 | h0
   .have ih:=Vs M i kv h0 z;rw[ih];constructor
    .rintro⟨a,b,c⟩;exact⟨a,by lia,c⟩
    .rintro⟨a,b,c⟩;refine⟨a,?_,c⟩;by_cases hz:z<(i:Int)
     .exact hz
     .have e:z.toNat=i:=by grind
      rw[e]at c;exact absurd (YC.mpr ⟨kv,h0,c.symm⟩) hk
   .rw[XD]at h0;subst h0;simp only [XD];constructor
    .rintro rfl;exact⟨by lia,by lia,by simp⟩
    .rintro⟨a,b,c⟩;by_cases hz:z<(i:Int)
     .exfalso;have key:=grpA_key M i z.toNat (by lia)
      rw[c]at key;exact hk key
     .lia
where
 grpA_key (M:Ac):∀ i j,j<i->mk M j∈(Xu M i).map (·.1)
  | 0,j,h=>absurd h (YY j)
  | i+1,j,h=>by
   show mk M j∈(Wo (Xu M i) (i:Int) (mk M i)).map (·.1);rw[NQ];by_cases hj:j<i
   .have:=grpA_key M i j hj
    split
    .exact this
    .exact Yb _ this
   .have e:j=i:=by lia
    subst e;split
    .assumption
    .simp
theorem grpA_key{M:Ac}{i j:Nat}(h:j<i):mk M j∈(Xu M i).map (·.1):=Vs.grpA_key M i j h
theorem zv(M:Ac):∀ i k,k∈(Xu M i).map (·.1)->∃ j,j<i/\mk M j=k
 | 0,k,h=>by simp[Xu]at h
 | i+1,k,h=>by
  have h:k∈(Wo (Xu M i) (i:Int) (mk M i)).map (·.1):=h;rw[NQ]at h;have old:k∈(Xu M i).map (·.1)->∃ j,j<i+1/\mk M j=k:=λq=>by obtain⟨j,hj,e⟩:=zv M i k q;exact⟨j,by lia,e⟩
  split at h
  .exact old h
  .rcases Xy.mp h with q | q
   .exact old q
   .rw[XD]at q;exact⟨i,by lia,q.symm⟩
theorem EK{M:Ac}(hM:1<=M.length):(JS M).length=1↔∀ i j,i<M.length->j<M.length->mk M i=mk M j:=by
 unfold JS;constructor
 .intro h i j hi hj;obtain⟨kv,e⟩:=List.length_eq_one_iff.mp h;have h1:=grpA_key (M:=M) hi
  have h2:=grpA_key (M:=M) hj;rw[e]at h1 h2;rw[List.map_singleton,XD]at h1 h2;rw[h1,h2]
 .intro h;have nd:=tP M M.length
  have h0:=grpA_key (M:=M) (i:=M.length) (j:=0) (by lia);generalize hg:(Xu M M.length)=g at *
  match g,hg with
  | [],_=>simp at h0
  | [kv],_=>rfl
  | a :: b :: r,hg =>
   exfalso;obtain⟨i,hi,e1⟩:=zv M M.length a.1 (by rw[hg];simp)
   obtain⟨j,hj,e2⟩:=zv M M.length b.1 (by rw[hg];simp);have e3:=h i j hi hj
   have:a.1=b.1:=by rw[<- e1,<- e2,e3]
   simp[this]at nd
theorem SameP.one{m l:Ac}(s:SameP m l):(∀ i j,i<m.length->j<m.length->mk m i=mk m j)↔(∀ i j,i<l.length->j<l.length->mk l i=mk l j):=by
 obtain⟨hl,h⟩:=s;rw[<- hl];constructor
 .intro q i j hi hj;exact(h i j hi hj).mp (q i j hi hj)
 .intro q i j hi hj;exact(h i j hi hj).mpr (q i j hi hj)
theorem JR{M:Ac}:∀ {i:Nat} {kv:Int × Ac},kv∈Xu M i->kv.2.length<=i
 | 0,kv,h=>by simp[Xu]at h
 | i+1,kv,h=>by
  unfold Xu Wo at h;split at h
  .obtain⟨zw,h0,e⟩:=YC.mp h;have ih:=JR h0
   by_cases hc:zw.1=mk M i
   .rw[if_pos hc]at e;subst e;rw[Xs,Yj];lia
   .rw[if_neg hc]at e;subst e;lia
  .rcases Xy.mp h with h0 | h0
   .have ih:=JR h0;omega
   .rw[XD]at h0;subst h0;simp
end My
namespace My
open PySem L2 PyProof.Rows
theorem NP(z:Int)(l:Ac):HP (.int z) (IL l)=decide (z∈l):=by
 unfold HP;rw[List.any_map];rw[OX,w5,YV];constructor
 .rintro⟨y,hy,e⟩;have e':y=z:=by simpa [TR] using e
  rw[<- e'];exact hy
 .intro h;exact⟨z,h,by simp[TR]⟩
theorem ZT(l:Ac):(IL l).all Th=true:=by rw[List.all_map,QD];intro x _;rfl
theorem ir{K:Ad}{t:Value}:PySem.W.kitOne K t t=some true:=by unfold PySem.W.kitOne;rw[if_pos (Oj t)]
theorem ZA{a b:Int}:decide (V.int a=V.int b)=decide (a=b):=by
 by_cases h:a=b
 .subst h;simp
 .have h':¬ V.int a=V.int b:=λz=>h (V.int.inj z);rw[Sw h,Sw h']
end My
namespace My
open PySem L2
def IsSet(m:Nat)(ns:Ac):Prop:=∀ i z,ns[i]?=some z->0<=z/\z<(m:Int)/\∀ y,i≠0->ns[i - 1]?=some y->y<z
def XT(ps:Aa)(ns:Ac):List (Nat × Nat):=ns.map λz=>((ps.getD z.toNat (0,0)).1.toNat,(ps.getD z.toNat (0,0)).2.toNat)
theorem ZC5{ps:Aa}{ns:Ac}{i:Nat}{z:Int}(h:ns[i]?=some z):XT ps (ns.take (i+1))=XT ps (ns.take i)++[((ps.getD z.toNat (0,0)).1.toNat,(ps.getD z.toNat (0,0)).2.toNat)]:=by unfold XT;rw[WD,h];simp
theorem OM{m:Ac}{i:Nat}(h:i<m.length):m[i]?=some (mk m i):=by rw[Xr h];simp[mk,WJ,Xr h]
theorem ZK7(n:Int):TN 0 n=(List.range n.toNat).map λ(i:Nat)=>(i:Int):=by unfold TN;rw[Int.sub_zero];refine YX λi _=>?_;lia
def UZ(g:List (Int × Ac))(as:List Addr):List (Key × V):=List.zipWith (λkv a=>((Sum.inl kv.1:Key),V.ref a)) g as
theorem ZW6{g:List (Int × Ac)}{as:List Addr}(h:as.length=g.length):(UZ g as).length=g.length:=by unfold UZ;rw[GX];grind
theorem EJ:∀ {g:List (Int × Ac)} {as:List Addr},as.length=g.length->(UZ g as).map (·.2)=as.map V.ref
 | [],[],_=>rfl
 | [],_ :: _,h=>by simp at h
 | _ :: _,[],h=>by simp at h
 | kv :: g,a :: as,h=>by show V.ref a :: (UZ g as).map (·.2)=V.ref a :: as.map V.ref;rw[EJ (UB h)]
theorem iq:∀ {g g':List (Int × Ac)} {as:List Addr},g.map (·.1)=g'.map (·.1)->UZ g as=UZ g' as
 | [],[],_,_=>rfl
 | [],_ :: _,_,h=>by simp at h
 | _ :: _,[],_,h=>by simp at h
 | kv :: g,zu :: g',[],_=>rfl
 | kv :: g,zu :: g',a :: as,h=>by
  rw[WC,WC,List.cons.injEq]at h;show((Sum.inl kv.1:Key),V.ref a) :: UZ g as=((Sum.inl zu.1:Key),V.ref a) :: UZ g' as
  rw[h.1,iq h.2]
theorem ip:∀ {g:List (Int × Ac)} {as:List Addr} {kv:Int × Ac} {a:Addr},as.length=g.length->UZ (g++[kv]) (as++[a])=UZ g as++[((Sum.inl kv.1:Key),V.ref a)]
 | [],[],_,_,_=>rfl
 | [],_ :: _,_,_,h=>by simp at h
 | _ :: _,[],_,_,h=>by simp at h
 | x :: g,y :: as,kv,a,h=>by show _ :: UZ (g++[kv]) (as++[a])=_ :: (UZ g as++_);rw[ip (UB h)]
theorem tO:∀ {g:List (Int × Ac)} {as:List Addr} {k:Int},as.length=g.length ->
  (WB (UZ g as) (Sum.inl k:Key)=none/\k∉g.map (·.1))\/∃(j:Nat) (kv:Int × Ac) (a:Addr),g[j]?=some kv/\as[j]?=some a/\kv.1=k/\WB (UZ g as) (Sum.inl k:Key)=some (.ref a)
 | [],[],k,_=>.inl ⟨rfl,by simp⟩
 | [],_ :: _,_,h=>by simp at h
 | _ :: _,[],_,h=>by simp at h
 | kv :: g,a :: as,k,h=>by
  by_cases e:kv.1=k
  .refine .inr ⟨0,kv,a,rfl,rfl,e,?_⟩;show WB (((Sum.inl kv.1:Key),V.ref a) :: UZ g as) _=_
   rw[uV (by rw[e])]
  .have e':¬ ((Sum.inl kv.1:Key)=Sum.inl k):=λz=>e (Sum.inl.inj z);have ev:WB (UZ (kv :: g) (a :: as)) (Sum.inl k:Key)=WB (UZ g as) (Sum.inl k:Key):=uU (p:=((Sum.inl kv.1:Key),V.ref a)) e'
   rcases tO (g:=g) (as:=as) (k:=k) (UB h) with ⟨h1,h2⟩ | ⟨j,zu,a',h1,h2,h3,h4⟩
   .refine .inl ⟨by rw[ev];exact h1,?_⟩;rw[WC,Yg];rintro(z | z)
    .exact e z.symm
    .exact h2 z
   .exact .inr ⟨j+1,zu,a',by simpa using h1,by simpa using h2,h3,by rw[ev];exact h4⟩
structure GrpAt (H0 H:Hp) (g:List (Int × Ac)) (as:List Addr):Prop where
 len:as.length=g.length
 nd:as.Nodup
 at_:∀(i:Nat) (kv:Int × Ac) (a:Addr),g[i]?=some kv->as[i]?=some a->H a=some (.lst (IL kv.2))
 new:∀ a∈as,H0 a=none
theorem GrpAt.same{H0 H H':Hp}{g:List (Int × Ac)}{as:List Addr}(s:Same H H')(h:GrpAt H0 H g as):GrpAt H0 H' g as:=⟨h.len,h.nd,λi kv a e1 e2=>s _ _ (h.at_ i kv a e1 e2),h.new⟩
theorem GrpAt.mem{H0 H:Hp}{g:List (Int × Ac)}{as:List Addr}(h:GrpAt H0 H g as){a:Addr}(ha:a∈as):∃ l,H a=some (.lst l):=by
 obtain⟨i,hi,e⟩:=xm ha;have hg:i<g.length:=by rw[<- h.len];exact hi
 exact⟨_,h.at_ i g[i] a (Xr hg) (by rw[Xr hi,e])⟩
theorem IsSet.all{m:Nat}{ns:Ac}(h:IsSet m ns):∀ z∈ns,0<=z/\z<(m:Int):=λz hz=>by obtain⟨i,hi,e⟩:=xm hz;obtain⟨a,b,_⟩:=h i z (by rw[Xr hi,e]);exact⟨a,b⟩
theorem IsSet.nil(m:Nat):IsSet m []:=λi z e=>by simp at e
theorem IsSet.up{m:Nat}{ns:Ac}(h:IsSet m ns):IsSet (m+1) ns:=λi z e=>by obtain⟨a,b,c⟩:=h i z e;exact⟨a,by omega,c⟩
theorem IsSet.snoc{m:Nat}{ns:Ac}(h:IsSet m ns):IsSet (m+1) (ns++[(m:Int)]):=λi z e=>by
 by_cases hi:i<ns.length
 .rw[Ys hi]at e;obtain⟨a,b,c⟩:=h i z e;refine⟨a,by lia,λy h0 ey=>?_⟩;rw[Ys (by omega)]at ey;exact c y h0 ey
 .have hl:i=ns.length:=by
   have:=(Xp.mp e).1
   rw[Xs,Yj]at this;lia
  subst hl;rw[Yq (XM _),Ot]at e;have e:(m:Int)=z:=Yi e
  subst e;refine⟨by lia,by lia,λy h0 ey=>?_⟩;rw[Ys (by omega)]at ey;exact(h _ y ey).2.1
theorem IsSet.len{m:Nat}:∀ {ns:Ac},IsSet m ns->ns.length<=m:=λ{ns} h=>by
 have key:∀(i:Nat) (z:Int),ns[i]?=some z->(i:Int)<=z:=by
  intro i
  induction i with
  | zero=>intro z e;exact(h 0 z e).1
  | succ i ih =>
   intro z e;have hi:i<ns.length:=by have:=(Xp.mp e).1;lia
   have e2:ns[i]?=some ns[i]:=Xr hi
   have:=ih _ e2
   have:=(h (i+1) z e).2.2 ns[i] (by lia) (by rw[xh];exact e2)
   lia
 by_cases h0:ns.length=0
 .lia
 .have e:ns[ns.length - 1]?=some (ns[ns.length - 1]'(by lia)):=Xr _;have a:=key _ _ e
  have b:=(h _ _ e).2.1;lia
end My
namespace L2
open PySem PySem.Spec PyProof.Rows
section
variable{X:Cx}
def tN(K:Ad):V->List V->Hp->VK->Prop:=λx vs H Q=>∃(p:Addr) (ns:Ac) (z:Int) (j:Nat),x=.ref p/\vs=[.int z]/\SqL K H p (ns.map V.int)/\ns[j]?=some z/\(∀ i,i<j->ns[i]?≠some z)/\Q (.int j) H
theorem ZU7 (K:Ad) (h:X.K=K:=by rfl):Md X "list.index" (tN K):=by
 subst h;intro pins s σ H x vs v us Q I rx rv h;obtain⟨p,ns,z,j,rfl,rfl,hq,hj,Sm,q⟩:=h;cases rx;obtain⟨u,rfl,t,rfl⟩:=rv.one;obtain⟨XW,r,⟨o,n,e,hc,hd,JQ⟩,hz⟩:=I.list hq;have hl:XW.length=ns.length:=by rw[<- r.length,Yd]
 have NO:j<ns.length:=(Xp.mp hj).1;have hsz:sizeLine=16777216:=SX
 rw[Yd]at hz;obtain⟨oc,od,tL,Ux⟩:=o;have hc:oc=.type "list":=hc
 have JQ:tL=.seq XW.toArray n:=JQ;subst hc JQ;have at_:∀(i:Nat) (hi:i<XW.length),∃ tk,XW[i]=.int (ns[i]'(by lia)) tk:=λi hi=>by
  obtain⟨x,ex,rx⟩:=r.at hi;rw[Yp,Xr (by omega)]at ex;have ex:V.int (ns[i]'(by omega))=x:=Yi ex
  subst ex;exact rx
 refine Ua F.slot_list_index ⟨_,e,rfl⟩ F.entry_list_index (F.args_list_index_2 _ _) (SeqAt.list_indexAt p XW.toArray n od Ux (.int z t) (λy=>Ug (.int z) y) j (by rw[Ya];lia) (by lia) ?_ ?_) ⟨e,λy hy=>?_,?_⟩
 .obtain⟨tk,e1⟩:=at_ j (by omega);have e2:ns[j]'(by lia)=z:=by rw[Xr NO]at hj;exact Yi hj
  have e3:XW.toArray[j]'(by rw[Ya];lia)=.int z tk:=by rw[<- e2];simpa using e1
  rw[e3];simp[Ug,TR]
 .intro m hm hmj;have LY:m<XW.length:=by rw[Ya]at hm;exact hm
  obtain⟨tk,e1⟩:=at_ m LY;have e3:XW.toArray[m]'hm=.int (ns[m]'(by omega)) tk:=by simpa using e1
  rw[e3];have XJ:=Sm m hmj
  rw[Xr (by omega)]at XJ;have JP:ns[m]'(by omega)≠z:=λw=>XJ (Xw some w)
  simp[Ug,TR,JP]
 .refine RH (x:=.int z) ⟨t,rfl⟩ rfl r ?_ y (by simpa using hy);rw[List.all_map,QD];intro _ _;rfl
 .exact⟨.int j,H,I.tok _,⟨_,rfl⟩,q⟩
end
end L2
namespace My
open PySem L2
section
variable{K:Ad}{H:Hp}{α:Type}[DecidableEq α]
def Bears(R:V->α->Prop)(xs:List V)(l:List α):Prop:=xs.length=l.length/\∀(i:Nat) (a:α),l[i]?=some a->∃ x,xs[i]?=some x/\R x a
theorem Bears.at{R:V->α->Prop}{xs:List V}{l:List α}(h:Bears R xs l){i:Nat}{x:V}(e:xs[i]?=some x):∃ a,l[i]?=some a/\R x a:=by
 have hi:i<xs.length:=(Xp.mp e).1;have hl:i<l.length:=by rw[<- h.1];exact hi
 obtain⟨x',e1,q⟩:=h.2 i l[i] (Xr hl);rw[e]at e1;cases e1;exact⟨_,Xr hl,q⟩
theorem ik{l m:List α}(h:l.length=m.length):(List.range l.length).all (λi=>decide (l[i]?=m[i]?))=decide (l=m):=by
 rw[OX,QD,YV];constructor
 .intro q;refine RT λi=>?_;by_cases hi:i<l.length
  .exact Yu (q i (YI.mpr hi))
  .rw[Vy (by lia),Vy (by lia)]
 .rintro rfl i _;simp
theorem tK{R:V->α->Prop}{n:Nat}{p q:Addr}{xs ys:List V}{l m:List α}(hp:SqL K H p xs)(hq:SqL K H q ys)(h1:Bears R xs l)(h2:Bears R ys m)(hR:∀ x y a b,R x a->R y b->EqD K H n x y (decide (a=b))):EqD K H (n+1) (.ref p) (.ref q) (decide (l=m)):=by
 by_cases hl:xs.length=ys.length
 .have e:=ik (l:=l) (m:=m) (by rw[<- h1.1,<- h2.1,hl]);rw[<- e,<- h1.1];refine EqD.lsts hp hq hl λi x y ex ey=>?_;obtain⟨a,ea,ra⟩:=h1.at ex;obtain⟨b,eb,rb⟩:=h2.at ey;rw[ea,eb,show decide (some a=some b)=decide (a=b) by simp];exact hR x y a b ra rb
 .have e:decide (l=m)=false:=Sw λz=>hl (by rw[h1.1,h2.1,z]);rw[e];exact EqD.lens hp hq hl
theorem tJ{R:V->α->Prop}{n:Nat}{p q:Addr}{xs ys:List V}{l m:List α}(hp:SqT K H p xs)(hq:SqT K H q ys)(h1:Bears R xs l)(h2:Bears R ys m)(hR:∀ x y a b,R x a->R y b->EqD K H n x y (decide (a=b))):EqD K H (n+1) (.ref p) (.ref q) (decide (l=m)):=by
 have key:=EqD.tups (e:=λi=>decide (l[i]?=m[i]?)) hp hq λi x y ex ey=>by obtain⟨a,ea,ra⟩:=h1.at ex;obtain⟨b,eb,rb⟩:=h2.at ey;rw[ea,eb,show decide (some a=some b)=decide (a=b) by simp];exact hR x y a b ra rb
 by_cases hl:xs.length=ys.length
 .have e:=ik (l:=l) (m:=m) (by rw[<- h1.1,<- h2.1,hl]);rw[<- hl,Nat.min_self,h1.1,e,show(l.length == l.length)=true by simp,Bool.and_true]at key;exact key
 .have e:decide (l=m)=false:=Sw λz=>hl (by rw[h1.1,h2.1,z]);rw[show(xs.length == ys.length)=false by simpa using hl,Bool.and_false]at key;rw[e];exact key
theorem NM(ns:Ac):Bears (λx (z:Int)=>x=.int z) (IL ns) ns:=⟨Xq ns,λi z e=>⟨_,Ue e,rfl⟩⟩
theorem ij{n:Nat}{x y:V}{a b:Int}(hx:x=.int a)(hy:y=.int b):EqD K H n x y (decide (a=b)):=by
 subst hx hy;have e:decide (a=b)=TR (.int a) (.int b):=by show decide (a=b)=(a == b);rw[js]
 rw[e];exact EqD.flat rfl rfl
theorem EI{p q:Addr}{ns ms:Ac}(hp:SqL K H p (IL ns))(hq:SqL K H q (IL ms)):EqD K H 1 (.ref p) (.ref q) (decide (ns=ms)) :=
 tK hp hq (NM ns) (NM ms) λ_ _ _ _=>ij
theorem tI{p q:Addr}{ns ms:Ac}(hp:SqT K H p (IL ns))(hq:SqT K H q (IL ms)):EqD K H 1 (.ref p) (.ref q) (decide (ns=ms)) :=
 tJ hp hq (NM ns) (NM ms) λ_ _ _ _=>ij
theorem Zo8{p q:Addr}{bs cs:List Bool}(hp:SqL K H p (bs.map V.bl))(hq:SqL K H q (cs.map V.bl)):EqD K H 1 (.ref p) (.ref q) (decide (bs=cs)):=by
 have be:∀ bs:List Bool,Bears (λx (b:Bool)=>x=.bl b) (bs.map V.bl) bs:=λbs=>⟨Yd ..,λi b e=>⟨_,by rw[Yp,e];rfl,rfl⟩⟩;refine tK hp hq (be bs) (be cs) λx y a b hx hy=>?_;subst hx hy;have e:decide (a=b)=TR (.bl a) (.bl b):=by show decide (a=b)=(a == b);rw[js]
 rw[e];exact EqD.flat rfl rfl
def OL(H:Hp)(v:V)(l:Ac):Prop:=∃ a,v=.ref a/\H a=some (.lst (IL l))
end
end My
namespace My
def Wu(M:Ac)(p:Nat):Bool:=(List.range p).all λi=>decide (mk M i≠mk M p)
def UY(M:Ac)(k:Int)(i:Nat):Ac:=((List.range i).filter λj=>decide (mk M j=k)).map λ(j:Nat)=>(j:Int)
def VG(M:Ac)(i:Nat):List Nat:=(List.range i).filter (Wu M)
theorem XC{M:Ac}{p:Nat}:Wu M p=true↔∀ i,i<p->mk M i≠mk M p:=by
 unfold Wu;rw[QD];constructor
 .intro h i hi;exact Yu (h i (YI.mpr hi))
 .intro h i hi;exact Yx (h i (YI.mp hi))
theorem JO(M:Ac)(k:Int)(i:Nat):UY M k (i+1)=UY M k i++(if mk M i=k then [(i:Int)] else []):=by
 unfold UY;rw[GN,QG,YR];congr 1;by_cases h:mk M i=k
 .rw[if_pos h,YN,if_pos (by simpa using h)];rfl
 .rw[if_neg h,YN,if_neg (by simpa using h)];rfl
theorem ig(M:Ac)(i:Nat):VG M (i+1)=VG M i++(if Wu M i=true then [i] else []):=by
 unfold VG;rw[GN,QG];congr 1;by_cases h:Wu M i=true
 .rw[if_pos h,YN,if_pos h];rfl
 .rw[if_neg h,YN,if_neg h];rfl
theorem EH(M:Ac):∀ i,Xu M i=(VG M i).map λp=>(mk M p,UY M (mk M p) i)
 | 0=>rfl
 | i+1=>by
  have ih:=EH M i;show Wo (Xu M i) (i:Int) (mk M i)=_
  have hk:(mk M i∈(Xu M i).map (·.1))↔Wu M i≠true:=by
   constructor
   .intro h q;obtain⟨j,hj,e⟩:=zv M i _ h;exact XC.mp q j hj e
   .intro h;by_cases q:∃ j,j<i/\mk M j=mk M i
    .obtain⟨j,hj,e⟩:=q;rw[<- e];exact grpA_key hj
    .exact absurd (XC.mpr λj hj e=>q ⟨j,hj,e⟩) h
  unfold Wo;by_cases h:mk M i∈(Xu M i).map (·.1)
  .have hf:=hk.mp h;rw[if_pos h,ig,if_neg hf,YF,ih,Mm];refine YX λp _=>?_;show(if mk M p=mk M i then (mk M p,UY M (mk M p) i++[(i:Int)]) else (mk M p,UY M (mk M p) i))=(mk M p,UY M (mk M p) (i+1))
   rw[JO];by_cases e:mk M p=mk M i
   .rw[if_pos e,if_pos e.symm]
   .rw[if_neg e,if_neg (λz=>e z.symm),YF]
  .have hf:Wu M i=true:=by
    cases q:Wu M i with
    | true=>rfl
    | false=>exact absurd (hk.mpr (by rw[q];exact Yw)) h
   rw[if_neg h,ig,if_pos hf,YR,ih];congr 1
   .refine YX λp hp=>?_;have Qd:p<i:=YI.mp (Yf.mp hp).1
    rw[JO,if_neg (λz=>XC.mp hf p Qd z.symm),YF]
   .show [(mk M i,[(i:Int)])]=[(mk M i,UY M (mk M i) (i+1))];rw[JO,if_pos rfl];have e0:UY M (mk M i) i=[]:=by unfold UY;rw[List.filter_eq_nil_iff.mpr λj hj=>by simpa using XC.mp hf j (YI.mp hj)];rfl
    rw[e0];rfl
end My
namespace My
open PySem L2
theorem Bears.snoc{α:Type}[DecidableEq α]{R:V->α->Prop}{xs:List V}{l:List α}{x:V}{a:α}(h:Bears R xs l)(hx:R x a):Bears R (xs++[x]) (l++[a]):=by
 refine⟨by rw[Xs,Xs,h.1];rfl,λi b e=>?_⟩;by_cases hi:i<l.length
 .rw[Ys hi]at e;rw[Ys (by rw[h.1];exact hi)];exact h.2 i b e
 .have hl:i=l.length:=by
   have:=(Xp.mp e).1
   rw[Xs,Yj]at this;lia
  subst hl;rw[Yq (XM _),Ot]at e;rw[Yq (by rw[h.1];exact XM _),h.1,Ot];have e':a=b:=Yi e
  subst e';exact⟨x,rfl,hx⟩
theorem Bears.imp{α:Type}[DecidableEq α]{R R':V->α->Prop}{xs:List V}{l:List α}(h:Bears R xs l)(f:∀ x a,R x a->R' x a):Bears R' xs l:=⟨h.1,λi a e=>let ⟨x,e1,r⟩:=h.2 i a e;⟨x,e1,f x a r⟩⟩
end My
namespace L2
open PySem PySem.Spec PyProof.Rows
theorem ObjOk.there{P:Program}{w:World}{H:Hp}{h:Heap}{a:Addr}{o:HO}(x:ObjOk P w H h a o):∃ u,h.get? a=some u:=by
 cases o with
 | lst xs=>obtain⟨_,_,_,_,e⟩:=x;exact⟨_,e⟩
 | tup xs=>obtain⟨_,_,_,o,e,_⟩:=x;exact⟨_,e⟩
 | dK kvs=>obtain⟨_,_,_,_,o,_,_,e,_⟩:=x;exact⟨_,e⟩
 | dT kvs=>obtain⟨_,_,_,_,o,_,_,e,_⟩:=x;exact⟨_,e⟩
 | set S n=>obtain⟨o,_,_,_,e,_⟩:=x;exact⟨_,e⟩
 | ins C dx fs=>obtain⟨_,_,_,e,_⟩:=x;exact⟨_,e⟩
 | own y=>exact x
 | xd fs=>obtain⟨_,⟨_,_,_,e,_⟩,_⟩:=x;exact⟨_,e⟩
 | rng lo hi=>obtain⟨_,_,_,e⟩:=x;exact⟨_,e⟩
 | frz ob u=>obtain⟨e,_⟩:=x;exact⟨_,e⟩
 | tbl ps=>exact⟨_,x⟩
 | met f y=>exact⟨_,x⟩
 | ext φ=>obtain⟨_,e,_⟩:=x;exact e
structure Fly (h0:Heap) (H:Hp) (e C:Addr) (h:Heap):Prop where
 ex:∃ oe vs T oT ts a0,h.get? e=some oe/\oe.cls=.ref C/\oe.data=.fields vs/\vs[0]?=some a0/\vs[1]?=some (.ref T)/\T≠e/\h.get? T=some oT/\oT.data=.fields ts/\ts[3]?=some .none/\h0.get? T=none/\H T=none
 new:h0.get? e=none
 free:H e=none
def UX(P:Program)(w:World):RJ:=λouter H s E ev s'=>∃(e C:Addr) (H':Hp),ev=Value.ref e/\s'.os=s.os/\AllBare s'.gens/\Un (Wr outer) [] H H' s.heap s'.heap/\HOk P w H' s'.heap/\Fly s.heap H' e C s'.heap/\E (.ref C) none H'
section
variable{X:Cx}{pins:List (Addr × Obj)}{σ:St}{H:Hp}{s:Shared}{e C:Addr}
abbrev WO(X:Cx)(h:Heap)(ns:List Addr):Heap:=PySem.W.hideAll h (Wr X.stack++ns)
theorem JN{h:Heap}{ns:List Addr}{b:Addr}{o:Obj}(q:h.get? b=some o)(h1:b∉Wr X.stack)(h2:b∉ns):(WO X h ns).get? b=some o :=
 PySem.W.hideAll_get _ q λz=>(Xy.mp z).elim h1 h2
theorem EG{h:Heap}{ns:List Addr}:(WO X h ns).StaysIn h:=λ_ _ q=>PySem.W.of_hideAll _ q
theorem Inv.was(I:Inv X pins σ H s)(hex:X.ex=[]){b:Addr}(h:s.heap.get? b=none):X.s₀.heap.get? b=none:=by
 cases q:X.s₀.heap.get? b with
 | none=>rfl
 | some o =>
  obtain⟨o',e⟩:=I.base.there b o q (by rw[hex];simp);rw[h]at e;cases e
theorem EF{P:Program}{w:World}{h':Heap}{ns:List Addr}{h:Heap}(ok:HOk P w H h)(hf:∀ b∈Wr X.stack,H b=none)(VU:∀ b∈ns,H b=none)(k:(WO X h ns).StaysIn h'):HOk P w H h':=λa o q =>
 (ok a o q).stay (λb u hb g=>k b u (JN g (λz=>by
  have:=hf b z
  rcases hb with rfl | hb
  .rw[q]at this;cases this
  .rw[hb]at this;cases this) λz=>by
  have:=VU b z
  rcases hb with rfl | hb
  .rw[q]at this;cases this
  .rw[hb]at this;cases this)) (λ_ z=>z) λ_ _ z=>z
theorem Zl8(WE:X.stack=X.env :: X.outer)(RC:X.env.frame=some X.env.locals):Wr X.stack=X.env.locals :: Wr X.outer:=by rw[WE];unfold Wr;rw[GW,RC]
theorem ie(WE:X.stack=X.env :: X.outer)(RC:X.env.frame=some X.env.locals)(hex:X.ex=[])(I:Inv X pins σ H s){ns:List Addr}(VU:∀ b∈ns,X.s₀.heap.get? b=none/\H b=none){h':Heap}{a0:Value}{E:XK}{s':Shared}
  (RF:Heap.FlyingW (WO X s.heap ns) X.outer e (.ref C) a0 h') (up:s.heap.UpToSlots h') (ne:X.s₀.heap.get? e=none) (fe:H e=none) (hE:E (.ref C) none H) (hs:s'.heap=h') (ho:s'.os=s.os) (hg:s'.gens=s.gens) :
  UX X.prog X.w X.outer X.H₀ X.s₀ E (.ref e) s':=by
 subst hs;have fst:=Zl8 (X:=X) WE RC
 have zt:∀ b o,X.s₀.heap.get? b=some o->b≠X.env.locals:=λb o q=>Yt (Ym (Yl q) I.ok.above);have EE:∀ b o,X.s₀.heap.get? b=some o->b∉ns:=λb o q z=>by rw[(VU b z).1]at q;cases q
 have LX:∀ b o,X.s₀.heap.get? b=some o->b∉Wr X.outer->b∉Wr X.stack:=λb o q n z=>by
  rw[fst]at z;rcases Yg.mp z with z | z
  .exact zt b o q z
  .exact n z
 have SK:∀ b,b∉X.ex:=λb z=>by rw[hex]at z;cases z
 have keep:∀ b o u,X.s₀.heap.get? b=some o->b∉Wr X.outer->s.heap.get? b=some u->s'.heap.get? b=some u:=λb o u q n g=>RF.1 b u (JN g (LX b o q n) (EE b o q));have slot:∀ b u,b∈Wr X.outer->s.heap.get? b=some u->∃ sl,s'.heap.get? b=some { u with slots:=sl }:=λb u hb g=>by obtain⟨_,o',WQ,hd⟩:=I.funs.mem hb;rw[g]at WQ;cases WQ;exact up b u g hd
 refine⟨e,C,H,rfl,ho.trans I.os,hg ▸ I.bare,⟨λb o q n hb _=>?_,λb o q n hb _=>?_,λb o q n _=>I.base.free b o q n (SK b),λb o q _=>?_,I.base.tups,I.base.frzs,I.base.tbls⟩,EF I.hok I.stkFree (λb hb=>(VU b hb).2) RF.1,⟨?_,ne,fe⟩,hE⟩
 .exact keep b o o q hb (I.base.keep b o q n hb (SK b))
 .obtain⟨sl,g⟩:=I.base.slot b o q n hb (SK b);obtain⟨KD,g'⟩:=slot b _ hb g;exact⟨KD,g'⟩
 .obtain⟨u,g⟩:=I.base.there b o q (SK b);by_cases hb:b∈Wr X.outer
  .obtain⟨sl,g'⟩:=slot b u hb g;exact⟨_,g'⟩
  .exact⟨u,keep b o u q hb g⟩
 .obtain⟨f1,f2,f3,oe,vs,T,oT,ts,he,⟨hc,h0⟩,hd,h1,zr,ED,hT,HI,h3⟩:=RF;refine⟨oe,vs,T,oT,ts,a0,he,hc,hd,h0,h1,ED,hT,HI,h3,?_,?_⟩
  .cases q:X.s₀.heap.get? T with
   | none=>rfl
   | some o =>
    obtain⟨u,g⟩:=I.base.there T o q (SK T);by_cases hb:T∈Wr X.outer
    .obtain⟨_,o',WQ,TZ⟩:=f3.mem hb;rw[hT]at WQ;cases WQ;exact absurd HI (TZ ts)
    .rw[JN g (LX T o q hb) (EE T o q)]at zr;cases zr
  .cases q:H T with
   | none=>rfl
   | some ho =>
    obtain⟨u,g⟩:=(I.hok T ho q).there;rw[JN g (λz=>by rw[I.stkFree T z]at q;cases q) (λz=>by rw[(VU T z).2]at q;cases q)]at zr;cases zr
theorem EC(WE:X.stack=X.env :: X.outer)(I:Inv X pins σ H s){h0:Heap}(F:Fly h0 H e C s.heap):∃ T a0,Heap.FlyingW (WO X s.heap [e,T]) X.stack e (.ref C) a0 s.heap/\h0.get? T=none/\H T=none:=by obtain⟨oe,vs,T,oT,ts,a0,he,hc,hd,tH,h1,ED,hT,HI,h3,nT,fT⟩:=F.ex;refine⟨T,a0,⟨EG,xt _ (by simp),?_,oe,vs,T,oT,ts,he,⟨hc,tH⟩,hd,h1,xt _ (by simp),ED,hT,HI,h3⟩,nT,fT⟩;exact jy I.stack λenv JM a hf=>Yb _ (Au.mpr ⟨env,JM,hf⟩)
theorem tG(WE:X.stack=X.env :: X.outer)(RC:X.env.frame=some X.env.locals)(hex:X.ex=[])(I:Inv X pins σ H s)(F:Fly X.s₀.heap H e C s.heap){E:XK}(hE:E (.ref C) none H){E':Ae} :
  wpAny (model X.prog X.w) X.A (leaving X.env (.ref e)) (λ_ UO=>UX X.prog X.w X.outer X.H₀ X.s₀ E (.ref e) UO) E' s:=by
 obtain⟨T,a0,fl,nT,fT⟩:=EC WE I F;rw[WE]at fl;refine wpAny_leaves_onW (by rw[I.ok.frames,WE]) RC fl λh' fl' up=>?_;refine ie WE RC hex I (λb hb=>?_) fl' up F.new F.free hE rfl rfl rfl;rcases Yg.mp hb with rfl | hb
 .exact⟨F.new,F.free⟩
 .rw[XD.mp hb];exact⟨nT,fT⟩
theorem ZG6(WE:X.stack=X.env :: X.outer)(RC:X.env.frame=some X.env.locals)(hex:X.ex=[])(I:Inv X pins σ H s){h':Heap}{vs:Ag}(hm:Heap.MadeExcOf s.heap h' e (.ref C) vs){E:XK}(hE:E (.ref C) none H){E':Ae} :
  wpAny (model X.prog X.w) X.A (leaving X.env (.ref e)) (λ_ UO=>UX X.prog X.w X.outer X.H₀ X.s₀ E (.ref e) UO) E' { s with heap:=h' }:=by
 have ff:s.heap.FunFrames (WO X s.heap []) X.stack:=jy I.stack λenv JM a hf=>Yb _ (Au.mpr ⟨env,JM,hf⟩);rw[WE]at ff;refine wpAny_leaves_madeW (base:=WO X s.heap []) (h:=s.heap) (by rw[I.ok.frames,WE]) RC EG ff hm λJL t fl _ _ up=>?_;have fe:H e=none:=by
  cases q:H e with
  | none=>rfl
  | some ho =>
   obtain⟨u,g⟩:=(I.hok e ho q).there;rw[hm.new]at g;cases g
 exact ie (s':={ s with heap:=JL }) WE RC hex I (λb hb=>by cases hb) fl ((Heap.UpToSlots.of_keeps hm.keeps).trans up) (I.was hex hm.new) fe hE rfl rfl rfl
theorem Inv.flown{E:XK}{ev:Value}{s':Shared}(I:Inv X pins σ H s)(h:UX X.prog X.w X.stack H s E ev s'):∃ e C H',ev=Value.ref e/\Inv X pins σ H' s'/\Fly s.heap H' e C s'.heap/\E (.ref C) none H':=by obtain⟨e,C,H',rfl,ho,hg,u,ok,F,hE⟩:=h;exact⟨e,C,H',rfl,I.call' (ch:=[]) ho u ok hg (λ_ z=>nomatch z),F,hE⟩
theorem Fly.older{h0 h1 h:Heap}(F:Fly h0 H e C h)(k:∀ b,h0.get? b=none->h1.get? b=none):Fly h1 H e C h:=by obtain⟨oe,vs,T,oT,ts,a0,he,hc,hd,tH,LW,ED,hT,HI,h3,nT,fT⟩:=F.ex;exact⟨⟨oe,vs,T,oT,ts,a0,he,hc,hd,tH,LW,ED,hT,HI,h3,k _ nT,fT⟩,k _ F.new,F.free⟩
end
section
variable{P:Program}{w:World}{K:Ad}{mg:Af}{base:Heap}
theorem ic{N:List Str}{qual:Str}{scope:Scope}{f:Addr}{cd:Value}{A:Around}{outer:List Env}{s:Shared}{H:Hp}{E:XK}:Kj (UX P w) (Ws (UX P w) P w K mg base N qual scope f cd A outer s H E) E:=by intro pins σ H1 s1 ev s' I h;obtain⟨e,C,H',rfl,J,F,hE⟩:=I.flown h;exact tG rfl rfl rfl J (F.older λb hb=>I.was rfl hb) hE
theorem Fun.okX{x qual:Str}{st:Stmt}{f:Addr}{fd:FuncData}{N ps:List Str}{k:Nat}{sp:Sp}(F:Fun K x qual st f fd)(S:FnScope N ps (XA st))(len:∀ vs H Q E,sp vs H Q E->vs.length=ps.length)
  (hbody:∀(Xz:Value) (A:Around) (outer:List Env) (s:Shared) (H:Hp) (vs:List V) (Q:VK) (E:XK),Room k (A.deeper (envOfC qual (XA st) s.heap.objs.size f Xz))->sp vs H Q E ->
   ∃ t,PSs (Ws (UX P w) P w K mg base N qual (XA st) f Xz A outer s H E) (Ql st) t/\t { nx:=λ_ H'=>Q .non H',rt:=Q } (start N vs) H):FnOk P w K mg base (UX P w) (k+1) f fd ps sp:=by obtain⟨oc,od,kV,doc,pm,an,Xz,ct,Ux,rfl,lk,Ui⟩:=F.ex;exact Kh lk Ui S len λA outer s H vs Q E hr Ti=>hbody Xz A outer s H vs Q E hr Ti
end
structure XCls (K:Ad) (C:Addr):Prop where
 ex:PySem.W.excIn K C [.type "ValueError",.type "Exception",.type "BaseException",.type "object"] "ValueError.__new__"=true
 ga:PySem.W.findIn K (.ref C) "__getattribute__"=some (some (.builtin "BaseException.__getattribute__"))
 gh:PySem.W.findIn K (.ref C) "__getattr__"=some none
 cl:PySem.W.findIn K (.ref C) "__class__"=some (some (.builtin "object.__class__"))
 ob:PySem.W.mroIn K C (.type "object")=some true
 bx:PySem.W.mroIn K C (.type "BaseException")=some true
theorem XCls.obj {K:Ad} {C:Addr} {h:Heap} (c:XCls K C) (X:K.In h):∃ bm N nm q bs hdct sn sub ab col dd k0 k1 k2 k3 k5 mN,h.get? C=some (excClassObj nm q C N bs bm hdct sn sub ab col dd k0 k1 k2 k3 k5 "ValueError.__new__")/\h.Ns N mN/\mN "__init__"=none/\OwnTail h [.type "ValueError",.type "Exception",.type "BaseException",.type "object"] bm:=by
 have q:=c.ex;unfold PySem.W.excIn at q;split at q
 .rename_i dd cd sl ho;split at q
  .rename_i C' bm k0 k1 k2 k3 n k5 hm hs;simp only [Mr,SW,Bool.not_eq_true']at q;obtain⟨⟨⟨⟨⟨rfl,rfl⟩,EB⟩,ht⟩,hok⟩,zq⟩:=q;obtain⟨nm,bs,mro,ns,qn,hd,sn,sub,ab,col,del⟩:=cd;dsimp only at hm EB hok zq;subst hm EB;have JK:sl=#[k0,k1,k2,k3,some (.builtin "ValueError.__new__"),k5]:=by obtain⟨l⟩:=sl;simp only at hs;rw[hs]
   subst JK;exact⟨bm,ns,nm,qn,bs,hd,sn,sub,ab,col,dd,k0,k1,k2,k3,k5,_,X _ _ ho,.of_isNs (PySem.W.isNs_of_in X hok),PySem.W.nsMap_none_of_in X hok zq,PySem.W.tail_of_in X ht⟩
  .cases q
 .cases q
def EA(C:Addr)(E:XK)(t:TA):TS:=λ_ σ H=>t σ H λvs H1=>vs.length<=sizeLine/\E (.ref C) none H1
theorem h8{P:Program}{w:World}{K:Ad}{mg:Af}{base:Heap}{N:List Str}{qual:Str}{scope:Scope}{f:Addr}{cd:Value}{A:Around}{outer:List Env}{s0:Shared}{H0:Hp}{E:XK}{C:Addr}{x:Str}{np Xm pos:Pos}{e₀:Expr}{rest:List Expr}{t:TA}
  (c:XCls K C) (hm:mg x=some (.ref C)) (ha:PA (Ws (UX P w) P w K mg base N qual scope f cd A outer s0 H0 E) (e₀ :: rest) t)
  (hg:Gl (Ws (UX P w) P w K mg base N qual scope f cd A outer s0 H0 E) x:=by rfl) (hd:(x == ("__debug__":Str))=false:=by decide)
  (he:starEach (e₀ :: rest) (Ws (UX P w) P w K mg base N qual scope f cd A outer s0 H0 E).env=(false,eval e₀ (Ws (UX P w) P w K mg base N qual scope f cd A outer s0 H0 E).env) :: starEach rest (Ws (UX P w) P w K mg base N qual scope f cd A outer s0 H0 E).env:=by rfl)
  (Vu:(backTo Xm (starEach rest (Ws (UX P w) P w K mg base N qual scope f cd A outer s0 H0 E).env)).any (·.1)=false:=by rfl) :
  PS (Ws (UX P w) P w K mg base N qual scope f cd A outer s0 H0 E) (.Raise (some (.Call (.Name x np) (e₀ :: rest) [] Xm)) none pos) (EA C E t):=by
 intro pins s σ H D I h;obtain⟨tl,NN,nm,q,bs,hdct,sn,sub,ab,col,dd,k0,k1,k2,k3,k5,mN,hC,hN,zq,T⟩:=c.obj I.ok.mod.kin;refine wpAny_Raise_call_subT (C:=C) (nm:=nm) (q:=q) (N:=NN) (bs:=bs) (bm:=tl) (hdct:=hdct) (sn:=sn) (sub:=sub) (ab:=ab) (col:=col) (dd:=dd) (k0:=k0) (k1:=k1) (k2:=k2) (k3:=k3) (k5:=k5)
  jL (mN:=mN) (T.hasType jL.hasBase) (I.ok.hd rfl) (by rw[he];show(false || (backTo Xm (starEach rest _)).any (·.1))=false;rw[Vu];rfl) zq (Gs I hg hm ⟨rfl,?_⟩ hd)
 have h:=ha Xm pins s σ H _ I h;rw[he]at h ⊢;refine Calls.evalArgs_plain (Uj h (λvs s₂ h₂=>?_) λ_ _ y=>y);obtain⟨zs,H2,I2,rz,hz,hE⟩:=h₂;refine⟨rfl,by rw[<- rz.length];exact hz,I2.bk _ _ hC,hN.keeps I2.bk,T.keeps I2.bk,λh' e hme=>?_⟩;exact ZG6 rfl rfl rfl I2 hme hE
section
variable{X:Cx}{pins:List (Addr × Obj)}{σ:St}{H:Hp}{s:Shared}{e:Addr}
theorem Inv.held(I:Inv X pins σ H s){ns:List Addr}{h':Heap}{tk:Nat}(VU:∀ b∈ns,X.s₀.heap.get? b=none/\H b=none/\(∀ p∈X.pn++pins,p.1≠b))(k:(WO X s.heap ns).StaysIn h')(up:s.heap.UpToSlots h'):Inv X pins σ H { s with heap:=h',toks:=tk }:=by
 have EE:∀ b o,X.s₀.heap.get? b=some o->b∉ns:=λb o q z=>by rw[(VU b z).1]at q;cases q
 have zt:∀ b o,X.s₀.heap.get? b=some o->b≠X.env.locals:=λb o q=>Yt (Ym (Yl q) I.ok.above);have LX:∀ b,b≠X.env.locals->b∉X.fs->b∉Wr X.stack:=λb h1 h2 z=>(Yg.mp (I.stkSub b z)).elim h1 h2
 have slot:∀ b u,b∈X.fs->s.heap.get? b=some u->∃ sl,h'.get? b=some { u with slots:=sl }:=λb u hb g=>by obtain⟨_,o',WQ,hd⟩:=I.funs.mem hb;rw[g]at WQ;cases WQ;exact up b u g hd
 have cellK:∀ c v,s.heap.IsCell c v->h'.IsCell c v:=λc v ⟨o,ho,hd⟩=>by
  obtain⟨sl,g⟩:=up c o ho λvs q=>by rw[hd]at q;cases q
  exact⟨_,g,hd⟩
 refine⟨I.ok,I.os,I.bare,⟨λb o q n hb hx=>?_,λb o q n hb hx=>?_,I.base.free,λb o q hx=>?_,I.base.tups,I.base.frzs,I.base.tbls⟩,?_,λx c q=>?_,I.free,I.freeC,λp hp=>?_,EF I.hok I.stkFree (λb hb=>(VU b hb).2.1) k,I.len⟩
 .exact k b o (JN (I.base.keep b o q n hb hx) (LX b (zt b o q) hb) (EE b o q))
 .obtain⟨sl,g⟩:=I.base.slot b o q n hb hx;obtain⟨KD,g'⟩:=slot b _ hb g;exact⟨KD,g'⟩
 .obtain⟨u,g⟩:=I.base.there b o q hx;by_cases hb:b∈X.fs
  .obtain⟨sl,g'⟩:=slot b u hb g;exact⟨_,g'⟩
  .exact⟨u,k b u (JN g (LX b (zt b o q) hb) (EE b o q))⟩
 .obtain⟨m,hn,hl⟩:=I.loc;refine⟨m,up.ns hn,λi x v e1 e2 e3=>?_⟩;obtain⟨u,r,l⟩:=hl i x v e1 e2 e3;refine⟨u,r,?_⟩;rcases l with l | ⟨kk,c,q,z⟩
  .exact .inl l
  .exact .inr ⟨kk,c,q,cellK c _ z⟩
 .obtain⟨v,z⟩:=I.cell x c q;exact⟨v,cellK c v z⟩
 .obtain⟨q,n,ne,nf,d⟩:=I.pin p hp;exact⟨k p.1 p.2 (JN q (LX p.1 ne nf) λz=>(VU p.1 z).2.2 p hp rfl),n,ne,nf,d⟩
theorem Inv.gone(I:Inv X pins σ H s)(hN:X.N.Nodup){i:Nat}{n:Str}{h':Heap}{tk:Nat}{m:Af}{v:Option Value}(hi:X.N[i]?=some n)(hn:s.heap.Ns X.env.locals m)
  (TY:h'.Ns X.env.locals (λx=>if x=n then v else m x)) (hs:Heap.SameBut X.env.locals s.heap h'):Inv X pins (σ.set i none) H { s with heap:=h',toks:=tk }:=by
 obtain⟨m0,hn0,hl⟩:=id I.loc;have em:m0=m:=by
  funext x
  obtain⟨o,es,ep,ho,hd,_,hf⟩:=hn0;obtain⟨o',z3,zZ,WQ,TZ,_,hf'⟩:=hn;rw[ho]at WQ;cases WQ;rw[hd]at TZ;cases TZ;rw[<- hf,<- hf']
 subst em;have cne:=I.cne
 have Oi:i<σ.length:=by rw[I.len];exact(Xp.mp hi).1
 obtain⟨oL,_,_,Mf,_⟩:=id hn;refine⟨I.ok,I.os,I.bare,⟨λb o q n hb hx=>?_,λb o q n hb hx=>?_,I.base.free,λb o q hx=>?_,I.base.tups,I.base.frzs,I.base.tbls⟩,⟨_,TY,λj y v' e1 e2 e3=>?_⟩,λy c q=>?_,I.free,I.freeC,λp hp=>?_,λb ob q=>?_,by simpa using I.len⟩
 .exact(hs.2 b (Yt (Ym (Yl q) I.ok.above))).trans (I.base.keep b o q n hb hx)
 .obtain⟨sl,e1⟩:=I.base.slot b o q n hb hx;exact⟨sl,(hs.2 b (Yt (Ym (Yl q) I.ok.above))).trans e1⟩
 .obtain⟨o',e1⟩:=I.base.there b o q hx;exact⟨o',(hs.2 b (Yt (Ym (Yl q) I.ok.above))).trans e1⟩
 .by_cases hj:j=i
  .subst hj;rw[xx Oi]at e2;cases e2
  .rw[xp (YW hj)]at e2;obtain⟨u',r',q⟩:=hl j y v' e1 e2 e3;refine⟨u',r',?_⟩;rcases q with ⟨k,e⟩ | ⟨k,c,e,z⟩
   .refine .inl ⟨k,?_⟩
    have:y≠n:=λe=>hj (KC hN e1 (e ▸ hi))
    simp[this,e]
   .exact .inr ⟨k,c,e,z.sameBut hs (cne y c e)⟩
 .obtain⟨w',z⟩:=I.cell y c q;exact⟨w',z.sameBut hs (cne y c q)⟩
 .obtain⟨q,n,ne,nf,d⟩:=I.pin p hp;exact⟨(hs.2 p.1 ne).trans q,n,ne,nf,d⟩
 .refine(I.hok b ob q).stay (λc w' hc q'=>(hs.2 c ?_).trans q') (λ_ q=>q) λ_ _ q=>q;rintro rfl;rcases hc with z | hc
  .subst z;rw[I.free]at q;cases q
  .rw[I.free]at hc;cases hc
end
abbrev Qc(X:Cx)(pins:List (Addr × Obj))(R:St->XK):Cx:={ X with pn:=X.pn++pins,xe:=λev s'=>∃(σ:St) (H1:Hp) (s1:Shared),Inv X pins σ H1 s1/\UX X.prog X.w X.stack H1 s1 (R σ) ev s' }
abbrev NL(X:Cx)(pins:List (Addr × Obj))(e:Addr)(oe:Obj):Cx:={ X with A:=X.A.mark (some (.ref e)),calm:=false,pn:=X.pn++pins++[(e,oe)],xe:=λ_ _=>False }
section
variable{X:Cx}{pins pins':List (Addr × Obj)}{σ:St}{H:Hp}{s:Shared}{R:St->XK}{e:Addr}{oe:Obj}
theorem Inv.inTry(I:Inv X pins σ H s):Inv (Qc X pins R) [] σ H s :=
 ⟨⟨I.ok.mod,I.ok.kind,I.ok.glob,I.ok.blt,I.ok.above,I.ok.inj,I.ok.has,I.ok.cab,I.ok.hd,I.ok.frames,I.ok.stk,I.ok.exf,I.ok.bs,I.ok.bsz,I.ok.noex,I.ok.exfs,I.ok.funs,I.ok.frf⟩,I.os,I.bare,I.base,I.loc,I.cell,I.free,I.freeC,λp hp=>I.pin p (by simpa using hp),I.hok,I.len⟩
theorem Inv.outTry(I:Inv (Qc X pins R) pins' σ H s):Inv X pins σ H s :=
 ⟨⟨I.ok.mod,I.ok.kind,I.ok.glob,I.ok.blt,I.ok.above,I.ok.inj,I.ok.has,I.ok.cab,I.ok.hd,I.ok.frames,I.ok.stk,I.ok.exf,I.ok.bs,I.ok.bsz,I.ok.noex,I.ok.exfs,I.ok.funs,I.ok.frf⟩,I.os,I.bare,I.base,I.loc,I.cell,I.free,I.freeC,λp hp=>I.pin p (Yb _ hp),I.hok,I.len⟩
theorem SP.outTry{D:Ends}{f:Flow}(h:SP (Qc X pins R) [] D f s):SP X pins D f s:=by
 cases f with
 | next=>obtain⟨σ',H',I,q⟩:=h;exact⟨σ',H',I.outTry,q⟩
 | brk=>obtain⟨σ',H',I,q⟩:=h;exact⟨σ',H',I.outTry,q⟩
 | cont=>obtain⟨σ',H',I,q⟩:=h;exact⟨σ',H',I.outTry,q⟩
 | ret u=>obtain⟨v,σ',H',I,r,q⟩:=h;exact⟨v,σ',H',I.outTry,r,q⟩
theorem Inv.inHan(I:Inv X pins σ H s)(h1:s.heap.get? e=some oe)(h2:H e=none)(h3:e≠X.env.locals)(h4:e∉X.fs)(h5:∀ v,oe.data≠.cell v):Inv (NL X pins e oe) [] σ H s :=
 ⟨⟨I.ok.mod,I.ok.kind,I.ok.glob,I.ok.blt,I.ok.above,I.ok.inj,I.ok.has,I.ok.cab,(λz=>(nomatch z)),I.ok.frames,I.ok.stk,I.ok.exf,I.ok.bs,I.ok.bsz,I.ok.noex,I.ok.exfs,I.ok.funs,I.ok.frf⟩,I.os,I.bare,I.base,I.loc,I.cell,I.free,I.freeC,λp hp=>by
  rw[YF]at hp;rcases Xy.mp hp with z | z
  .exact I.pin p z
  .rw[XD.mp z];exact⟨h1,h2,h3,h4,h5⟩,I.hok,I.len⟩
theorem Inv.outHan(hd:X.calm=true->X.A.handled=none)(fr:X.A.frames=some X.stack)(I:Inv (NL X pins e oe) pins' σ H s):Inv X pins σ H s :=
 ⟨⟨I.ok.mod,I.ok.kind,I.ok.glob,I.ok.blt,I.ok.above,I.ok.inj,I.ok.has,I.ok.cab,hd,fr,I.ok.stk,I.ok.exf,I.ok.bs,I.ok.bsz,I.ok.noex,I.ok.exfs,I.ok.funs,I.ok.frf⟩,I.os,I.bare,I.base,I.loc,I.cell,I.free,I.freeC,λp hp=>I.pin p (Yb _ (Yb _ hp)),I.hok,I.len⟩
end
def tE(CX:RJ)(X:Cx)(R:St->XK):Prop:=∀(pins:List (Addr × Obj)) (σ:St) (H:Hp) (s:Shared) (e:Value) (s':Shared),Inv X pins σ H s->CX X.stack H s (R σ) e s'->X.xe e s'
theorem pxT{X:Cx}{pins:List (Addr × Obj)}{P:Program}{w:World}{R:St->XK}(hP:P=X.prog:=by rfl)(hw:w=X.w:=by rfl):tE (UX P w) (Qc X pins R) R:=by subst hP hw;exact λ_ σ H s _ _ I h=>⟨σ,H,s,I.outTry,h⟩
def Ez(sp:Sp)(VE:List V)(R:St->XK)(t:TA):TE:=λσ H Q=>t σ H λvs H1=>sp (vs++VE) H1 Q (R σ)
section
variable{X:Cx}{CX:RJ}{k:Nat}{f:Addr}{fd:FuncData}{ps:List Str}{sp:Sp}{VE:List V}{ds:Ag}{R:St->XK}{x:Str}{p pos:Pos}{e:Expr}{es:List Expr}{t:TA}
theorem tD{pins:List (Addr × Obj)}{σ:St}{H:Hp}{s:Shared}{Q:VK}{us:Ag}{vs:List V}(F:FnOk X.prog X.w X.K X.mg X.base CX k f fd ps sp)(hr:Room k X.A)(hb:Binds X.K fd ps ds)(hd:Vals VE ds)(hx:tE CX X R)
  (I:Inv X pins σ H s) (r:Vals vs us) (h:sp (vs++VE) H Q (R σ)):wpAny (model X.prog X.w) X.A (call (.ref f) us) (EP X pins σ Q) X.xe s:=by
 have r2:Vals (vs++VE) (us++ds):=r.append hd;have hl:(us++ds).length=ps.length:=by rw[<- r2.length];exact F.len _ _ _ _ h
 refine HV (Ml (F.run X.A X.stack s H ⟨us,[]⟩ (us++ds) (vs++VE) Q (R σ) hr I.env0 (hb s us I.kIn hl) r2 h) λr s' hq=>?_);cases r with
 | error e=>exact hx pins σ H s e s' I hq
 | ok fl =>
  cases fl with
  | ret u=>exact I.after hq
  | next=>exact False.elim hq
  | brk=>exact False.elim hq
  | cont=>exact False.elim hq
theorem ZU9(F:FnOk X.prog X.w X.K X.mg X.base CX k f fd ps sp)(hr:Room k X.A)(hg:Gl X x)(hm:X.mg x=some (.ref f))(hk:PySem.W.keepIn X.K (.ref f)=true)(hb:Binds X.K fd ps ds)(hd:Vals VE ds)(hx:tE CX X R)
  (ha:PA X (e :: es) t) (TV:(x == ("__debug__":Str))=false:=by decide) (he:starEach (e :: es) X.env=(false,eval e X.env) :: starEach es X.env:=by rfl) (Vk:(backTo pos (starEach es X.env)).any (·.1)=false:=by rfl) :
  PE X (.Call (.Name x p) (e :: es) [] pos) (Ez sp VE R t):=by intro pins s σ H Q I h;refine QF (Gs I hg hm ?_ TV);refine xi (h₀:=X.base) I.ok.mod.kin hk (thn (ha pos pins s σ H _ I h) λus s1 ⟨vs,H1,I1,r,q⟩=>⟨I1.kIn,?_⟩) he Vk;exact tD F hr hb hd hx I1 r q
end
def Ends.less(D:Ends)(i:Nat):Ends:={ nx:=λσ H=>D.nx (σ.set i none) H,rt:=D.rt,bk:=λσ H=>D.bk (σ.set i none) H,ct:=λσ H=>D.ct (σ.set i none) H }
def tw(K:Ad)(W:Addr)(i:Nat)(tb:(St->XK)->TS)(th:Addr->Addr->TS):TS:=λD σ H =>
 tb (λσ' c _ H'=>∃ C,c=Value.ref C/\PySem.W.exmOne K (.ref C) (.ref W)=some true/\∀ e:Addr,H' e=none->th e C (D.less i) (σ'.set i (some (.ref e))) H') D σ H
theorem tu{X:Cx}{W:Addr}{i:Nat}{x n:Str}{np RB pos:Pos}{body:List Stmt}{b₀:Stmt}{LV:List Stmt}{tb:(St->XK)->TS}{th:Addr->Addr->TS}
  (WE:X.stack=X.env :: X.outer) (RC:X.env.frame=some X.env.locals) (hex:X.ex=[]) (hN:X.N.Nodup) (hi:X.N[i]?=some n) (hl:X.env.kindOf n=some .local) (hm:X.mg x=some (.ref W)) (hg:Gl X x)
  (hb:∀(R:St->XK) (pins:List (Addr × Obj)),PSs (Qc X pins R) body (tb R)) (hs:∀(e C:Addr) (oe:Obj) (pins:List (Addr × Obj)),oe.cls=.ref C->PSs (NL X pins e oe) (b₀ :: LV) (th e C)) (TV:(x == ("__debug__":Str))=false:=by decide) :
  PS X (.Try body [.ExceptHandler (some (.Name x np)) (some n) (b₀ :: LV) RB] [] [] pos) (tw X.K W i tb th):=by
 intro pins s σ H D I h;refine wpAny_Try_except (Uj (hb _ pins [] s σ H D I.inTry h) (λf s1 q=>?_) (λev s1 q=>?_))
 .have q:=SP.outTry q;cases f with
  | next=>exact Qx q
  | brk=>exact q
  | cont=>exact q
  | ret u=>exact q
 .obtain⟨σ1,H1,s0,I0,Wv⟩:=q;obtain⟨e,C,H',rfl,J,F,C',eC,hmt,hR⟩:=I0.flown Wv;cases eC;have hR:=hR e F.free
  obtain⟨T,a0,fl,nT,fT⟩:=EC WE J F;have VU:∀ b∈[e,T],X.s₀.heap.get? b=none/\H' b=none/\(∀ p∈X.pn++pins,p.1≠b):=λb hb=>by
   have key:∀ b,s0.heap.get? b=none->H' b=none->X.s₀.heap.get? b=none/\H' b=none/\(∀ p∈X.pn++pins,p.1≠b):=λb n0 f0=>⟨I0.was hex n0,f0,λp hp z=>by
    have:=(I0.pin p hp).1
    rw[z,n0]at this;cases this⟩
   rcases Yg.mp hb with rfl | hb
   .exact key _ F.new F.free
   .rw[XD.mp hb];exact key _ nT fT
  rw[WE]at fl;refine wpAny_looks_onW (by rw[J.ok.frames,WE]) RC fl λh₄ NK Ey=>?_;refine wpAny_landsW NK λh₅ Qb JJ=>?_;have LU:=Ey.trans JJ
  have J₅:Inv X pins σ1 H' { s1 with heap:=h₅ }:=J.held (tk:=s1.toks) VU Qb.1 LU;obtain⟨ob,RE,tq⟩:=Qb.there;refine wpAny_handleBy_cons (codeAny_handlers_test (KU J₅.ok.kind hg (Calls.loadGlobal_global (by rw[J₅.ok.glob];exact J₅.mod.glob.keeps J₅.bk) hm ?_) TV)) (by intro q;cases q);have LT:PySem.W.Looks (model X.prog X.w) h₅ (typeOf (.ref e)) (.ref C):=by rw[<- tq];exact(PySem.W.Looks.ld RE).andThen .now
  refine(PySem.W.exm_one J₅.kIn LT hmt).here ?_;refine codeAny_handlers_suite_as ?_;refine lands_againW Qb λh₆ LS Ex=>?_;have J₆:Inv X pins σ1 H' { s1 with heap:=h₆ }:=J.held (tk:=s1.toks) VU LS.1 (LU.trans Ex)
  obtain⟨oe,ws,Tg,tm,NJ,hoe0⟩:=LS.first;have Gx:e≠X.env.locals:=λz=>by
   obtain⟨m,⟨o',es,ep,WQ,TZ,_⟩,_⟩:=J₆.loc;rw[<- z]at WQ;have Qa:h₆.get? e=some oe:=Tg
   have TK:h₆.get? e=some o':=WQ;rw[Qa]at TK;cases TK;rw[NJ]at TZ;cases TZ
  have LX:e∉X.fs:=λz=>by
   obtain⟨_,o',WQ,hd⟩:=J₆.funs.mem z;have Qa:h₆.get? e=some oe:=Tg
   have TK:h₆.get? e=some o':=WQ;rw[Qa]at TK;cases TK;exact hd ws NJ
  refine jm J₆ hN hi (.inl hl) (v:=.ref e) rfl (λs7 J₇ zp=>?_) (.inr hl);obtain⟨a,Ew,ha⟩:=zp;have hea:e≠a:=by
   rcases ha with rfl | ha
   .exact Gx
   .intro z;obtain⟨v,o',WQ,TZ⟩:=J₆.cell _ _ ha;rw[<- z]at WQ;have Qa:h₆.get? e=some oe:=Tg
    have TK:h₆.get? e=some o':=WQ;rw[Qa]at TK;cases TK;rw[NJ]at TZ;cases TZ
  have tj:s7.heap.get? e=some oe:=(Ew.2 e hea).trans Tg;have JH:=J₇.inHan (oe:=oe) tj F.free Gx LX (λv z=>by rw[NJ]at z;cases z)
  refine Uj (hs e C oe pins tm [] s7 _ H' (D.less i) JH hR) (λf s8 q=>?_) λ_ _ z=>False.elim z;have hp:(X.env.scope.kind == .class || (X.env.scope.kind == .module && X.env.locals != X.env.globals))=false:=by rw[J.ok.kind];rfl
  have fin:∀ {σ8:St} {H8:Hp},Inv (NL X pins e oe) [] σ8 H8 s8->∀ {Q:Flow->Shared->Prop},(∀ s9,Inv X pins (σ8.set i none) H8 s9->Q f s9)->wpAny (model X.prog X.w) X.A (do bindName X.env n .none;unbindBehindTheSuite X.env n RB) (λ_ s9=>Q f s9) X.xe s8:=λ{σ8 H8} J8 {Q} k=>by have J9:=J8.outHan I.ok.hd I.ok.frames;obtain⟨m,hn,_⟩:=id J9.loc;exact wpAny_nameGoes_keeps hl hn hp λh' v TY Eu=>k _ (J9.gone hN hi hn TY Eu)
  cases f with
  | next=>obtain⟨σ8,H8,J8,q⟩:=q;exact fin J8 λs9 J9=>⟨_,H8,J9,q⟩
  | brk=>obtain⟨σ8,H8,J8,q⟩:=q;exact fin J8 λs9 J9=>⟨_,H8,J9,q⟩
  | cont=>obtain⟨σ8,H8,J8,q⟩:=q;exact fin J8 λs9 J9=>⟨_,H8,J9,q⟩
  | ret u=>obtain⟨v,σ8,H8,J8,r,q⟩:=q;exact fin J8 λs9 J9=>⟨v,_,H8,J9,r,q⟩
end L2
namespace L2
open PySem PySem.Spec PyProof.Rows PySem.W PySem.Calls Builtin Builtin.ObjectAttr Builtin.Getset_descriptor
section
variable{prog:Program}{w:World}{A:Around}{E:Ae}{K:Ad}{x C:Addr}{ox:Obj}
theorem tf {R:Result->Shared->Prop} {s:Shared} {tp:Value} (X:K.In s.heap) (hx:s.heap.get? x=some ox) (hc:ox.cls=.ref C) (hm:mroIn K C (.type "object")=some true)
  (h:R (.ok (.ret (.ref C))) s):codeAny (model prog w) A (.call (.builtin "getset_descriptor.__get__") ⟨[.builtin "object.__class__",.ref x,tp],[]⟩) R s:=by
 obtain⟨hh,g,dr,t,os⟩:=s;have L0:Looks (model prog w) hh (typeOf (.ref x)) (.ref C):=by rw[<- hc];exact(Looks.ld hx).andThen .now
 have L1:=looks_mroIn (M:=model prog w) X hm;refine Av KF.slot_gs.plain KF.entry_gs (KF.slot_gs.check _ _ _ _ _ _ _ _ KF.type_class (KF.args_gs _ _ _) ?_);unfold Builtin.«getset_descriptor.__get__» descrGet;rw[dga_obj];refine XU (Yk ?_);unfold descrGetter descrCheckInstance descrNameAndClass isInstance;simp only [KF.owner_class]
 repeat lk
 refine⟨Ar _ (by decide +kernel),RX KF.entry_class ?_⟩;unfold Builtin.«object.__class__» shownTypeOf
 repeat lk
 exact h
theorem Zo9{tk:Tok}{Q:Fin->Shared->Prop}{s:Shared}(X:K.In s.heap)(hx:s.heap.get? x=some ox)(hc:ox.cls=.ref C)(c:XCls K C)(hq:Q (.done (.ret (.ref C))) s) :
  wpAny (model prog w) A (Builtin.«object.__getattribute__» ⟨[.ref x,.str "__class__" tk],[]⟩) Q E s:=by
 obtain⟨hh,g,dr,t,os⟩:=s;have L0:Looks (model prog w) hh (typeOf (.ref x)) (.ref C):=by rw[<- hc];exact(Looks.ld hx).andThen .now
 have L1:=looks_findIn (M:=model prog w) X c.cl;have zm:(⟨hh,g,dr,t,os⟩:Shared).TypeIs (.builtin "object.__class__") "getset_descriptor":=F.typeOf_object_class
 have f5:=F.typeOf_object_class;have f6:=F.slot_gs_get.lookup
 have f7:=F.slot_gs_set.lookup
 repeat (any_goals (first | assumption | (with_reducible refine L0.at ?_) | (with_reducible refine L1.at ?_) | wp_step))
 refine tf (s:=⟨hh,g,dr,t,os⟩) X hx hc c.ob ?_;exact Yk hq
theorem Zp9{M:Model}{LR:Value}{Q:Unit->Shared->Prop}{s:Shared}(X:K.In s.heap)(hx:s.heap.get? x=some ox)(hc:ox.cls=.ref C)(c:XCls K C)(hq:Q () s) :
  wpAny M A (checkBuiltinCall "BaseException.__getattribute__" ⟨[.ref x,LR],[]⟩) Q E s:=by
 obtain⟨hh,g,dr,t,os⟩:=s;have hk:builtinKind "BaseException.__getattribute__"=some .slot:=by decide +kernel
 have JI:splitId "BaseException.__getattribute__"=some ("BaseException","__getattribute__"):=by decide +kernel
 have ha:=PySem.F.args_bexc_ga (.ref x) LR;have L0:Looks M hh (typeOf (.ref x)) (.ref C):=by rw[<- hc];exact(Looks.ld hx).andThen .now
 have L1:=looks_mroIn (M:=M) X c.bx;simp only [checkBuiltinCall,hk,JI];refine XU ?_;refine XU (L0.at (L1.at ?_))
 repeat (any_goals (first | assumption | wp_step))
theorem Et{tk:Tok}{R:Result->Shared->Prop}{s:Shared}(X:K.In s.heap)(hx:s.heap.get? x=some ox)(hc:ox.cls=.ref C)(c:XCls K C)(hq:R (.ok (.ret (.ref C))) s) :
  codeAny (model prog w) A (.call (.builtin "BaseException.__getattribute__") ⟨[.ref x,.str "__class__" tk],[]⟩) R s :=
 Av jA.ga.plain PySem.F.entry_bexc_ga (Zp9 X hx hc c (Zo9 X hx hc c hq))
theorem sZ{tk:Tok}{Q:Ae}{s:Shared}(X:K.In s.heap)(hx:s.heap.get? x=some ox)(hc:ox.cls=.ref C)(c:XCls K C)(hq:Q (.ref C) s) :
  wpAny (model prog w) A (getAttrBy (.ref x) (.str "__class__" tk) false) Q E s:=by
 obtain⟨hh,g,dr,t,os⟩:=s;have f3:=jA.ga.bind (.ref x)
 have Er:(Value.builtin "BaseException.__getattribute__" == Value.builtin "object.__getattribute__")=false:=by decide +kernel
 have h7:(onTheHeap (Value.ref C) && Value.builtin "BaseException.__getattribute__" == Value.builtin "object.__getattribute__")=false:=by rw [Er];rfl
 have L0:Looks (model prog w) hh (typeOf (.ref x)) (.ref C):=by rw[<- hc];exact(Looks.ld hx).andThen .now
 have L1:=looks_findIn (M:=model prog w) X c.ga;have L2:=looks_findIn (M:=model prog w) X c.gh
 repeat (any_goals (first | assumption | (with_reducible refine L0.at ?_) | (with_reducible refine L1.at ?_) | (with_reducible refine L2.at ?_) | wp_step))
 refine Et (s:=⟨hh,g,dr,t,os⟩) X hx hc c ?_
 repeat (any_goals (first | assumption | wp_step))
theorem Ep{Q:Option Value->Shared->Prop}{s:Shared}(X:K.In s.heap)(hx:s.heap.get? x=some ox)(hc:ox.cls=.ref C)(c:XCls K C)(hq:Q (some (.ref C)) { s with toks:=s.toks+1 }) :
  wpAny (model prog w) A (getAttr? (.ref x) "__class__") Q E s:=by
 obtain⟨hh,g,dr,t,os⟩:=s;unfold getAttr? getAttrBy?
 repeat (any_goals (first | assumption | with_reducible refine sZ (s:=⟨hh,g,dr,_,os⟩) X hx hc c ?_ | wp_step))
theorem sY(c:XCls K C)(Ud:(clsIn K C).isSome=true)(hc:ox.cls=.ref C):KitX K (.ref x) (.ref C) (λh=>h.get? x=some ox) where
 ty:=λ_ _ _ hx=>by rw[<- hc];exact(Looks.ld hx).andThen .now
 it:=λ_ _ X _=>by
  unfold clsIn at Ud;split at Ud
  .rename_i c' d' cd' KD ho;intro A' Q' E' s' k q;unfold isType loadHead;exact XU (wpAny_loadPart (k _ _ (X _ _ ho)) (Yk q))
  .cases Ud
 ne:=λh tp dd XW n sl X JG=>by
  refine Bool.eq_false_iff.mpr λq=>?_;have e:C=tp:=Value.ref.inj (SW.mp q)
  subst e;unfold clsIn at Ud;split at Ud
  .rename_i c' d' cd' KD ho
   have:=X _ _ ho
   rw[JG]at this;cases this
  .cases Ud
 ca:=λ{_ _ _ _ _ s} X hx hq=>Ep X hx hc c hq
end
theorem XCls.isSome{K:Ad}{C:Addr}(c:XCls K C):(clsIn K C).isSome=true:=by
 have q:=c.ex;unfold excIn at q;unfold clsIn;split at q
 .rename_i dd cd sl ho;rw[ho];rfl
 .cases q
section
variable{X:Cx}
theorem zk (K:Ad) {e C:Addr} {oe:Obj} (hp:(e,oe)∈X.pn) (hc:oe.cls=.ref C) (h:X.K=K:=by rfl):Uh X (.builtin "isinstance") (λxs H Q=>∃(d:V) (u:Value) (b:Bool),xs=[.ref e,d]/\(∀ z,RelV d z->z=u)/\XCls K C/\kitOne K (.ref C) u=some b/\Q (.bl b) H):=by
 subst h;intro pins s σ H xs us Q I r h;obtain⟨d,u,b,rfl,hd,c,hk,q⟩:=h;obtain⟨u1,v,rfl,ru,rv⟩:=ui r;obtain rfl:u1=Value.ref e:=ru;obtain rfl:=hd v rv;have hx:=(I.pin (e,oe) (Yb _ hp)).1
 exact kia_one (sY c c.isSome hc) I.kIn hx hk (λz=>nomatch z) λtk=>⟨.bl b,H,I.tok tk,rfl,q⟩
end
end L2
namespace L2
open PySem PySem.Spec PyProof.Rows
theorem sX{a:Int}(h1:-(10 ^ 70)<a)(h2:a<10 ^ 70):a.natAbs.log2<1920:=by
 have h:a.natAbs<10 ^ 70:=by omega
 by_cases h0:a.natAbs=0
 .rw[h0];decide
 .exact(Nat.log2_lt h0).mpr (Ah h (by decide))
def PJ(X:Cx)(es:List Expr)(t:St->Hp->(Hp->Prop)->Prop):Prop:=∀(n:Nat) (pins:List (Addr × Obj)) (s:Shared) (σ:St) (H:Hp) (acc:Str) (Q:Hp->Prop),acc.length<=4000 * n->n+es.length<=100->Inv X pins σ H s->t σ H Q ->
 wpAny (model X.prog X.w) X.A (joinParts acc (evalEach es X.env)) (λv s'=>∃ x tk H',v=Value.str x tk/\Inv X pins σ H' s'/\Q H') X.xe s
section
variable{X:Cx}{es:List Expr}{e:Expr}{te:TE}{t:St->Hp->(Hp->Prop)->Prop}{pos:Pos}
theorem JF:4000 * 100<=sizeLine:=by decide
theorem Eo:PJ X [] (λ_ H Q=>Q H):=λn pins s σ H acc Q ha hn I h=>by refine joinParts_nil ⟨acc,_,H,rfl,I.tok _,h⟩ (Yr ha (Yr (xn _ ?_) JF));simpa using hn
theorem En{x:Str}{j:Nat}{p:Pos}(hr:PJ X es t)(hz:x.length<=4000:=by decide +kernel):PJ X (.Constant (.str x) j p :: es) t:=λn pins s σ H acc Q ha hn I h=>by
 have hl:(acc++x).length=acc.length+x.length:=strLen_append ..;rw[YB]at hn;have hb:(acc++x).length<=4000 * (n+1):=by rw[hl];lia
 refine joinParts_cons (Calls.Constant_str ⟨Yr hb (Yr (xn _ (by lia)) JF),?_⟩);exact hr (n+1) pins _ σ H _ Q hb (by lia) (I.tok _) h
def sW(te:TE)(t:St->Hp->(Hp->Prop)->Prop):St->Hp->(Hp->Prop)->Prop:=λσ H Q=>te σ H λv H1=>∃ a:Int,v=.int a/\-(10 ^ 70)<a/\a<10 ^ 70/\t σ H1 Q
theorem Em{p:Pos}(he:PE X e te)(hr:PJ X es t):PJ X (.FormattedValue e (-1) none p :: es) (sW te t):=λn pins s σ H acc Q ha hn I h=>by
 rw[YB]at hn;refine joinParts_cons (FormattedValue_plain (thn (he pins s σ H _ I h) λu s1 Xv=>?_));obtain⟨v,H1,I1,r,a,ev,a1,a2,q⟩:=Xv;subst ev;obtain⟨tk,rfl⟩:=r;have El:=sX a1 a2
 have hlen:(Str.ofString (toString a)).length<=4000:=by have z:=int_text_length_le (k:=1920) (by decide) El;rw[PySem.ofString_length];lia
 refine formatField_int_small El ?_;have hl:(acc++Str.ofString (toString a)).length=acc.length+(Str.ofString (toString a)).length:=strLen_append ..
 have hb:(acc++Str.ofString (toString a)).length<=4000 * (n+1):=by rw[hl];lia
 refine⟨Yr hb (Yr (xn _ (by lia)) JF),?_⟩;exact hr (n+1) pins _ σ H1 _ Q hb (by lia) (I1.tok _) q
def Ek(t:St->Hp->(Hp->Prop)->Prop):TE:=λσ H Q=>t σ H λH'=>∀ x:Str,Q (.str x) H'
theorem g9{v₁ v₂:Expr}{rest:List Expr}(h:PJ X (v₁ :: v₂ :: rest) t)(hn:(v₁ :: v₂ :: rest).length<=100:=by decide):PE X (.JoinedStr (v₁ :: v₂ :: rest) pos) (Ek t):=λpins s σ H Q I hq =>
 JoinedStr_many (thn (h 0 pins s σ H Str.empty _ (by decide) (by simpa using hn) I hq) λu s1 ⟨x,tk,H1,eu,I1,q⟩=>by subst eu;exact⟨.str x,H1,I1,⟨tk,rfl⟩,q x⟩)
end
theorem PZ{P:Program}{w:World}{X:Cx}:Kj (UX P w) X E0:=λ_ _ _ _ _ _ _ h=>by obtain⟨_,_,_,_,_,_,_,_,_,z⟩:=h;exact z.elim
end L2
namespace My
open PySem L2
theorem sV{H:Hp}{p1 p2:Addr}{l1 l2:Ac}{Q:VK}(h1:H p1=some (.lst (IL l1)))(h2:H p2=some (.lst (IL l2)))(hl:l1.length+l2.length<=1000000)(k:∀ r,H r=none->Q (.ref r) (upd H r (.lst (IL (l1++l2))))):Fj (.ref p1) (.ref p2) H Q:=by
 refine⟨p1,p2,_,_,rfl,rfl,h1,h2,?_,λr hr=>?_⟩
 .rw[Xq,Xq];exact NV hl
 .have:=k r hr
  rw[ET]at this;exact this
def RA(ns:Ac)(lo hi:Option Int):Ac:=(ns.drop (HT.VC ns.length 0 lo)).take (HT.VC ns.length ns.length hi - HT.VC ns.length 0 lo)
theorem NI(ns:Ac)(lo hi:Option Int):WU (IL ns) lo hi=IL (RA ns lo hi):=by unfold WU RA;rw[ES,t5,Xq]
theorem xI{α:Type}{p:α->Prop}{w:α}(h:p w):∃ x,p x:=⟨w,h⟩
end My
namespace L2
open PySem PySem.Spec PyProof.Rows
theorem ZV:∀ {us:Ag} {ns:Ac},IntsAre us ns->Vals (ns.map V.int) us
 | [],[],_=>.nil
 | _ :: _,[],h=>by cases h
 | [],_ :: _,h=>by cases h
 | u :: us,n :: ns,h=>by
  cases h with
  | cons _ _ t=>exact .cons ⟨_,rfl⟩ (ZV t)
theorem Vals.rev:∀ {xs:List V} {us:Ag},Vals xs us->Vals xs.reverse us.reverse
 | _,_,.nil=>.nil
 | _,_,.cons r t=>by rw[xg,xg];exact(Vals.rev t).append (.cons r .nil)
section
variable{X:Cx}
theorem sU (K:Ad) (hk:X.K=K:=by rfl):Uh X (.builtin "sorted") (λxs H Q=>∃(p:Addr) (ns:Ac),xs=[.ref p]/\SqL K H p (ns.map V.int)/\ns.length<64 /\
  ∀ ms:Ac,ms.Perm ns->ms.Pairwise (·<=·)->∀ l,H l=none->Q (.ref l) (upd H l (.lst (ms.map V.int)))):=by
 subst hk;intro pins s σ H xs us Q I r h;obtain⟨p,ns,rfl,hq,hn,q⟩:=h;obtain⟨u,rfl,ru⟩:=RM r;obtain rfl:u=Value.ref p:=ru;obtain⟨XW,rv,pl,hz⟩:=I.list hq;have hi:=ZM rv
 have hl:XW.length=ns.length:=by rw[<- rv.length,Yd]
 refine sorted_ints pl.isList hi (by lia) λout ms h1 h2 h3=>?_;obtain⟨e,he⟩:=sortedAll_at s.heap XW out;have NH:ms.length=ns.length:=h2.length_eq
 refine⟨.ref (s.heap.objs.size+1),_,I.laid (t':=s.toks) (o:=.lst (ms.map V.int)) (λb o g=>sortedAll_old g) (Uk _) ⟨?_,out.toList,e,ZV h1,?_⟩,rfl,q ms h2 h3 _ (I.hok.fresh (Uk _))⟩
 .rw[Yd,NH]
  have:sizeLine=16777216:=SX
  lia
 .exact he
theorem sT:typeLookup (.type "list_reverseiterator") "__length_hint__"=pure (some (.builtin "list_reverseiterator.__length_hint__")):=by rw [HZ,Ig];kernel_rfl
theorem ZQ7:typeLookup (.type "list_reverseiterator") "__len__"=pure none:=by rw [HZ,Ig];kernel_rfl
theorem Ej {prog:Program} {w:World} {A:Around} {E:Ae} {s:Shared} {r:Addr} {Q:Bool->Shared->Prop} (hT:s.TypeIs (.ref r) "list_reverseiterator") (h:Q false s):wpAny (model prog w) A (Builtin.List.listLengthHint (.ref r)) Q E s:=by
 unfold Builtin.List.listLengthHint;refine XU (wpAny_specialOf hT ZQ7 ?_);show wpAny _ A (specialOf (Value.ref r) (Str.ofString "__length_hint__") >>= _) _ _ _
 refine XU (wpAny_specialOf hT sT ?_);generalize Ei:("list_reverseiterator.__length_hint__":String)=sS
 wp_delta
 rw [show splitId sS=some ("list_reverseiterator","__length_hint__") from by subst Ei;decide +kernel];subst Ei;refine XU (Ao (T:="list_reverseiterator") (b:=true) hT (by rw [Aj];kernel_rfl) ?_);exact Yk h
section
variable{prog:Program}{w:World}{A:Around}{E:Ae}{s:Shared}{it a:Addr}{items:Array Value}
theorem ZC6{R:Result->Shared->Prop}(hh:A.handled=none)(hi:s.heap.IsRevIter it a ((items.size:Int) - 1))(hl:s.heap.IsList a items)(XJ:a≠it){S:Addr}(h1:S≠it)(h2:S≠a){res:Value}{c0:Nat}
  (hS:s.heap.get? S=some { cls:=.type "list",data:=.seq #[] c0 }) (hz:items.size<=sizeLine)
  (k:∀ h' tk acc c,(∀ b o,b≠S->b≠it->s.heap.get? b=some o->h'.get? b=some o)->h'.get? S=some { cls:=.type "list",dict:=none,data:=.seq acc c,slots:=#[] }->ItemsOf (λi v=>items[items.size - 1 - i]?=some v) acc items.size->R (.ok (.ret res)) { s with heap:=h',toks:=tk }) :
  wpAny (model prog w) A.in1 (Builtin.List.listExtendWith (.ref S) (.ref it) res)
   (λfin s'=>match fin with | .done f=>R (.ok f) s' | .again c'=>c'.quiet=true/\codeAny (model prog w) A c' R s') (λe s'=>R (.error e) s') s:=by
 have W:=Walks.listRev (prog:=prog) (w:=w) (A:=A.in1) hh it a XJ items;have SJ:S∉[it,a]:=by simp only [Yg,w6,or_false,not_or];exact⟨h1,h2⟩
 have HH:(0<=items.size/\s.heap.IsRevIter it a ((items.size:Int) - 1 - ((0:Nat):Int))/\s.heap.IsList a items):=⟨Yn _,by rw[show((items.size:Int) - 1 - ((0:Nat):Int))=(items.size:Int) - 1 by lia];exact hi,hl⟩;have hT:s.TypeIs (.ref it) "list_reverseiterator":=hi.typeIs
 have key:codeAny (model prog w) A (.builtin "list.extend.loop" ⟨[.ref S,.ref it,res],[]⟩) R s:=by
  refine codeAny_extend_loopS W.toS hz S SJ res items.size 0 _ #[] c0 rfl (Yn _) HH hS (ItemsOf.nil _) λs' acc c hm Tf Uw=>?_;rw[Moved.eq_with hm];refine k s'.heap s'.toks acc c (λb o hb hbi e=>hm.heap b o (λhmem=>?_) e) Tf Uw;rcases Yg.mp hmem with e' | hmem
  .exact hb e'
  .exact hbi (XD.mp hmem)
 unfold Builtin.List.listExtendWith;refine XU (z6 (T:="list_reverseiterator") hT ?_);have e1:Builtin.List.listSameRef (.ref S) (.ref it)=false:=by simp[Builtin.List.listSameRef,h1]
 rw[if_neg (by rw[e1];decide)];refine XU (wpAny_pyIter_revIter hi ?_);refine XU (Su (Ej hT ?_));rw[if_neg (by decide)];exact Yk ⟨UC GC _,key⟩
theorem Eh{Q:Ae}(hh:A.handled=none)(hi:s.heap.IsRevIter it a ((items.size:Int) - 1))(hl:s.heap.IsList a items)(XJ:a≠it)(hz:items.size<=sizeLine)
  (k:∀ h' tk acc c,(∀ b o,b≠it->s.heap.get? b=some o->h'.get? b=some o)->h'.get? s.heap.objs.size=some { cls:=.type "list",dict:=none,data:=.seq acc c,slots:=#[] }->ItemsOf (λi v=>items[items.size - 1 - i]?=some v) acc items.size ->
   Q (.ref s.heap.objs.size) { s with heap:=h',toks:=tk }):wpAny (model prog w) A (call (.type "list") [.ref it]) Q E s:=by
 obtain⟨oi,hoi,_⟩:=id hi;obtain⟨ol,QQ,_⟩:=id hl;have n1:s.heap.objs.size≠it:=RW (Yl hoi)
 have n2:s.heap.objs.size≠a:=RW (Yl QQ);refine callType_codes (Q₁:=λob s₁=>ob=.ref s.heap.objs.size/\s₁={ s with heap:=s.heap.push { cls:=.type "list",data:=.seq #[] } }) PySem.F.called_list (PySem.F.typeCall_list_1 _) PySem.F.entry_list_init (code_list_new _ ⟨rfl,rfl⟩) λob s₁ z=>?_;obtain⟨rfl,rfl⟩:=z;have HG:(s.heap.push { cls:=.type "list",data:=.seq #[] }).get? s.heap.objs.size=some { cls:=.type "list",data:=.seq #[] }:=Yo _ rfl
 refine⟨⟨_,HG,rfl⟩,PySem.F.args_list_init_2 _ _,?_⟩;show wpAny _ A.in1.in1 (do let old <- Builtin.List.listItems (.ref s.heap.objs.size);Builtin.List.listUpdate (.ref s.heap.objs.size) (λ_=>#[]);letGo old.toList.reverse;Builtin.List.listExtendWith (.ref s.heap.objs.size) (.ref it) .none) _ _ _
 refine XU ?_;unfold Builtin.List.listItems;refine XU (Lc HG rfl (Yk ?_));refine XU (Am (a:=s.heap.objs.size) HG rfl ?_);have Eg:=Vx (Obj.mapSeq (λ_=>(#[]:Array Value))) HG rfl
 have JE:∀ b o,b≠s.heap.objs.size->s.heap.get? b=some o->((s.heap.push { cls:=.type "list",data:=.seq #[] }).update s.heap.objs.size (Obj.mapSeq (λ_=>(#[]:Array Value)))).get? b=some o :=
  λb o hb e=>(YO _ _ (YW hb)).trans (WZ _ e)
 refine XU (HW ?_);refine ZC6 (A:=A.in1) (items:=items) hh (hi.at λo e=>JE it o (YW n1) e) (hl.at λo e=>JE a o (YW n2) e) XJ n1 n2 Eg hz λh' tk acc c hk Tf Uw=>?_;exact⟨rfl,k h' tk acc c (λb o hb e=>hk b o (Yt (Yl e)) hb (JE b o (Yt (Yl e)) e)) Tf Uw⟩
end
end
section
variable{X:Cx}{p p2 pos Vr:Pos}{e:Expr}{t:TA}
def Zu9(K:Ad)(t:TA):TE:=λσ H Q=>t σ H λvs H1=>∃(a:Addr) (ys:List V),vs=[.ref a]/\SqL K H1 a ys/\∀ l,H1 l=none->Q (.ref l) (upd H1 l (.lst ys.reverse))
theorem g8 (K:Ad) (hc:X.calm=true) (g1:Gl X "list") (m1:X.mg "list"=none) (g2:Gl X "reversed") (m2:X.mg "reversed"=none) (ha:PA X [e] t) (hk:X.K=K:=by rfl)
  (he:starEach [e] X.env=[(false,eval e X.env)]:=by rfl)
  (Qg:starEach [.Call (.Name "reversed" p2) [e] [] Vr] X.env=[(false,eval (.Call (.Name "reversed" p2) [e] [] Vr) X.env)]:=by rfl) :
  PE X (.Call (.Name "list" p) [.Call (.Name "reversed" p2) [e] [] Vr] [] pos) (Zu9 K t):=by
 subst hk;intro pins s σ H Q I h;refine QF (QW I g1 m1 Boot.«list» ?_);refine Ln ?_ (by rw[Qg];rfl) rfl;rw[Qg];show wpAny _ _ (spliced ((false,eval (.Call (.Name "reversed" p2) [e] [] Vr) X.env) :: backTo pos [])) _ _ s
 refine KI ?_;refine QF (QW I g2 m2 Boot.«reversed» ?_);refine Ln (thn (ha Vr pins s σ H _ I h) λus s1 ⟨vs,H1,I1,r1,q1⟩=>?_) (by rw[he];rfl) rfl;obtain⟨a,ys,rfl,hq,q⟩:=q1;obtain⟨u,rfl,ru⟩:=RM r1;obtain rfl:u=Value.ref a:=ru;obtain⟨XW,rv,pl,hz⟩:=I1.list hq;refine call_reversed_list pl.isList ?_;refine wQ ?_;have el:XW.toArray.size=ys.length:=by rw[Ya,<- rv.length]
 have hit:(s1.heap.push (revObj a ((XW.toArray.size:Int) - 1))).IsRevIter s1.heap.objs.size a ((XW.toArray.size:Int) - 1):=⟨_,Yo _ rfl,rfl,rfl⟩;have XJ:a≠s1.heap.objs.size:=Yt (let ⟨_,_,e,_⟩:=pl;Yl e)
 refine Eh (I.ok.hd hc) hit (pl.isList.push _) XJ (by rw[el];exact hz) λh' tk acc c hk hS zj=>?_;have el2:XW.length=ys.length:=rv.length.symm
 have ea:acc.toList=XW.reverse:=by
  refine RT λi=>?_;have h1:=zj.1
  by_cases hi:i<XW.length
  .obtain⟨v,ev⟩:∃ v,acc[i]?=some v:=⟨_,YE (by rw[h1,Ya];exact hi)⟩;have h2:=zj.2 i v ev
   rw[Lk hi];have e3:acc.toList[i]?=some v:=by simpa using ev
   rw[e3];have e4:XW[XW.length - 1 - i]?=some v:=by simpa using h2
   rw[e4]
  .rw[Vy (by rw[YD,h1,Ya];grind),Vy (by rw[YK];omega)]
 rw[size_push']at hS ⊢;refine⟨.ref (s1.heap.objs.size+1),_,I1.laid (o:=.lst ys.reverse) (h':=h') (t':=tk) (λb o e=>hk b o (Yt (Yl e)) (WZ _ e)) (Uk _) ⟨?_,acc.toList,c,?_,?_⟩,rfl,q _ (I1.hok.fresh (Uk _))⟩
 .rw[YK];exact hz
 .rw[ea];exact rv.rev
 .rw[hS]
end
end L2
namespace My
open PySem L2
theorem XX{m:Nat}{ns:Ac}:IsSet m ns↔(∀ z∈ns,0<=z/\z<(m:Int))/\ns.Pairwise (· < ·):=by
 constructor
 .intro h;refine⟨h.all,?_⟩;rw[Ij];intro i j hi hj Uv
  induction j with
  | zero=>exact absurd Uv (YY i)
  | succ j ih =>
   have sR:j<ns.length:=by grind
   have key:=(h (j+1) ns[j+1] (Xr hj)).2.2 ns[j] (by lia) (by rw[xh];exact Xr sR);by_cases e:i=j
   .subst e;exact key
   .have:=ih sR (by lia)
    lia
 .rintro⟨ha,hp⟩ i z hz;obtain⟨hi,ei⟩:=Xp.mp hz;have hm:=ha z (Xg hz)
  refine⟨hm.1,hm.2,λy h0 hy=>?_⟩;obtain⟨Rz,ei'⟩:=Xp.mp hy
  have:=Ij.mp hp (i - 1) i Rz hi (by lia)
  rw[ei,ei']at this;exact this
theorem JD{ns:Ac}(h:ns.Pairwise (· < ·)):ns.Nodup:=h.imp λVN e=>by lia
theorem IsSet.nodup{m:Nat}{ns:Ac}(h:IsSet m ns):ns.Nodup:=JD (XX.mp h).2
end My
namespace My
theorem NG{α:Type}{P:List α->Prop}(h0:P [])(h1:∀ l x,P l->P (l++[x])):∀ l,P l:=by
 intro l;rw[<- List.reverse_reverse l]
 induction l.reverse with
 | nil=>exact h0
 | cons x r ih =>
  rw[xg];exact h1 _ _ ih
inductive Conn (es:List (Nat × Nat)):Nat->Nat->Prop
 | refl (i:Nat):Conn es i i
 | edge {a b:Nat} (h:(a,b)∈es):Conn es a b
 | symm {i j:Nat}:Conn es i j->Conn es j i
 | trans {i j k:Nat}:Conn es i j->Conn es j k->Conn es i k
theorem Conn.mono{es fs:List (Nat × Nat)}(h:∀ e∈es,e∈fs){i j:Nat}(c:Conn es i j):Conn fs i j:=by
 induction c with
 | refl i=>exact .refl i
 | edge q=>exact .edge (h _ q)
 | symm _ ih=>exact .symm ih
 | trans _ _ i1 i2=>exact .trans i1 i2
theorem NF{n i:Nat}(h:i<n):mk ((List.range n).map λ(i:Nat)=>(i:Int)) i=(i:Int):=by rw[mk_map' h]
where
 mk_map' {n i:Nat} (h:i<n):mk ((List.range n).map λ(i:Nat)=>(i:Int)) i=(i:Int):=by simp[mk,WJ,Yp,xk h]
def InN(n:Nat)(es:List (Nat × Nat)):Prop:=∀ e∈es,e.1<n/\e.2<n
theorem InN.snoc{n:Nat}{es:List (Nat × Nat)}{e:Nat × Nat}(h:InN n (es++[e])):InN n es/\e.1<n/\e.2<n:=⟨λx hx=>h x (Yb _ hx),h e (by simp)⟩
theorem sQ{n:Nat}:∀ es:List (Nat × Nat),InN n es->∀ e∈es,mk (WV n es) e.1=mk (WV n es) e.2:=by
 refine NG (λ_ e h=>by cases h) λes x ih hn e he=>?_;obtain⟨h1,h2,h3⟩:=hn.snoc;have hl:=ZB n es
 have hx:=hn e he;rw[NR];refine(EL (by lia) (by lia)).mpr ?_;rcases Xy.mp he with q | q
 .exact .inl (ih h1 e q)
 .rw[XD.mp q];exact .inr ⟨.inl rfl,.inr rfl⟩
theorem sP{n:Nat}:∀ es:List (Nat × Nat),InN n es->∀ i j,i<n->j<n->mk (WV n es) i=mk (WV n es) j->Conn es i j:=by
 refine NG (λ_ i j hi hj h=>?_) λes x ih hn i j hi hj h=>?_
 .have h:mk ((List.range n).map λ(i:Nat)=>(i:Int)) i=mk ((List.range n).map λ(i:Nat)=>(i:Int)) j:=h;rw[NF hi,NF hj]at h
  have:i=j:=by lia
  subst this;exact .refl i
 .obtain⟨h1,h2,h3⟩:=hn.snoc;have hl:=ZB n es
  have up:∀ {i j:Nat},Conn es i j->Conn (es++[x]) i j:=λc=>c.mono λe he=>Yb _ he;have ex:Conn (es++[x]) x.1 x.2:=.edge (by simp)
  rw[NR]at h;rcases(EL (by lia) (by lia)).mp h with q | ⟨q1,q2⟩
  .exact up (ih h1 i j hi hj q)
  .have ci:Conn (es++[x]) i x.1:=by
    rcases q1 with q | q
    .exact up (ih h1 i _ hi h2 q)
    .exact(up (ih h1 i _ hi h3 q)).trans ex.symm
   have cj:Conn (es++[x]) j x.1:=by
    rcases q2 with q | q
    .exact up (ih h1 j _ hj h2 q)
    .exact(up (ih h1 j _ hj h3 q)).trans ex.symm
   exact ci.trans cj.symm
theorem sO{n:Nat}{es:List (Nat × Nat)}(hn:InN n es){i j:Nat}(c:Conn es i j):i=j\/(i<n/\j<n/\mk (WV n es) i=mk (WV n es) j):=by
 induction c with
 | refl i=>exact .inl rfl
 | edge q=>exact .inr ⟨(hn _ q).1,(hn _ q).2,sQ es hn _ q⟩
 | symm _ ih =>
  rcases ih with e | ⟨a,b,c⟩
  .exact .inl e.symm
  .exact .inr ⟨b,a,c.symm⟩
 | trans _ _ i1 i2 =>
  rcases i1 with e | ⟨a,b,c⟩
  .rw[e];exact i2
  .rcases i2 with e | ⟨a',b',c'⟩
   .rw[<- e];exact .inr ⟨a,b,c⟩
   .exact .inr ⟨a,b',c.trans c'⟩
theorem ZO{n:Nat}{es:List (Nat × Nat)}(hn:InN n es){i j:Nat}(hi:i<n)(hj:j<n):mk (WV n es) i=mk (WV n es) j↔Conn es i j:=by
 constructor
 .exact sP es hn i j hi hj
 .intro c;rcases sO hn c with e | ⟨_,_,e⟩
  .rw[e]
  .exact e
theorem VS{n:Nat}{es:List (Nat × Nat)}(hn:InN n es){i j:Nat}(hi:i<n)(hj:j<n):mk (Xx n es) i=mk (Xx n es) j↔Conn es i j:=by
 rw[<- ZO hn hi hj];have s:=zx (n:=n) (es:=es) hn
 exact s.2 i j (by rw[Zw];exact hi) (by rw[Zw];exact hj)
def cnt(M:Ac):Nat:=(VG M M.length).length
theorem zh(M:Ac){i:Nat}:∃ p,p<=i/\mk M p=mk M i/\Wu M p=true:=by
 induction i using Nat.strongRecOn with
 | ind i ih =>
  by_cases h:Wu M i=true
  .exact⟨i,XM _,rfl,h⟩
  .have:∃ j,j<i/\mk M j=mk M i:=by
    by_cases q:∃ j,j<i/\mk M j=mk M i
    .exact q
    .exact absurd (XC.mpr λj hj e=>q ⟨j,hj,e⟩) h
   obtain⟨j,hj,e⟩:=this;obtain⟨p,h1,h2,h3⟩:=ih j hj;exact⟨p,by lia,h2.trans e,h3⟩
theorem Zk7{p q:Nat->Bool}{x n:Nat}(hx:x<n)(hpx:p x=true)(h:∀ y,y<n->q y=(p y && !decide (y=x))):((List.range n).filter q).length+1=((List.range n).filter p).length:=by
 induction n with
 | zero=>exact absurd hx (YY x)
 | succ n ih =>
  rw[GN,QG,QG,Xs,Xs];by_cases e:x=n
  .subst e;have e1:(List.range x).filter q=(List.range x).filter p:=Mv λy hy=>by have hy:=YI.mp hy;rw[h y (by lia),show decide (y=x)=false from Sw (by lia)];simp
   have e2:q x=false:=by rw[h x (by lia)];simp
   rw[e1];simp[YN,e2,hpx]
  .have hq:q n=p n:=by rw[h n (by lia),show decide (n=x)=false from Sw (λz=>e z.symm)];simp
   have:=ih (by lia) λy hy=>h y (by lia)
   simp only [YN,KN,hq];lia
theorem zg{M:Ac}{p q:Nat}(hp:Wu M p=true)(hq:Wu M q=true)(e:mk M p=mk M q):p=q:=by
 rcases Nat.lt_trichotomy p q with h | h | h
 .exact absurd e (XC.mp hq p h)
 .exact h
 .exact absurd e.symm (XC.mp hp q h)
theorem ze{m:Ac}{a b:Nat}(ha:a<m.length)(hb:b<m.length)(XJ:mk m a≠mk m b):cnt (lm m a b)+1=cnt m:=by
 obtain⟨A,SI,Uc,ND⟩:=zh m (i:=a);obtain⟨B,HF,NC,sN⟩:=zh m (i:=b);have hAB:A≠B:=λe=>XJ (by rw[<- Uc,<- NC,e])
 unfold cnt VG;rw[zz];refine Zk7 (x:=max A B) (by grind) ?_ λy hy=>?_
 .rcases Nat.le_total A B with h | h
  .rw[Nat.max_eq_right h];exact sN
  .rw[Nat.max_eq_left h];exact ND
 .rw[OX,Mr,XC,XC];have key:∀ i,i<y->(mk (lm m a b) i=mk (lm m a b) y↔HJ m a b i y):=λi hi=>EL (by lia) hy
  have sM:(!decide (y=max A B))=true↔y≠max A B:=by simp
  rw[sM];constructor
  .intro q;refine⟨λi hi e=>q i hi ((key i hi).mpr (.inl e)),λe=>?_⟩;rcases Nat.lt_or_gt_of_ne hAB with h | h
   .have ey:y=B:=by lia
    subst ey;exact q A h ((key A h).mpr (.inr ⟨.inl Uc,.inr NC⟩))
   .have ey:y=A:=by grind
    subst ey;exact q B h ((key B h).mpr (.inr ⟨.inr NC,.inl Uc⟩))
  .rintro⟨q1,q2⟩ i hi e;rcases(key i hi).mp e with e | ⟨e1,e2⟩
   .exact q1 i hi e
   .have fy:Wu m y=true:=XC.mpr q1;rcases e2 with e2 | e2
    .have ey:y=A:=zg fy ND (e2.trans Uc.symm);rcases e1 with e1 | e1
     .exact q1 i hi (e1.trans e2.symm)
     .obtain⟨p,p1,p2,p3⟩:=zh m (i:=i)
      have:p=B:=zg p3 sN (by rw[p2,e1,NC])
      grind
    .have ey:y=B:=zg fy sN (e2.trans NC.symm);rcases e1 with e1 | e1
     .obtain⟨p,p1,p2,p3⟩:=zh m (i:=i)
      have:p=A:=zg p3 ND (by rw[p2,e1,Uc])
      grind
     .exact q1 i hi (e1.trans e2.symm)
theorem sL(n:Nat):cnt ((List.range n).map λ(i:Nat)=>(i:Int))=n:=by
 unfold cnt VG;rw[Yd,OZ];have e:(List.range n).filter (Wu ((List.range n).map λ(i:Nat)=>(i:Int)))=List.range n:=by
  refine xj.mpr λp hp=>XC.mpr λi hi e=>?_;have hp:=YI.mp hp
  rw[NF (by lia),NF hp]at e;lia
 rw[e,OZ]
theorem sJ{M:Ac}(hM:1<=M.length):cnt M=1↔∀ i j,i<M.length->j<M.length->mk M i=mk M j:=by
 have e:cnt M=(JS M).length:=by unfold cnt JS;rw[EH,Yd]
 rw[e];exact EK hM
end My
namespace My
open PySem L2
theorem Ef{i:Int}{n:Nat}(h0:0<=i)(h1:i<(n:Int)):seqIndex? i n=some i.toNat:=by have e:(if i<0 then i+(n:Int) else i)=i:=if_neg (by lia);unfold seqIndex?;simp only [e];rw[if_pos (by simp;lia)]
def Ze(n:Int)(ps:Aa)(ns:Ac):Prop:=IsSet ps.length ns/\(ns.length:Int)=n - 1/\∀ i j,i<n.toNat->j<n.toNat->Conn (XT ps ns) i j
theorem ZH{n:Int}{ps:Aa}{ns:Ac}(g:Zv n ps)(h:∀ z∈ns,0<=z/\z<(ps.length:Int)):InN n.toNat (XT ps ns):=λe he=>by
 obtain⟨z,hz,rfl⟩:=YC.mp he;obtain⟨z0,z1⟩:=h z hz;have hp:ps[z.toNat]?=some (ps[z.toNat]'(by lia)):=Xr _
 rw[ZP hp];obtain⟨b1,b2,b3,b4⟩:=g.2.2.2 _ (Xg hp);exact⟨by lia,by lia⟩
theorem ZC{ps:Aa}{ns ms:Ac}(h:∀ z∈ns,z∈ms):∀ e∈XT ps ns,e∈XT ps ms:=λe he=>by obtain⟨z,hz,rfl⟩:=YC.mp he;exact YC.mpr ⟨z,h z hz,rfl⟩
theorem g7{n:Nat}{es:List (Nat × Nat)}(h:InN n es):(∀ i j,i<(WV n es).length->j<(WV n es).length->mk (WV n es) i=mk (WV n es) j)↔∀ i j,i<n->j<n->Conn es i j:=by
 rw[ZB];constructor
 .intro q i j hi hj;exact(ZO h hi hj).mp (q i j hi hj)
 .intro q i j hi hj;exact(ZO h hi hj).mpr (q i j hi hj)
theorem sI{n:Nat}{es:List (Nat × Nat)}(hn:1<=n)(h:InN n es):(JS (Xx n es)).length=1↔∀ i j,i<n->j<n->Conn es i j:=by rw[EK (by rw[Zw];exact hn),(zx h).one];exact g7 h
theorem TJ{ps:Aa}{ns ms:Ac}(h:∀ z,z∈ns↔z∈ms){i j:Nat}:Conn (XT ps ns) i j↔Conn (XT ps ms) i j :=
 ⟨λc=>c.mono (ZC λz hz=>(h z).mp hz),λc=>c.mono (ZC λz hz=>(h z).mpr hz)⟩
section
variable{K:Ad}{a:Addr}{xs:List V}{g:TG}{tt:TT}{te:TE}{o:Nat}{fr:List Nat}{σ:St}{H:Hp}{Q:VK}
theorem zd(Pv:Nat->List V->Hp->Prop)(h0:Pv 0 [] H)(hz:xs.length<sizeLine)(hl:∀ i ys H,i<=xs.length->Pv i ys H->SqL K H a xs/\ys.length<=i)
  (hs:∀(i:Nat) x ys H (p:Addr),H p=none->xs[i]?=some x->Pv i ys H->HM Pv g tt te o fr σ i (.ref p) ys (upd H p (.tup [.int i,x]))) (hd:∀ ys H,Pv xs.length ys H->∀ p,H p=none->Q (.ref p) (upd H p (.lst ys))):Mc (HN K a) g tt te o fr σ H Q:=by
 refine⟨λi m ys H=>m=xs.length - i/\i<=xs.length/\Pv i ys H,⟨xs.length,by simp,Yn _,h0⟩,?_⟩;rintro i m ys H ⟨rfl,hi,p⟩;obtain⟨q,hy⟩:=hl i ys H hi p;by_cases Xi:i<xs.length
 .refine .inr ⟨⟨xs,xs[i],q,by simp[Xi]⟩,by lia,λx H' ⟨T,y,hT,ex,eH,hyy⟩=>?_⟩;subst ex eH;exact hs i y ys H T hT (hyy xs q) p (λj ys H=>∃ m',m'<xs.length - i/\m'=xs.length - j/\j<=xs.length/\Pv j ys H) λys H p'=>⟨xs.length - (i+1),by grind,rfl,Xi,p'⟩
 .have e:i=xs.length:=by lia
  subst e;exact .inl ⟨⟨xs,q,XM _⟩,by lia,hd ys H p⟩
end
def unlike(M:Ac)(ps:Aa)(i:Nat):Ac:=((List.range i).filter λk=>decide (mk M (ps.getD k (0,0)).1.toNat≠mk M (ps.getD k (0,0)).2.toNat)).map λ(k:Nat)=>(k:Int)
theorem g6(M:Ac)(ps:Aa)(i:Nat):unlike M ps (i+1)=unlike M ps i++(if mk M (ps.getD i (0,0)).1.toNat≠mk M (ps.getD i (0,0)).2.toNat then [(i:Int)] else []):=by
 unfold unlike;rw[GN,QG,YR];congr 1;by_cases h:mk M (ps.getD i (0,0)).1.toNat≠mk M (ps.getD i (0,0)).2.toNat
 .rw[if_pos h,YN,if_pos (Yx h)];rfl
 .rw[if_neg h,YN,if_neg (by simpa using h)];rfl
theorem ZO5(M:Ac)(ps:Aa)(i:Nat):(unlike M ps i).length<=i:=by unfold unlike;rw[Yd];exact Yr (YH _ _) (by simp)
def wo(ns:Ac)(z:Int):Ac:=ns.filter λy=>decide (y≠z)
theorem Xo{ns:Ac}{z y:Int}:y∈wo ns z↔y∈ns/\y≠z:=by unfold wo;rw[Yf];simp
theorem LQ(ns:Ac)(z:Int):(wo ns z).length<=ns.length:=YH _ _
theorem gZ{ns:Ac}{i:Nat}{y z:Int}(h:ns[i]?=some y):wo (ns.take (i+1)) z=wo (ns.take i) z++(if y≠z then [y] else []):=by
 unfold wo;rw[WD,h,QG];congr 1;by_cases e:y≠z
 .rw[if_pos e];show List.filter _ [y]=_;rw[YN,if_pos (Yx e)];rfl
 .rw[if_neg e];show List.filter _ [y]=_;rw[YN,if_neg (by simpa using e)];rfl
theorem Zl5{n:Int}{ps:Aa}{M L:Ac}(g:Zv n ps)(hM:M.length=n.toNat)(s:SameP M L):unlike M ps ps.length=unlike L ps ps.length:=by
 unfold unlike;congr 1;refine Mv λk hk=>?_;have hk:=YI.mp hk
 have hp:ps[k]?=some ps[k]:=Xr hk;rw[ZP hp];obtain⟨b1,b2,b3,b4⟩:=g.2.2.2 _ (Xg hp)
 have:=s.2 ps[k].1.toNat ps[k].2.toNat (by grind) (by grind)
 rw[OX,YV,YV];exact not_congr this
def Uu(n:Int)(ps:Aa)(ns:Ac)(z:Int)(l:Ac):Ac:=l.filter λy=>decide (z∈unlike (WV n.toNat (XT ps (wo ns y))) ps ps.length)
theorem gY{n:Int}{ps:Aa}{ns:Ac}{z:Int}{l:Ac}{i:Nat}{y:Int}(h:l[i]?=some y) :
  Uu n ps ns z (l.take (i+1))=Uu n ps ns z (l.take i)++(if z∈unlike (WV n.toNat (XT ps (wo ns y))) ps ps.length then [y] else []):=by
 unfold Uu;rw[WD,h,QG];congr 1;by_cases e:z∈unlike (WV n.toNat (XT ps (wo ns y))) ps ps.length
 .rw[if_pos e];show List.filter _ [y]=_;rw[YN,if_pos (Yx e)];rfl
 .rw[if_neg e];show List.filter _ [y]=_;rw[YN,if_neg (by simpa using e)];rfl
theorem HE(n:Int)(ps:Aa)(ns:Ac)(z:Int)(l:Ac):(Uu n ps ns z l).length<=l.length:=YH _ _
theorem ZN5{M:Ac}{ps:Aa}{z:Int}(h0:0<=z)(h1:z<(ps.length:Int)):z∈unlike M ps ps.length↔mk M (ps.getD z.toNat (0,0)).1.toNat≠mk M (ps.getD z.toNat (0,0)).2.toNat:=by
 unfold unlike;rw[YC];constructor
 .rintro⟨k,hk,rfl⟩
  have:=Yu (Yf.mp hk).2
  rw[Yv];exact this
 .intro h;exact⟨z.toNat,Yf.mpr ⟨YI.mpr (by grind),Yx h⟩,by lia⟩
theorem zb{a b:Ac}(h:a.Perm b)(h1:a.Pairwise (·<=·))(h2:b.Pairwise (·<=·)):a=b:=by
 induction a generalizing b with
 | nil=>exact(List.Perm.nil_eq h)
 | cons x a ih =>
  cases b with
  | nil=>exact absurd h.length_eq (by simp)
  | cons y b =>
   obtain⟨hx,ha⟩:=QP.mp h1;obtain⟨hy,hb⟩:=QP.mp h2;have e:x=y:=by
    have m1:y∈x :: a:=h.mem_iff.mpr Ye;have m2:x∈y :: b:=h.mem_iff.mp Ye
    rcases Yg.mp m1 with e1 | e1
    .exact e1.symm
    .rcases Yg.mp m2 with e2 | e2
     .exact e2
     .have:=hx y e1;have:=hy x e2;lia
   subst e;rw[ih (List.Perm.cons_inv h) ha hb]
end My
namespace L2
open PySem PySem.Spec PyProof.Rows
section
variable{prog:Program}{w:World}{A:Around}{E:Ae}{s:Shared}
theorem ZD5 {tp:Addr} {vs:Ag} {Q:List Value->Shared->Prop} {ot:Obj} {m:Nat} (ht:s.heap.get? tp=some ot) (hc:ot.cls=.type "tuple") (hd:ot.data=.seq vs.toArray m) (hz:vs.length<=sizeLine)
  (k:Q vs { s with heap:=(s.heap.push (seqObj "list" #[] 0)).update s.heap.objs.size (Obj.mapSeq (·++vs.toArray)) }):wpAny (model prog w) A (collect (.ref tp)) Q E s:=by
 have gX:(s.heap.push (seqObj "list" #[] 0)).get? tp=some ot:=WZ _ ht;have Ee:(s.heap.push (seqObj "list" #[] 0)).get? s.heap.objs.size=some (seqObj "list" #[] 0):=Yo _ rfl
 unfold collect;refine XU (wpAny_runValue (RX entry_proto_collect' ?_));show wpAny _ _ (do again (.builtin "list.__iadd__" ⟨[<- newList [],.ref tp],[]⟩)) _ _ s
 refine XU (RR (Yk ⟨Ar _ (by decide +kernel),RX entry_list_iadd' ?_⟩));show wpAny _ _ (Builtin.List.listExtendWith (.ref s.heap.objs.size) (.ref tp) (.ref s.heap.objs.size)) _ _ { s with heap:=s.heap.push (seqObj "list" #[] 0) }
 unfold Builtin.List.listExtendWith;refine XU (z6 (T:="tuple") ⟨ot,gX,hc⟩ ?_);rw [if_pos (by rw [show(Value.type "tuple" == Value.type "tuple")=true from rfl];simp)];refine XU (listItems_at gX hd ?_);refine XU (listItems_at (xs:=#[]) (n:=0) Ee rfl ?_);rw[if_neg (by simp)];refine XU (KY (xs:=#[]) (n:=0) Ee rfl ?_ (Yn _) (by show(#[]++vs.toArray).size<=sizeLine+1;simp only [Array.size_append,Ya,Ib];lia));refine Yk ?_;refine XU (wpAny_load (z7 Ee _) ?_);show wpAny _ _ (pure ((#[]:Array Value)++vs.toArray).toList) Q E _
 rw[show((#[]:Array Value)++vs.toArray).toList=vs by simp];exact Yk k
theorem Zo5 {tp:Addr} {vs:Ag} {ns:Ac} {Q:Ae} {ot:Obj} {m:Nat} (ht:s.heap.get? tp=some ot) (hc:ot.cls=.type "tuple") (hd:ot.data=.seq vs.toArray m) (hI:IntsAre vs ns) (QN:vs.length<64)
  (k:∀(out:Array Value) (ms:Ac),IntsAre out.toList ms->ms.Perm ns->ms.Pairwise (·<=·)->Q (.ref (s.heap.objs.size+1)) { s with heap:=sortedAll s.heap vs out }) :
  wpAny (model prog w) A (call (.builtin "sorted") [.ref tp]) Q E s:=by
 have JK:sizeLine=16777216:=SX;have hsz:((s.heap.push (seqObj "list" #[] 0)).update s.heap.objs.size (Obj.mapSeq (·++vs.toArray))).objs.size=s.heap.objs.size+1:=by rw[Heap.size_update,size_push']
 have Mf:(((s.heap.push (seqObj "list" #[] 0)).update s.heap.objs.size (Obj.mapSeq (·++vs.toArray))).push (seqObj "list" vs.toArray 0)).get? (s.heap.objs.size+1)=some (seqObj "list" vs.toArray 0):=by rw[<- hsz];exact Yo _ rfl
 refine Calls.call_function_entry kind_sorted plain_sorted entry_sorted (args_sorted1 _) ?_;unfold Builtin.«sorted»;refine XU (m:=checkCount "sorted" 1 1 _) (Yk ?_);refine XU (ZD5 ht hc hd (by lia) ?_);refine XU (RR ?_);show wpAny _ _ _ _ _ { s with heap:=((s.heap.push (seqObj "list" #[] 0)).update s.heap.objs.size (Obj.mapSeq (·++vs.toArray))).push (seqObj "list" vs.toArray 0) }
 rw[hsz];refine XU (Su (Mq slot_list_sort ⟨_,Mf,rfl⟩ entry_list_sort (list_sort_tree Mf hI QN λout ms b1 b2 b3=>⟨_,rfl,?_⟩) (args_list_sort _)));exact Yk ⟨_,rfl,k out ms b1 b2 b3⟩
end
section
variable{X:Cx}
theorem Zi4 (K:Ad) (hk:X.K=K:=by rfl):Uh X (.builtin "sorted") (λxs H Q=>∃(p:Addr) (ns:Ac),xs=[.ref p]/\SqT K H p (ns.map V.int)/\ns.length<64 /\
  ∀ ms:Ac,ms.Perm ns->ms.Pairwise (·<=·)->∀ l,H l=none->Q (.ref l) (upd H l (.lst (ms.map V.int)))):=by
 subst hk;intro pins s σ H xs us Q I r h;obtain⟨p,ns,rfl,hq,hn,q⟩:=h;obtain⟨u,rfl,ru⟩:=RM r;obtain rfl:u=Value.ref p:=ru;obtain⟨XW,rv,⟨ot,h1,h2,m,h3⟩,hz⟩:=I.tuple hq;have hi:=ZM rv
 have hl:XW.length=ns.length:=by rw[<- rv.length,Yd]
 refine Zo5 h1 h2 h3 hi (by lia) λout ms b1 b2 b3=>?_;obtain⟨e,he⟩:=sortedAll_at s.heap XW out;have NH:ms.length=ns.length:=b2.length_eq
 refine⟨.ref (s.heap.objs.size+1),_,I.laid (t':=s.toks) (o:=.lst (ms.map V.int)) (λb o g=>sortedAll_old g) (Uk _) ⟨?_,out.toList,e,ZV b1,he⟩,rfl,q ms b2 b3 _ (I.hok.fresh (Uk _))⟩;rw[Yd,NH]
 have:sizeLine=16777216:=SX
 lia
def JC(K:Ad):R2:=λx y H Q=>∃ a b xs ys,x=.ref a/\y=.ref b/\SqT K H a xs/\SqT K H b ys/\xs.length+ys.length<=sizeLine /\
 (xs=[]->Q (.ref b) H)/\(xs≠[]->ys=[]->Q (.ref a) H)/\(xs≠[]->ys≠[]->∀ p,H p=none->Q (.ref p) (upd H p (.tup (xs++ys))))
theorem HD(K:Ad)(hk:X.K=K:=by rfl):WH X (binaryOp .Add) (JC K):=by
 intro pins s σ H x y v u Q I rx ry h;obtain⟨a,b,xs,ys,e1,e2,ha,hb,hz,q0,q1,q2⟩:=id h;by_cases hx:xs=[]
 .subst hk e1 e2;cases rx;cases ry;obtain⟨XW,r1,p1,_⟩:=I.tuple ha;obtain⟨VV,r2,p2,_⟩:=I.tuple hb;have hi:XW=[]:=r1.nil_iff.mpr hx
  obtain⟨⟨cls,dd,data,sl⟩,ho,hc,n,hd⟩:=id p1;obtain⟨⟨vA,zL,data2,zK⟩,SN,VD,n2,hd2⟩:=id p2;simp only at hc hd VD hd2;subst hc hd VD hd2;exact concat_meets ⟨_,ho,rfl⟩ ⟨_,SN,rfl⟩ wO seq_tuple_add KS KW (xC _ _)
   (tuple_addW0 a b XW.toArray VV.toArray n n2 dd zL sl zK (by simp[hi])) ⟨ho,SN,⟨.ref b,H,I,rfl,q0 hx⟩⟩
 .exact ZZ9 K hk pins s σ H x y v u Q I rx ry ⟨a,b,xs,ys,e1,e2,ha,hb,hx,hz,q1 hx,q2 hx⟩
end
end L2
namespace My
open PySem L2
theorem Ec{m:Ac}{a b:Nat}(h:mk m a=mk m b):lm m a b=m:=by unfold lm;rw[if_neg (λz=>z h)]
theorem gW{m:Ac}{a b:Nat}(ha:a<m.length)(hb:b<m.length):cnt m<=cnt (lm m a b)+1:=by
 by_cases e:mk m a=mk m b
 .rw[Ec e];lia
 .have:=ze ha hb e;lia
theorem NB{n:Nat}:∀ es:List (Nat × Nat),InN n es->n<=cnt (WV n es)+es.length:=by
 refine NG (λ_=>?_) λes x ih hn=>?_
 .have:cnt (WV n [])=n:=sL n
  lia
 .obtain⟨h1,h2,h3⟩:=hn.snoc;have hl:=ZB n es
  have:=gW (m:=WV n es) (a:=x.1) (b:=x.2) (by lia) (by lia)
  have:=ih h1
  rw[NR,Xs,YB,Ib];lia
theorem NA{M:Ac}(h:1<=M.length):1<=cnt M:=by unfold cnt VG;refine Qy (a:=0) (Yf.mpr ⟨YI.mpr (by lia),XC.mpr λi hi=>absurd hi (YY i)⟩)
theorem ZZ{n:Nat}{es:List (Nat × Nat)}(hn:1<=n)(h:InN n es):cnt (WV n es)=1↔∀ i j,i<n->j<n->Conn es i j:=by rw[sJ (by rw[ZB];exact hn)];exact g7 h
theorem gU{ts:Ac}{o:Int}(hn:ts.Nodup)(ho:o∈ts):(wo ts o).length+1=ts.length:=by
 induction ts with
 | nil=>cases ho
 | cons x r ih =>
  obtain⟨h1,h2⟩:=QY.mp hn;unfold wo;rw[YN];by_cases e:x=o
  .subst e;rw[if_neg (by simp)]
   have:r.filter (λy=>decide (y≠x))=r:=xj.mpr λy hy=>Yx λe=>h1 (e ▸ hy)
   rw[this];rfl
  .rw[if_pos (Yx e)]
   have:=ih h2 ((Yg.mp ho).resolve_left λz=>e z.symm)
   unfold wo at this;rw[YB,YB];lia
def Zq(ps:Aa)(z:Int):Nat × Nat:=((ps.getD z.toNat (0,0)).1.toNat,(ps.getD z.toNat (0,0)).2.toNat)
theorem TH(ps:Aa)(ns:Ac)(z:Int):XT ps (ns++[z])=XT ps ns++[Zq ps z]:=by unfold XT Zq;rw[YR];rfl
theorem Ut{n:Int}{ps:Aa}{z:Int}(g:Zv n ps)(z0:0<=z)(z1:z<(ps.length:Int)):(Zq ps z).1<n.toNat/\(Zq ps z).2<n.toNat:=by
 have:=ZH (ns:=[z]) g (λy hy=>by rw[XD.mp hy];exact⟨z0,z1⟩)
 exact this (Zq ps z) (by unfold XT Zq;simp)
theorem LP{n:Int}{ps:Aa}{ts:Ac}{o:Int}(hT:Ze n ps ts):∀ y∈wo ts o,0<=y/\y<(ps.length:Int):=λy hy=>hT.1.all y (Xo.mp hy).1
theorem JB{n:Int}{ps:Aa}{ts:Ac}{o z:Int}(g:Zv n ps)(hT:Ze n ps ts)(ho:o∈ts)(z0:0<=z)(z1:z<(ps.length:Int)) :
  (∀ i j,i<n.toNat->j<n.toNat->Conn (XT ps (wo ts o++[z])) i j)↔¬ Conn (XT ps (wo ts o)) (Zq ps z).1 (Zq ps z).2:=by
 have hn:1<=n.toNat:=by have:=g.1;lia
 have hw:=gU hT.1.nodup ho;have hl:(ts.length:Int)=n - 1:=hT.2.1
 have i0:InN n.toNat (XT ps (wo ts o)):=ZH g (LP hT);have hz:=Ut g z0 z1
 have ob:=hT.1.all o ho;have Tg:=Ut g ob.1 ob.2
 have i1:InN n.toNat (XT ps (wo ts o)++[Zq ps z]):=λe he=>(Xy.mp he).elim (i0 e) λq=>by rw[XD.mp q];exact hz
 have i2:InN n.toNat (XT ps (wo ts o)++[Zq ps o]):=λe he=>(Xy.mp he).elim (i0 e) λq=>by rw[XD.mp q];exact Tg
 have hL:=ZB n.toNat (XT ps (wo ts o));have le:(XT ps (wo ts o)).length=(wo ts o).length:=by unfold XT;rw[Yd]
 rw[TH];constructor
 .intro hc c;have h1:cnt (WV n.toNat (XT ps (wo ts o)++[Zq ps z]))=1:=(ZZ hn i1).mpr hc
  rw[NR,Ec ((ZO i0 hz.1 hz.2).mpr c)]at h1
  have:=NB _ i0
  lia
 .intro hc;have h2:cnt (WV n.toNat (XT ps (wo ts o)++[Zq ps o]))=1:=by
   refine(ZZ hn i2).mpr λi j hi hj=>?_;rw[<- TH];refine(TJ λy=>?_).mp (hT.2.2 i j hi hj);rw[Xy,Xo,XD];constructor
   .intro hy;by_cases e:y=o
    .exact .inr e
    .exact .inl ⟨hy,e⟩
   .rintro(q | q)
    .exact q.1
    .rw[q];exact ho
  rw[NR]at h2;have h3:=gW (m:=WV n.toNat (XT ps (wo ts o))) (a:=(Zq ps o).1) (b:=(Zq ps o).2) (by lia) (by lia)
  have h4:=ze (m:=WV n.toNat (XT ps (wo ts o))) (a:=(Zq ps z).1) (b:=(Zq ps z).2) (by lia) (by lia) (λe=>hc ((ZO i0 hz.1 hz.2).mp e));have h5:=NA (M:=lm (WV n.toNat (XT ps (wo ts o))) (Zq ps z).1 (Zq ps z).2) (by rw[zz];lia)
  refine(ZZ hn i1).mp ?_;rw[NR];lia
def Vq(n:Int)(ps:Aa)(ts:Ac)(o:Int):Ac:=unlike (WV n.toNat (XT ps (wo ts o))) ps ps.length
theorem ZP5{M:Ac}{ps:Aa}{i:Nat}{z:Int}(h:z∈unlike M ps i):0<=z/\z<(i:Int):=by
 unfold unlike at h;obtain⟨k,hk,rfl⟩:=YC.mp h
 have:=YI.mp (Yf.mp hk).1
 lia
theorem ZN{n:Int}{ps:Aa}{ts:Ac}{o z:Int}(g:Zv n ps)(hT:Ze n ps ts)(z0:0<=z)(z1:z<(ps.length:Int)):z∈Vq n ps ts o↔¬ Conn (XT ps (wo ts o)) (Zq ps z).1 (Zq ps z).2:=by have hz:=Ut g z0 z1;unfold Vq;rw[ZN5 z0 z1];exact not_congr (ZO (ZH g (LP hT)) hz.1 hz.2)
def exg(n:Int)(ps:Aa)(ts:Ac)(o z:Int):Prop:=o∈ts/\z≠o/\z∈Vq n ps ts o
instance (n:Int) (ps:Aa) (ts:Ac) (o z:Int):Decidable (exg n ps ts o z):=by unfold exg;infer_instance
theorem Eb{n:Int}{ps:Aa}{ts:Ac}{o z:Int}(g:Zv n ps)(hT:Ze n ps ts) :
  exg n ps ts o z↔o∈ts/\z∉ts/\0<=z/\z<(ps.length:Int)/\∀ i j,i<n.toNat->j<n.toNat->Conn (XT ps (wo ts o++[z])) i j:=by
 constructor
 .rintro⟨h1,h2,h3⟩;obtain⟨z0,z1⟩:=ZP5 h3;have hc:=(ZN g hT z0 z1).mp h3
  refine⟨h1,λhz=>hc ?_,z0,z1,(JB g hT h1 z0 z1).mpr hc⟩;refine .edge ?_;exact YC.mpr ⟨z,Xo.mpr ⟨hz,h2⟩,rfl⟩
 .rintro⟨h1,h2,z0,z1,hc⟩;exact⟨h1,λe=>h2 (e ▸ h1),(ZN g hT z0 z1).mpr ((JB g hT h1 z0 z1).mp hc)⟩
theorem PairsV.mut{H:Hp}{l:Addr}{ys zs xs:List V}{ps:Aa}(hP:PairsV H xs ps)(hl:H l=some (.lst ys)):PairsV (upd H l (.lst zs)) xs ps:=by refine⟨hP.1,λj p e=>?_⟩;obtain⟨v,e1,tt,e2,e3⟩:=hP.2 j p e;exact⟨v,e1,tt,e2,by rw[Zb (Qw e3 hl (λz=>nomatch z))];exact e3⟩
end My
namespace L2
open PySem PySem.Spec PyProof.Rows
section
variable{X:Cx}
theorem gT{e:Addr->Bool}{n:Nat}{x:V}{w:Value}{pins:List (Addr × Obj)}{σ:St}{H:Hp}{s:Shared}(I:Inv X pins σ H s){A:Around}(hu:A.units+n<cLine)(rx:RelV x w):∀ {xs:List V} {us:Ag},Vals xs us->(∀ v∈xs,∃ a,v=.ref a/\EqD X.K H n v x (e a))->∀ u∈us,SeqAt.EqAt A s u w (match u with | .ref a=>e a | _=>false)
 | _,_,.nil,_=>λu hu=>by cases hu
 | y :: xs,u :: us,.cons r t,h=>λu' sH=>by
  rcases Yg.mp sH with rfl | sH
  .obtain⟨a,rfl,q⟩:=h y Ye;obtain rfl:u'=Value.ref a:=r;exact q.at I hu rfl rx
  .exact gT I hu rx t (λv hv=>h v (Yh _ hv)) u' sH
end
end L2
namespace My
open PySem L2
theorem HC{n:Int}{ps:Aa}{ts:Ac}{o y:Int}(g:Zv n ps)(hT:Ze n ps ts)(ho:o∈ts)(hy:y∈ts):y∈Vq n ps ts o↔y=o:=by
 have yb:=hT.1.all y hy;rw[ZN g hT yb.1 yb.2];constructor
 .intro h;by_cases e:y=o
  .exact e
  .exact absurd (.edge (YC.mpr ⟨y,Xo.mpr ⟨hy,e⟩,rfl⟩)) h
 .rintro rfl;refine(JB g hT hy yb.1 yb.2).mp λi j hi hj=>(TJ λz=>?_).mp (hT.2.2 i j hi hj);rw[Xy,Xo,XD];constructor
  .intro hz;by_cases e:z=y
   .exact .inr e
   .exact .inl ⟨hz,e⟩
  .rintro(q | q)
   .exact q.1
   .rw[q];exact hy
theorem VR{n:Int}{ps:Aa}{ts l:Ac}{z y:Int}:y∈Uu n ps ts z l↔y∈l/\z∈Vq n ps ts y:=by unfold Uu;rw[Yf,YV];exact Iff.rfl
theorem y9{n:Int}{ps:Aa}{ts ms:Ac}{o z:Int}(g:Zv n ps)(hT:Ze n ps ts)(hx:exg n ps ts o z)(Us:ms.Perm (wo ts o++[z]))(Nz:ms.Pairwise (·<=·)):Ze n ps ms:=by
 obtain⟨ho,hz,z0,z1,hc⟩:=(Eb g hT).mp hx;have nd:(wo ts o++[z]).Nodup:=ix (hT.1.nodup.sublist List.filter_sublist) λh=>hz (Xo.mp h).1
 have ndm:ms.Nodup:=Us.nodup_iff.mpr nd;have hl:=gU hT.1.nodup ho
 have QT:=Us.length_eq;rw[Xs,Yj]at QT;refine⟨XX.mpr ⟨λy hy=>?_,(List.pairwise_and_iff.mpr ⟨Nz,ndm⟩).imp λ{x y} h=>by have:=h.1;have:=h.2;lia⟩,by rw[QT,hl];exact hT.2.1,λi j hi hj=>(TJ λy=>Us.mem_iff).mpr (hc i j hi hj)⟩;rcases Xy.mp (Us.mem_iff.mp hy) with h | h
 .exact hT.1.all y (Xo.mp h).1
 .rw[XD.mp h];exact⟨z0,z1⟩
section
variable{n:Int}{ps:Aa}{ts ms:Ac}{o z:Int}(g:Zv n ps)(hT:Ze n ps ts)(hx:exg n ps ts o z)(Us:ms.Perm (wo ts o++[z]))(Nz:ms.Pairwise (·<=·))
include g hT hx Us Nz
theorem y8{y:Int}:y∈ms↔(y∈ts/\y≠o)\/y=z:=by rw[Us.mem_iff,Xy,Xo,XD]
end
def WO(n:Nat)(ps:Aa):Nat->Ac
 | 0=>[]
 | k+1=>if mk (WV n (XT ps (WO n ps k))) (Zq ps (k:Int)).1=mk (WV n (XT ps (WO n ps k))) (Zq ps (k:Int)).2 then WO n ps k else WO n ps k++[(k:Int)]
theorem Ea(n:Nat)(ps:Aa)(k:Nat):WO n ps (k+1)=if mk (WV n (XT ps (WO n ps k))) (Zq ps (k:Int)).1=mk (WV n (XT ps (WO n ps k))) (Zq ps (k:Int)).2 then WO n ps k else WO n ps k++[(k:Int)]:=rfl
theorem Hz{n:Nat}{ps:Aa}:∀ k,∀ z∈WO n ps k,0<=z/\z<(k:Int)
 | 0,z,h=>by cases h
 | k+1,z,h=>by
  rw[Ea]at h;split at h
  .have:=Hz k z h;lia
  .rcases Xy.mp h with h | h
   .have:=Hz k z h;lia
   .rw[XD.mp h];lia
theorem y7{n:Nat}{ps:Aa}:∀ k,(WO n ps k).Pairwise (· < ·)
 | 0=>List.Pairwise.nil
 | k+1=>by
  rw[Ea];split
  .exact y7 k
  .rw[Vi];exact⟨y7 k,Ii ..,λa ha b hb=>by rw[XD.mp hb];exact(Hz k a ha).2⟩
theorem sG{n:Nat}{ps:Aa}{k:Nat}(hk:k<=ps.length):IsSet ps.length (WO n ps k):=XX.mpr ⟨λz hz=>by have:=Hz k z hz;lia,y7 k⟩
theorem y6{n:Int}{ps:Aa}(g:Zv n ps){k:Nat}(hk:k<=ps.length):InN n.toNat (XT ps (WO n.toNat ps k)):=ZH g (sG hk).all
theorem yZ{n:Nat}{ps:Aa}{j:Nat}:∀ k,j<=k->∀ z,z∈WO n ps j↔z∈WO n ps k/\z<(j:Int)
 | 0,h,z=>by
  have:j=0:=by lia
  subst this;exact⟨λh=>(by cases h),λh=>h.1⟩
 | k+1,h,z=>by
  by_cases e:j=k+1
  .subst e;exact⟨λh=>⟨h,(Hz _ z h).2⟩,λh=>h.1⟩
  .have ih:=yZ (n:=n) (ps:=ps) (j:=j) k (by lia) z;rw[Ea,ih];split
   .exact Iff.rfl
   .rw[Xy,XD];constructor
    .rintro⟨h1,h2⟩;exact⟨.inl h1,h2⟩
    .rintro⟨h1 | h1,h2⟩
     .exact⟨h1,h2⟩
     .lia
theorem DZ{n:Int}{ps:Aa}(g:Zv n ps){k j:Nat}(hk:k<=ps.length)(hj:j<k)(hn:(j:Int)∉WO n.toNat ps k):Conn (XT ps (WO n.toNat ps j)) (Zq ps (j:Int)).1 (Zq ps (j:Int)).2:=by
 have he:=Ut (z:=(j:Int)) g (by lia) (by lia);have h1:(j:Int)∉WO n.toNat ps (j+1):=λh=>hn ((yZ k hj _).mp h).1
 rw[Ea]at h1;split at h1
 .rename_i h;exact(ZO (y6 g (by lia)) he.1 he.2).mp h
 .exact absurd (Yc _ (XD.mpr rfl)) h1
theorem yY{n:Int}{ps:Aa}(g:Zv n ps):∀ k,k<=ps.length->cnt (WV n.toNat (XT ps (WO n.toNat ps k)))+(WO n.toNat ps k).length=n.toNat
 | 0,_=>sL n.toNat
 | k+1,hk=>by
  have ih:=yY g k (by lia);have he:=Ut (z:=(k:Int)) g (by lia) (by lia)
  have hl:=ZB n.toNat (XT ps (WO n.toNat ps k));rw[Ea];split
  .exact ih
  .rename_i h;rw[TH,NR,Xs,Yj]
   have:=ze (m:=WV n.toNat (XT ps (WO n.toNat ps k))) (by lia) (by lia) h
   grind
theorem gS{n:Int}{ps:Aa}(g:Zv n ps){ts:Ac}(ht:∀ z∈ts,0<=z/\z<(ps.length:Int)){i j:Nat}(c:Conn (XT ps ts) i j):Conn (XT ps (WO n.toNat ps ps.length)) i j:=by
 induction c with
 | refl i=>exact .refl i
 | symm _ ih=>exact .symm ih
 | trans _ _ i1 i2=>exact .trans i1 i2
 | @edge a b h =>
  obtain⟨z,hz,e⟩:=YC.mp h;obtain⟨z0,z1⟩:=ht z hz;have ez:z=((z.toNat:Nat):Int):=by lia
  by_cases hm:z∈WO n.toNat ps ps.length
  .exact .edge (YC.mpr ⟨z,hm,e⟩)
  .rw[ez]at hm;have c:=DZ g (XM _) (by lia) hm
   have c2:=c.mono (ZC λy hy=>((yZ ps.length (by lia) y).mp hy).1);rw[<- ez]at c2;have ea:a=(Zq ps z).1:=(Xw Prod.fst e).symm
   have eb:b=(Zq ps z).2:=(Xw Prod.snd e).symm;rw[ea,eb];exact c2
theorem sF{n:Int}{ps:Aa}(g:Zv n ps){ts:Ac}(hT:Ze n ps ts):Ze n ps (WO n.toNat ps ps.length):=by
 have hc:∀ i j,i<n.toNat->j<n.toNat->Conn (XT ps (WO n.toNat ps ps.length)) i j:=λi j hi hj=>gS g hT.1.all (hT.2.2 i j hi hj);have h1:=(ZZ (by have:=g.1;lia) (y6 g (XM _))).mpr hc
 have h2:=yY g ps.length (XM _);exact⟨sG (XM _),by have:=g.1;grind,hc⟩
theorem gR{n:Int}{ps:Aa}(g:Zv n ps)(h:¬ ((WO n.toNat ps ps.length).length:Int)<n - 1):Ze n ps (WO n.toNat ps ps.length):=by
 have h2:=yY g ps.length (XM _);have h3:=NA (M:=WV n.toNat (XT ps (WO n.toNat ps ps.length))) (by rw[ZB];have:=g.1;grind)
 exact⟨sG (XM _),by have:=g.1;grind,(ZZ (by have:=g.1;grind) (y6 g (XM _))).mp (by lia)⟩
theorem JA:∀ {a b:Ac},a.length=b.length->HT.lexLt a b=true->∃(p:Ac) (x y:Int) (r s:Ac),a=p++x :: r/\b=p++y :: s/\x<y
 | [],[],_,h=>by cases h
 | [],_ :: _,e,_=>by simp at e
 | _ :: _,[],e,_=>by simp at e
 | x :: xs,y :: ys,e,h=>by
  rw[HT.Xn]at h;by_cases q:x=y
  .subst q;rw[if_pos rfl]at h;obtain⟨p,u,v,r,s,e1,e2,e3⟩:=JA (by simpa using e) h;exact⟨x :: p,u,v,r,s,by rw[e1];rfl,by rw[e2];rfl,e3⟩
  .rw[if_neg q]at h;exact⟨[],x,y,xs,ys,rfl,rfl,Yu h⟩
theorem Te:∀ {a b:Ac},HT.lexLt a b=false->HT.lexLt b a=false->a=b
 | [],[],_,_=>rfl
 | [],_ :: _,h,_=>by cases h
 | _ :: _,[],_,h=>by cases h
 | x :: xs,y :: ys,h1,h2=>by
  rw[HT.Xn]at h1 h2;by_cases q:x=y
  .subst q;rw[if_pos rfl]at h1 h2;rw[Te h1 h2]
  .rw[if_neg q]at h1;rw[if_neg (λe=>q e.symm)]at h2
   have:=of_decide_eq_false h1
   have:=of_decide_eq_false h2
   lia
theorem Zi8{n:Int}{ps:Aa}(g:Zv n ps){ts:Ac}(hT:Ze n ps ts):HT.lexLt ts (WO n.toNat ps ps.length)=false:=by
 have hG:=sF g hT;cases h:HT.lexLt ts (WO n.toNat ps ps.length) with
 | false=>rfl
 | true =>
  exfalso;obtain⟨p,x,y,r,s,e1,e2,Ny⟩:=JA (by have:=hT.2.1;have:=hG.2.1;lia) h
  have hx:x∈ts:=by rw[e1];simp
  obtain⟨x0,x1⟩:=hT.1.all x hx;have DY:=(XX.mp hT.1).2
  have ag:=y7 (n:=n.toNat) (ps:=ps) ps.length;rw[e1,Vi]at DY;rw[e2,Vi]at ag;have px:∀ z∈p,z<x:=λz hz=>DY.2.2 z hz x Ye
  have ys:∀ z∈y :: s,x<z:=λz hz=>by
   rcases Yg.mp hz with e | hz
   .rw[e];exact Ny
   .have:=(QP.mp ag.2.1).1 z hz;lia
  have ex:x=((x.toNat:Nat):Int):=by lia
  have hn:((x.toNat:Nat):Int)∉WO n.toNat ps ps.length:=by
   rw[<- ex,e2,Xy];rintro(h | h)
   .have:=px x h;lia
   .have:=ys x h;omega
  have c:=DZ g (XM _) (by grind) hn;have c2:Conn (XT ps (wo ts x)) (Zq ps x).1 (Zq ps x).2:=by
   rw[<- ex]at c;refine c.mono (ZC λz hz=>?_);obtain⟨h1,h2⟩:=(yZ ps.length (by lia) z).mp hz;rw[<- ex]at h2;rw[e2,Xy]at h1;rcases h1 with h1 | h1
   .exact Xo.mpr ⟨by rw[e1];exact Yb _ h1,by lia⟩
   .have:=ys z h1;lia
  exact(ZN g hT x0 x1).mp ((HC g hT hx hx).mpr rfl) c2
theorem gQ:∀ {a b c:Ac},HT.lexLt a b=true->HT.lexLt b c=true->HT.lexLt a c=true
 | [],[],_,h,_=>by cases h
 | [],_ :: _,[],_,h=>by cases h
 | [],_ :: _,_ :: _,_,_=>rfl
 | _ :: _,[],_,h,_=>by cases h
 | _ :: _,_ :: _,[],_,h=>by cases h
 | x :: xs,y :: ys,z :: zs,h1,h2=>by
  rw[HT.Xn]at h1 h2 ⊢;by_cases e1:x=y
  .subst e1;rw[if_pos rfl]at h1;by_cases e2:x=z
   .subst e2;rw[if_pos rfl]at h2 ⊢;exact gQ h1 h2
   .rw[if_neg e2]at h2 ⊢;exact h2
  .rw[if_neg e1]at h1;have h1:=Yu h1
   by_cases e2:y=z
   .subst e2;rw[if_neg e1];exact Yx h1
   .rw[if_neg e2]at h2;have h2:=Yu h2
    rw[if_neg (by lia)];exact Yx (by omega)
theorem sE:∀ a:Ac,HT.lexLt a a=false
 | []=>rfl
 | x :: xs=>by rw[HT.Xn,if_pos rfl];exact sE xs
theorem Sl(bt:Nat->Nat->Bool):∀ j,argBest bt j<=j
 | 0=>XM _
 | j+1=>by
  unfold argBest;split
  .exact XM _
  .have:=Sl bt j;lia
def Xb(H:Hp)(v:V)(l:Ac):Prop:=∃ a,v=.ref a/\H a=some (.tup (IL l))
def Nx(H:Hp)(xs:List V)(L:Ab):Prop:=xs.length=L.length/\∀(i:Nat) (l:Ac),L[i]?=some l->∃ v,xs[i]?=some v/\Xb H v l
theorem sD{K:Ad}{H:Hp}{x y:V}{a b:Ac}(hx:Xb H x a)(hy:Xb H y b):EqD K H 1 x y (decide (a=b)):=by obtain⟨t,rfl,ht⟩:=hx;obtain⟨u,rfl,hu⟩:=hy;exact tI (SqT.of ht) (SqT.of hu)
theorem gP{K:Ad}{H:Hp}{p q:Addr}{xs ys:List V}{L M:Ab}(hp:SqL K H p xs)(hq:SqL K H q ys)(h1:Nx H xs L)(h2:Nx H ys M):EqD K H 2 (.ref p) (.ref q) (decide (L=M)) :=
 tK (R:=Xb H) hp hq h1 h2 λ_ _ _ _=>sD
def TF(s:Ac):Int:=match s.getLast? with | none=>0 | some x=>x+1
def Ur(m:Int)(s:Ac):Ab:=(List.range (m - TF s).toNat).map λ(i:Nat)=>s++[TF s+(i:Int)]
def PY(m:Int):Nat->Ab
 | 0=>[[]]
 | k+1=>(PY m k).flatMap (Ur m)
theorem DX(s:Ac)(x:Int):TF (s++[x])=x+1:=by unfold TF;rw[List.getLast?_append];rfl
theorem Wt{m:Int}{s l:Ac}:l∈Ur m s↔∃ t,TF s<=t/\t<m/\l=s++[t]:=by
 unfold Ur;rw[YC];constructor
 .rintro⟨i,hi,rfl⟩
  have:=YI.mp hi
  exact⟨_,by lia,by omega,rfl⟩
 .rintro⟨t,h1,h2,rfl⟩;exact⟨(t - TF s).toNat,YI.mpr (by lia),by rw[show TF s+(((t - TF s).toNat:Nat):Int)=t by lia]⟩
theorem TB{m:Nat}{s:Ac}{t:Int}:IsSet m (s++[t])↔IsSet m s/\TF s<=t/\0<=t/\t<(m:Int):=by
 rw[XX,XX,Vi];have last:(∀ a∈s,∀ b∈[t],a<b)/\s.Pairwise (· < ·)->TF s<=t\/t<0:=by
  rintro⟨h,_⟩;unfold TF;cases e:s.getLast? with
  | none=>by_cases h0:0<=t;exact .inl h0;exact .inr (by lia)
  | some x=>have:=h x (xr e) t (by simp);exact .inl (by show x+1<=t;lia)
 constructor
 .rintro⟨h1,h2,_,h3⟩;have ht:=h1 t (by simp)
  refine⟨⟨λz hz=>h1 z (Yb _ hz),h2⟩,?_,ht⟩;rcases last ⟨h3,h2⟩ with h | h
  .exact h
  .omega
 .rintro⟨⟨h1,h2⟩,h3,h4,h5⟩;refine⟨λz hz=>?_,h2,Ii ..,λa ha b hb=>?_⟩
  .rcases Xy.mp hz with h | h
   .exact h1 z h
   .rw[XD.mp h];exact⟨h4,h5⟩
  .rw[XD.mp hb];have key:∀ {s:Ac} {a:Int},s.Pairwise (· < ·)->a∈s->a<TF s:=by
    refine λ{s}=>NG (P:=λs=>∀ {a:Int},s.Pairwise (· < ·)->a∈s->a<TF s) (λ{a} _ h=>by cases h) (λl x ih {a} hp h=>?_) s;rw[DX];rw[Vi]at hp;rcases Xy.mp h with h | h
    .have:=hp.2.2 a h x (by simp);lia
    .rw[XD.mp h];lia
   have:=key h2 ha
   lia
theorem Wf{m:Nat}:∀ {k:Nat} {l:Ac},l∈PY (m:Int) k↔l.length=k/\IsSet m l
 | 0,l=>by
  show l∈[[]]↔_;rw[XD];constructor
  .rintro rfl;exact⟨rfl,λi z e=>by simp at e⟩
  .rintro⟨h,_⟩;exact YS.mp h
 | k+1,l=>by
  show l∈(PY (m:Int) k).flatMap (Ur m)↔_;rw[List.mem_flatMap];constructor
  .rintro⟨s,hs,hl⟩;obtain⟨t,h1,h2,rfl⟩:=Wt.mp hl;obtain⟨e,hI⟩:=Wf.mp hs;have n0:0<=TF s:=by
    unfold TF;cases q:s.getLast? with
    | none=>exact Mh 0
    | some x=>have:=(hI.all x (xr q)).1;show 0<=x+1;lia
   exact⟨by rw[Xs,e];rfl,TB.mpr ⟨hI,h1,by lia,h2⟩⟩
  .rintro⟨e,hI⟩;have XJ:l≠[]:=λz=>by rw[z]at e;simp at e
   obtain⟨s,t,rfl⟩:∃ s t,l=s++[t]:=⟨l.dropLast,l.getLast XJ,(jM XJ).symm⟩;obtain⟨h1,h2,h3,h4⟩:=TB.mp hI;exact⟨s,Wf.mpr ⟨by rw[Xs]at e;simpa using e,h1⟩,Wt.mpr ⟨t,h2,h4,rfl⟩⟩
theorem sC{m:Nat}{s:Ac}(h:IsSet m s):(Ur (m:Int) s).length<=m:=by
 unfold Ur;rw[Yd,OZ];have n0:0<=TF s:=by
  unfold TF;cases q:s.getLast? with
  | none=>exact Mh 0
  | some x=>have:=(h.all x (xr q)).1;show 0<=x+1;lia
 omega
theorem DW{m:Nat}:∀ L:Ab,(∀ s∈L,IsSet m s)->(L.flatMap (Ur (m:Int))).length<=m * L.length
 | [],_=>Yn _
 | s :: L,h=>by
  have:=DW L λx hx=>h x (Yh _ hx)
  have:=sC (h s Ye)
  rw[List.flatMap_cons,Xs,YB,Nat.mul_succ];lia
theorem DV:∀ {w t:Ac},t.Pairwise (· < ·)->w.Pairwise (· < ·)->(∀ z∈t,z∈w)->t.Sublist w
 | [],[],_,_,_=>List.Sublist.slnil
 | [],x :: t,_,_,h=>absurd (h x Ye) (by simp)
 | y :: w,[],_,_,_=>List.nil_sublist _
 | y :: w,x :: t,ht,hw,h=>by
  obtain⟨h1,h2⟩:=QP.mp ht;obtain⟨h3,h4⟩:=QP.mp hw;by_cases e:x=y
  .subst e;refine List.Sublist.cons₂ _ (DV h2 h4 λz hz=>?_);rcases Yg.mp (h z (Yh _ hz)) with q | q
   .have:=h1 z hz;lia
   .exact q
  .have hx:x∈w:=(Yg.mp (h x Ye)).resolve_left e;refine List.Sublist.cons _ (DV ht h4 λz hz=>?_);rcases Yg.mp (h z hz) with q | q
   .have:=h3 x hx
    rcases Yg.mp hz with q2 | q2
    .rw[q2];exact hx
    .have:=h1 z q2;lia
   .exact q
def OK(M:Ac)(es:List (Nat × Nat)):Ac:=es.foldl (λm e=>pm m e.1 e.2) M
theorem ZP9(M:Ac)(es:List (Nat × Nat))(e:Nat × Nat):OK M (es++[e])=pm (OK M es) e.1 e.2:=by unfold OK;rw[Om];rfl
theorem Zf6(M:Ac):∀ es:List (Nat × Nat),(OK M es).length=M.length:=by
 intro es;unfold OK
 induction es generalizing M with
 | nil=>rfl
 | cons e l ih=>rw[Aq,ih,EM]
theorem gO{xs:List V}{i:Int}(h0:0<=i):WU xs none (some i)=xs.take i.toNat:=by
 have e:HT.VC xs.length xs.length (some i)=min i.toNat xs.length:=by show(if i<0 then (i+(xs.length:Int)).toNat else min i.toNat xs.length)=_;rw[if_neg (by lia)]
 unfold WU;rw[e,HT.TU,List.drop_zero,Nat.sub_zero];by_cases h:i.toNat<=xs.length
 .rw[GO h]
 .rw[w9 (by lia),UE (XM _),UE (by omega)]
def We(m:Nat):Ac:=(List.range m).map λ(i:Nat)=>(i:Int)
theorem XB{m:Nat}{z:Int}:z∈We m↔0<=z/\z<(m:Int):=by
 unfold We;rw[YC];constructor
 .rintro⟨i,hi,rfl⟩
  have:=YI.mp hi
  lia
 .intro h;exact⟨z.toNat,YI.mpr (by lia),by lia⟩
theorem ZJ(m:Nat):(We m).length=m:=by unfold We;simp
theorem Hy(m:Nat):(We m).Pairwise (· < ·):=by unfold We;rw[Mw];exact Qz.imp λh=>by omega
theorem yX(m:Nat):IsSet m (We m):=XX.mpr ⟨λz hz=>XB.mp hz,Hy m⟩
def DU(n:Int)(ps:Aa):Prop:=∀ i j,i<n.toNat->j<n.toNat->Conn (XT ps (We ps.length)) i j
def Ry(n:Nat)(ps:Aa)(G:Ac)(z:Int):Ac:=if mk (WV n (XT ps G)) (Zq ps z).1=mk (WV n (XT ps G)) (Zq ps z).2 then G else G++[z]
def WS(n:Nat)(ps:Aa)(zs:Ac):Ac:=zs.foldl (Ry n ps) []
theorem LO(n:Nat)(ps:Aa)(zs:Ac)(z:Int):WS n ps (zs++[z])=Ry n ps (WS n ps zs) z:=by unfold WS;rw[Om];rfl
theorem yW(n:Nat)(ps:Aa)(zs:Ac):∀ ys,∃ us,WS n ps (zs++ys)=WS n ps zs++us/\us.Sublist ys:=by
 refine NG ⟨[],by simp⟩ λys y ih=>?_;obtain⟨us,e,s⟩:=ih;rw[<- QE,LO,e];unfold Ry;split
 .exact⟨us,rfl,s.trans (List.sublist_append_left _ _)⟩
 .exact⟨us++[y],by rw[QE],s.append (List.Sublist.refl _)⟩
theorem yV(n:Nat)(ps:Aa)(zs:Ac):(WS n ps zs).Sublist zs:=by obtain⟨us,e,s⟩:=yW n ps [] zs;rw[Mp]at e;rw[e];exact s
theorem sy{n:Nat}{ps:Aa}{zs:Ac}(h:∀ z∈zs,0<=z/\z<(ps.length:Int)):∀ z∈WS n ps zs,0<=z/\z<(ps.length:Int):=λz hz=>h z ((yV n ps zs).subset hz)
theorem Hx{n:Int}{ps:Aa}(g:Zv n ps){zs:Ac}(h:∀ z∈zs,0<=z/\z<(ps.length:Int)):InN n.toNat (XT ps (WS n.toNat ps zs)):=ZH g (sy h)
theorem yU{n:Int}{ps:Aa}(g:Zv n ps):∀ zs:Ac,(∀ z∈zs,0<=z/\z<(ps.length:Int))->cnt (WV n.toNat (XT ps (WS n.toNat ps zs)))+(WS n.toNat ps zs).length=n.toNat:=by
 refine NG (λ_=>sL n.toNat) λzs z ih h=>?_;have h1:∀ z∈zs,0<=z/\z<(ps.length:Int):=λy hy=>h y (Yb _ hy)
 have ih:=ih h1;obtain⟨z0,z1⟩:=h z (Yc _ (XD.mpr rfl));have he:=Ut (z:=z) g z0 z1
 have hl:=ZB n.toNat (XT ps (WS n.toNat ps zs));rw[LO];unfold Ry;split
 .exact ih
 .rename_i h;rw[TH,NR,Xs,Yj]
  have:=ze (m:=WV n.toNat (XT ps (WS n.toNat ps zs))) (by lia) (by lia) h
  grind
theorem DT{n:Int}{ps:Aa}(g:Zv n ps){zs:Ac}(h:∀ z∈zs,0<=z/\z<(ps.length:Int)):(WS n.toNat ps zs).length<=14:=by
 have:=yU g zs h
 have:=g.2.1
 lia
theorem sv{n:Int}{ps:Aa}(g:Zv n ps):∀ zs:Ac,(∀ z∈zs,0<=z/\z<(ps.length:Int))->∀ {i j:Nat},Conn (XT ps zs) i j->Conn (XT ps (WS n.toNat ps zs)) i j:=by
 refine NG (λ_ _ _ c=>c) λzs z IH h i j c=>?_;have h1:∀ z∈zs,0<=z/\z<(ps.length:Int):=λy hy=>h y (Yb _ hy)
 obtain⟨z0,z1⟩:=h z (Yc _ (XD.mpr rfl));have he:=Ut (z:=z) g z0 z1
 have up:∀ {a b:Nat},Conn (XT ps (WS n.toNat ps zs)) a b->Conn (XT ps (WS n.toNat ps (zs++[z]))) a b:=λc=>by
  rw[LO];unfold Ry;split
  .exact c
  .exact c.mono (ZC λy hy=>Yb _ hy)
 have own:Conn (XT ps (WS n.toNat ps (zs++[z]))) (Zq ps z).1 (Zq ps z).2:=by
  rw[LO];unfold Ry;split
  .rename_i e;exact(ZO (Hx g h1) he.1 he.2).mp e
  .rw[TH];exact .edge (Yc _ (XD.mpr rfl))
 induction c with
 | refl i=>exact .refl i
 | symm _ ih=>exact .symm ih
 | trans _ _ i1 i2=>exact .trans i1 i2
 | @edge a b e =>
  rw[TH]at e;rcases Xy.mp e with e | e
  .exact up (IH h1 (.edge e))
  .have e:=XD.mp e;have ea:a=(Zq ps z).1:=Xw Prod.fst e
   have eb:b=(Zq ps z).2:=Xw Prod.snd e;rw[ea,eb];exact own
theorem ZR6{n:Int}{ps:Aa}(g:Zv n ps):DU n ps↔¬ ((WO n.toNat ps ps.length).length:Int)<n - 1:=by
 constructor
 .intro h;have hc:∀ i j,i<n.toNat->j<n.toNat->Conn (XT ps (WO n.toNat ps ps.length)) i j:=λi j hi hj=>gS g (λz hz=>XB.mp hz) (h i j hi hj)
  have h1:=(ZZ (by have:=g.1;lia) (y6 g (XM _))).mpr hc;have h2:=yY g ps.length (XM _)
  have:=g.1
  grind
 .intro h i j hi hj;exact((gR g h).2.2 i j hi hj).mono (ZC λz hz=>XB.mpr (by have:=Hz ps.length z hz;lia))
end My
namespace PyProof.Rows
open PySem
abbrev dK:Keyed:=(Value.none,Value.none)
section
variable{O:KeyOrd}{key:Keyed->O.α}{kd:SortKind}
def RK(O:KeyOrd)(key:Keyed->O.α)(x y:Keyed):Prop:=O.kle (key x) (key y)
structure MI (O:KeyOrd) (key:Keyed->O.α) (la lb:List Keyed) (out:Array Keyed) (ia ib:Nat):Prop where
 so:out.toList.Pairwise (RK O key)
 oa:∀ x∈out.toList,∀ y∈la.drop ia,RK O key x y
 ob:∀ x∈out.toList,∀ y∈lb.drop ib,RK O key x y
 pm:(out.toList++la.drop ia++lb.drop ib).Perm (la++lb)
abbrev LoS:=Option (Array Keyed) × Array Keyed × Nat × Nat × Nat × Nat × Nat
structure MH (O:KeyOrd) (key:Keyed->O.α) (la lb:List Keyed) (out:Array Keyed) (na nb:Nat):Prop where
 so:out.toList.Pairwise λx y=>RK O key y x
 oa:∀ x∈la.take na,∀ y∈out.toList,RK O key x y
 ob:∀ x∈lb.take nb,∀ y∈out.toList,RK O key x y
 pm:(la.take na++lb.take nb++out.toList).Perm (la++lb)
abbrev HiS:=Option (Array Keyed) × Nat × Nat × Array Keyed × Nat × Nat × Nat
def DS:List (List Keyed)->Nat->List (Nat × Nat)
 | [],_=>[]
 | g :: gs,o=>(o,g.length) :: DS gs (o+g.length)
structure PI (O:KeyOrd) (key:Keyed->O.α) (kd:SortKind) (a₀:Array Keyed) (st:SortSt) (Jz:List (List Keyed)) (rest:List Keyed):Prop where
 kind:kindOf st=kd
 fail:failedOf st=none
 perm:(arrOf st).Perm a₀
 arr:(arrOf st).toList=Jz.flatten++rest
 srt:∀ g∈Jz,1<=g.length/\g.Pairwise (RK O key)
 pend:(pendingOf st).toList.map (λp=>(p.1,p.2.1))=DS Jz 0
end
end PyProof.Rows
namespace L2
open PySem PySem.Spec PyProof.Rows
section
def sameBut(a:Addr)(h h':Heap):Prop:=∀ b o,b≠a->h.get? b=some o->h'.get? b=some o
end
end L2
namespace My
open PySem L2
abbrev Nw(a b:Ac):Prop:=HT.lexLt a b=true
theorem gN:∀(p a b:Ac),HT.lexLt (p++a) (p++b)=HT.lexLt a b
 | [],a,b=>rfl
 | x :: p,a,b=>by rw[GP,GP,HT.Xn,if_pos rfl,gN p]
theorem gM:∀ {s t:Ac} (a b:Ac),s.length=t.length->HT.lexLt s t=true->HT.lexLt (s++a) (t++b)=true
 | [],[],a,b,_,h=>by cases h
 | [],_ :: _,a,b,e,_=>by simp at e
 | _ :: _,[],a,b,e,_=>by simp at e
 | x :: s,y :: t,a,b,e,h=>by
  rw[HT.Xn]at h;rw[GP,GP,HT.Xn];split
  .rename_i q;rw[if_pos q]at h;exact gM a b (by simpa using e) h
  .rename_i q;rw[if_neg q]at h;exact h
theorem su(m:Int):∀ k,∀ l∈PY m k,l.length=k
 | 0,l,h=>by rw[XD.mp h];rfl
 | k+1,l,h=>by obtain⟨s,hs,hl⟩:=List.mem_flatMap.mp h;obtain⟨t,_,_,rfl⟩:=Wt.mp hl;rw[Xs,su m k s hs];rfl
theorem gL(m:Int):∀ k,(PY m k).Pairwise Nw
 | 0=>Ii ..
 | k+1=>by
  show((PY m k).flatMap (Ur m)).Pairwise Nw;rw[List.pairwise_flatMap];refine⟨λs _=>?_,jE (λ{s t} hs ht WE=>?_) (gL m k)⟩
  .unfold Ur;rw[Mw];refine Qz.imp λ{i j} Uv=>?_;show HT.lexLt _ _=true
   rw[gN,HT.Xn,if_neg (by lia)];exact Yx (by lia)
  .intro x hx y hy;obtain⟨u,_,_,rfl⟩:=Wt.mp hx;obtain⟨v,_,_,rfl⟩:=Wt.mp hy;exact gM _ _ (by rw[su m k s hs,su m k t ht]) WE
theorem Jy{α:Type}[DecidableEq α]:∀ {l m:List α},l.Nodup->(∀ x∈l,x∈m)->l.length<=m.length
 | [],m,_,_=>Yn _
 | x :: l,m,h,hs=>by
  obtain⟨h1,h2⟩:=QY.mp h;have hx:=hs x Ye
  have:=Jy (l:=l) (m:=m.erase x) h2 λy hy=>(xq (λ(e:y=x)=>h1 (e ▸ hy))).mpr (hs y (Yh _ hy))
  rw[xy hx]at this
  have:=Qy hx
  rw[YB];grind
end My
namespace L2
open PySem PySem.Spec PyProof.Rows
def sr(i j:Int):Prop:=(-(10 ^ 200)<i/\i<10 ^ 200)/\(-(10 ^ 200)<j/\j<10 ^ 200)
theorem gK{a:Int}(h1:-(10 ^ 200)<a)(h2:a<10 ^ 200):Builtin.Int.intBits a<=1000:=by
 have h:a.natAbs<10 ^ 200:=by omega
 exact PySem.intBits_le_iff.mpr (Ah h (by decide))
section
variable{X:Cx}
theorem DR:WH X (binaryOp .Mult) (rI sr λi j=>.int (i * j)):=Kq λ_ _ _ _ _ _ _ hc q=>mul_int q (.of_bits (Yr (gK hc.1.1 hc.1.2) (by decide)) (Yr (gK hc.2.1 hc.2.2) (by decide)))
end
end L2
namespace My
open PySem L2
theorem gJ{n:Int}{ps:Aa}{T:Ac}{z:Int}(g:Zv n ps)(hT:Ze n ps T)(z0:0<=z)(z1:z<(ps.length:Int)):Conn (XT ps (Uu n ps T z T)) (Zq ps z).1 (Zq ps z).2:=by
 have he:=Ut (z:=z) g z0 z1;have key:∀ D:Ac,(∀ o∈D,o∈T/\z∉Vq n ps T o)->Conn (XT ps (T.filter λy=>decide (y∉D))) (Zq ps z).1 (Zq ps z).2:=by
  intro D
  induction D with
  | nil =>
   intro _;have e:(T.filter λy=>decide (y∉([]:Ac)))=T:=xj.mpr λy _=>by simp
   rw[e];exact hT.2.2 _ _ he.1 he.2
  | cons o D ih =>
   intro hD;have c:=ih λy hy=>hD y (Yh _ hy)
   obtain⟨yT,zY⟩:=hD o Ye;by_cases zM:o∈D
   .refine c.mono (ZC λy hy=>?_);obtain⟨h1,h2⟩:=Yf.mp hy;have h2:=Yu h2
    exact Yf.mpr ⟨h1,Yx λh=>(Yg.mp h).elim (λe=>h2 (e ▸ zM)) h2⟩
   .refine Yz λSm=>?_;have DQ:∀ y,y∈(T.filter λy=>decide (y∉o :: D))->y∈wo T o:=λy hy=>by
     obtain⟨h1,h2⟩:=Yf.mp hy;have h2:=Yu h2
     exact Xo.mpr ⟨h1,λe=>h2 (by rw[e];exact Ye)⟩
    have c2:Conn (XT ps ((T.filter λy=>decide (y∉o :: D))++[o])) (Zq ps z).1 (Zq ps z).2:=(TJ λy=>by
     rw[Xy,Yf,Yf,XD];simp only [Lf,Yg,not_or];constructor
     .rintro⟨h1,h2⟩;by_cases e:y=o
      .exact .inr e
      .exact .inl ⟨h1,e,h2⟩
     .rintro(⟨h1,_,h2⟩ | e)
      .exact⟨h1,h2⟩
      .rw[e];exact⟨yT,zM⟩).mp c
    have Vt:∀ y∈(T.filter λy=>decide (y∉o :: D)),0<=y/\y<(ps.length:Int):=λy hy=>hT.1.all y (Yf.mp hy).1;obtain⟨o0,o1⟩:=hT.1.all o yT;have Wq:InN n.toNat (XT ps (T.filter λy=>decide (y∉o :: D))):=ZH g Vt
    have sq:InN n.toNat (XT ps ((T.filter λy=>decide (y∉o :: D))++[o])):=ZH g λy hy=>by
     rcases Xy.mp hy with h | h
     .exact Vt y h
     .rw[XD.mp h];exact⟨o0,o1⟩
    have Tg:=Ut (z:=o) g o0 o1;have hl:=ZB n.toNat (XT ps (T.filter λy=>decide (y∉o :: D)))
    have own:¬ Conn (XT ps (wo T o)) (Zq ps o).1 (Zq ps o).2:=(ZN g hT o0 o1).mp ((HC g hT yT yT).mpr rfl);have cw:Conn (XT ps (wo T o)) (Zq ps z).1 (Zq ps z).2:=Yz λh=>zY ((ZN g hT z0 z1).mpr h)
    have up:∀ {i j:Nat},i<n.toNat->j<n.toNat->mk (WV n.toNat (XT ps (T.filter λy=>decide (y∉o :: D)))) i=mk (WV n.toNat (XT ps (T.filter λy=>decide (y∉o :: D)))) j->Conn (XT ps (wo T o)) i j:=λhi hj e=>((ZO Wq hi hj).mp e).mono (ZC DQ);have m:=(ZO sq he.1 he.2).mpr c2
    rw[TH,NR,EL (by lia) (by lia)]at m;rcases m with m | ⟨m1,m2⟩
    .exact Sm ((ZO Wq he.1 he.2).mp m)
    .rcases m1 with m1 | m1 <;> rcases m2 with m2 | m2
     .exact Sm ((ZO Wq he.1 he.2).mp (m1.trans m2.symm))
     .exact own (((up he.1 Tg.1 m1).symm.trans cw).trans (up he.2 Tg.2 m2))
     .exact own (((up he.2 Tg.1 m2).symm.trans cw.symm).trans (up he.1 Tg.2 m1))
     .exact Sm ((ZO Wq he.1 he.2).mp (m1.trans m2.symm))
 have c:=key (T.filter λy=>decide (z∉Vq n ps T y)) λo ho=>by obtain⟨h1,h2⟩:=Yf.mp ho;exact⟨h1,Yu h2⟩
 refine c.mono (ZC λy hy=>?_);obtain⟨h1,h2⟩:=Yf.mp hy;have h2:=Yu h2
 exact VR.mpr ⟨h1,Yz λh=>h2 (Yf.mpr ⟨h1,Yx h⟩)⟩
inductive WP (n:Int) (ps:Aa) (W:Ac) (T0:Ac):Ac->Aa->Ac->Prop
 | nil:WP n ps W T0 [] [] T0
 | skip {l:Ac} {ws:Aa} {T:Ac} {z:Int}:WP n ps W T0 l ws T->z∈T->WP n ps W T0 (l++[z]) ws T
 | step {l:Ac} {ws:Aa} {T T':Ac} {z o:Int}:WP n ps W T0 l ws T->z∉T->o∈Uu n ps T z T->o∉W->(∀ y∈Uu n ps T z T,y∉W->o<=y)->T'.Perm (wo T o++[z])->T'.Pairwise (·<=·)->WP n ps W T0 (l++[z]) (ws++[(o,z)]) T'
theorem sj{a b:Ac}(ha:a.Pairwise (· < ·))(hb:b.Pairwise (· < ·))(h:∀ z,z∈a↔z∈b):a=b :=
 (DV ha hb λz hz=>(h z).mp hz).eq_of_length (KP (DV ha hb λz hz=>(h z).mp hz).length_le (DV hb ha λz hz=>(h z).mpr hz).length_le)
theorem si{xs:List V}{i:Int}(h0:0<=i):WU xs (some i) none=xs.drop i.toNat:=by
 have e:HT.VC xs.length 0 (some i)=min i.toNat xs.length:=by show(if i<0 then (i+(xs.length:Int)).toNat else min i.toNat xs.length)=_;rw[if_neg (by lia)]
 unfold WU;rw[e,HT.TU,UE (by rw[VX];exact XM _)];by_cases h:i.toNat<=xs.length
 .rw[GO h]
 .rw[w9 (by lia),Ll (XM _),Ll (by omega)]
def cutz{α:Type}(l:List α)(z:Int):List α:=l.take z.toNat++l.drop (z.toNat+1)
theorem sf{xs:List V}{z:Int}(h0:0<=z):WU xs none (some z)++WU xs (some (z+1)) none=cutz xs z:=by rw[gO h0,si (by lia),show(z+1).toNat=z.toNat+1 by lia];rfl
theorem se{α:Type}(l:List α)(z:Int):(cutz l z).length<=l.length:=by unfold cutz;rw[Xs,Yy,VX];grind
def dn(lo hi i:Int):Int:=if i=hi then lo else if i<hi then i else i - 1
theorem DP(i:Nat):We (i+1)=We i++[(i:Int)]:=by unfold We;rw[GN,YR];rfl
end My
namespace L2
open PySem PySem.Spec PyProof.Rows
theorem OJ{N a b:St->Hp->Prop}{r:VK}{σ:St}{H:Hp}(h:N σ H):Ends.nx { nx:=N,rt:=r,bk:=a,ct:=b } σ H:=h
end L2
namespace My
theorem DO{α:Type}{l:List α}(h:l.length=1):∃ a,l=[a]:=by
 cases l with
 | nil=>cases h
 | cons a l=>cases l with
  | nil=>exact⟨a,rfl⟩
  | cons b l=>simp at h
theorem DN{α:Type}{l:List α}(h:l.length=2):∃ a b,l=[a,b]:=by
 cases l with
 | nil=>cases h
 | cons a l =>
  obtain⟨b,rfl⟩:=DO (UB h);exact⟨a,b,rfl⟩
theorem DM{α:Type}{l:List α}(h:l.length=3):∃ a b c,l=[a,b,c]:=by
 cases l with
 | nil=>cases h
 | cons a l =>
  obtain⟨b,c,rfl⟩:=DN (UB h);exact⟨a,b,c,rfl⟩
theorem DL{α:Type}{l:List α}(h:l.length=4):∃ a b c d,l=[a,b,c,d]:=by
 cases l with
 | nil=>cases h
 | cons a l =>
  obtain⟨b,c,d,rfl⟩:=DM (UB h);exact⟨a,b,c,d,rfl⟩
end My
namespace My
open PySem L2
theorem ZU{l:Ac}{f:Int->Bool}{i:Nat}{y:Int}(h:l[i]?=some y):(l.take (i+1)).filter f=(l.take i).filter f++(if f y=true then [y] else []):=by
 rw[WD,h,QG];congr 1;by_cases e:f y=true
 .rw[if_pos e];show List.filter _ [y]=_;rw[YN,if_pos e];rfl
 .rw[if_neg e];show List.filter _ [y]=_;rw[YN,if_neg e];rfl
theorem Conn.lift{es fs:List (Nat × Nat)}(h:∀ e∈es,Conn fs e.1 e.2){i j:Nat}(c:Conn es i j):Conn fs i j:=by
 induction c with
 | refl i=>exact .refl i
 | edge e=>exact h _ e
 | symm _ ih=>exact ih.symm
 | trans _ _ PX Td=>exact PX.trans Td
theorem sd{n:Int}{ps:Aa}{T W:Ac}{z:Int}(g:Zv n ps)(hT:Ze n ps T)(hW:Ze n ps W)(hz:z∈T)(hzW:z∉W):∃ y,exg n ps T z y/\exg n ps W y z:=by
 obtain⟨z0,z1⟩:=hT.1.all z hz;refine Yz λSm=>?_;refine(ZN g hT z0 z1).mp ((HC g hT hz hz).mpr rfl) ((gJ g hW z0 z1).lift λe he=>?_);unfold XT at he;obtain⟨y,hy,rfl⟩:=YC.mp he;obtain⟨r9,hyc⟩:=VR.mp hy;obtain⟨y0,y1⟩:=hW.1.all y r9;have gI:y≠z:=λe=>hzW (e ▸ r9)
 have:=(ZN (o:=z) g hT y0 y1)
 exact Yz λh=>Sm ⟨y,⟨hz,gI,this.mpr h⟩,⟨r9,YW gI,hyc⟩⟩
theorem Jx(l:Ac):∃ m:Ac,m.Perm l/\m.Pairwise (·<=·):=by
 induction l with
 | nil=>exact⟨[],.refl _,.nil⟩
 | cons x l ih =>
  obtain⟨m,h1,h2⟩:=ih;have key:∀ m:Ac,m.Pairwise (·<=·)->∃ k:Ac,k.Perm (x :: m)/\k.Pairwise (·<=·):=by
   intro m
   induction m with
   | nil=>intro _;exact⟨[x],.refl _,Ii _ _⟩
   | cons y m Td =>
    intro hp;obtain⟨hy,hm⟩:=QP.mp hp;by_cases Ny:x<=y
    .refine⟨x :: y :: m,.refl _,QP.mpr ⟨λz hz=>?_,hp⟩⟩;rcases Yg.mp hz with e | e
     .rw[e];exact Ny
     .exact RS Ny (hy z e)
    .obtain⟨k,k1,k2⟩:=Td hm;refine⟨y :: k,(k1.cons y).trans (List.Perm.swap x y m),QP.mpr ⟨λz hz=>?_,k2⟩⟩;rcases Yg.mp (k1.mem_iff.mp hz) with e | e
     .rw[e];lia
     .exact hy z e
  obtain⟨k,k1,k2⟩:=key m h2;exact⟨k,k1.trans (h1.cons x),k2⟩
inductive Wk (n:Int) (ps:Aa) (T0:Ac):Aa->Ac->Prop
 | nil:Wk n ps T0 [] T0
 | step {ws:Aa} {T T':Ac} {o z:Int}:Wk n ps T0 ws T->exg n ps T o z->T'.Perm (wo T o++[z])->T'.Pairwise (·<=·)->Wk n ps T0 (ws++[(o,z)]) T'
theorem r6{M N:Ac}(s:SameP M N):cnt M=cnt N:=by
 unfold cnt VG;rw[<- s.1];refine Xw List.length (Mv λp hp=>?_);have hp:=YI.mp hp
 rw[OX,XC,XC];constructor
 .intro h i hi e;exact h i hi ((s.2 i p (by lia) hp).mpr e)
 .intro h i hi e;exact h i hi ((s.2 i p (by lia) hp).mp e)
theorem gH{n:Int}{ps:Aa}{U:Ac}(g:Zv n ps)(hU:Ze n ps U):∀ V:Ac,V.Nodup->(∀ z∈V,z∈U)->WS n.toNat ps V=V:=by
 refine NG (λ_ _=>rfl) λV z ih hn hs=>?_;have TY:=YT.mp hn
 have hV:∀ y∈V,y∈U:=λy hy=>hs y (Yb _ hy);have hz:z∈U:=hs z (Yc _ (XD.mpr rfl))
 have hzV:z∉V:=λh=>TY.2.2 z h z (XD.mpr rfl) rfl;obtain⟨z0,z1⟩:=hU.1.all z hz;have he:=Ut (z:=z) g z0 z1
 rw[LO,ih TY.1 hV];unfold Ry;rw[if_neg];intro e;have c:=(ZO (ZH g λy hy=>hU.1.all y (hV y hy)) he.1 he.2).mp e
 exact(ZN g hU z0 z1).mp ((HC g hU hz hz).mpr rfl) (c.mono (ZC λy hy=>Xo.mpr ⟨hV y hy,λe'=>hzV (by rw[<- e'];exact hy)⟩))
theorem rZ{n:Int}{ps:Aa}{as bs:Ac}{z:Int}(g:Zv n ps)(h:∀ y∈as,0<=y/\y<(ps.length:Int))(z0:0<=z)(z1:z<(ps.length:Int))(hz:z∉WS n.toNat ps (as++z :: bs)):Conn (XT ps (WS n.toNat ps as)) (Zq ps z).1 (Zq ps z).2:=by
 obtain⟨us,e,_⟩:=yW n.toNat ps (as++[z]) bs;rw[QE]at e;have e:WS n.toNat ps (as++z :: bs)=WS n.toNat ps (as++[z])++us:=e
 rw[e,LO]at hz;have he:=Ut (z:=z) g z0 z1
 refine(ZO (Hx g h) he.1 he.2).mp (Yz λXJ=>hz ?_);unfold Ry;rw[if_neg XJ];exact Yb _ (Yc _ (XD.mpr rfl))
theorem rY{n:Nat}{ps:Aa}{as bs:Ac}{y:Int}(h:y∈WS n ps as):y∈WS n ps (as++bs):=by obtain⟨us,e,_⟩:=yW n ps as bs;rw[e];exact Yb _ h
theorem gG{α:Type}(p:α->Bool)(l:List α):(l.filter p).length+(l.filter λx=>!p x).length=l.length:=by
 induction l with
 | nil=>rfl
 | cons x l ih =>
  rw[YN,YN];cases p x with
  | true=>simp only [OW,Bool.not_true,GU,KR,YB];lia
  | false=>simp only [Bool.not_false,OW,GU,KR,YB];lia
def Fr(n:Nat)(ps:Aa)(l:Ac):Bool:=decide (WS n ps l=l)
def Wr(n:Nat)(ps:Aa)(k:Nat):Ab:=(PY (ps.length:Int) k).filter (Fr n ps)
theorem rX{n:Int}{ps:Aa}(g:Zv n ps){l:Ac}:l∈Wr n.toNat ps (n - 1).toNat↔Ze n ps l:=by
 unfold Wr;rw[Yf,Wf];have g1:=g.1
 constructor
 .rintro⟨⟨h1,h2⟩,h3⟩;have e:WS n.toNat ps l=l:=Yu h3
  have c:=yU g l h2.all;rw[e]at c;exact⟨h2,by lia,(ZZ (by grind) (ZH g h2.all)).mp (by grind)⟩
 .intro h;exact⟨⟨by have:=h.2.1;lia,h.1⟩,Yx (gH g h l h.1.nodup λz hz=>hz)⟩
theorem yS{n:Int}{ps:Aa}{T:Ac}(hT:Ze n ps T):T.Pairwise (· < ·):=(XX.mp hT.1).2
theorem Vp{a:Ac}(h:a.Pairwise (·<=·))(hn:a.Nodup):a.Pairwise (· < ·):=(h.and hn).imp λh=>by have:=h.1;have:=h.2;lia
theorem Zh8{n:Int}{ps:Aa}(g:Zv n ps):∀ zs:Ac,(∀ z∈zs,0<=z/\z<(ps.length:Int))->(WS n.toNat ps zs).Nodup:=by
 refine NG (λ_=>List.Pairwise.nil) λzs z ih hb=>?_;have Qi:∀ y∈zs,0<=y/\y<(ps.length:Int):=λy hy=>hb y (Yb _ hy)
 obtain⟨z0,z1⟩:=hb z (Yc _ (XD.mpr rfl));have he:=Ut (z:=z) g z0 z1
 rw[LO];unfold Ry;split
 .exact ih Qi
 .next XJ =>
  refine YT.mpr ⟨ih Qi,by simp,λa ha b rW e=>?_⟩;rw[XD.mp rW]at e;subst e;refine XJ ((ZO (Hx g Qi) he.1 he.2).mpr (.edge ?_));exact YC.mpr ⟨a,ha,rfl⟩
theorem Yz5{n:Int}{ps:Aa}{zs ms:Ac}(g:Zv n ps)(hb:∀ z∈zs,0<=z/\z<(ps.length:Int))(hl:¬ ((WS n.toNat ps zs).length:Int)<n - 1)(Us:ms.Perm (WS n.toNat ps zs))(Nz:ms.Pairwise (·<=·)):Ze n ps ms:=by
 have g1:=g.1;have h2:=yU g zs hb
 have h3:=NA (M:=WV n.toNat (XT ps (WS n.toNat ps zs))) (by rw[ZB];grind);have PV:=(ZZ (by grind) (Hx g hb)).mp (by grind)
 refine⟨XX.mpr ⟨λz hz=>hb z ((yV _ _ _).subset (Us.mem_iff.mp hz)),Vp Nz (Us.nodup_iff.mpr (Zh8 g zs hb))⟩,by rw[Us.length_eq];grind,λi j hi hj=>?_⟩;exact(TJ λy=>Us.mem_iff).mpr (PV i j hi hj)
theorem rV{n:Int}{ps:Aa}{I os U:Ac}(g:Zv n ps)(hU:Ze n ps U)(hI:I.Nodup)(rT:∀ z∈I,z∈U)(rS:∀ z∈U,z∈I++os)(hb:∀ z∈I++os,0<=z/\z<(ps.length:Int)):(WS n.toNat ps (I++os)).take I.length=I/\¬ ((WS n.toNat ps (I++os)).length:Int)<n - 1:=by
 have g1:=g.1;obtain⟨us,e,_⟩:=yW n.toNat ps I os;rw[gH g hU I hI rT]at e;refine⟨by rw[e,List.take_left],?_⟩;have PV:∀ i j,i<n.toNat->j<n.toNat->Conn (XT ps (WS n.toNat ps (I++os))) i j:=λi j hi hj=>sv g _ hb ((hU.2.2 i j hi hj).mono (ZC rS))
 have h1:=(ZZ (by lia) (Hx g hb)).mpr PV;have h2:=yU g (I++os) hb
 grind
theorem yR{p r:Ac}{x:Int}(h:(p++x :: r).Pairwise (· < ·)):(∀ z∈p,z<x)/\∀ z∈x :: r,x<=z:=by
 have a:=Vi.mp h;refine⟨λz hz=>a.2.2 z hz x Ye,λz hz=>?_⟩;rcases Yg.mp hz with h | h
 .rw[h];exact Mh _
 .exact La ((QP.mp a.2.1).1 z h)
theorem ZP6{n:Int}{ps:Aa}{I os U F:Ac}(g:Zv n ps)(hU:Ze n ps U)(rT:∀ z∈I,z∈U)(rS:∀ z∈U,z∈I++os)(hb:∀ z∈I++os,0<=z/\z<(ps.length:Int))(ho:os.Pairwise (· < ·))(hF:Ze n ps F)(hf:F.Perm (WS n.toNat ps (I++os)))(hIF:∀ z∈I,z∈F):HT.lexLt U F=false:=by
 cases Nv:HT.lexLt U F with
 | false=>rfl
 | true =>
  exfalso;obtain⟨p,x,y,r,s,eU,ef,Ny⟩:=JA (by have:=hF.2.1;have:=hU.2.1;lia) Nv
  have Jw:x∈U:=by rw[eU];exact Yc _ Ye
  obtain⟨x0,x1⟩:=hU.1.all x Jw;have aU:=yR (eU ▸ yS hU)
  have aF:=yR (ef ▸ yS hF);have rR:x∉F:=λh=>by
   rw[ef]at h;rcases Xy.mp h with h | h
   .have:=aU.1 x h
    lia
   .have:=aF.2 x h
    lia
  have hxI:x∉I:=λh=>rR (hIF x h);have hxo:x∈os:=(Xy.mp (rS x Jw)).resolve_left hxI
  obtain⟨as,bs,eo⟩:=List.append_of_mem hxo;have ao:=yR (eo ▸ ho)
  have Qi:∀ z∈I++as,0<=z/\z<(ps.length:Int):=λz hz=>hb z ((Xy.mp hz).elim (λh=>Yb _ h) λh=>Yc _ (by rw[eo];exact Yb _ h));have hxG:x∉WS n.toNat ps ((I++as)++x :: bs):=by rw[QE,<- eo];exact λh=>rR (hf.mem_iff.mpr h)
  have c:=rZ g Qi x0 x1 hxG;refine(ZN g hU x0 x1).mp ((HC g hU Jw Jw).mpr rfl) (c.mono (ZC λz hz=>?_));have Hw:z∈F:=hf.mem_iff.mpr (by
   have:=rY (bs:=x :: bs) hz
   rw[QE,<- eo]at this;exact this)
  have hzx:z≠x:=λe=>rR (e ▸ Hw);refine Xo.mpr ⟨?_,hzx⟩;rcases Xy.mp ((yV _ _ _).subset hz) with h | h
  .exact rT z h
  .have h1:=ao.1 z h;rw[ef]at Hw;rcases Xy.mp Hw with h | h
   .rw[eU];exact Yb _ h
   .have:=aF.2 z h
    lia
def With(n:Int)(ps:Aa)(I O U:Ac):Prop:=Ze n ps U/\(∀ z∈I,z∈U)/\∀ z∈O,z∉U
theorem With.sub{n:Int}{ps:Aa}{I O U os:Ac}(h:With n ps I O U)(ho:∀ z,z∈os↔(0<=z/\z<(ps.length:Int))/\z∉O):∀ z∈U,z∈I++os:=λz hz=>Yc _ ((ho z).mpr ⟨h.1.1.all z hz,λh2=>h.2.2 z h2 hz⟩)
def TC(n:Int)(ps:Aa)(c:Nat):Prop:=∃ L:Ab,L.Nodup/\(∀ l,l∈L↔Ze n ps l)/\L.length=c
theorem TC.uniq{n:Int}{ps:Aa}{c d:Nat}(h1:TC n ps c)(h2:TC n ps d):c=d:=by obtain⟨L,a1,a2,rfl⟩:=h1;obtain⟨M,b1,b2,rfl⟩:=h2;exact((Lm a1 b1).mpr λl=>by rw[a2,b2]).length_eq
theorem PU{m:Nat}{T:Ac}:IsSet (m+1) (T++[(m:Int)])↔IsSet m T:=by
 constructor
 .intro h;have a:=XX.mp h
  have b:=Vi.mp a.2;refine XX.mpr ⟨λz hz=>?_,b.1⟩;have c:=a.1 z (Yb _ hz)
  have d:=b.2.2 z hz m (XD.mpr rfl);omega
 .exact λh=>h.snoc
theorem DK{m:Nat}{T:Ac}(h:IsSet (m+1) T):IsSet m T\/∃ T',T=T'++[(m:Int)]/\IsSet m T':=by
 have a:=XX.mp h;by_cases hm:(m:Int)∈T
 .obtain⟨p,r,e⟩:=List.append_of_mem hm;have b:=yR (e ▸ a.2)
  cases r with
  | nil=>exact .inr ⟨p,e,PU.mp (e ▸ h)⟩
  | cons y r =>
   have h1:=a.1 y (by rw[e];simp);have h2:=(QP.mp (Vi.mp (e ▸ a.2)).2.1).1 y Ye
   omega
 .refine .inl (XX.mpr ⟨λz hz=>?_,a.2⟩);have h1:=a.1 z hz
  have h2:z≠(m:Int):=λe=>hm (e ▸ hz);lia
theorem DJ{es:List (Nat × Nat)}{a b i j:Nat}(c:Conn (es++[(a,b)]) i j):Conn (es++[(b,a)]) i j:=c.lift λe he=>by
 rcases Xy.mp he with q | q
 .exact .edge (Yb _ q)
 .rw[XD.mp q];exact .symm (.edge (by simp))
theorem gF{a b M N:Int}(a0:0<=a)(aM:a<M)(b0:0<=b)(bN:b<N):0<=a * b/\a * b<M * N:=⟨Int.mul_nonneg a0 b0,Int.lt_of_le_of_lt (Int.mul_le_mul_of_nonneg_left (La bN) a0) (Int.mul_lt_mul_of_pos_right aM (by lia))⟩
end My
namespace L2
open PySem PySem.Spec PyProof.Rows
def Hv(K:Ad)(a b:Addr):It :=
 ⟨λi H=>∃ xs ys x y,SqL K H a xs/\SqL K H b ys/\xs[i]?=some x/\ys[i]?=some y,λi H v H'=>∃ T x y,H T=none/\v=.ref T/\H'=upd H T (.tup [x,y])/\(∀ xs,SqL K H a xs->xs[i]?=some x)/\∀ ys,SqL K H b ys->ys[i]?=some y,
  λi H=>∃ xs ys,SqL K H a xs/\SqL K H b ys/\(xs.length<=i\/ys.length<=i)⟩
theorem Zr9{P:Program}{w:World}{K:Ad}{elts:List Expr}{x1:Nat}{pos:Pos}(a b z TI TO i1 i2:Addr)(D:ZipApart z TI TO i1 i2 a b) :
  Turn P w K (.Tuple elts x1 pos) (Hv K a b) [z,TI,TO,i1,i2] z (λi h=>IsZip h z TI TO .none/\IsPair h TI (.ref i1) (.ref i2)/\(∃ c d,IsPair h TO c d)/\h.IsListIter i1 a i/\h.IsListIter i2 b i) where
 mem:=by simp
 obj:=λi h st c hc=>by
  obtain⟨hz,PR,⟨u,v,OI⟩,⟨o1,e1,_,d1⟩,⟨o2,e2,_,d2⟩⟩:=st;have WI:c=z\/c=TI\/c=TO\/c=i1\/c=i2:=by simpa using hc
  rcases WI with rfl | rfl | rfl | rfl | rfl
  .exact⟨_,hz,λv q=>by have q':Data.fields _=Data.cell v:=q;cases q'⟩
  .exact⟨_,PR,λv q=>by have q':Data.seq _ _=Data.cell v:=q;cases q'⟩
  .exact⟨_,OI,λv q=>by have q':Data.seq _ _=Data.cell v:=q;cases q'⟩
  .exact⟨o1,e1,λv q=>by rw[d1]at q;cases q⟩
  .exact⟨o2,e2,λv q=>by rw[d2]at q;cases q⟩
 keep:=λi h h' st k=>by obtain⟨hz,PR,⟨u,v,OI⟩,h1,h2⟩:=st;exact⟨k z (by simp) _ hz,k TI (by simp) _ PR,⟨u,v,k TO (by simp) _ OI⟩,h1.at λo e=>k i1 (by simp) o e,h2.at λo e=>k i2 (by simp) o e⟩
 item:=by
  intro X hP hw hK hc i pins s σ H E I hf st hg;subst hP hw hK;obtain⟨xs,ys,x,y,hq,LN,hx,hy⟩:=hg;obtain⟨hz,PR,⟨u0,v0,OI⟩,h1,h2⟩:=st;obtain⟨XW,rv,p,_⟩:=I.list hq;obtain⟨u,hu,ru⟩:=rv.get hx;obtain⟨VV,yQ,p2,_⟩:=I.list LN;obtain⟨v,hv,rQ⟩:=yQ.get hy;have fz:=hf z (by simp)
  have Rx:=hf TO (by simp);have Rw:=hf i1 (by simp)
  have Rv:=hf i2 (by simp);have ug:H s.heap.objs.size=none:=I.hok.fresh (XM _)
  refine wpAny_pyNext_zip_item D hz PR OI h1 h2 p.isList p2.isList (x:=u) (y:=v) (by simpa using hu) (by simpa using hv) λh' a1 a2 a3 a4 a5 hsz hk=>?_;have OP:∀ b ob,s.heap.get? b=some ob->b≠s.heap.objs.size:=λb ob z=>Yt (Yl z)
  have Qh:∀ b ob,H b=some ob->b≠s.heap.objs.size:=λb ob z=>Yt (I.hok.lt z);have OO:∀ c ob,H c=some ob->c≠z/\c≠TO/\c≠i1/\c≠i2:=λc ob q=>⟨λe=>(by rw[e,fz.1]at q;cases q),λe=>(by rw[e,Rx.1]at q;cases q),λe=>(by rw[e,Rw.1]at q;cases q),λe=>(by rw[e,Rv.1]at q;cases q)⟩
  have LM:∀ c o,c∉[z,TO,i1,i2]->s.heap.get? c=some o->h'.get? c=some o:=λc o Wv q=>hk c o (λe=>Wv (by simp[e])) (λe=>Wv (by simp[e])) (λe=>Wv (by simp[e])) (λe=>Wv (by simp[e])) q;have I1:Inv X pins σ (upd H s.heap.objs.size (.tup [x,y])) { s with heap:=h' }:=by
   refine I.step (g':=s.gens) (d':=s.drawn) (t':=s.toks) (ch:=[z,TO,i1,i2]) (λc hb=>?_) (λc o _ _ Wv q _=>LM c o Wv q) (λc o _ _ Wv q _=>⟨o.slots,LM c o Wv q⟩)
    (λc o _ q n=>by rw[Zb (OP c o q)];exact n) (λc o Wv q=>⟨o,LM c o Wv q⟩) (λc ys q=>by rw[Zb (Qh c _ q)];exact q) (λc o v q=>by rw[Zb (Qh c _ q)];exact q)
    (λc ps q=>⟨#[],by rw[Zb (Qh c _ q),q];simp⟩) (λm hm=>?_) (λc v' q=>?_) I.bare
   .have WI:c=z\/c=TO\/c=i1\/c=i2:=by simpa using hb
    rcases WI with rfl | rfl | rfl | rfl
    .exact⟨fz.2.2.2.1,fz.2.1,fz.2.2.2.2.1,fz.2.2.2.2.2⟩
    .exact⟨Rx.2.2.2.1,Rx.2.1,Rx.2.2.2.2.1,Rx.2.2.2.2.2⟩
    .exact⟨Rw.2.2.2.1,Rw.2.1,Rw.2.2.2.2.1,Rw.2.2.2.2.2⟩
    .exact⟨Rv.2.2.2.1,Rv.2.1,Rv.2.2.2.2.1,Rv.2.2.2.2.2⟩
   .obtain⟨o,es,ep,WQ,r⟩:=hm;exact⟨o,es,ep,hk _ o (YW fz.2.1) (YW Rx.2.1) (YW Rw.2.1) (YW Rv.2.1) WQ,r⟩
   .by_cases hb:c=s.heap.objs.size
    .subst hb;rw[XS]at q;cases q;exact⟨by show 2<=sizeLine;decide,[u,v],.cons ru (.cons rQ .nil),⟨_,a5,rfl,_,rfl⟩⟩
    .rw[Zb hb]at q;refine(I.hok c v' q).stay (λe w' WI q'=>?_) (λe q=>by rw[Zb (Qh e _ q)];exact q) λe ys q=>by rw[Zb (Qh e _ q)];exact q
     rcases WI with rfl | WI
     .have:=OO e _ q
      exact hk e w' this.1 this.2.1 this.2.2.1 this.2.2.2 q'
     .have:=OO e _ WI
      exact hk e w' this.1 this.2.1 this.2.2.1 this.2.2.2 q'
  refine⟨_,rfl,wpAny_letOwnedTupleGo_zip a1 λh2 hz2 RL=>?_⟩;have fT:z≠s.heap.objs.size:=OP z _ hz
  have I2:Inv X pins σ (upd H s.heap.objs.size (.tup [x,y])) { s with heap:=h2 }:=Inv.turned (s:={ s with heap:=h' }) (h':=h2) (t':=s.toks) (it:=z) I1 (λb o hb q=>RL.extBut b o hb q) (by rw[Zb fT];exact fz.1) fz.2.1 fz.2.2.2.1 fz.2.2.2.2.1 fz.2.2.2.2.2;refine⟨.ref s.heap.objs.size,_,I2,rfl,⟨_,x,y,ug,rfl,rfl,λys Ka=>by rw[I.list_inj Ka hq];exact hx,λys Ka=>by rw[I.list_inj Ka LN];exact hy⟩,
   ⟨hz2,RL.extBut _ _ D.TIz (LM _ _ (by have:=D.TIz;have:=D.TITO;have:=D.TIi1;have:=D.TIi2;simp;exact⟨D.TIz,D.TITO,D.TIi1,D.TIi2⟩) PR),⟨u,v,RL.extBut _ _ D.TOz a2⟩,a3.at λo q=>RL.extBut i1 o D.i1z q,a4.at λo q=>RL.extBut i2 o D.i2z q⟩,λc hc=>?_⟩
  have WI:c=z\/c=TI\/c=TO\/c=i1\/c=i2:=by simpa using hc
  have hn:=(hf c hc).1;rcases WI with rfl | rfl | rfl | rfl | rfl
  .rw[Zb fT];exact hn
  .rw[Zb (OP _ _ PR)];exact hn
  .rw[Zb (OP _ _ OI)];exact hn
  .obtain⟨o,eo,_⟩:=h1;rw[Zb (OP _ o eo)];exact hn
  .obtain⟨o,eo,_⟩:=h2;rw[Zb (OP _ o eo)];exact hn
 done:=by
  intro X hP hw hK hc i pins s σ H E I hf st hg;subst hP hw hK;obtain⟨xs,ys,hq,LN,rP⟩:=hg;obtain⟨hz,PR,⟨u0,v0,OI⟩,h1,h2⟩:=st;obtain⟨XW,rv,p,_⟩:=I.list hq;obtain⟨VV,yQ,p2,_⟩:=I.list LN;have l1:=rv.length
  have l2:=yQ.length;have fz:=hf z (by simp)
  have Rx:=hf TO (by simp);have Rw:=hf i1 (by simp)
  have Rv:=hf i2 (by simp);refine wpAny_pyNext_zip_end (I.ok.hd hc) D hz PR OI h1 h2 p.isList p2.isList (by
   rcases rP with e | e
   .exact .inl (by simp;lia)
   .exact .inr (by simp;lia)) λh' hk=>⟨rfl,?_⟩
  have LM:∀ c o,c∉[z,TO,i1,i2]->s.heap.get? c=some o->h'.get? c=some o:=λc o Wv q=>hk c o (λe=>Wv (by simp[e])) (λe=>Wv (by simp[e])) (λe=>Wv (by simp[e])) (λe=>Wv (by simp[e])) q;have OO:∀ c ob,H c=some ob->c≠z/\c≠TO/\c≠i1/\c≠i2:=λc ob q=>⟨λe=>(by rw[e,fz.1]at q;cases q),λe=>(by rw[e,Rx.1]at q;cases q),λe=>(by rw[e,Rw.1]at q;cases q),λe=>(by rw[e,Rv.1]at q;cases q)⟩
  refine I.step (g':=s.gens) (d':=s.drawn) (t':=s.toks) (ch:=[z,TO,i1,i2]) (λc hb=>?_) (λc o _ _ Wv q _=>LM c o Wv q) (λc o _ _ Wv q _=>⟨o.slots,LM c o Wv q⟩)
   (λc o _ q n=>n) (λc o Wv q=>⟨o,LM c o Wv q⟩) (λc ys q=>q) (λc o v q=>q)
   (λc ps q=>⟨#[],by rw[q];simp⟩) (λm hm=>?_) (λc v' q=>?_) I.bare
  .have WI:c=z\/c=TO\/c=i1\/c=i2:=by simpa using hb
   rcases WI with rfl | rfl | rfl | rfl
   .exact⟨fz.2.2.2.1,fz.2.1,fz.2.2.2.2.1,fz.2.2.2.2.2⟩
   .exact⟨Rx.2.2.2.1,Rx.2.1,Rx.2.2.2.2.1,Rx.2.2.2.2.2⟩
   .exact⟨Rw.2.2.2.1,Rw.2.1,Rw.2.2.2.2.1,Rw.2.2.2.2.2⟩
   .exact⟨Rv.2.2.2.1,Rv.2.1,Rv.2.2.2.2.1,Rv.2.2.2.2.2⟩
  .obtain⟨o,es,ep,WQ,r⟩:=hm;exact⟨o,es,ep,hk _ o (YW fz.2.1) (YW Rx.2.1) (YW Rw.2.1) (YW Rv.2.1) WQ,r⟩
  .refine(I.hok c v' q).stay (λe w' WI q'=>?_) (λe q=>q) λe ys q=>q;rcases WI with rfl | WI
   .have:=OO e _ q
    exact hk e w' this.1 this.2.1 this.2.2.1 this.2.2.2 q'
   .have:=OO e _ WI
    exact hk e w' this.1 this.2.1 this.2.2.1 this.2.2.2 q'
 self:=λ_ _ _ _ _ st h=>wpAny_pyIter_zip st.1 h
def rO(K:Ad)(ta:TA):TI:=λσ H R=>ta σ H λvs H1=>∃ a b,vs=[.ref a,.ref b]/\(∃ xs ys,SqL K H1 a xs/\SqL K H1 b ys)/\R (Hv K a b) H1
section
variable{X:Cx}
theorem rN (K:Ad) {elts:List Expr} {x1:Nat} {SR:Pos} {e f:Expr} {ta:TA} {p pos:Pos} (hg:Gl X "zip") (hm:X.mg "zip"=none) (ha:PA X [e,f] ta) (hs:starEach [e,f] X.env=(false,eval e X.env) :: starEach [f] X.env:=by rfl) (Vk:(backTo pos (starEach [f] X.env)).any (·.1)=false:=by rfl) (hk:X.K=K:=by rfl) :
  PI X (.Tuple elts x1 SR) (.Call (.Name "zip" p) [e,f] [] pos) (rO K ta):=by
 subst hk;intro pins s σ H R I h;refine Call_ (QW I hg hm Boot.«zip» (Ln (thn (ha pos pins s σ H _ I h) λus s1 Xv=>?_) hs Vk));obtain⟨vs,H1,I1,r1,q1⟩:=Xv;obtain⟨a,b,ev,⟨xs,ys,hq,LN⟩,q⟩:=q1;subst ev;obtain⟨u,u',rfl,ru,ru'⟩:=Km r1;obtain rfl:u=Value.ref a:=ru;obtain rfl:u'=Value.ref b:=ru';obtain⟨XW,rv,pl,_⟩:=I1.list hq;obtain⟨VV,yQ,gE,_⟩:=I1.list LN;have lt1:a<s1.heap.objs.size:=let ⟨_,_,e,_⟩:=pl;Yl e
 have lt2:b<s1.heap.objs.size:=let ⟨_,_,e,_⟩:=gE;Yl e
 have D:ZipApart (s1.heap.objs.size+4) (s1.heap.objs.size+2) (s1.heap.objs.size+3) s1.heap.objs.size (s1.heap.objs.size+1) a b:=by
  have key:∀ n x y:Nat,x<n->y<n->ZipApart (n+4) (n+2) (n+3) n (n+1) x y:=λn x y h1 h2=>by constructor <;> (intro q;have q':(_:Nat)=_:=q;lia)
  exact key _ _ _ lt1 lt2
 refine call_zip_2 pl.isList gE.isList λh' hz PR OI rM VB hsz hk=>?_;refine wpAny_pyIter_zip (s:={ s1 with heap:=h' }) hz ?_;refine⟨s1.heap.objs.size+4,[s1.heap.objs.size+4,s1.heap.objs.size+2,s1.heap.objs.size+3,s1.heap.objs.size,s1.heap.objs.size+1],_,_,H1,rfl,I1.kept (t':=s1.toks) hk,Zr9 a b _ _ _ _ _ D,⟨hz,PR,⟨_,_,OI⟩,rM,VB⟩,λc hc=>?_,q⟩;have hle:s1.heap.objs.size<=c:=by
  have WI:c=s1.heap.objs.size+4\/c=s1.heap.objs.size+2\/c=s1.heap.objs.size+3\/c=s1.heap.objs.size\/c=s1.heap.objs.size+1:=by simpa using hc
  rcases WI with e | e | e | e | e <;> rw[e] <;> first | exact XM _ | exact Nat.le_add_right _ _
 exact I1.fpOk hle (I1.hok.fresh hle)
end
end L2
namespace My
open PySem L2
section
variable{K:Ad}{a b:Addr}{xs ys:List V}{g:TG}{tt:TT}{te:TE}{o:Nat}{fr:List Nat}{σ:St}{H:Hp}{Q:VK}
theorem rL(Pv:Nat->List V->Hp->Prop)(h0:Pv 0 [] H)(Ny:xs.length=ys.length)(hz:xs.length<sizeLine)(hl:∀ i zs H,i<=xs.length->Pv i zs H->SqL K H a xs/\SqL K H b ys/\zs.length<=i)
  (hs:∀(i:Nat) x y zs H (p:Addr),H p=none->xs[i]?=some x->ys[i]?=some y->Pv i zs H->HM Pv g tt te o fr σ i (.ref p) zs (upd H p (.tup [x,y]))) (hd:∀ zs H,Pv xs.length zs H->∀ p,H p=none->Q (.ref p) (upd H p (.lst zs))):Mc (Hv K a b) g tt te o fr σ H Q:=by
 refine⟨λi m zs H=>m=xs.length - i/\i<=xs.length/\Pv i zs H,⟨xs.length,by simp,Yn _,h0⟩,?_⟩;rintro i m zs H ⟨rfl,hi,p⟩;obtain⟨q,q2,hy⟩:=hl i zs H hi p;by_cases Xi:i<xs.length
 .refine .inr ⟨⟨xs,ys,xs[i],ys[i]'(by lia),q,q2,by simp[Xi],Xr (by omega)⟩,by lia,λx H' ⟨T,u,v,hT,ex,eH,hu,hv⟩=>?_⟩;subst ex eH;exact hs i u v zs H T hT (hu xs q) (hv ys q2) p (λj zs H=>∃ m',m'<xs.length - i/\m'=xs.length - j/\j<=xs.length/\Pv j zs H) λzs H p'=>⟨xs.length - (i+1),by grind,rfl,Xi,p'⟩
 .have e:i=xs.length:=by lia
  subst e;exact .inl ⟨⟨xs,ys,q,q2,.inl (XM _)⟩,by lia,hd zs H p⟩
end
end My
namespace My
abbrev Mx:=Nat->Nat->Int
def sm:Nat->(Nat->Int)->Int
 | 0,_=>0
 | n+1,f=>sm n f+f n
theorem Zx{f g:Nat->Int}:∀ {n:Nat},(∀ i,i<n->f i=g i)->sm n f=sm n g
 | 0,_=>rfl
 | n+1,h=>by show sm n f+f n=sm n g+g n;rw[Zx λi hi=>h i (by lia),h n (by lia)]
theorem Jv{f g:Nat->Int}:∀ {n:Nat},sm n (λi=>f i+g i)=sm n f+sm n g
 | 0=>rfl
 | n+1=>by show sm n (λi=>f i+g i)+(f n+g n)=sm n f+f n+(sm n g+g n);rw[Jv];lia
theorem Hu{c:Int}{f:Nat->Int}:∀ {n:Nat},sm n (λi=>c * f i)=c * sm n f
 | 0=>(Ss c).symm
 | n+1=>by show sm n (λi=>c * f i)+c * f n=c * (sm n f+f n);rw[Hu,KZ]
theorem Uq:∀ {n:Nat},sm n (λ_=>0)=0
 | 0=>rfl
 | n+1=>by show sm n (λ_=>0)+0=0;rw[Uq];rfl
theorem Ju{f:Nat->Int}{n:Nat}(h:∀ i,i<n->f i=0):sm n f=0:=by rw[Zx h];exact Uq
theorem DI{f:Nat->Int}:∀ {n:Nat},sm (n+1) f=f 0+sm n (λi=>f (i+1))
 | 0=>by show 0+f 0=f 0+0;lia
 | n+1=>by show sm (n+1) f+f (n+1)=f 0+(sm n (λi=>f (i+1))+f (n+1));rw[DI];lia
theorem Jt{f:Nat->Nat->Int}{m:Nat}:∀ {n:Nat},sm n (λi=>sm m (f i))=sm m (λj=>sm n (λi=>f i j))
 | 0=>Uq.symm
 | n+1=>by show sm n (λi=>sm m (f i))+sm m (f n)=sm m (λj=>sm n (λi=>f i j)+f n j);rw[Jt,Jv]
def sk(j k:Nat):Nat:=if k<j then k else k+1
def mn(A:Mx)(j:Nat):Mx:=λi k=>A (i+1) (sk j k)
def sg(j:Nat):Int:=if j % 2=0 then 1 else -1
theorem yP(j:Nat):sg (j+1)=- sg j:=by
 unfold sg;by_cases h:j % 2=0
 .rw[if_pos h,if_neg (by omega)]
 .rw[if_neg h,if_pos (by lia)];rfl
def det:Nat->Mx->Int
 | 0,_=>1
 | n+1,A=>sm (n+1) λj=>sg j * A 0 j * det n (mn A j)
theorem Vo{j k n:Nat}(h:k<n):sk j k<n+1:=by unfold sk;split <;> lia
theorem Zj:∀ {n:Nat} {A B:Mx},(∀ i j,i<n->j<n->A i j=B i j)->det n A=det n B
 | 0,_,_,_=>rfl
 | n+1,A,B,h=>Zx λj hj=>by rw[h 0 j (by lia) hj,Zj (A:=mn A j) (B:=mn B j) λi k hi hk=>h (i+1) (sk j k) (by lia) (Vo hk)]
theorem Jr:∀ {n:Nat} {A B C:Mx} {c:Int} {i:Nat},i<n->(∀ r j,r<n->j<n->r≠i->A r j=B r j/\A r j=C r j)->(∀ j,j<n->A i j=c * B i j+C i j)->det n A=c * det n B+det n C
 | 0,_,_,_,_,_,hi,_,_=>absurd hi (YY _)
 | n+1,A,B,C,c,i,hi,h1,h2=>by
  show sm (n+1) (λj=>sg j * A 0 j * det n (mn A j))=c * sm (n+1) (λj=>sg j * B 0 j * det n (mn B j))+sm (n+1) (λj=>sg j * C 0 j * det n (mn C j));rw[<- Hu,<- Jv];refine Zx λj hj=>?_;cases i with
  | zero =>
   have e1:det n (mn B j)=det n (mn A j):=Zj λr k hr hk=>(h1 (r+1) (sk j k) (by omega) (Vo hk) (by lia)).1.symm;have e2:det n (mn C j)=det n (mn A j):=Zj λr k hr hk=>(h1 (r+1) (sk j k) (by lia) (Vo hk) (by lia)).2.symm
   rw[e1,e2,h2 j hj];generalize det n (mn A j)=d;generalize sg j=s;rw[KZ,z8,<- Sv s c,QB s c,Sv c s,Sv c]
  | succ i =>
   have e:=Jr (n:=n) (A:=mn A j) (B:=mn B j) (C:=mn C j) (c:=c) (i:=i) (by lia) (λr k hr hk XJ=>h1 (r+1) (sk j k) (by lia) (Vo hk) (by lia)) (λk hk=>h2 (sk j k) (Vo hk));have e0:=h1 0 j (by lia) hj (by lia)
   rw[e,<- e0.1,<- e0.2];generalize det n (mn B j)=d;generalize det n (mn C j)=d';generalize sg j * A 0 j=s;rw[KZ,<- Sv,<- Sv,QB s c]
theorem rK{A:Mx}{j k i l:Nat}(h:j<=k):mn (mn A j) k i l=mn (mn A (k+1)) j i l:=by
 show A (i+1+1) (sk j (sk k l))=A (i+1+1) (sk (k+1) (sk j l));refine Xw _ ?_;unfold sk;by_cases h1:l<j
 .rw[if_pos (show l<k by lia),if_pos h1,if_pos (show l<k+1 by lia)]
 .rw[if_neg h1];by_cases h2:l<k
  .rw[if_pos h2,if_neg h1,if_pos (show l+1<k+1 by lia)]
  .rw[if_neg h2,if_neg (show ¬ l+1<j by lia),if_neg (show ¬ l+1<k+1 by lia)]
theorem rJ:∀ {n:Nat} {A:Mx} {i:Nat},i+1<n->(∀ j,j<n->A i j=A (i+1) j)->det n A=0
 | 0,_,_,hi,_=>absurd hi (YY _)
 | n+1,A,i+1,hi,h=>Ju λj hj=>by rw[rJ (A:=mn A j) (i:=i) (by lia) λk hk=>h (sk j k) (Vo hk),Ss]
 | 1,_,0,hi,_=>absurd hi (by omega)
 | n+2,A,0,_,h=>by
  obtain⟨t,ht⟩:∃ t:Nat->Nat->Int,t=λj k=>sg j * A 0 j * (sg k * A 1 (sk j k) * det n (mn (mn A j) k)):=⟨_,rfl⟩;have e1:det (n+2) A=sm (n+2) λj=>sm (n+1) (t j):=Zx λj hj=>by rw[ht,Hu];rfl
  have e2:∀ j k,j<=k->k<n+1->t (k+1) j=- t j k:=λj k hjk hk=>by
   rw[ht];show sg (k+1) * A 0 (k+1) * (sg j * A 1 (sk (k+1) j) * det n (mn (mn A (k+1)) j))=- (sg j * A 0 j * (sg k * A 1 (sk j k) * det n (mn (mn A j) k)))
   have f1:sk (k+1) j=j:=by unfold sk;rw[if_pos (by lia)]
   have f2:sk j k=k+1:=by unfold sk;rw[if_neg (by lia)]
   have f3:det n (mn (mn A (k+1)) j)=det n (mn (mn A j) k):=Zj λi l _ _=>(rK hjk).symm;rw[f1,f2,f3,yP,<- h j (by lia),<- h (k+1) (by lia)];generalize det n (mn (mn A j) k)=d;generalize A 0 j=x;generalize A 0 (k+1)=y;generalize sg j=s;generalize sg k=u;simp only [z9,Int.neg_inj];simp only [QB,Ol,Sv]
  have e3:sm (n+2) (λj=>sm (n+1) (t j))=sm (n+2) (λj=>sm (n+1) λk=>if k<j then t j k else 0)+sm (n+2) (λj=>sm (n+1) λk=>if k<j then 0 else t j k):=by rw[<- Jv];refine Zx λj _=>?_;rw[<- Jv];refine Zx λk _=>?_;split <;> lia
  have e4:sm (n+2) (λj=>sm (n+1) λk=>if k<j then t j k else 0)=sm (n+1) (λk=>sm (n+1) λj=>if k<=j then t (j+1) k else 0):=by
   rw[Jt];refine Zx λk _=>?_;rw[DI,if_neg (by lia),HX];refine Zx λj _=>?_;by_cases c:k<=j
   .rw[if_pos c,if_pos (by omega)]
   .rw[if_neg c,if_neg (by lia)]
  have e5:sm (n+2) (λj=>sm (n+1) λk=>if k<j then 0 else t j k)=sm (n+1) (λj=>sm (n+1) λk=>if j<=k then t j k else 0):=by
   show sm (n+1) (λj=>sm (n+1) λk=>if k<j then 0 else t j k)+sm (n+1) (λk=>if k<n+1 then 0 else t (n+1) k)=_;rw[Ju (f:=λk=>if k<n+1 then 0 else t (n+1) k) λk hk=>if_pos hk,RV];refine Zx λj _=>Zx λk _=>?_;by_cases c:j<=k
   .rw[if_pos c,if_neg (by lia)]
   .rw[if_neg c,if_pos (by lia)]
  rw[e1,e3,e4,e5,<- Jv];refine Ju λj hj=>?_;rw[<- Jv];refine Ju λk hk=>?_;by_cases c:j<=k
  .rw[if_pos c,if_pos c,e2 j k c hk];lia
  .rw[if_neg c,if_neg c];rfl
def put2(A:Mx)(i:Nat)(x y:Nat->Int):Mx:=λr=>if r=i then x else if r=i+1 then y else A r
theorem rH{n:Nat}{A:Mx}{i:Nat}{x x' y:Nat->Int}(hi:i+1<n):det n (put2 A i (λj=>x j+x' j) y)=det n (put2 A i x y)+det n (put2 A i x' y):=by
 have:=Jr (n:=n) (A:=put2 A i (λj=>x j+x' j) y) (B:=put2 A i x y) (C:=put2 A i x' y) (c:=1) (i:=i) (by lia) (λr j _ _ XJ=>by unfold put2;rw[if_neg XJ,if_neg XJ,if_neg XJ];exact⟨rfl,rfl⟩) (λj _=>by unfold put2;rw[if_pos rfl,if_pos rfl,if_pos rfl,SY])
 rw[this,SY]
theorem gD{n:Nat}{A:Mx}{i:Nat}{x y y':Nat->Int}(hi:i+1<n):det n (put2 A i x (λj=>y j+y' j))=det n (put2 A i x y)+det n (put2 A i x y'):=by
 have ne:¬ i+1=i:=by lia
 have:=Jr (n:=n) (A:=put2 A i x (λj=>y j+y' j)) (B:=put2 A i x y) (C:=put2 A i x y') (c:=1) (i:=i+1) (by lia) (λr j _ _ XJ=>by unfold put2;rw[if_neg XJ,if_neg XJ,if_neg XJ];exact⟨rfl,rfl⟩) (λj _=>by unfold put2;rw[if_neg ne,if_neg ne,if_neg ne,if_pos rfl,if_pos rfl,if_pos rfl,SY])
 rw[this,SY]
theorem rG{n:Nat}{A:Mx}{i:Nat}{x:Nat->Int}(hi:i+1<n):det n (put2 A i x x)=0:=rJ hi λj _=>by unfold put2;rw[if_pos rfl,if_neg (by lia),if_pos rfl]
theorem rF{n:Nat}{A:Mx}{i:Nat}{x y:Nat->Int}(hi:i+1<n):det n (put2 A i y x)=- det n (put2 A i x y):=by have h:=rG (A:=A) (x:=λj=>x j+y j) hi;rw[rH hi,gD hi,gD hi,rG hi,rG hi]at h;lia
theorem ZM9{A:Mx}{i:Nat}:put2 A i (A i) (A (i+1))=A:=by
 funext r
 unfold put2;by_cases h:r=i
 .rw[if_pos h,h]
 .rw[if_neg h];by_cases h2:r=i+1
  .rw[if_pos h2,h2]
  .rw[if_neg h2]
theorem DH{n:Nat}{A:Mx}{i:Nat}(hi:i+1<n):det n (put2 A i (A (i+1)) (A i))=- det n A:=by
 have:=rF (A:=A) (x:=A i) (y:=A (i+1)) hi
 rw[ZM9]at this;exact this
theorem yN{n:Nat}{a:Nat}:∀ {d:Nat} {A:Mx},a+d+1<n->(∀ j,j<n->A a j=A (a+d+1) j)->det n A=0
 | 0,A,hn,h=>rJ hn h
 | d+1,A,hn,h=>by
  have e:=DH (n:=n) (A:=A) (i:=a+d+1) (by lia);have z:det n (put2 A (a+d+1) (A (a+d+1+1)) (A (a+d+1)))=0:=by refine yN (a:=a) (d:=d) (by lia) λj hj=>?_;unfold put2;rw[if_neg (by lia),if_neg (by lia),if_pos rfl];exact h j hj
  lia
def rotN(k t i:Nat):Nat:=if i<k then i else if i=k then k+t else if i<=k+t then i - 1 else i
theorem ZJ7(k i:Nat):rotN k 0 i=i:=by
 unfold rotN;by_cases h:i<k
 .rw[if_pos h]
 .rw[if_neg h];by_cases h2:i=k
  .rw[if_pos h2,h2];rfl
  .rw[if_neg h2,if_neg (by lia)]
theorem rE{n k:Nat}:∀ {t:Nat} {A:Mx},k+t<n->det n (λi=>A (rotN k t i))=sg t * det n A
 | 0,A,_=>by rw[show sg 0=1 from rfl,SY];exact Zj λi j _ _=>by rw[ZJ7]
 | t+1,A,h=>by
  have e:=rE (n:=n) (k:=k) (t:=t) (A:=put2 A (k+t) (A (k+t+1)) (A (k+t))) (by lia);rw[DH (by lia)]at e;have f:det n (λi=>A (rotN k (t+1) i))=det n (λi=>put2 A (k+t) (A (k+t+1)) (A (k+t)) (rotN k t i)):=Zj λi j _ _=>by
   refine congrFun ?_ j;have r1:rotN k (t+1) i=if i<k then i else if i=k then k+(t+1) else if i<=k+(t+1) then i - 1 else i:=rfl
   have r2:rotN k t i=if i<k then i else if i=k then k+t else if i<=k+t then i - 1 else i:=rfl
   unfold put2;by_cases h1:i<k
   .rw[if_pos h1]at r1 r2;rw[r1,r2,if_neg (by lia),if_neg (by lia)]
   .rw[if_neg h1]at r1 r2;by_cases h2:i=k
    .rw[if_pos h2]at r1 r2;rw[r1,r2,if_pos rfl];rfl
    .rw[if_neg h2]at r1 r2;by_cases h3:i<=k+t
     .rw[if_pos (by lia)]at r1;rw[if_pos h3]at r2;rw[r1,r2,if_neg (by lia),if_neg (by lia)]
     .rw[if_neg h3]at r2;by_cases h4:i=k+t+1
      .rw[if_pos (by lia)]at r1;rw[r1,r2,if_neg (by grind),if_pos h4];exact Xw A (by lia)
      .rw[if_neg (by lia)]at r1;rw[r1,r2,if_neg (by lia),if_neg h4]
  rw[f,e,yP,Int.mul_neg,z9]
theorem rD:∀ {n:Nat} {A:Mx},(∀ i,i<n+1->A i 0=0)->det (n+1) A=0
 | 0,A,h=>by show 0+sg 0 * A 0 0 * 1=0;rw[h 0 (by omega),Ss];rfl
 | n+1,A,h=>Ju λj hj=>by
  cases j with
  | zero=>rw[h 0 (by lia),Ss,GI]
  | succ j =>
   rw[rD (A:=mn A (j+1)) λi hi=>?_,Ss];show A (i+1) (sk (j+1) 0)=0
   rw[show sk (j+1) 0=0 from rfl];exact h (i+1) (by lia)
theorem Zs8{n:Nat}{A:Mx}(h:∀ i,i<n->A (i+1) 0=0):det (n+1) A=A 0 0 * det n (λi j=>A (i+1) (j+1)):=by
 show sm (n+1) (λj=>sg j * A 0 j * det n (mn A j))=_;rw[DI,Ju λj hj=>?_]
 .rw[RV,show sg 0=1 from rfl,SY];refine Xw (A 0 0 * ·) (Zj λi j _ _=>?_);rfl
 .cases n with
  | zero=>exact absurd hj (YY _)
  | succ n =>
   rw[rD (A:=mn A (j+1)) λi hi=>?_,Ss];exact h i hi
theorem DG{n:Nat}{A:Mx}{i:Nat}(hi:i<n)(h:∀ j,j<n->A i j=0):det n A=0:=by
 have:=Jr (A:=A) (B:=A) (C:=A) (c:=1) hi (λr j _ _ _=>⟨rfl,rfl⟩) (λj hj=>by rw[h j hj];rfl)
 grind
theorem gC{c:Int}:∀ {n:Nat} {A:Mx},det n (λi j=>c * A i j)=c ^ n * det n A
 | 0,_=>by show(1:Int)=c ^ 0 * 1;rw[Lb];rfl
 | n+1,A=>by
  show sm (n+1) (λj=>sg j * (c * A 0 j) * det n (mn (λi j=>c * A i j) j))=c ^ (n+1) * sm (n+1) (λj=>sg j * A 0 j * det n (mn A j));rw[<- Hu];refine Zx λj _=>?_;have e:det n (mn (λi j=>c * A i j) j)=c ^ n * det n (mn A j):=gC (A:=mn A j)
  rw[e,GH];generalize det n (mn A j)=d;generalize c ^ n=p;generalize sg j=s;generalize A 0 j=x;simp only [QB,Ol,Sv]
def offN(R:Mx):Mx:=λi j=>R 0 0 * R (i+1) (j+1) - R (i+1) 0 * R 0 (j+1)
def WR(R:Mx)(k:Nat):Mx:=λr j=>if r=0 then R 0 j else if r<=k then R 0 0 * R r j - R r 0 * R 0 j else R r j
theorem gB{m:Nat}{R:Mx}:∀ {k:Nat},k<m+1->det (m+1) (WR R k)=R 0 0 ^ k * det (m+1) R
 | 0,_=>by
  rw[Lb,SY];refine Zj λi j _ _=>?_;unfold WR;by_cases h:i=0
  .rw[if_pos h,h]
  .rw[if_neg h,if_neg (by lia)]
 | k+1,hk=>by
  have ih:=gB (m:=m) (R:=R) (k:=k) (by lia);obtain⟨C,hC⟩:∃ C:Mx,C=λr j=>if r=k+1 then - R (k+1) 0 * R 0 j else WR R k r j:=⟨_,rfl⟩
  obtain⟨B,hB⟩:∃ B:Mx,B=λr j=>if r=k+1 then R 0 j else WR R k r j:=⟨_,rfl⟩
  obtain⟨Z,hZ⟩:∃ Z:Mx,Z=λr j=>if r=k+1 then 0 else WR R k r j:=⟨_,rfl⟩
  have hBz:det (m+1) B=0:=yN (n:=m+1) (a:=0) (d:=k) (by lia) λj hj=>by
   rw[hB];show(if 0=k+1 then _ else WR R k 0 j)=if 0+k+1=k+1 then _ else _
   rw[if_neg (by lia),if_pos (by lia)];rfl
  have hZz:det (m+1) Z=0:=DG (i:=k+1) hk λj hj=>by rw[hZ];exact if_pos rfl
  have hCz:det (m+1) C=0:=by
   have:=Jr (A:=C) (B:=B) (C:=Z) (c:=- R (k+1) 0) hk (λr j _ _ XJ=>by
    rw[hC,hB,hZ];show(if r=k+1 then _ else WR R k r j)=(if r=k+1 then _ else WR R k r j)/\(if r=k+1 then _ else WR R k r j)=(if r=k+1 then _ else WR R k r j)
    rw[if_neg XJ,if_neg XJ,if_neg XJ];exact⟨rfl,rfl⟩) (λj _=>by
    rw[hC,hB,hZ];show(if k+1=k+1 then _ else _)=_ * (if k+1=k+1 then _ else _)+(if k+1=k+1 then _ else _)
    rw[if_pos rfl,if_pos rfl,if_pos rfl,RV])
   rw[this,hBz,hZz,Ss];rfl
  have:=Jr (A:=WR R (k+1)) (B:=WR R k) (C:=C) (c:=R 0 0) hk (λr j _ _ XJ=>by
   have e1:WR R (k+1) r j=WR R k r j:=by
    unfold WR;by_cases h0:r=0
    .rw[if_pos h0,if_pos h0]
    .rw[if_neg h0,if_neg h0];by_cases h1:r<=k
     .rw[if_pos h1,if_pos (by lia)]
     .rw[if_neg h1,if_neg (by lia)]
   refine⟨e1,?_⟩;rw[hC,e1];show _=if r=k+1 then _ else _
   rw[if_neg XJ]) (λj _=>by
   have e1:WR R (k+1) (k+1) j=R 0 0 * R (k+1) j - R (k+1) 0 * R 0 j:=by unfold WR;rw[if_neg (by lia),if_pos (by lia)]
   have e2:WR R k (k+1) j=R (k+1) j:=by unfold WR;rw[if_neg (by omega),if_neg (by lia)]
   rw[e1,e2,hC];show _=_+(if k+1=k+1 then - R (k+1) 0 * R 0 j else _)
   rw[if_pos rfl,z9]
   rfl)
  rw[this,hCz,ih,RV,GH];rw[<- Sv,QB (R 0 0)]
theorem rC{m:Nat}{R:Mx}:R 0 0 * det m (offN R)=R 0 0 ^ m * det (m+1) R:=by
 rw[<- gB (k:=m) (by lia),Zs8 λi hi=>?_]
 .have e0:WR R m 0 0=R 0 0:=if_pos rfl;rw[e0];refine Xw (R 0 0 * ·) (Zj λi j hi hj=>?_);unfold WR offN;rw[if_neg (by lia),if_pos (by lia)]
 .unfold WR;rw[if_neg (by lia),if_pos (by lia),QB];lia
def ex(k:Nat)(r:Nat->Nat)(i:Nat):Nat:=if i<k then i else k+r (i - k)
def Sk(A:Mx)(k M:Nat)(R:Mx)(last:Int):Prop:=last≠0/\∀(m:Nat) (r c:Nat->Nat),(∀ i,i<m+1->r i<M/\c i<M) ->
 det (m+1) (λi j=>R (r i) (c j))=det (k+m+1) (λi j=>A (ex k r i) (ex k c j)) * last ^ m
theorem Zw8(A:Mx)(n:Nat):Sk A 0 n A 1:=⟨by decide,λm r c _=>by rw[Int.one_pow,Mi,Mn];refine Zj λi j _ _=>?_;unfold ex;rw[if_neg (YY _),if_neg (YY _),Mn,Mn,Nat.sub_zero,Nat.sub_zero]⟩
theorem rB{p:Int}(h:p≠0):∀ n:Nat,p ^ n≠0
 | 0=>by rw[Lb];decide
 | n+1=>by rw[GH];exact Int.mul_ne_zero (rB h n) h
def PQ(r:Nat->Nat):Nat->Nat
 | 0=>0
 | i+1=>r i+1
theorem DF(k:Nat)(r:Nat->Nat)(i:Nat):ex k (PQ r) i=ex (k+1) r i:=by
 unfold ex;by_cases h:i<k
 .rw[if_pos h,if_pos (by lia)]
 .rw[if_neg h];by_cases h2:i=k
  .rw[if_pos (by lia),h2,Ot];rfl
  .rw[if_neg (by lia)];obtain⟨d,rfl⟩:∃ d,i=k+d+1:=⟨i - k - 1,by grind⟩;rw[show k+d+1 - k=d+1 by lia,show k+d+1 - (k+1)=d by lia];show k+(r d+1)=k+1+r d
   lia
theorem gz{A:Mx}{k M:Nat}{R:Mx}{last:Int}(h:Sk A k (M+1) R last)(hp:R 0 0≠0){m:Nat}{r c:Nat->Nat}(hb:∀ i,i<m+1->r i<M/\c i<M) :
  det (m+1) (λi j=>offN R (r i) (c j))=R 0 0 ^ m * (last ^ (m+1) * det (k+1+m+1) (λi j=>A (ex (k+1) r i) (ex (k+1) c j))):=by
 have e1:=rC (m:=m+1) (R:=λi j=>R (PQ r i) (PQ c j));have e2:=h.2 (m+1) (PQ r) (PQ c) λi hi=>by
  cases i with
  | zero=>exact⟨Nat.succ_pos _,Nat.succ_pos _⟩
  | succ i=>have:=hb i (by lia);exact⟨Nat.succ_lt_succ this.1,Nat.succ_lt_succ this.2⟩
 have e3:det (m+1) (offN λi j=>R (PQ r i) (PQ c j))=det (m+1) (λi j=>offN R (r i) (c j)):=rfl;have e4:det (k+(m+1)+1) (λi j=>A (ex k (PQ r) i) (ex k (PQ c) j))=det (k+1+m+1) (λi j=>A (ex (k+1) r i) (ex (k+1) c j)):=by rw[show k+(m+1)+1=k+1+m+1 by lia];exact Zj λi j _ _=>by rw[DF,DF]
 rw[e3]at e1;rw[e4]at e2;have e5:R (PQ r 0) (PQ c 0)=R 0 0:=rfl
 rw[e5,e2]at e1;generalize det (m+1) (λi j=>offN R (r i) (c j))=x at *;generalize det (k+1+m+1) (λi j=>A (ex (k+1) r i) (ex (k+1) c j))=y at *;rw[GH]at e1;refine jI hp ?_;rw[e1,QB y,QB (R 0 0 ^ m),Sv]
theorem rq(A:Mx):det 1 A=A 0 0:=by show 0+sg 0 * A 0 0 * 1=A 0 0;rw[show sg 0=1 from rfl];lia
theorem rp{A:Mx}{k M:Nat}{R:Mx}{last:Int}(h:Sk A k (M+1) R last)(hp:R 0 0≠0){i j:Nat}(hi:i<M)(hj:j<M) :
  offN R i j=last * det (k+2) (λa b=>A (ex (k+1) (λ_=>i) a) (ex (k+1) (λ_=>j) b)):=by
 have:=gz h hp (m:=0) (r:=λ_=>i) (c:=λ_=>j) λ_ _=>⟨hi,hj⟩
 rw[rq,Lb,SY,GH,Lb,SY]at this;exact this
theorem rn{A:Mx}{k M:Nat}{R R':Mx}{last:Int}(h:Sk A k (M+1) R last)(hp:R 0 0≠0)(hR:∀ i j,i<M->j<M->R' i j=(offN R i j).fdiv last):Sk A (k+1) M R' (R 0 0):=by
 refine⟨hp,λm r c hb=>?_⟩;have rm:∀ i j,i<M->j<M->offN R i j=last * R' i j:=λi j hi hj=>by rw[hR i j hi hj,rp h hp hi hj,Int.mul_fdiv_cancel_left _ h.1]
 have e1:=gz h hp hb;have e2:det (m+1) (λi j=>offN R (r i) (c j))=last ^ (m+1) * det (m+1) (λi j=>R' (r i) (c j)):=by rw[<- gC];exact Zj λi j hi hj=>rm _ _ (hb i hi).1 (hb j hj).2
 rw[e2]at e1;refine jI (rB h.1 (m+1)) ?_;rw[e1];generalize det (k+1+m+1) (λi j=>A (ex (k+1) r i) (ex (k+1) c j))=y;rw[Ol,QB y]
theorem rj{A:Mx}{k M t:Nat}{R:Mx}{last:Int}(h:Sk A k M R last)(ht:t<M):Sk (λi=>A (rotN k t i)) k M (λi=>R (rotN 0 t i)) last:=by
 refine⟨h.1,λm r c hb=>?_⟩;have e:=h.2 m (λi=>rotN 0 t (r i)) c λi hi=>⟨by
  have:=(hb i hi).1
  unfold rotN;rw[if_neg (by lia)];split
  .lia
  .split <;> lia,(hb i hi).2⟩
 rw[e];refine Xw (· * last ^ m) (Zj λi j _ _=>?_);refine Xw (λa=>A a (ex k c j)) ?_;unfold ex;by_cases hi:i<k
 .rw[if_pos hi,if_pos hi];unfold rotN;rw[if_pos hi]
 .rw[if_neg hi,if_neg hi];show k+rotN 0 t (r (i - k))=rotN k t (k+r (i - k))
  generalize r (i - k)=a;have r1:rotN 0 t a=if a<0 then a else if a=0 then 0+t else if a<=0+t then a - 1 else a:=rfl
  have r2:rotN k t (k+a)=if k+a<k then k+a else if k+a=k then k+t else if k+a<=k+t then k+a - 1 else k+a:=rfl
  rw[if_neg (by lia)]at r1 r2;by_cases h1:a=0
  .rw[if_pos h1]at r1;rw[if_pos (by lia)]at r2;rw[r1,r2];lia
  .rw[if_neg h1]at r1;rw[if_neg (by lia)]at r2;by_cases h2:a<=t
   .rw[if_pos (by lia)]at r1;rw[if_pos (by lia)]at r2;rw[r1,r2];lia
   .rw[if_neg (by lia)]at r1;rw[if_neg (by lia)]at r2;rw[r1,r2]
theorem Nu(k i:Nat):ex k (λi=>i) i=i:=by
 unfold ex;by_cases h:i<k
 .rw[if_pos h]
 .rw[if_neg h];show k+(i - k)=i
  grind
theorem rh{A:Mx}{k M:Nat}{R:Mx}{last:Int}(h:Sk A k (M+1) R last)(h0:∀ i,i<M+1->R i 0=0):det (k+M+1) A=0:=by
 have e:=h.2 M (λi=>i) (λi=>i) λi hi=>⟨hi,hi⟩;rw[rD (A:=λi j=>R i j) h0]at e;have e2:det (k+M+1) (λi j=>A (ex k (λi=>i) i) (ex k (λi=>i) j))=det (k+M+1) A:=Zj λi j _ _=>by rw[Nu,Nu]
 rw[e2]at e;rcases Int.mul_eq_zero.mp e.symm with z | z
 .exact z
 .exact absurd z (rB h.1 M)
theorem rg{A:Mx}{k:Nat}{R:Mx}{last:Int}(h:Sk A k 1 R last):R 0 0=det (k+1) A:=by
 have e:=h.2 0 (λi=>i) (λi=>i) λi hi=>⟨by lia,by omega⟩;rw[rq,Lb,Mi]at e;have e2:det (k+0+1) (λi j=>A (ex k (λi=>i) i) (ex k (λi=>i) j))=det (k+1) A:=Zj λi j _ _=>by rw[Nu,Nu]
 rw[e2]at e;exact e
end My
namespace L2
open PySem PySem.Spec PyProof.Rows
def rd(i j:Int):Prop:=i.natAbs<2 ^ 9000/\j.natAbs<2 ^ 9000
def q9(i j:Int):Prop:=j≠0/\j.natAbs<2 ^ 9000
theorem gy{a:Int}(h:a.natAbs<2 ^ 9000):Builtin.Int.intBits a<=9000:=PySem.intBits_le_iff.mpr h
section
variable{X:Cx}
theorem q8:WH X (binaryOp .Mult) (rI rd λi j=>.int (i * j)):=Kq λ_ _ _ _ _ _ _ hc q=>mul_int q (.of_bits (Yr (gy hc.1) (by decide)) (Yr (gy hc.2) (by decide)))
theorem Jq:WH X (binaryOp .FloorDiv) (rI q9 λi j=>.int (i.fdiv j)):=Kq λ_ _ _ _ _ _ _ hc q=>floordiv_int hc.1 q (.inl (PyProof.noPylong_of_log2 ((Nat.log2_lt (by have:=hc.1;lia)).mpr hc.2)))
end
end L2
namespace My
def fnL(L:Ab):Mx:=λi j=>(L.getD i []).getD j 0
theorem OH{L:Ab}{l:Ac}{i j:Nat}{x:Int}(h:L[i]?=some l)(h2:l[j]?=some x):fnL L i j=x:=by
 have e:L.getD i []=l:=by rw[WJ,h];rfl
 unfold fnL;rw[e,WJ,h2];rfl
def yM(B:Nat):Nat->Nat
 | 0=>1
 | n+1=>(n+1) * (B * yM B n)
theorem DE{f:Nat->Int}{C:Nat}:∀ {n:Nat},(∀ i,i<n->(f i).natAbs<=C)->(sm n f).natAbs<=n * C
 | 0,_=>by show(0:Int).natAbs<=0 * C;rw[Nat.zero_mul];exact XM 0
 | n+1,h=>by
  have h1:=DE (n:=n) λi hi=>h i (by lia);have h2:=h n (by lia)
  have h3:(sm n f+f n).natAbs<=(sm n f).natAbs+(f n).natAbs:=Int.natAbs_add_le ..;show(sm n f+f n).natAbs<=(n+1) * C
  rw[Nat.succ_mul];lia
theorem gx{B:Nat}:∀ {n:Nat} {A:Mx},(∀ i j,i<n->j<n->(A i j).natAbs<=B)->(det n A).natAbs<=yM B n
 | 0,_,_=>XM 1
 | n+1,A,h=>by
  refine DE λj hj=>?_;have e:(sg j).natAbs=1:=by unfold sg;split <;> rfl
  rw[wR,wR,e,Nat.one_mul];exact Ld (h 0 j (by lia) hj) (gx λi k hi hk=>h (i+1) (sk j k) (by lia) (Vo hk))
theorem DD{b:Nat}:∀ {n:Nat},n<=16->yM (2 ^ b) n<=2 ^ ((b+4) * n)
 | 0,_=>by show 1<=2 ^ ((b+4) * 0);rw[Nat.mul_zero];exact XM 1
 | n+1,h=>by
  have ih:=DD (b:=b) (n:=n) (by lia);have e:2 ^ ((b+4) * (n+1))=16 * (2 ^ b * 2 ^ ((b+4) * n)):=by rw[Nat.mul_succ,Nat.pow_add,Nat.pow_add,Ai (2 ^ ((b+4) * n)),Ai (2 ^ b) (2 ^ 4),Nat.mul_assoc]
  rw[e];show(n+1) * (2 ^ b * yM (2 ^ b) n)<=_
  exact Ld h (Ld (XM _) ih)
theorem Zr8{n:Nat}{A:Mx}(hn:n<=16)(h:∀ i j,i<n->j<n->(A i j).natAbs<=2 ^ 400):(det n A).natAbs<2 ^ 9000:=by
 have h1:=gx h;have h2:=DD (b:=400) hn
 have h3:2 ^ ((400+4) * n)<=2 ^ (404 * 16):=Hb (by decide) (Ld (XM _) hn);have h4:2 ^ (404 * 16)<2 ^ 9000:=Nat.pow_lt_pow_right (by decide) (by decide)
 exact GV (Yr h1 (Yr h2 h3)) h4
theorem qZ{A:Mx}{k M:Nat}{R:Mx}{last:Int}(h:Sk A k M R last){i j:Nat}(hi:i<M)(hj:j<M):R i j=det (k+1) (λa b=>A (ex k (λ_=>i) a) (ex k (λ_=>j) b)):=by
 have:=h.2 0 (λ_=>i) (λ_=>j) λ_ _=>⟨hi,hj⟩
 rw[rq,Lb,Mi]at this;exact this
theorem Zx8{A:Mx}{k M n:Nat}{R:Mx}{last:Int}(h:Sk A k M R last)(hn:k+M=n)(hn16:n<=16)(hA:∀ i j,i<n->j<n->(A i j).natAbs<=2 ^ 400){i j:Nat}(hi:i<M)(hj:j<M):(R i j).natAbs<2 ^ 9000:=by
 rw[qZ h hi hj];refine Zr8 (by lia) λa b ha hb=>hA _ _ ?_ ?_
 .have e:ex k (λ_=>i) a=if a<k then a else k+i:=rfl
  rw[e];split <;> lia
 .have e:ex k (λ_=>j) b=if b<k then b else k+j:=rfl
  rw[e];split <;> lia
theorem qY{L:Ab}{l:Ac}{t:Nat}(h:L[t]?=some l)(i:Nat):(l :: L.eraseIdx t)[i]?=L[rotN 0 t i]?:=by
 have ht:=(Xp.mp h).1;have r:rotN 0 t i=if i<0 then i else if i=0 then 0+t else if i<=0+t then i - 1 else i:=rfl
 rw[if_neg (by lia)]at r;cases i with
 | zero =>
  rw[if_pos rfl,Mn]at r;rw[r,h];rfl
 | succ i =>
  rw[if_neg (by lia),Mn]at r;rw[r,List.getElem?_cons_succ,xw];by_cases c:i+1<=t
  .rw[if_pos c,if_pos (by lia)];rfl
  .rw[if_neg c,if_neg (by lia)]
theorem qX{L:Ab}{l:Ac}{t:Nat}(h:L[t]?=some l):fnL (l :: L.eraseIdx t)=λi=>fnL L (rotN 0 t i):=by
 funext i j
 show((l :: L.eraseIdx t).getD i []).getD j 0=(L.getD (rotN 0 t i) []).getD j 0;refine Xw (λr:Ac=>r.getD j 0) ?_;rw[WJ,WJ,qY h]
def PN(y:Int)(p:Ac)(last:Int)(l:Ac):Ac:=List.zipWith (λown other=>(y * own - l.headD 0 * other).fdiv last) l.tail p
theorem gu{y last:Int}{p l:Ac}(h:l.length=p.length+1):(PN y p last l).length=p.length:=by unfold PN;rw[GX,List.length_tail];grind
theorem qW{y last:Int}{p:Ac}{L:Ab}{M:Nat}(hp:p.length=M)(hL:L.length=M)(hl:∀ l∈L,l.length=M+1){i j:Nat}(hi:i<M)(hj:j<M) :
  fnL (L.map (PN y p last)) i j=(offN (fnL ((y :: p) :: L)) i j).fdiv last:=by
 obtain⟨l,LL⟩:∃ l,L[i]?=some l:=⟨_,Xr (by lia)⟩;have Ht:=hl l (Xg LL)
 obtain⟨x,l',rfl⟩:∃ x l',l=x :: l':=by
  cases l with
  | nil=>cases Ht
  | cons x l'=>exact⟨x,l',rfl⟩
 have Sr:l'.length=M:=by rw[YB]at Ht;lia
 obtain⟨u,hu⟩:∃ u,l'[j]?=some u:=⟨_,Xr (by lia)⟩;obtain⟨v,hv⟩:∃ v,p[j]?=some v:=⟨_,Xr (by lia)⟩;have e1:fnL (L.map (PN y p last)) i j=(y * u - x * v).fdiv last:=OH (l:=PN y p last (x :: l')) (by rw[Yp,LL];rfl) (by
  show(List.zipWith _ l' p)[j]?=_;rw[Ih,hu,hv]
  rfl)
 have e2:fnL ((y :: p) :: L) 0 0=y:=rfl;have e3:fnL ((y :: p) :: L) (i+1) (j+1)=u:=OH (l:=x :: l') LL hu
 have e4:fnL ((y :: p) :: L) (i+1) 0=x:=OH (l:=x :: l') LL rfl;have e5:fnL ((y :: p) :: L) 0 (j+1)=v:=OH (l:=y :: p) rfl hv
 rw[e1];unfold offN;rw[e2,e3,e4,e5]
end My
namespace My
open PySem L2
def DC(K:Ad)(H:Hp)(v:V)(l:Ac):Prop:=∃(r:Addr) (k:Bool),v=.ref r/\SqK k K H r (IL l)
def LiV(d:Addr)(H:Hp)(v:V)(l:Ac):Prop:=∃ r,v=.ref r/\H r=some (.lst (IL l))/\r≠d
theorem LiV.same{d:Addr}{H H':Hp}{v:V}{l:Ac}(s:Same H H')(h:LiV d H v l):LiV d H' v l:=by obtain⟨r,e,h,n⟩:=h;exact⟨r,e,s _ _ h,n⟩
theorem LiV.mut{d:Addr}{H:Hp}{v:V}{l:Ac}{o:HO}(h:LiV d H v l):LiV d (upd H d o) v l:=by obtain⟨r,e,h,n⟩:=h;exact⟨r,e,by rw[Zb n];exact h,n⟩
theorem LiV.list{d:Addr}{H:Hp}{v:V}{l:Ac}(h:LiV d H v l):OL H v l:=by obtain⟨r,e,h,_⟩:=h;exact⟨r,e,h⟩
theorem Bears.erase{α:Type}[DecidableEq α]{R:V->α->Prop}{xs:List V}{l:List α}(h:Bears R xs l)(t:Nat):Bears R (xs.eraseIdx t) (l.eraseIdx t):=by
 have hl:=h.1;refine⟨by rw[Ax,Ax,hl],λi a e=>?_⟩;rw[xw]at e;rw[xw];split at e
 .next c=>rw[if_pos c];exact h.2 _ _ e
 .next c=>rw[if_neg c];exact h.2 _ _ e
theorem gr(x:Int)(l:Ac):WU (IL (x :: l)) (some 1) none=IL l:=by rw[si (by decide)];rfl
theorem DB(t:Nat):sg t * sg t=1:=by unfold sg;split <;> rfl
end My
namespace My
theorem ZA9{f:Nat->Nat->Int}{n m:Nat}:sm n (λi=>sm m (λj=>f i j))=sm m (λj=>sm n (λi=>f i j)):=Jt
theorem gq:∀ {n:Nat} {A:Mx},det (n+1) A=sm (n+1) λi=>sg i * A i 0 * det n (λr c=>A (sk i r) (c+1))
 | 0,A=>rfl
 | n+1,A=>by
  have e1:det (n+2) A=sg 0 * A 0 0 * det (n+1) (mn A 0)+sm (n+1) λj=>sg (j+1) * A 0 (j+1) * det (n+1) (mn A (j+1)):=DI;have e2:sm (n+2) (λi=>sg i * A i 0 * det (n+1) (λr c=>A (sk i r) (c+1)))=sg 0 * A 0 0 * det (n+1) (λr c=>A (sk 0 r) (c+1))+sm (n+1) λi=>sg (i+1) * A (i+1) 0 * det (n+1) (λr c=>A (sk (i+1) r) (c+1)):=DI
  rw[e1,e2];have e3:det (n+1) (mn A 0)=det (n+1) (λr c=>A (sk 0 r) (c+1)):=Zj λr c _ _=>rfl
  rw[e3];refine Xw (λz:Int=>sg 0 * A 0 0 * det (n+1) (λr c=>A (sk 0 r) (c+1))+z) ?_;obtain⟨D,hD⟩:∃ D:Nat->Nat->Int,D=λi j=>det n (λr c=>A (sk i r+1) (sk (j+1) (c+1))):=⟨_,rfl⟩;have e4:∀ j,j<n+1->det (n+1) (mn A (j+1))=sm (n+1) λi=>sg i * A (i+1) 0 * D i j:=λj _=>by rw[gq,hD];rfl
  have e5:∀ i,i<n+1->det (n+1) (λr c=>A (sk (i+1) r) (c+1))=sm (n+1) λj=>sg j * A 0 (j+1) * D i j:=λi hi=>by
   show sm (n+1) (λj=>sg j * A (sk (i+1) 0) (j+1) * det n (mn (λr c=>A (sk (i+1) r) (c+1)) j))=_;refine Zx λj _=>?_;rw[hD];show sg j * A (sk (i+1) 0) (j+1) * det n (mn (λr c=>A (sk (i+1) r) (c+1)) j)=sg j * A 0 (j+1) * det n (λr c=>A (sk i r+1) (sk (j+1) (c+1)))
   rw[show sk (i+1) 0=0 from rfl];refine Xw (sg j * A 0 (j+1) * ·) (Zj λr c _ _=>?_);show A (sk (i+1) (r+1)) (sk j c+1)=A (sk i r+1) (sk (j+1) (c+1))
   have f1:sk (i+1) (r+1)=sk i r+1:=by
    unfold sk;by_cases h:r<i
    .rw[if_pos h,if_pos (by lia)]
    .rw[if_neg h,if_neg (by lia)]
   have f2:sk j c+1=sk (j+1) (c+1):=by
    unfold sk;by_cases h:c<j
    .rw[if_pos h,if_pos (by lia)]
    .rw[if_neg h,if_neg (by lia)]
   rw[f1,f2]
  have e6:sm (n+1) (λj=>sg (j+1) * A 0 (j+1) * det (n+1) (mn A (j+1)))=sm (n+1) λj=>sm (n+1) λi=>sg (j+1) * A 0 (j+1) * (sg i * A (i+1) 0 * D i j):=Zx λj hj=>by rw[e4 j hj,Hu]
  have e7:sm (n+1) (λi=>sg (i+1) * A (i+1) 0 * det (n+1) (λr c=>A (sk (i+1) r) (c+1)))=sm (n+1) λi=>sm (n+1) λj=>sg (i+1) * A (i+1) 0 * (sg j * A 0 (j+1) * D i j):=Zx λi hi=>by rw[e5 i hi,Hu]
  rw[e6,e7,ZA9];refine Zx λi _=>Zx λj _=>?_;rw[yP,yP];generalize D i j=d;generalize A 0 (j+1)=x;generalize A (i+1) 0=y;generalize sg i=s;generalize sg j=u;simp only [z9,Int.neg_inj];simp only [QB,Ol,Sv]
theorem PM:∀ {n:Nat} {A:Mx},det n (λi j=>A j i)=det n A
 | 0,_=>rfl
 | n+1,A=>by
  rw[gq (A:=A)];refine Zx λj _=>?_;show sg j * A j 0 * det n (λi k=>A (sk j k) (i+1))=sg j * A j 0 * det n (λr c=>A (sk j r) (c+1))
  rw[<- PM (A:=λr c=>A (sk j r) (c+1))]
theorem qV{n a b:Nat}{A:Mx}(ha:a<n)(hb:b<n)(XJ:a≠b)(h:∀ j,j<n->A a j=A b j):det n A=0:=by
 rcases Nat.lt_or_gt_of_ne XJ with c | c
 .obtain⟨d,rfl⟩:∃ d,b=a+d+1:=⟨b - a - 1,by grind⟩;exact yN hb h
 .obtain⟨d,rfl⟩:∃ d,a=b+d+1:=⟨a - b - 1,by grind⟩;exact yN ha λj hj=>(h j hj).symm
def putr(A:Mx)(i:Nat)(x:Nat->Int):Mx:=λr=>if r=i then x else A r
theorem gp{n i:Nat}{A:Mx}{c:Int}{x y:Nat->Int}(hi:i<n):det n (putr A i (λj=>c * x j+y j))=c * det n (putr A i x)+det n (putr A i y) :=
 Jr hi (λr j _ _ XJ=>by unfold putr;rw[if_neg XJ,if_neg XJ,if_neg XJ];exact⟨rfl,rfl⟩) (λj _=>by unfold putr;rw[if_pos rfl,if_pos rfl,if_pos rfl])
theorem gn{A:Mx}{i:Nat}:putr A i (A i)=A:=by
 funext r
 unfold putr;by_cases h:r=i
 .rw[if_pos h,h]
 .rw[if_neg h]
theorem gm{n a b:Nat}{A:Mx}{c:Int}(ha:a<n)(hb:b<n)(XJ:a≠b):det n (putr A a (λj=>A a j+c * A b j))=det n A:=by
 have e:(λj=>A a j+c * A b j)=λj=>c * A b j+A a j:=by funext j;lia
 rw[e,gp ha,gn,qV ha hb XJ (A:=putr A a (A b)) λj _=>?_,Ss,HX];unfold putr;rw[if_pos rfl,if_neg (YW XJ)]
theorem qU(a i:Nat):rotN 0 a (i+1)=sk a i:=by
 have r:rotN 0 a (i+1)=if i+1<0 then i+1 else if i+1=0 then 0+a else if i+1<=0+a then i+1 - 1 else i+1:=rfl
 rw[if_neg (by lia),if_neg (by lia)]at r;rw[r];unfold sk;by_cases h:i<a
 .rw[if_pos h,if_pos (by lia)];lia
 .rw[if_neg h,if_neg (by lia)]
theorem gk{f:Nat->Int}{a:Nat}:∀ {n:Nat},a<n->(∀ j,j<n->j≠a->f j=0)->sm n f=f a
 | 0,h,_=>absurd h (YY _)
 | n+1,h,h0=>by
  show sm n f+f n=f a;by_cases c:a=n
  .rw[Ju λi hi=>h0 i (by grind) (by lia),c,HX]
  .rw[gk (n:=n) (by lia) λj hj XJ=>h0 j (by lia) XJ,h0 n (by lia) (by lia),RV]
theorem qT{n a:Nat}{A:Mx}(ha:a<n+1):det (n+1) (putr A a (λj=>if j=a then 1 else 0))=det n (λi j=>A (sk a i) (sk a j)):=by
 have e:=rE (n:=n+1) (k:=0) (t:=a) (A:=putr A a (λj=>if j=a then 1 else 0)) (by lia);have r0:rotN 0 a 0=a:=by show(if 0<0 then 0 else if 0=0 then 0+a else _)=a;rw[if_neg (by lia),if_pos rfl,Mn]
 have top:det (n+1) (λi=>putr A a (λj=>if j=a then 1 else 0) (rotN 0 a i))=sg a * det n (λi j=>A (sk a i) (sk a j)):=by
  show sm (n+1) (λj=>sg j * putr A a (λj=>if j=a then 1 else 0) (rotN 0 a 0) j * det n (mn (λi=>putr A a (λj=>if j=a then 1 else 0) (rotN 0 a i)) j))=_;rw[gk ha λj _ XJ=>?_]
  .rw[r0];have e1:putr A a (λj=>if j=a then 1 else 0) a a=1:=by unfold putr;rw[if_pos rfl,if_pos rfl]
   rw[e1,Mi];refine Xw (sg a * ·) (Zj λi j _ _=>?_);show putr A a (λj=>if j=a then 1 else 0) (rotN 0 a (i+1)) (sk a j)=A (sk a i) (sk a j)
   rw[qU];unfold putr;rw[if_neg (by unfold sk;split <;> lia)]
  .rw[r0];have e1:putr A a (λj=>if j=a then 1 else 0) a j=0:=by unfold putr;rw[if_pos rfl,if_neg XJ]
   rw[e1,Ss,GI]
 rw[top]at e;have h:=Xw (sg a * ·) e
 simp only [<- Sv]at h;rw[show sg a * sg a=1 by unfold sg;split <;> rfl,SY,SY]at h
 exact h.symm
theorem gj{n a:Nat}{A:Mx}{w:Int}(ha:a<n+1):det (n+1) (λi j=>A i j+w * ((if i=a then 1 else 0) * (if j=a then 1 else 0)))=det (n+1) A+w * det n (λi j=>A (sk a i) (sk a j)):=by
 have e:det (n+1) (λi j=>A i j+w * ((if i=a then 1 else 0) * (if j=a then 1 else 0)))=det (n+1) (putr A a (λj=>w * (λj=>if j=a then 1 else 0) j+A a j)):=Zj λi j _ _=>by
  unfold putr;by_cases h:i=a
  .subst h;rw[if_pos rfl,if_pos rfl,SY];show A i j+w * (if j=i then 1 else 0)=w * (if j=i then 1 else 0)+A i j
   exact Int.add_comm ..
  .rw[if_neg h,if_neg h,GI,Ss,RV]
 rw[e,gp ha,gn,qT ha];lia
def ind(u v i:Nat):Int:=(if i=u then 1 else 0) - (if i=v then 1 else 0)
def QM(A:Mx)(a b:Nat):Mx:=λi j=>(A i j+(if i=b then A a j else 0))+(if j=b then A i a+(if i=b then A a a else 0) else 0)
theorem DA{n a b:Nat}{A:Mx}(ha:a<n)(hb:b<n)(XJ:a≠b):det n (QM A a b)=det n A:=by
 have e1:det n A=det n (putr A b (λj=>A b j+1 * A a j)):=(gm hb ha (YW XJ)).symm;obtain⟨R,hR⟩:∃ R:Mx,R=putr A b (λj=>A b j+1 * A a j):=⟨_,rfl⟩;have e2:det n R=det n (putr (λi j=>R j i) b (λj=>(λi j=>R j i) b j+1 * (λi j=>R j i) a j)):=by rw[gm (A:=λi j=>R j i) hb ha (YW XJ)];exact PM.symm
 rw[e1,<- hR,e2,<- PM (A:=putr (λi j=>R j i) b (λj=>(λi j=>R j i) b j+1 * (λi j=>R j i) a j))];refine Zj λi j _ _=>?_;have rv:∀ r c,R r c=A r c+(if r=b then A a c else 0):=λr c=>by
  rw[hR];unfold putr;by_cases h:r=b
  .rw[if_pos h,if_pos h,h];lia
  .rw[if_neg h,if_neg h];lia
 unfold QM;show _=(putr (λi j=>R j i) b (λj=>R j b+1 * R j a)) j i
 unfold putr;by_cases h:j=b
 .rw[if_pos h,if_pos h,rv,rv,h];by_cases h2:i=b
  .rw[if_pos h2,if_pos h2];lia
  .rw[if_neg h2,if_neg h2];lia
 .rw[if_neg h,if_neg h];show _=R i j
  rw[rv];lia
theorem qS{n a b:Nat}{A:Mx}{w:Int}(ha:a<n+1)(hb:b<n+1)(XJ:a≠b):det (n+1) (λi j=>A i j+w * (ind a b i * ind a b j))=det (n+1) A+w * det n (λi j=>QM A a b (sk a i) (sk a j)):=by
 have e1:=DA (A:=λi j=>A i j+w * (ind a b i * ind a b j)) ha hb XJ;have e2:det (n+1) (QM (λi j=>A i j+w * (ind a b i * ind a b j)) a b)=det (n+1) (λi j=>QM A a b i j+w * ((if i=a then 1 else 0) * (if j=a then 1 else 0))):=Zj λi j _ _=>by
  have na:¬ a=b:=XJ;have nb:¬ b=a:=YW XJ
  unfold QM ind;by_cases hi:i=b
  .subst hi;by_cases hj:j=i
   .subst hj;simp[na,nb];lia
   .by_cases QL:j=a
    .subst QL;simp[na,nb,hj];lia
    .simp[na,nb,hj,QL]
  .by_cases VB:i=a
   .subst VB;by_cases hj:j=b
    .subst hj;simp[na,nb];lia
    .by_cases QL:j=i
     .subst QL;simp[na,nb]
     .simp[na,nb,hj,QL]
   .by_cases hj:j=b
    .subst hj;simp[na,nb,hi,VB]
    .by_cases QL:j=a
     .subst QL;simp[na,nb,hi,VB]
     .simp[na,nb,hi,VB,hj,QL]
 rw[<- e1,e2,gj ha,DA ha hb XJ]
end My
namespace My
open PySem L2
abbrev Ed:=Nat × Nat × Int
def lapE:List Ed->Mx
 | []=>λ_ _=>0
 | e :: E=>λi j=>e.2.2 * (ind e.1 e.2.1 i * ind e.1 e.2.1 j)+lapE E i j
theorem Jp(E:List Ed)(e:Ed)(i j:Nat):lapE (E++[e]) i j=lapE E i j+e.2.2 * (ind e.1 e.2.1 i * ind e.1 e.2.1 j):=by
 induction E with
 | nil=>show _+0=0+_;lia
 | cons f E ih =>
  show _+lapE (E++[e]) i j=_+lapE E i j+_;rw[ih];lia
def Ub(E:List Ed)(z:Int):Nat × Nat:=((E.getD z.toNat (0,0,0)).1,(E.getD z.toNat (0,0,0)).2.1)
def UW(E:List Ed):Ac->Int
 | []=>1
 | z :: T=>(E.getD z.toNat (0,0,0)).2.2 * UW E T
theorem Dz(E:List Ed)(S T:Ac):UW E (S++T)=UW E S * UW E T:=by
 induction S with
 | nil=>show _=1 * _;rw[SY];rfl
 | cons z S ih=>show _ * UW E (S++T)=_ * _ * _;rw[ih,Sv]
def IsT(k:Nat)(E:List Ed)(T:Ac):Prop:=IsSet E.length T/\T.length=k/\∀ i j,i<k+1->j<k+1->Conn (T.map (Ub E)) i j
def TW(k:Nat)(E:List Ed)(s:Int):Prop:=∃ L:Ab,L.Nodup/\(∀ T,T∈L↔IsT k E T)/\(L.map (UW E)).sum=s
theorem Dy{E:List Ed}{e:Ed}{z:Int}(h0:0<=z)(h1:z<(E.length:Int)):(E++[e]).getD z.toNat (0,0,0)=E.getD z.toNat (0,0,0):=by rw[WJ,WJ,Ys (by lia)]
theorem gf(E:List Ed)(e:Ed):(E++[e]).getD (E.length:Int).toNat (0,0,0)=e:=by rw[WJ,Yv,Yq (XM _),Ot];rfl
theorem PL{E:List Ed}{e:Ed}{T:Ac}(h:IsSet E.length T):T.map (Ub (E++[e]))=T.map (Ub E):=YX λz hz=>by
 have:=h.all z hz
 unfold Ub;rw[Dy this.1 this.2]
theorem Jo{E:List Ed}{e:Ed}{T:Ac}(h:∀ z∈T,0<=z/\z<(E.length:Int)):UW (E++[e]) T=UW E T:=by
 induction T with
 | nil=>rfl
 | cons z T ih =>
  have hz:=h z Ye;show _ * UW (E++[e]) T=_ * UW E T
  rw[Dy hz.1 hz.2,ih λy hy=>h y (Yh _ hy)]
theorem yL{k:Nat}{E:List Ed}{e:Ed}{T:Ac}(h:IsSet E.length T):IsT k (E++[e]) T↔IsT k E T:=by
 have h2:IsSet (E++[e]).length T:=by rw[Xs];exact h.up
 constructor
 .rintro⟨_,a,b⟩;exact⟨h,a,by rw[PL h]at b;exact b⟩
 .rintro⟨_,a,b⟩;exact⟨h2,a,by rw[PL h];exact b⟩
theorem gd{E:List Ed}{e:Ed}{T:Ac}(h:IsSet E.length T):(T++[(E.length:Int)]).map (Ub (E++[e]))=T.map (Ub E)++[(e.1,e.2.1)]:=by
 rw[YR,PL h];show _++[Ub (E++[e]) (E.length:Int)]=_
 unfold Ub;rw[gf]
def sh(a x:Nat):Nat:=if x<a then x else x - 1
def dl(a b x:Nat):Nat:=if x=a then sh a b else sh a x
theorem PK(a y:Nat):sh a (sk a y)=y:=by
 unfold sk;by_cases h:y<a
 .rw[if_pos h];unfold sh;rw[if_pos h]
 .rw[if_neg h];unfold sh;rw[if_neg (by lia)];lia
theorem Dx(a y:Nat):sk a y≠a:=by unfold sk;split <;> lia
theorem Nt{a x:Nat}(h:x≠a):sk a (sh a x)=x:=by
 unfold sh;by_cases c:x<a
 .rw[if_pos c];unfold sk;rw[if_pos c]
 .rw[if_neg c];unfold sk;rw[if_neg (by lia)];lia
theorem Nr(a b y:Nat):dl a b (sk a y)=y:=by unfold dl;rw[if_neg (Dx a y),PK]
theorem qR{a x y:Nat}(hx:x≠a)(hy:y≠a)(h:sh a x=sh a y):x=y:=by
 have:=Xw (sk a) h
 rw[Nt hx,Nt hy]at this;exact this
theorem qQ{a b x y:Nat}(XJ:b≠a)(h:dl a b x=dl a b y):x=y\/(x=a/\y=b)\/(x=b/\y=a):=by
 unfold dl at h;by_cases hx:x=a
 .rw[if_pos hx]at h;by_cases hy:y=a
  .exact .inl (hx.trans hy.symm)
  .rw[if_neg hy]at h;exact .inr (.inl ⟨hx,(qR XJ hy h).symm⟩)
 .rw[if_neg hx]at h;by_cases hy:y=a
  .rw[if_pos hy]at h;exact .inr (.inr ⟨qR hx XJ h,hy⟩)
  .rw[if_neg hy]at h;exact .inl (qR hx hy h)
theorem qP(a b:Nat)(XJ:b≠a):dl a b a=dl a b b:=by unfold dl;rw[if_pos rfl,if_neg XJ]
theorem qO{a b:Nat}{es:List (Nat × Nat)}{i j:Nat}(XJ:b≠a)(c:Conn (es++[(a,b)]) i j):Conn (es.map λe=>(dl a b e.1,dl a b e.2)) (dl a b i) (dl a b j):=by
 induction c with
 | refl i=>exact .refl _
 | edge q =>
  rcases Xy.mp q with q | q
  .exact .edge (YC.mpr ⟨_,q,rfl⟩)
  .have e:=XD.mp q;injection e with e1 e2
   rw[e1,e2,qP a b XJ];exact .refl _
 | symm _ ih=>exact .symm ih
 | trans _ _ a b=>exact .trans a b
theorem qN{a b:Nat}{es:List (Nat × Nat)}{u v:Nat}(XJ:b≠a)(c:Conn (es.map λe=>(dl a b e.1,dl a b e.2)) u v):∀ i j,dl a b i=u->dl a b j=v->Conn (es++[(a,b)]) i j:=by
 have he:Conn (es++[(a,b)]) a b:=.edge (by simp);have same:∀ i j,dl a b i=dl a b j->Conn (es++[(a,b)]) i j:=λi j e=>by
  rcases qQ XJ e with e | ⟨e1,e2⟩ | ⟨e1,e2⟩
  .rw[e];exact .refl _
  .rw[e1,e2];exact he
  .rw[e1,e2];exact he.symm
 induction c with
 | refl u=>exact λi j e1 e2=>same i j (e1.trans e2.symm)
 | edge q =>
  intro i j e1 e2;obtain⟨⟨x,y⟩,Ny,e⟩:=YC.mp q;injection e with x1 x2
  exact(same i x (e1.trans x1.symm)).trans (.trans (.edge (Yb _ Ny)) (same y j (x2.trans e2.symm)))
 | symm _ ih=>exact λi j e1 e2=>(ih j i e2 e1).symm
 | @trans x y z _ _ PX Td=>exact λi j e1 e2=>(PX i (sk a y) e1 (Nr a b y)).trans (Td (sk a y) j (Nr a b y) e2)
theorem Nq{a b x k:Nat}(ha:a<k+1)(hb:b<k+2)(XJ:b≠a)(hx:x<k+2):dl a b x<k+1:=by
 unfold dl sh;by_cases h:x=a
 .rw[if_pos h];split <;> grind
 .rw[if_neg h];split <;> grind
theorem gc{a b k:Nat}{es:List (Nat × Nat)}(ha:a<k+1)(hb:b<k+2)(XJ:b≠a):(∀ i j,i<k+2->j<k+2->Conn (es++[(a,b)]) i j)↔∀ i j,i<k+1->j<k+1->Conn (es.map λe=>(dl a b e.1,dl a b e.2)) i j:=by
 constructor
 .intro c i j h1 h2
  have:=qO XJ (c (sk a i) (sk a j) (Vo h1) (Vo h2))
  rw[Nr,Nr]at this;exact this
 .exact λc i j h1 h2=>qN XJ (c _ _ (Nq ha hb XJ h1) (Nq ha hb XJ h2)) i j rfl rfl
def Tc(a b:Nat)(E:List Ed):List Ed:=E.map λe=>(dl a b e.1,dl a b e.2.1,e.2.2)
theorem gb{a b:Nat}{E:List Ed}{z:Int}(h0:0<=z)(h1:z<(E.length:Int)):(Tc a b E).getD z.toNat (0,0,0)=(dl a b (E.getD z.toNat (0,0,0)).1,dl a b (E.getD z.toNat (0,0,0)).2.1,(E.getD z.toNat (0,0,0)).2.2):=by unfold Tc;rw[WJ,WJ,Yp,Xr (by omega)];rfl
theorem f9{a b:Nat}{E:List Ed}{T:Ac}(h:IsSet E.length T):T.map (Ub (Tc a b E))=(T.map (Ub E)).map λe=>(dl a b e.1,dl a b e.2):=by
 rw[Mm];refine YX λz hz=>?_
 have:=h.all z hz
 unfold Ub;rw[gb this.1 this.2];rfl
theorem qM{a b:Nat}{E:List Ed}{T:Ac}(h:∀ z∈T,0<=z/\z<(E.length:Int)):UW (Tc a b E) T=UW E T:=by
 induction T with
 | nil=>rfl
 | cons z T ih =>
  have hz:=h z Ye;show _ * UW (Tc a b E) T=_ * UW E T
  rw[gb hz.1 hz.2,ih λy hy=>h y (Yh _ hy)]
theorem Dw{k a b:Nat}{E:List Ed}{e:Ed}{T:Ac}(ha:a<k+1)(hb:b<k+2)(XJ:b≠a)(he:(e.1=a/\e.2.1=b)\/(e.1=b/\e.2.1=a))(h:IsSet E.length T):IsT (k+1) (E++[e]) (T++[(E.length:Int)])↔IsT k (Tc a b E) T:=by
 have hl:(Tc a b E).length=E.length:=Yd ..;have hc:(∀ i j,i<k+2->j<k+2->Conn ((T++[(E.length:Int)]).map (Ub (E++[e]))) i j)↔∀ i j,i<k+2->j<k+2->Conn (T.map (Ub E)++[(a,b)]) i j:=by
  rw[gd h];rcases he with ⟨e1,e2⟩ | ⟨e1,e2⟩
  .rw[e1,e2]
  .rw[e1,e2];exact⟨λc i j x y=>DJ (c i j x y),λc i j x y=>DJ (c i j x y)⟩
 have h2:IsSet (E++[e]).length (T++[(E.length:Int)]):=by rw[Xs];exact h.snoc
 constructor
 .rintro⟨_,x,y⟩;refine⟨hl ▸ h,?_,?_⟩
  .rw[Xs,Yj]at x;lia
  .rw[f9 h];exact(gc ha hb XJ).mp (hc.mp y)
 .rintro⟨_,x,y⟩;rw[f9 h]at y;refine⟨h2,by rw[Xs,Yj,x],hc.mpr ((gc ha hb XJ).mpr y)⟩
theorem qL{k:Nat}{E:List Ed}{e:Ed}{T:Ac}(hE:∀ f∈E,f.1<k+1/\f.2.1<k+1)(he:e.1=e.2.1)(h:IsSet E.length T):¬ IsT k (E++[e]) (T++[(E.length:Int)]):=by
 rintro⟨_,x,y⟩;rw[gd h]at y;have PV:∀ i j,i<k+1->j<k+1->Conn (T.map (Ub E)) i j:=λi j hi hj=>(y i j hi hj).lift λf hf=>by
  rcases Xy.mp hf with q | q
  .exact .edge q
  .rw[XD.mp q,he];exact .refl _
 have Wq:InN (k+1) (T.map (Ub E)):=λf hf=>by
  obtain⟨z,hz,rfl⟩:=YC.mp hf
  have:=h.all z hz
  unfold Ub;rw[WJ,Xr (by lia)];exact hE _ (Ms _)
 have h2:=(ZZ (by lia) Wq).mpr PV;have h3:=NB _ Wq
 rw[Yd]at h3;rw[Xs,Yj]at x;lia
theorem qK{k:Nat}{E:List Ed}{e:Ed}{s:Int}(hE:∀ f∈E,f.1<k+1/\f.2.1<k+1)(he:e.1=e.2.1)(h:TW k E s):TW k (E++[e]) s:=by
 obtain⟨L,a1,a2,a3⟩:=h;refine⟨L,a1,λT=>?_,?_⟩
 .rw[a2];constructor
  .exact λh=>(yL h.1).mpr h
  .intro h;have hs:=h.1
   rw[Xs]at hs;rcases DK hs with c | ⟨T',c,c2⟩
   .exact(yL c).mp h
   .exact absurd (c ▸ h) (qL hE he c2)
 .rw[<- a3];refine Xw List.sum (YX λT hT=>Jo ((a2 T).mp hT).1.all)
theorem qJ(a b:Ac):(a++b).sum=a.sum+b.sum:=by
 induction a with
 | nil=>rw[Mp,List.sum_nil,HX]
 | cons x a ih=>rw[GP,GL,GL,ih];lia
theorem ZF7(w:Int)(l:Ab)(f:Ac->Int):(l.map λT=>f T * w).sum=w * (l.map f).sum:=by
 induction l with
 | nil=>rw[List.map_nil,List.map_nil,List.sum_nil,Ss]
 | cons x l ih=>rw[WC,WC,GL,GL,ih,KZ,QB]
theorem qI{k a b:Nat}{E:List Ed}{e:Ed}{s1 s2:Int}(ha:a<k+1)(hb:b<k+2)(XJ:b≠a)(he:(e.1=a/\e.2.1=b)\/(e.1=b/\e.2.1=a))(h1:TW (k+1) E s1)(h2:TW k (Tc a b E) s2):TW (k+1) (E++[e]) (s1+e.2.2 * s2):=by
 obtain⟨L,a1,a2,a3⟩:=h1;obtain⟨M,b1,b2,b3⟩:=h2;have hl:(Tc a b E).length=E.length:=Yd ..
 refine⟨L++M.map (·++[(E.length:Int)]),YT.mpr ⟨a1,?_,λx hx y hy c=>?_⟩,λT=>?_,?_⟩
 .exact List.Pairwise.map _ (λx y h c=>h (List.append_cancel_right c)) b1
 .obtain⟨z,hz,c2⟩:=YC.mp hy
  have:=((a2 x).mp hx).1.all (E.length:Int) (by rw[c,<- c2];simp)
  lia
 .rw[Xy,a2,YC];constructor
  .rintro(h | ⟨T',hT,rfl⟩)
   .exact(yL h.1).mpr h
   .have:=(b2 T').mp hT
    exact(Dw ha hb XJ he (hl ▸ this.1)).mpr this
  .intro h;have hs:=h.1
   rw[Xs]at hs;rcases DK hs with c | ⟨T',c,c2⟩
   .exact .inl ((yL c).mp h)
   .exact .inr ⟨T',(b2 T').mpr ((Dw ha hb XJ he c2).mp (c ▸ h)),c.symm⟩
 .rw[YR,qJ,Mm];have e1:L.map (UW (E++[e]))=L.map (UW E):=YX λT hT=>Jo ((a2 T).mp hT).1.all
  have e2:M.map (UW (E++[e]) ∘ (·++[(E.length:Int)]))=M.map λT=>UW (Tc a b E) T * e.2.2:=YX λT hT=>by
   have hs:IsSet E.length T:=hl ▸ ((b2 T).mp hT).1;show UW (E++[e]) (T++[(E.length:Int)])=_
   rw[Dz,Jo hs.all,qM hs.all];show _ * (((E++[e]).getD (E.length:Int).toNat (0,0,0)).2.2 * 1)=_
   rw[gf,Mi]
  rw[e1,e2,a3,ZF7,b3]
theorem Dv{a b u v i:Nat}(XJ:b≠a):ind (dl a b u) (dl a b v) i=ind u v (sk a i)+(if sk a i=b then ind u v a else 0):=by
 have key:∀ x:Nat,((if i=dl a b x then 1 else 0:Int))=(if sk a i=x then 1 else 0)+(if sk a i=b then (if a=x then 1 else 0) else 0):=λx=>by
  unfold dl;by_cases hx:x=a
  .rw[if_pos hx,if_neg (show ¬ sk a i=x from hx ▸ Dx a i),HX];by_cases h:sk a i=b
   .rw[if_pos h,if_pos hx.symm,if_pos];rw[<- h,PK]
   .rw[if_neg h,if_neg];intro e;exact h (by rw[e,Nt XJ])
  .rw[if_neg hx];have e2:(if sk a i=b then (if a=x then 1 else 0:Int) else 0)=0:=by rw[if_neg (YW hx)];split <;> rfl
   rw[e2,RV];by_cases h:sk a i=x
   .rw[if_pos h,if_pos];rw[<- h,PK]
   .rw[if_neg h,if_neg];intro e;exact h (by rw[e,Nt hx])
 unfold ind;rw[key u,key v];by_cases h:sk a i=b
 .rw[if_pos h,if_pos h,if_pos h];lia
 .rw[if_neg h,if_neg h,if_neg h];lia
theorem fZ{a b:Nat}(XJ:b≠a)(i j:Nat):∀ E:List Ed,lapE (Tc a b E) i j=QM (lapE E) a b (sk a i) (sk a j)
 | []=>by
  show(0:Int)=_;unfold QM lapE;by_cases h:sk a i=b
  .by_cases h2:sk a j=b
   .rw[if_pos h,if_pos h2];rfl
   .rw[if_pos h,if_neg h2];rfl
  .by_cases h2:sk a j=b
   .rw[if_neg h,if_pos h2];rfl
   .rw[if_neg h,if_neg h2];rfl
 | e :: E=>by
  have ih:=fZ XJ i j E;show e.2.2 * (ind (dl a b e.1) (dl a b e.2.1) i * ind (dl a b e.1) (dl a b e.2.1) j)+lapE (Tc a b E) i j=_
  rw[ih,Dv XJ,Dv XJ];unfold QM;show _=(e.2.2 * (ind e.1 e.2.1 (sk a i) * ind e.1 e.2.1 (sk a j))+lapE E (sk a i) (sk a j)+(if sk a i=b then e.2.2 * (ind e.1 e.2.1 a * ind e.1 e.2.1 (sk a j))+lapE E a (sk a j) else 0))+(if sk a j=b then (e.2.2 * (ind e.1 e.2.1 (sk a i) * ind e.1 e.2.1 a)+lapE E (sk a i) a)+(if sk a i=b then e.2.2 * (ind e.1 e.2.1 a * ind e.1 e.2.1 a)+lapE E a a else 0) else 0)
  generalize ind e.1 e.2.1 (sk a i)=x;generalize ind e.1 e.2.1 (sk a j)=y;generalize ind e.1 e.2.1 a=z;generalize e.2.2=w;by_cases h:sk a i=b
  .by_cases h2:sk a j=b
   .simp only [if_pos h,if_pos h2,KZ,z8];lia
   .simp only [if_pos h,if_neg h2,KZ,z8,RV,Ss];lia
  .by_cases h2:sk a j=b
   .simp only [if_neg h,if_pos h2,KZ,z8,RV,GI];lia
   .simp only [if_neg h,if_neg h2,RV]
theorem fY(u v i:Nat):ind v u i=- ind u v i:=by unfold ind;lia
theorem qH{k a b:Nat}{E:List Ed}{e:Ed}(ha:a<k+1)(hb:b<k+2)(XJ:b≠a)(he:(e.1=a/\e.2.1=b)\/(e.1=b/\e.2.1=a)):det (k+1) (lapE (E++[e]))=det (k+1) (lapE E)+e.2.2 * det k (lapE (Tc a b E)):=by
 have e1:det (k+1) (lapE (E++[e]))=det (k+1) (λi j=>lapE E i j+e.2.2 * (ind a b i * ind a b j)):=Zj λi j _ _=>by
  rw[Jp];rcases he with ⟨x,y⟩ | ⟨x,y⟩
  .rw[x,y]
  .rw[x,y,fY a b i,fY a b j,Int.neg_mul_neg]
 have e2:det k (lapE (Tc a b E))=det k (λi j=>QM (lapE E) a b (sk a i) (sk a j)):=Zj λi j _ _=>fZ XJ i j E;rw[e1,e2];by_cases hk:b<k+1
 .exact qS ha hk (YW XJ)
 .have e3:det (k+1) (λi j=>lapE E i j+e.2.2 * (ind a b i * ind a b j))=det (k+1) (λi j=>lapE E i j+e.2.2 * ((if i=a then 1 else 0) * (if j=a then 1 else 0))):=Zj λi j hi hj=>by unfold ind;rw[if_neg (show ¬ i=b by lia),if_neg (show ¬ j=b by lia),Int.sub_zero,Int.sub_zero]
  have e4:det k (λi j=>QM (lapE E) a b (sk a i) (sk a j))=det k (λi j=>lapE E (sk a i) (sk a j)):=Zj λi j hi hj=>by
   have h1:=Vo (j:=a) hi;have h2:=Vo (j:=a) hj
   unfold QM;rw[if_neg (show ¬ sk a i=b by lia),if_neg (show ¬ sk a j=b by lia),RV,RV]
  rw[e3,e4];exact gj ha
theorem fX{E:List Ed}{e:Ed}(he:e.1=e.2.1):lapE (E++[e])=lapE E:=by
 funext i j
 rw[Jp,he];unfold ind;rw[Int.sub_self,GI,Ss,RV]
theorem yK:∀(m k:Nat) (E:List Ed),E.length=m->(∀ e∈E,e.1<k+1/\e.2.1<k+1)->TW k E (det k (lapE E))
 | 0,k,E,hm,_=>by
  obtain rfl:=YS.mp hm;cases k with
  | zero =>
   refine⟨[[]],by simp,λT=>?_,rfl⟩;rw[XD];constructor
   .rintro rfl;exact⟨IsSet.nil _,rfl,λi j hi hj=>by
     have:i=j:=by lia
     rw[this];exact .refl j⟩
   .intro h;exact YS.mp h.2.1
  | succ k =>
   refine⟨[],.nil,λT=>⟨λh=>(by cases h),λh=>?_⟩,?_⟩
   .have h1:=h.1.len;have h2:=h.2.1
    rw[Ib]at h1;lia
   .exact(DG (i:=0) (by lia) λj _=>rfl).symm
 | m+1,k,E,hm,hE=>by
  obtain⟨E',e,rfl⟩:∃ E' e,E=E'++[e]:=⟨E.dropLast,E.getLast (λh=>by rw[h]at hm;cases hm),(jM _).symm⟩;have LY:E'.length=m:=by rw[Xs]at hm;simpa using hm
  have qG:∀ f∈E',f.1<k+1/\f.2.1<k+1:=λf hf=>hE f (Yb _ hf);have he:=hE e (by simp)
  have ih:=yK m k E' LY qG;by_cases hl:e.1=e.2.1
  .rw[fX hl];exact qK qG hl ih
  .obtain⟨k',rfl⟩:∃ k',k=k'+1:=⟨k - 1,by lia⟩;obtain⟨a,b,ha,hb,XJ,VN⟩:∃ a b,a<k'+1/\b<k'+2/\b≠a/\((e.1=a/\e.2.1=b)\/(e.1=b/\e.2.1=a)):=by
    by_cases c:e.1<k'+1
    .exact⟨e.1,e.2.1,c,he.2,λh=>hl h.symm,.inl ⟨rfl,rfl⟩⟩
    .exact⟨e.2.1,e.1,by lia,he.1,hl,.inr ⟨rfl,rfl⟩⟩
   have Td:=yK m k' (Tc a b E') (by unfold Tc;rw[Yd];exact LY) λf hf=>by
    obtain⟨g,hg,rfl⟩:=YC.mp hf
    have:=qG g hg
    exact⟨Nq ha hb XJ this.1,Nq ha hb XJ this.2⟩
   rw[qH ha hb XJ VN];exact qI ha hb XJ VN ih Td
def WY(ps:Aa)(ws:Ac):List Ed:=List.zipWith (λp w=>(p.1.toNat,p.2.toNat,w)) ps ws
theorem fW{n:Int}{ps:Aa}{ws:Ac}{T:Ac}(h1:1<=n)(hw:ws.length=ps.length):IsT (n - 1).toNat (WY ps ws) T↔Ze n ps T:=by
 have hl:(WY ps ws).length=ps.length:=by unfold WY;rw[GX];grind
 have hm:IsSet ps.length T->T.map (Ub (WY ps ws))=XT ps T:=λhs=>YX λz hz=>by
  have:=hs.all z hz
  unfold Ub WY;rw[WJ,Ih,Xr (by lia),Xr (show z.toNat<ws.length by lia),WJ,Xr (by omega)];rfl
 unfold IsT Ze;rw[hl];constructor
 .rintro⟨a,b,c⟩;rw[hm a]at c;exact⟨a,by lia,λi j hi hj=>c i j (by lia) (by grind)⟩
 .rintro⟨a,b,c⟩;rw[hm a];exact⟨a,by lia,λi j hi hj=>c i j (by lia) (by lia)⟩
theorem LK{E:List Ed}(h:∀ e∈E,e.2.2=1):∀ {T:Ac},(∀ z∈T,0<=z/\z<(E.length:Int))->UW E T=1
 | [],_=>rfl
 | z :: T,hb=>by
  have hz:=hb z Ye;show(E.getD z.toNat (0,0,0)).2.2 * UW E T=1
  rw[LK h λy hy=>hb y (Yh _ hy),Mi,WJ,Xr (by lia)];exact h _ (Ms _)
theorem Zv9{l:Ab}{f:Ac->Int}(h:∀ T∈l,f T=1):(l.map f).sum=(l.length:Int):=by
 induction l with
 | nil=>rfl
 | cons x l ih =>
  rw[WC,GL,ih λT hT=>h T (Yh _ hT),h x Ye,YB];lia
theorem Du{n:Int}{ps:Aa}(g:Zv n ps)(ws:Ac):∀ e∈WY ps ws,e.1<(n - 1).toNat+1/\e.2.1<(n - 1).toNat+1:=λe he=>by
 unfold WY at he;obtain⟨i,hi⟩:=YZ he;rw[Ih]at hi;have g1:=g.1
 cases h1:ps[i]? with
 | none=>rw[h1]at hi;cases hi
 | some p =>
  cases h2:ws[i]? with
  | none=>rw[h1,h2]at hi;cases hi
  | some w =>
   rw[h1,h2]at hi;obtain rfl:=Yi hi;obtain⟨a,b,c,d⟩:=g.2.2.2 p (Xg h1);exact⟨by show p.1.toNat<_;grind,by show p.2.toNat<_;lia⟩
theorem Zt9{n:Int}{ps:Aa}(g:Zv n ps){L:Ab}(hL:L.Nodup)(hm:∀ l,l∈L↔Ze n ps l):det (n - 1).toNat (lapE (WY ps (List.replicate ps.length 1)))=(L.length:Int):=by
 have g1:=g.1;have hw:(List.replicate ps.length (1:Int)).length=ps.length:=YG
 obtain⟨M,a1,a2,a3⟩:=yK _ (n - 1).toNat (WY ps (List.replicate ps.length 1)) rfl (Du g _);have hl:(WY ps (List.replicate ps.length 1)).length=ps.length:=by unfold WY;rw[GX,hw];grind
 have w1:∀ e∈WY ps (List.replicate ps.length (1:Int)),e.2.2=1:=λe he=>by
  unfold WY at he;obtain⟨i,hi⟩:=YZ he;rw[Ih]at hi;cases h1:ps[i]? with
  | none=>rw[h1]at hi;cases hi
  | some p =>
   cases h2:(List.replicate ps.length (1:Int))[i]? with
   | none=>rw[h1,h2]at hi;cases hi
   | some w =>
    rw[h1,h2]at hi;obtain rfl:=Yi hi;exact AB (Xg h2)
 rw[<- a3,Zv9 λT hT=>LK w1 ((a2 T).mp hT).1.all];have hp:M.Perm L:=(Lm a1 hL).mpr λl=>by rw[a2,hm,fW g1 hw]
 rw[hp.length_eq]
end My
namespace L2
open PySem PySem.Spec PyProof.Rows
section
variable{X:Cx}
def qF(K:Ad):V->V->Hp->VK->Prop:=λx y H Q=>∃ p xs i v,x=.ref p/\y=.int i/\SqL K H p xs/\0<=i/\xs[i.toNat]?=some v/\Q v H
theorem yJ(K:Ad)(hk:X.K=K:=by rfl):Ga X (qF K):=by
 subst hk;intro pins s σ H o i ov iv Q I ro ri h;obtain⟨p,xs,j,z,rfl,rfl,hq,h0,he,q⟩:=h;cases ro;obtain⟨t,rfl⟩:=ri;obtain⟨XW,r,pl,hz⟩:=I.list hq;obtain⟨w,ew,Ob⟩:=r.get he;have hl:=r.length
 have hn:=FK;have Xi:=(Xp.mp he).1
 exact wpAny_getItem_list pl.isList h0 (by lia) (by simpa using ew) ⟨z,H,I,Ob,q⟩
end
end L2
namespace My
open PySem L2
theorem Dt{K:Ad}{a b:Addr}{xs ys:List V}{g:TG}{tb:TS}{D:Ends}{σ:St}{H:Hp}(Ny:xs.length=ys.length)(Pv:Nat->St->Hp->Prop)(h0:Pv 0 σ H)(hl:∀ i σ H,i<=xs.length->Pv i σ H->SqL K H a xs/\SqL K H b ys)
  (hs:∀(i:Nat) x y σ H (p:Addr),H p=none->xs[i]?=some x->ys[i]?=some y->Pv i σ H->g (.ref p) σ (upd H p (.tup [x,y])) λσ2 H2=>tb { D with nx:=Pv (i+1),ct:=Pv (i+1),bk:=D.nx } σ2 H2) (hd:∀ σ H,Pv xs.length σ H->D.nx σ H) :
  ∃ W:Nat->Nat->St->Hp->Prop,(∃ m,W 0 m σ H)/\∀ i m σ H,W i m σ H ->
   ((Hv K a b).stop i H/\D.nx σ H)\/((Hv K a b).go i H/\∃ N:St->Hp->Prop,(∀ σ' H',N σ' H'->∃ m',m'<m/\W (i+1) m' σ' H')/\∀ x H',(Hv K a b).yld i H x H'->g x σ H' λσ2 H2=>tb { D with nx:=N,ct:=N,bk:=D.nx } σ2 H2):=by
 refine⟨λi m σ H=>m=xs.length - i/\i<=xs.length/\Pv i σ H,⟨xs.length,by simp,Yn _,h0⟩,?_⟩;rintro i m σ H ⟨rfl,hi,p⟩;obtain⟨q,q2⟩:=hl i σ H hi p;by_cases Xi:i<xs.length
 .refine .inr ⟨⟨xs,ys,xs[i],ys[i]'(by lia),q,q2,by simp[Xi],Xr (by omega)⟩,Pv (i+1),λσ' H' p'=>⟨xs.length - (i+1),by grind,rfl,Xi,p'⟩,λx H' ⟨T,u,v,hT,ex,eH,hu,hv⟩=>?_⟩;subst ex eH;exact hs i u v σ H T hT (hu xs q) (hv ys q2) p
 .have e:i=xs.length:=by lia
  subst e;exact .inl ⟨⟨xs,ys,q,q2,.inl (XM _)⟩,hd σ H p⟩
structure TabAt (H0:Hp) (r:Addr) (n:Nat) (H:Hp) (ys:List V) (L:Ab):Prop where
 tab:H r=some (.lst ys)
 rows:Bears (LiV r H) ys L
 len:L.length=n
 all:∀ l∈L,l.length=n
 nd:ys.Nodup
 new:∀ A,V.ref A∈ys->H0 A=none
theorem TabAt.same{H0 H H':Hp}{r:Addr}{n:Nat}{ys:List V}{L:Ab}(s:Same H H')(h:TabAt H0 r n H ys L):TabAt H0 r n H' ys L:=⟨s _ _ h.tab,h.rows.imp λ_ _ q=>q.same s,h.len,h.all,h.nd,h.new⟩
theorem TabAt.at{H0 H:Hp}{r:Addr}{n:Nat}{ys:List V}{L:Ab}(h:TabAt H0 r n H ys L){i:Nat}(hi:i<n):∃(A:Addr) (l:Ac),ys[i]?=some (.ref A)/\L[i]?=some l/\H A=some (.lst (IL l))/\l.length=n/\H0 A=none/\A≠r:=by have hl:=h.len;obtain⟨l,e⟩:∃ l,L[i]?=some l:=⟨_,Xr (by lia)⟩;obtain⟨v,e1,A,rfl,e2,e3⟩:=h.rows.2 i l e;exact⟨A,l,e1,e,e2,h.all l (Xg e),h.new A (Xg e1),e3⟩
theorem TabAt.put{H0 H:Hp}{r:Addr}{n:Nat}{ys:List V}{L:Ab}(h:TabAt H0 r n H ys L){i:Nat}{A:Addr}{l l':Ac}(e1:ys[i]?=some (.ref A))(e2:L[i]?=some l)(e3:A≠r)(hl:l'.length=n):TabAt H0 r n (upd H A (.lst (IL l'))) ys (L.set i l'):=by
 have hi:=(Xp.mp e2).1;have Vn:=(Xp.mp e1).1
 refine⟨by rw[Zb (YW e3)];exact h.tab,⟨by rw[SV];exact h.rows.1,λj m em=>?_⟩,by rw[SV];exact h.len,λm hm=>?_,h.nd,h.new⟩
 .rw[GR]at em;by_cases c:i=j
  .subst c;rw[if_pos rfl,if_pos hi]at em;obtain rfl:=Yi em;exact⟨_,e1,A,rfl,XS,e3⟩
  .rw[if_neg c]at em;obtain⟨v,f1,B,rfl,f2,f3⟩:=h.rows.2 j m em;refine⟨_,f1,B,rfl,?_,f3⟩;rw[Zb]
   .exact f2
   .intro e;rw[e]at f1;exact c (HL h.nd e1 f1)
 .rcases List.mem_or_eq_of_mem_set hm with e | e
  .exact h.all m e
  .rw[e];exact hl
theorem qE{L:Ab}{l:Ac}{i j:Nat}{x:Int}(hi:L[i]?=some l)(hj:j<l.length)(a b:Nat):fnL (L.set i (l.set j x)) a b=if a=i/\b=j then x else fnL L a b:=by
 have Vn:=(Xp.mp hi).1;unfold fnL;by_cases ha:a=i
 .subst ha;have e1:(L.set a (l.set j x)).getD a []=l.set j x:=by rw[WJ,GR,if_pos rfl,if_pos Vn];rfl
  have e2:L.getD a []=l:=by rw[WJ,hi];rfl
  rw[e1,e2];by_cases hb:b=j
  .subst hb;rw[if_pos ⟨rfl,rfl⟩,WJ,GR,if_pos rfl,if_pos hj];rfl
  .rw[if_neg (λh=>hb h.2),WJ,GR,if_neg (YW hb),<- WJ]
 .have e1:(L.set i (l.set j x)).getD a []=L.getD a []:=by rw[WJ,WJ,GR,if_neg (YW ha)]
  rw[e1,if_neg (λh=>ha h.1)]
theorem four{A:Mx}{u v:Nat}{w:Int}(XJ:u≠v)(a b:Nat){B C D E:Mx}(h1:∀ a b,B a b=if a=u/\b=u then A u u+w else A a b)(h2:∀ a b,C a b=if a=v/\b=v then B v v+w else B a b)(h3:∀ a b,D a b=if a=u/\b=v then C u v - w else C a b)(h4:∀ a b,E a b=if a=v/\b=u then D v u - w else D a b):E a b=A a b+w * (ind u v a * ind u v b):=by
 have nv:¬ v=u:=YW XJ;unfold ind;by_cases x1:a=u
 .subst x1;by_cases y1:b=a
  .subst y1;simp[h4,h3,h2,h1,XJ,nv]
  .by_cases y2:b=v
   .subst y2;simp[h4,h3,h2,h1,XJ,nv];lia
   .simp[h4,h3,h2,h1,XJ,nv,y1,y2]
 .by_cases x2:a=v
  .subst x2;by_cases y1:b=u
   .subst y1;simp[h4,h3,h2,h1,XJ,nv];omega
   .by_cases y2:b=a
    .subst y2;simp[h4,h3,h2,h1,XJ,nv]
    .simp[h4,h3,h2,h1,XJ,nv,y1,y2]
  .simp[h4,h3,h2,h1,XJ,nv,x1,x2]
theorem qD{ps:Aa}{ws:Ac}{i:Nat}{p:Int × Int}{w:Int}(hp:ps[i]?=some p)(hw:ws[i]?=some w):WY (ps.take (i+1)) (ws.take (i+1))=WY (ps.take i) (ws.take i)++[(p.1.toNat,p.2.toNat,w)]:=by
 have h1:=(Xp.mp hp).1;have h2:=(Xp.mp hw).1
 unfold WY;rw[WD,WD,hp,hw];rw[List.zipWith_append (by rw[Yy,Yy];grind)];rfl
theorem Conn.image{es fs:List (Nat × Nat)}{f:Nat->Nat}(h:∀ e∈es,Conn fs (f e.1) (f e.2)){i j:Nat}(c:Conn es i j):Conn fs (f i) (f j):=by
 induction c with
 | refl i=>exact .refl _
 | edge e=>exact h _ e
 | symm _ ih=>exact ih.symm
 | trans _ _ PX Td=>exact PX.trans Td
theorem qC{n:Int}{ps:Aa}{T:Ac}(g:Zv n ps)(h:IsSet ps.length T)(c:∀ i j,i<n.toNat->j<n.toNat->Conn (XT ps T) i j):n - 1<=(T.length:Int):=by
 have g1:=g.1;have Wq:=ZH (ns:=T) g h.all
 have h2:=(ZZ (by lia) Wq).mpr c;have h3:=NB _ Wq
 rw[show(XT ps T).length=T.length from Yd ..]at h3;lia
end My
namespace L2
open PySem
def Ru(t:SetTable):Prop:=t.place.toList.Pairwise (· < ·)
theorem yH{xs:Array Nat}(h:xs.toList.Pairwise (· < ·)){i k a b:Nat}(qB:i<k)(ha:xs[i]?=some a)(hb:xs[k]?=some b):a<b:=by rw[<- YU]at ha hb;obtain⟨h1,e1⟩:=Xp.mp ha;obtain⟨h2,e2⟩:=Xp.mp hb;rw[<- e1,<- e2];exact Ij.mp h i k h1 h2 qB
theorem qz{xs:Array Nat}{j:Nat}(h:xs.toList.Pairwise (· < ·)):∀(f lo hi:Nat),hi - lo<=f->lo<=hi->hi<=xs.size->(∀ i v,xs[i]?=some v->i<lo->v<j)->(∀ i v,xs[i]?=some v->hi<=i->j<=v) ->
  SetTable.below.go xs j f lo hi<=xs.size/\∀ i v,xs[i]?=some v->(i<SetTable.below.go xs j f lo hi↔v<j)
 | 0,lo,hi,hf,hl,hs,a,b=>by
  have e:lo=hi:=by grind
  unfold SetTable.below.go;refine⟨by lia,λi v hv=>⟨a i v hv,λhvj=>Nat.lt_of_not_le λhc=>?_⟩⟩
  have:=b i v hv (by lia)
  lia
 | f+1,lo,hi,hf,hl,hs,a,b=>by
  unfold SetTable.below.go;by_cases c:lo<hi
  .rw[if_pos c];dsimp only;obtain⟨m,hm⟩:∃ m,xs[(lo+hi) / 2]?=some m:=⟨_,YE (by lia)⟩;have em:xs.getD ((lo+hi) / 2) j=m:=by rw[YA,hm];rfl
   rw[em];by_cases d:m<j
   .rw[if_pos d];refine qz h f _ hi (by grind) (by lia) hs (λi v hv VB=>?_) b;by_cases e:i=(lo+hi) / 2
    .rw[e,hm]at hv;exact Yi hv ▸ d
    .have:=yH h (show i<(lo+hi) / 2 by lia) hv hm
     lia
   .rw[if_neg d];refine qz h f lo _ (by grind) (by lia) (by lia) a λi v hv VB=>?_;by_cases e:i=(lo+hi) / 2
    .rw[e,hm]at hv
     have:=Yi hv
     lia
    .have:=yH h (show(lo+hi) / 2<i by lia) hm hv
     lia
  .rw[if_neg c];refine⟨by grind,λi v hv=>⟨a i v hv,λhvj=>Nat.lt_of_not_le λhc=>?_⟩⟩
   have:=b i v hv (by lia)
   lia
theorem yG{xs:Array Nat}(h:xs.toList.Pairwise (· < ·))(j:Nat):SetTable.below xs j<=xs.size/\∀ i v,xs[i]?=some v->(i<SetTable.below xs j↔v<j) :=
 qz h xs.size 0 xs.size (by lia) (Yn _) (XM _) (λi v _ h=>absurd h (YY _)) λi v hv hi=>by rw[Az hi]at hv;cases hv
theorem qy{xs:Array Nat}(h:xs.toList.Pairwise (· < ·)){i v:Nat}(hv:xs[i]?=some v):SetTable.below xs v=i:=by
 obtain⟨h1,h2⟩:=yG h v;have a:¬ i<SetTable.below xs v:=λq=>by have:=(h2 i v hv).mp q;lia
 refine KP (by lia) (As λq=>?_);have Xi:=(Array.getElem?_eq_some_iff.mp hv).1
 obtain⟨u,hu⟩:∃ u,xs[SetTable.below xs v]?=some u:=⟨_,YE (by lia)⟩;have b:=yH h q hu hv
 have:=(h2 _ u hu).mpr b
 lia
theorem Zv7{xs:Array Nat}(h:xs.toList.Pairwise (· < ·)){i v:Nat}(hv:xs[i]?=some v):SetTable.below xs (v+1)=i+1:=by
 obtain⟨h1,h2⟩:=yG h (v+1);have a:=(h2 i v hv).mpr (OY v)
 refine KP (As λq=>?_) a;obtain⟨u,hu⟩:∃ u,xs[i+1]?=some u:=⟨_,YE (by lia)⟩;have b:=(h2 _ u hu).mp q
 have:=yH h (OY i) hv hu
 lia
theorem Zu7{xs:Array Nat}(h:xs.toList.Pairwise (· < ·)):SetTable.below xs 0=0:=by obtain⟨h1,h2⟩:=yG h 0;refine Nat.le_zero.mp (As λq=>?_);obtain⟨u,hu⟩:∃ u,xs[0]?=some u:=⟨_,YE (by lia)⟩;exact YY _ ((h2 _ u hu).mp q)
def Hs(t:SetTable)(j:Nat):Prop:=t.place[SetTable.below t.place j]?≠some j
theorem qx{t:SetTable}{j:Nat}(h:Ru t)(hn:Hs t j):Ru (t.put j).1:=by
 obtain⟨h1,h2⟩:=yG h j;have up:∀ i v,t.place[i]?=some v->SetTable.below t.place j<=i->j<v:=λi v hv hi=>by
  have a:¬ v<j:=λq=>by have:=(h2 i v hv).mpr q;lia
  have b:v≠j:=λe=>hn (by rw[e]at hv;rw[qy h hv];exact hv);lia
 show(SetTable.insertAt t.place (SetTable.below t.place j) j).toList.Pairwise (· < ·);rw[SetTable.toList_insertAt];have dn:∀ x∈t.place.toList.take (SetTable.below t.place j),x<j:=λx hx=>by
  obtain⟨i,hi⟩:=YZ hx;rw[Ox]at hi;split at hi
  .rename_i q;rw[YU]at hi;exact(h2 i x hi).mp q
  .cases hi
 have ub:∀ x∈t.place.toList.drop (SetTable.below t.place j),j<x:=λx hx=>by obtain⟨i,hi⟩:=YZ hx;rw[Lg,YU]at hi;exact up _ x hi (Nat.le_add_right _ _)
 refine Vi.mpr ⟨jt (List.take_sublist _ _) h,QP.mpr ⟨ub,jt (List.drop_sublist _ _) h⟩,λa ha b hb=>?_⟩;rcases Yg.mp hb with e | e
 .rw[e];exact dn a ha
 .exact Ah (dn a ha) (ub b e)
theorem fV{t:SetTable}{j:Nat}(h:t.slot j=.empty\/t.slot j=.dummy):Hs t j:=λe=>by
 have e2:t.slot j=.live (SetTable.below t.place j):=by unfold SetTable.slot;dsimp only;rw[if_pos (by rw[e];simp)]
 rw[e2]at h;rcases h with h | h <;> cases h
theorem qw{t:SetTable}{f:Nat->Int}{h:Int}:∀(n:Nat) (p:SetTable.Probe) (j:Nat) (d:Option Nat),(∀ e,p.dummy=some e->Hs t e)->SetTable.probe.go t f h n p=some (.empty j d)->Hs t j/\∀ e,d=some e->Hs t e
 | 0,p,j,d,_,h=>by cases h
 | n+1,p,j,d,hp,h=>by
  have fU:∀ q:SetTable.Probe,(t.advance q).dummy=q.dummy:=λq=>by unfold SetTable.advance;split <;> rfl
  unfold SetTable.probe.go at h;split at h
  .rename_i hs;cases h;exact⟨fV (.inl hs),hp⟩
  .rename_i hs;exact qw n _ j d (λe he=>by rw[fU]at he;cases he;exact fV (.inr hs)) h
  .split at h
   .cases h
   .exact qw n _ j d (λe he=>hp e (by rw[fU]at he;exact he)) h
theorem Zm8{t:SetTable}{h:Int}{s:Nat}{b:Bool}(e:t.freeSlot h=some (s,b)):Hs t s:=by
 unfold SetTable.freeSlot at e;split at e
 .rename_i j d hp;obtain⟨a1,a2⟩:=qw _ _ j d (λe he=>by cases he) hp;have e1:=Xw Prod.fst (Yi e)
  dsimp only at e1;rw[<- e1];cases d with
  | none=>exact a1
  | some x=>exact a2 x rfl
 .cases e
theorem yE(t:SetTable)(n:Nat):Ru (t.standIn n):=by show(Array.range n).toList.Pairwise (· < ·);rw[Array.toList_range];exact Qz
theorem qv{t:SetTable}(h:Ru t)(es:Array (Int × Value))(k:Int)(x:Value):Ru (layNew t es k x).2.1/\(layNew t es k x).2.1.led=t.led:=by
 unfold layNew;split
 .rename_i s b e;dsimp only;unfold SetTable.orStandIn;split
  .exact⟨qx h (Zm8 e),rfl⟩
  .exact⟨yE _ _,rfl⟩
 .exact⟨yE _ _,rfl⟩
theorem ZL7{t:SetTable}(h:Ru t)(es:Array (Int × Value))(n:Nat):Ru (relayAll t es n).2.1/\(relayAll t es n).2.1.led=t.led:=by
 unfold relayAll;split
 .rename_i t' order e;dsimp only;split
  .unfold SetTable.relaid SetTable.laid at e;cases ho:SetTable.layClean (SetTable.sizeAbove n - 1) (es.map (·.1)) with
   | none=>rw[ho]at e;cases e
   | some owner =>
    rw[ho]at e;have e1:=Xw Prod.fst (Yi e)
    dsimp only at e1;rw[<- e1];refine⟨?_,rfl⟩;show(List.map _ (List.filterMap _ _)).toArray.toList.Pairwise (· < ·)
    rw[List.toList_toArray,Mw,List.pairwise_filterMap];refine Qz.imp λ{a b} VN x hx y hy=>?_;have ex:x.1=a:=by
     cases q:owner.getD a none with
     | none=>rw[q]at hx;cases hx
     | some z=>rw[q]at hx;cases hx;rfl
    have ey:y.1=b:=by
     cases q:owner.getD b none with
     | none=>rw[q]at hy;cases hy
     | some z=>rw[q]at hy;cases hy;rfl
    rw[ex,ey];exact VN
  .exact⟨yE _ _,rfl⟩
 .exact⟨yE _ _,rfl⟩
end L2
namespace L2
open PySem PySem.Spec PyProof.Rows
def SetR(P:Program)(w:World)(h:Heap)(a:Addr)(led:Bool)(S:Int->Bool)(n:Nat):Prop :=
 ∃(o:Obj) (es:Array (Int × Value)) (ep:Nat) (t:SetTable),h.get? a=some o/\o.ExactSet/\o.data=.set es ep t/\ElemsOf (intKind P w) es.toList/\(∀ z,S z=true↔∃ y∈es.toList,(intKind P w).is z y.2=true)/\es.size<scanBound/\t.fits es.size=true/\es.size=n/\Ru t/\t.led=led
theorem SetR.at{P:Program}{w:World}{h h':Heap}{a:Addr}{led:Bool}{S:Int->Bool}{n:Nat}(q:SetR P w h a led S n)(k:∀ o,h.get? a=some o->h'.get? a=some o):SetR P w h' a led S n :=
 let ⟨o,es,ep,t,ho,r⟩:=q
 ⟨o,es,ep,t,k o ho,r⟩
section
variable{prog:Program}{w:World}{A:Around}{E:Ae}{s:Shared}
theorem fS{h:Heap}{a:Addr}{o:Obj}{es:Array (Int × Value)}{ep:Nat}{t:SetTable}(ho:h.get? a=some o)(hx:o.ExactSet)(hd:o.data=.set es ep t)(fs:Array (Int × Value))(u:SetTable) :
  (h.update a (Obj.putSet fs u)).get? a=some { o with data:=.set fs (ep+1) u }/\({ o with data:=.set fs (ep+1) u }:Obj).ExactSet:=by have q:=Vx (Obj.putSet fs u) ho (by rw[putSet_of fs u hd];rfl);rw[putSet_of fs u hd]at q;exact⟨q,hx⟩
theorem qu{gv:Bool->Sem Unit}(hgv:∀(b:Bool) (s1:Shared) (R:Unit->Shared->Prop),R () s1->wpAny (model prog w) A (gv b) R E s1)
  {a:Addr} {o:Obj} {es fs:Array (Int × Value)} {ep:Nat} {t u:SetTable} (ho:s.heap.get? a=some o) (hx:o.ExactSet) (hd:o.data=.set es ep t)
  {S:Int->Bool} (he:ElemsOf (intKind prog w) fs.toList) (hm:∀ z,S z=true↔∃ y∈fs.toList,(intKind prog w).is z y.2=true) (hb:fs.size<scanBound) (hf:u.fits fs.size=true) (hr:Ru u) {dm:Bool} {R:Option Bool->Shared->Prop}
  (k:∀ h',Heap.SameBut a s.heap h'->SetR prog w h' a u.led S fs.size->R (some true) { s with heap:=h' }) :
  wpAny (model prog w) A (do
   storeSet a fs u
   if (!dm && u.tooFull)=true then do
    gv (relayAll u fs (SetTable.grown fs.size)).2.2
    storeSet a (relayAll u fs (SetTable.grown fs.size)).1 (relayAll u fs (SetTable.grown fs.size)).2.1
    pure (some true)
   else pure (some true)) R E s:=by
 obtain⟨h1,x1⟩:=fS ho hx hd fs u;have b1:=Mz s.heap a (Obj.putSet fs u)
 refine XU (wpAny_storeSet_of ho hd ?_ (fits_of_scanBound hb));by_cases c:(!dm && u.tooFull)=true
 .rw[if_pos c];have p:=relayAll_perm u fs (SetTable.grown fs.size)
  have f:=relayAll_fits u fs (SetTable.grown fs.size);obtain⟨r,l⟩:=ZL7 hr fs (SetTable.grown fs.size);generalize relayAll u fs (SetTable.grown fs.size)=Z at p f r l ⊢;obtain⟨gs,v,gave⟩:=Z;dsimp only at p f r l ⊢;have ez:gs.size=fs.size:=by rw[<- YD,p.length_eq,YD]
  obtain⟨h2,x2⟩:=fS h1 x1 rfl gs v;refine XU (hgv _ _ _ (XU (wpAny_storeSet_of h1 rfl (Yk ?_) (fits_of_scanBound (by rw[ez];exact hb)))));exact k _ (b1.trans (Mz _ a _)) ⟨_,gs,_,v,h2,x2,rfl,he.perm p,λz=>(hm z).trans ⟨λ⟨y,hy,q⟩=>⟨y,p.mem_iff.mpr hy,q⟩,λ⟨y,hy,q⟩=>⟨y,p.mem_iff.mp hy,q⟩⟩,by rw[ez];exact hb,f,ez,r,l⟩
 .rw[if_neg c];exact Yk (k _ b1 ⟨_,fs,_,u,h1,x1,rfl,he,hm,hb,hf,rfl,hr,rfl⟩)
theorem qt{a:Addr}{S:Int->Bool}{n:Nat}{z:Int}{x:Value}{led:Bool}{R:Bool->Shared->Prop}(hz:(intKind prog w).is z x=true)(QR:x.scannable=true)(hS:SetR prog w s.heap a led S n)(room:n+1<scanBound)
  (k:∀ h',Heap.SameBut a s.heap h'->SetR prog w h' a led (λy=>S y || decide (y=z)) (if S z then n else n+1)->R (!S z) { s with heap:=h' }) :
  wpAny (model prog w) A (setAddHashed a x ((intKind prog w).hash z)) R E s:=by
 obtain⟨o,es,ep,t,ho,hx,hd,he,hm,hb,hf,hn,hr,hl⟩:=hS;unfold setAddHashed setAddHashedIn;refine Su (XU (Ic ho hd hf ?_));dsimp only;rw[if_pos (byScan_of QR hb he)];unfold setAddByScan;refine XU (XU (GB (XU (wpAny_setScan_of hz ho hd hf he ?_))));cases hw:List.findIdx? (λy=>(intKind prog w).is z y.2) es.toList with
 | some j =>
  obtain⟨j1,j2,_⟩:=List.findIdx?_eq_some_iff_getElem.mp hw;have yes:S z=true:=(hm z).mpr ⟨es.toList[j],Ms j1,j2⟩
  have fin:=k s.heap (Heap.SameBut.refl a s.heap) ⟨o,es,ep,t,ho,hx,hd,he,λy=>by rw[KH,Lf,<- hm y];exact⟨λq=>q.elim id λq=>q ▸ yes,.inl⟩,hb,hf,by rw[yes];exact hn,hr,hl⟩
  rw[yes]at fin;dsimp only;exact Yk (Yk fin)
 | none =>
  have no:S z=false:=Bool.eq_false_iff.mpr λq=>by
   obtain⟨y,hy,hp⟩:=(hm z).mp q
   have:=List.findIdx?_eq_none_iff.mp hw y hy
   rw[hp]at this;cases this
  dsimp only;have p:=layNew_perm t es ((intKind prog w).hash z) x
  have f:=layNew_fits t es ((intKind prog w).hash z) x;obtain⟨r,l⟩:=qv hr es ((intKind prog w).hash z) x;generalize layNew t es ((intKind prog w).hash z) x=Z at p f r l ⊢;obtain⟨fs,u,dm,gave⟩:=Z;dsimp only at p f r l ⊢;rw[xc]at p;have ez:fs.size=n+1:=by rw[<- YD,p.length_eq,Xs,YD,hn];rfl
  have gw:∀(b:Bool) {s1:Shared} {R':Unit->Shared->Prop},R' () s1->wpAny (model prog w) A (match b with | true=>rule "set.scan.the-table-gave-way" | false=>pure ()) R' E s1:=λb s1 R' q=>by
   cases b
   .exact Yk q
   .exact GB q
  have fin:∀ h',Heap.SameBut a s.heap h'->SetR prog w h' a led (λy=>S y || decide (y=z)) fs.size->R true { s with heap:=h' }:=λh' q1 q2=>by have q:=k h' q1;rw[no]at q;rw[ez]at q2;exact q q2
  have Ds:=(he.push hz QR).perm p;have Tz:∀ y,(S y || decide (y=z))=true↔∃ v∈fs.toList,(intKind prog w).is y v.2=true:=mem_push_iff hz hm p
  have yD:fs.size<scanBound:=by lia
  refine XU (gw _ ?_);have tail:∀ v:SetTable,v.fits fs.size=true->Ru v->v.led=led->wpAny (model prog w) A (do
    storeSet a fs v
    if (!dm && v.tooFull)=true then do
     (match (relayAll v fs (SetTable.grown fs.size)).2.2 with | true=>rule "set.scan.the-table-gave-way" | false=>pure ())
     storeSet a (relayAll v fs (SetTable.grown fs.size)).1 (relayAll v fs (SetTable.grown fs.size)).2.1
     pure (some true)
    else pure (some true)) (λy s1=>wpAny (model prog w) A (match y with | some added=>pure added | none=>setAddHashedIn a x ((intKind prog w).hash z) 99999) R E s1) E s:=λv a1 a2 a3 =>
   qu (gv:=λb=>match b with | true=>rule "set.scan.the-table-gave-way" | false=>pure ()) (λb s1 R' q=>gw b q) ho hx hd Ds Tz yD a1 a2 λh' q1 q2=>Yk (fin h' q1 (a3 ▸ q2))
  split
  .refine XU ?_;rw[hashByValue_scannable 8 QR];refine Yk ?_;split
   .exact tail u f r (l.trans hl)
   .exact tail _ (SetTable.fits_plain_off f) r (l.trans hl)
  .refine XU (Yk ?_);rw[if_pos rfl];exact tail u f r (l.trans hl)
end
section
variable{prog:Program}{w:World}{A:Around}{R:Result->Shared->Prop}{I:Addr}{fp wr:List Addr}{G:Array GenState->Array GenState->Prop}{n:Nat}{P:Nat->Value->Prop}{St:Nat->Shared->Prop}
theorem fR(W:WalksS prog w A.in1 I fp wr G n P St)(b:Addr)(LJ:b∉fp){led:Bool}(val:Nat->Int)(hv:∀ i v,P i v->∃ t,v=.int (val i) t)(hn:n+1<scanBound) :
  ∀(k i:Nat) (s:Shared),n - i=k->i<=n->St i s->SetR prog w s.heap b led (λz=>(firstMet val i).any (· == z)) (firstMet val i).length ->
   (∀ s',Moved (b :: wr) G s s'->SetR prog w s'.heap b led (λz=>(firstMet val n).any (· == z)) (firstMet val n).length->R (.ok (.ret .none)) s') ->
   codeAny (model prog w) A (.builtin "set.update.loop" ⟨[.ref b,.ref I],[]⟩) R s
 | 0,i,s,hk,hi,st,hS,q=>by
  have e:i=n:=by grind
  subst e;refine RX F.entry_set_update_loop ?_;rw[Lh xb _];show wpAny _ A.in1 (pyNext (.ref I) >>= _) _ _ s
  refine XU (W.done s _ _ st λs1 m=>?_);show wpAny _ A.in1 (ret Value.none) _ _ s1
  exact Yk (q s1 (m.mono λc hc=>.tail _ hc) (hS.at λo ho=>m.heap b o (λhc=>LJ (W.sub _ hc)) ho))
 | k+1,i,s,hk,hi,st,hS,q=>by
  have Xi:i<n:=by grind
  refine RX F.entry_set_update_loop ?_;rw[Lh xb _];show wpAny _ A.in1 (pyNext (.ref I) >>= _) _ _ s
  refine XU (W.item i s _ _ Xi st λv s1 hP JY m=>?_);obtain⟨t,rfl⟩:=hv i v hP;have Dr:=hS.at (h':=s1.heap) λo ho=>m.heap b o (λhc=>LJ (W.sub _ hc)) ho
  show wpAny _ A.in1 (holding [Value.int (val i) t] (setAdd b (.int (val i) t)) >>= _) _ _ s1;refine XU (Su ?_);unfold setAdd;refine Su (XU ((intKind prog w).pyHash (k:=val i) (intKind_is _ _ _ _) ?_));have fm:=firstMet_length_le val i
  refine qt (s:={ s1 with toks:=s1.toks+1 }) (intKind_is _ _ _ _) rfl Dr (by lia) λh2 sb Eg=>?_;have hS3:SetR prog w h2 b led (λz=>(firstMet val (i+1)).any (· == z)) (firstMet val (i+1)).length:=by
   have e1:(λz=>(firstMet val (i+1)).any (· == z))=λy=>((firstMet val i).any (· == y) || decide (y=val i)):=funext λy=>by rw[firstMet_succ,step_any]
   rw[e1,firstMet_succ,step_length];exact Eg
  have kept:∀ c o,c≠b->s1.heap.get? c=some o->h2.get? c=some o:=λc o hc e=>(sb.2 c hc).trans e;refine Yk ⟨UC xb _,fR W b LJ val hv hn k (i+1) _ (by grind) Xi (W.frame _ s1 _ _ JY (Uk _) λc hc o e=>kept c o (λe'=>LJ (e' ▸ hc)) e) hS3 λs2 m2 hS4=>?_⟩;exact q s2 (Moved.trans W.gtrans ((m.mono λc hc=>.tail _ hc).then_heap (Uk _) λc o hc e=>kept c o (λe'=>hc (e' ▸ .head _)) e) m2) hS4
end
section
variable{prog:Program}{w:World}{A:Around}{E:Ae}{s:Shared}
def LI (w:World):Obj:={ cls:=.type "set",dict:=none,data:=.set #[] 0 (.fresh 0 0 (!w.params.followText "set-order")) }
theorem Dq(a:Value){Q:Ae}(k:Q (.ref s.heap.objs.size) { s with heap:=s.heap.push (LI w) }) :
  codeAny (model prog w) A (.call (.builtin "set.__new__") ⟨[.type "set",a],[]⟩) (wants Q E) s:=by
 refine codeAny_of_tree ?_;show wpAny _ A.in1 (checkBuiltinCall "set.__new__" ⟨[.type "set",a],[]⟩ >>= λ_=>again (.builtin "set.__new__" ⟨[.type "set",a],[]⟩)) _ _ s
 refine XU (Oo (F.newCall_set_1 a) (Yk ⟨UC F.plain_set_new _,RX F.entry_set_new ?_⟩));rw[Lh F.plain_set_new _];have DQ:=sub_set_self
 unfold Builtin.«set.__new__» Builtin.Frozenset.newClass;obtain⟨hp,g,d,tk,os⟩:=s;dsimp only
 wp_walk
 refine Ia (Yk ?_);simp only [newObj];refine XU (wpAny_alloc (Yk (Yk k)))
theorem ZM7 {h:Heap} {a:Addr} (e:h.get? a=some (LI w)):SetR prog w h a (!w.params.followText "set-order") (λz=>(firstMet (λ_=>0) 0).any (· == z)) 0:=by refine⟨_,#[],0,_,e,⟨rfl,rfl,rfl⟩,rfl,λy hy=>(by cases hy),λz=>⟨λq=>(by cases q),λ⟨y,hy,_⟩=>(by cases hy)⟩,by decide,by simp[SetTable.fits,SetTable.fresh,SetTable.fill],rfl,.nil,rfl⟩
theorem ZI9{l:Addr}{items:Array Value}{ns:Ac}{h0:Heap}{b:Addr}{Q:Ae}(hh:A.handled=none)(Np:h0.get? b=some (LI w))(hl:h0.IsList l items)(XJ:l≠b)(hi:IntsAre items.toList ns)(hn:items.size+1<scanBound)
  (k:∀ h' tk,SetR prog w h' b (!w.params.followText "set-order") (λz=>(firstMet (λi=>ns.getD i 0) items.size).any (· == z)) (firstMet (λi=>ns.getD i 0) items.size).length->(∀ c o,c≠b->h0.get? c=some o->h'.get? c=some o)->Q .none { s with heap:=h',toks:=tk }) :
  wpAny (model prog w) A.in1 (Builtin.«set.__init__» ⟨[.ref b,.ref l],[]⟩) (λfin s'=>match fin with | .done f=>wants Q E (.ok f) s' | .again c'=>c'.quiet=true/\codeAny (model prog w) A c' (wants Q E) s') (λe s'=>wants Q E (.error e) s') { s with heap:=h0 }:=by
 have hT:Shared.TypeIs { s with heap:=h0 } (.ref b) "set":=⟨_,Np,rfl⟩;have QK:=hl
 obtain⟨⟨ocls,fQ,fP,qr⟩,QQ,Ud,nl,yC⟩:=hl;simp only at Ud yC;subst Ud yC;have q1:=F.sub_list_set
 have q2:=F.sub_list_frozenset;have q3:(Value.type "list" == Value.type "dict")=false:=by decide
 unfold LI at Np;unfold Builtin.«set.__init__» noKeywords Builtin.Frozenset.updateFrom;generalize hPI:pyIter=PI
 wp_walk
 subst hPI;refine wW QK ?_;refine XU (wpAny_runValue ?_);have qq:l<h0.objs.size:=Yl QQ
 have ltb:b<h0.objs.size:=Yl Np;have bf:b∉[h0.objs.size,l]:=λq=>by
  rcases Yg.mp q with e | e
  .exact Yt ltb e
  .exact XJ (XD.mp e).symm
 refine fR ((Walks.list (A:=A.in1.in1) (by simp [hh]) _ l (Yt qq) items).toS) b bf (led:=!w.params.followText "set-order") (λi=>ns.getD i 0) (λi v hv=>IntsAre.int_at hi i v (by rw [YU];exact hv)) hn (items.size - 0) 0 _ (by lia) (Yn _)
  ⟨⟨_,Yo _ rfl,rfl,rfl⟩,QK.push _⟩ ?_ ?_
 .exact ZM7 (WZ _ Np)
 .rintro⟨h',g',d',tk',vC⟩ m hS;have e1:g'=s.gens:=m.gens
  have e2:d'=s.drawn:=m.drawn;have e3:vC=s.os:=m.os
  subst e1 e2 e3;show wpAny _ _ _ _ _ _
  refine Yk ?_;show wpAny _ _ (ret Value.none) _ _ _
  refine Yk (k h' tk' hS λc o hc e=>m.heap c o (λq=>?_) (WZ _ e));rcases Yg.mp q with e' | e'
  .exact hc e'
  .exact Yt (Yl e) (XD.mp e')
set_option maxRecDepth 100000 in
set_option maxHeartbeats 3000000 in
theorem qp{l:Addr}{items:Array Value}{ns:Ac}{Q:Ae}(hh:A.handled=none)(hl:s.heap.IsList l items)(hi:IntsAre items.toList ns)(hn:items.size+1<scanBound)
  (k:∀ h' tk,SetR prog w h' s.heap.objs.size (!w.params.followText "set-order") (λz=>(firstMet (λi=>ns.getD i 0) items.size).any (· == z)) (firstMet (λi=>ns.getD i 0) items.size).length->(∀ c o,s.heap.get? c=some o->h'.get? c=some o)->Q (.ref s.heap.objs.size) { s with heap:=h',toks:=tk }) :
  wpAny (model prog w) A (call (.type "set") [.ref l]) Q E s:=by
 obtain⟨c,tl,hmro⟩:=Mj.mro;have a1:=Mj.made
 have a2:=Mj.sub;have a3:=Mj.notType
 have a4:=Mj.canCreate;have a5:=F.typeCall_set_1 (.ref l)
 refine HV (codeAny_of_tree ?_);show wpAny _ _ (callAny (.type "set") _) _ _ _
 refine Yk ⟨Ar _ (by decide +kernel),RX F.entry_type_call ?_⟩;rw [Around.under_plain (weight_type_call_type "set" [.ref l] []) rfl]
 repeat any_goals first | assumption | wp_step
 refine Ml (Dq (.ref l) (E:=E) (Q:=λob s1=>ob=.ref s.heap.objs.size/\s1={ s with heap:=s.heap.push (LI w) }) ⟨rfl,rfl⟩) λr s1 hr=>?_
 match r,hr with
 | .error e,hr=>exact hr
 | .ok (.ret ob),hr =>
  obtain⟨rfl,rfl⟩:=hr;have Np:(s.heap.push (LI w)).get? s.heap.objs.size=some (LI w):=Yo _ rfl
  have hT:Shared.TypeIs { s with heap:=s.heap.push (LI w) } (.ref s.heap.objs.size) "set":=⟨_,Np,rfl⟩;have a6:=Mj.init.lookup
  have a7:=Mj.init.bind (.ref s.heap.objs.size)
  repeat any_goals first | assumption | wp_step
  have qq:l<s.heap.objs.size:=let ⟨_,e,_⟩:=hl;Yl e
  refine Ml (Av (R:=wants (λr s2=>r=.none/\Q (.ref s.heap.objs.size) s2) E) Mj.init.plain F.entry_set_init (check_set_init_1 hT (ZI9 (A:=_) (s:=s) ?_ Np (hl.push _) (Yt qq) hi hn λh' tk hS kp=>⟨rfl,k h' tk hS λc o e=>kp c o (Yt (Yl e)) (WZ _ e)⟩))) λr2 s2 VM=>?_
  .simp[hh]
  .match r2,VM with
   | .error e,VM=>exact VM
   | .ok (.ret v),VM =>
    obtain⟨rfl,q⟩:=VM
    repeat any_goals first | assumption | wp_step
end
theorem Dp:Manifest.owners.lookup (String.ofList ['r','o','t','a','r','e','t','i','_','t','e','s'].reverse)=some Manifest.sig_set_iterator:=by kernel_rfl
theorem Xd:PySem.Slot "set_iterator" "__next__" "set_iterator.__next__" :=
 .of (owner:="set_iterator") (n:="__next__") (by rw [HZ,Ig];kernel_rfl) (by decide +kernel) (by decide +kernel) (by decide +kernel)
  (by first | exact .inl (by decide +kernel) | exact .inr (by decide +kernel)) (by rw[Aj];kernel_rfl)
theorem yB:entryFor table "set_iterator.__next__"=some Builtin.«set_iterator.__next__»:=entryFor_of_tree (by kernel_rfl)
theorem yA (a:Value):argsOk "set_iterator.__next__" ⟨[a],[]⟩:=by unfold argsOk;rw [signature?_of (id:="set_iterator.__next__") (n:=['_','_','t','x','e','n','_','_']) (o:=['r','o','t','a','r','e','t','i','_','t','e','s']) (by kernel_rfl) Dp];kernel_rfl
theorem fO:PySem.Slot "set_iterator" "__iter__" "set_iterator.__iter__" :=
 .of (owner:="set_iterator") (n:="__iter__") (by rw [HZ,Ig];kernel_rfl) (by decide +kernel) (by decide +kernel) (by decide +kernel)
  (by first | exact .inl (by decide +kernel) | exact .inr (by decide +kernel)) (by rw[Aj];kernel_rfl)
theorem ZD9 (a:Value):argsOk "set_iterator.__iter__" ⟨[a],[]⟩:=by unfold argsOk;rw [signature?_of (id:="set_iterator.__iter__") (n:=['_','_','r','e','t','i','_','_']) (o:=['r','o','t','a','r','e','t','i','_','t','e','s']) (by kernel_rfl) Dp];kernel_rfl
theorem ZC9:entryFor table "set_iterator.__iter__"=some Builtin.«dict_keyiterator.__iter__» :=
 entryFor_alias (id':="dict_keyiterator.__iter__") (by kernel_rfl) (by first | rfl | decide +kernel | (unfold String.splitOn;simp +decide [String.splitOnAux])) (by decide +kernel) (by kernel_rfl)
theorem Zx9:Manifest.owners.lookup (String.ofList ['t','e','s'].reverse)=some Manifest.sig_set:=by kernel_rfl
theorem fN:PySem.Slot "set" "__iter__" "set.__iter__" :=
 .of (owner:="set") (n:="__iter__") (by rw [HZ,Ig];kernel_rfl) (by decide +kernel) (by decide +kernel) (by decide +kernel)
  (by first | exact .inl (by decide +kernel) | exact .inr (by decide +kernel)) (by rw[Aj];kernel_rfl)
theorem Yz9 (a:Value):argsOk "set.__iter__" ⟨[a],[]⟩:=by unfold argsOk;rw [signature?_of (id:="set.__iter__") (n:=['_','_','r','e','t','i','_','_']) (o:=['t','e','s']) (by kernel_rfl) Zx9];kernel_rfl
theorem Zy9:entryFor table "set.__iter__"=some Builtin.«frozenset.__iter__» :=
 entryFor_alias (id':="frozenset.__iter__") (by kernel_rfl) (by first | rfl | decide +kernel | (unfold String.splitOn;simp +decide [String.splitOnAux])) (by decide +kernel) (by kernel_rfl)
def IsSi (h:Heap) (I a:Addr) (f:Value) (i n ep:Nat):Prop:=∃ o,h.get? I=some o/\o.cls=.type "set_iterator"/\o.data=.fields #[f,rawInt (i:Int),.ref a,rawInt (n:Int),rawInt (ep:Int)]
theorem IsSi.ty {s:Shared} {I a:Addr} {f:Value} {i n ep:Nat} (x:IsSi s.heap I a f i n ep):s.TypeIs (.ref I) "set_iterator":=let ⟨o,p,q,_⟩:=x;⟨o,p,q⟩
theorem IsSi.keep{h h':Heap}{I a:Addr}{f:Value}{i n ep:Nat}(x:IsSi h I a f i n ep)(e:∀ o,h.get? I=some o->h'.get? I=some o):IsSi h' I a f i n ep:=let ⟨o,p,q⟩:=x;⟨o,e _ p,q⟩
def SetIs(h:Heap)(a:Addr)(es:Array (Int × Value))(ep:Nat)(t:SetTable):Prop:=∃ o,h.get? a=some o/\o.ExactSet/\o.data=.set es ep t
theorem SetIs.keep{h h':Heap}{a:Addr}{es:Array (Int × Value)}{ep:Nat}{t:SetTable}(x:SetIs h a es ep t)(e:∀ o,h.get? a=some o->h'.get? a=some o):SetIs h' a es ep t:=let ⟨o,p,q⟩:=x;⟨o,e _ p,q⟩
section
variable{prog:Program}{w:World}{A:Around}{E:Ae}{s:Shared}
theorem Zr7{M:Model}{src:Source}{n:Nat}{Q:Nat->Shared->Prop}(hn:n≠0)(k:∀ i,i<n->∀ d,Q i { s with drawn:=d }):wpAny M A (choose src n) Q E s :=
 λΓ p _=>⟨hn,k _ (Nat.mod_lt _ (Nat.pos_of_ne_zero hn)) _⟩
theorem qo{α:Type}:∀ {l:List α} {i:Nat} {y:α},l[i]?=some y->(y :: l.eraseIdx i).Perm l
 | [],_,_,h=>by simp at h
 | x :: l,0,y,h=>by obtain rfl:x=y:=Yi h;exact .rfl
 | x :: l,i+1,y,h=>(List.Perm.swap x y (l.eraseIdx i)).trans ((qo (l:=l) (i:=i) h).cons x)
theorem Dn{M:Model}{α:Type}:∀(n:Nat) (xs:List α) (s:Shared) (Q:List α->Shared->Prop),n=xs.length->(∀ ys d,ys.Perm xs->Q ys { s with drawn:=d })->wpAny M A (drawOrder n xs) Q E s
 | 0,xs,s,Q,h,k=>by have e:xs=[]:=YS.mp h.symm;subst e;exact Yk (k [] s.drawn .rfl)
 | n+1,[],s,Q,h,k=>by cases h
 | n+1,x :: xs,s,Q,h,k=>by show wpAny M A (choose .order (x :: xs).length >>= _) Q E s;refine XU (Zr7 (by simp) λi hi d=>?_);obtain⟨y,hy⟩:∃ y,(x :: xs)[i]?=some y:=⟨_,Xr hi⟩;rw[hy];dsimp only;refine XU (Dn n ((x :: xs).eraseIdx i) _ _ (by rw[GD hi];lia) λys d' hp=>Yk (k (y :: ys) d' ?_));exact(hp.cons y).trans (qo hy)
theorem fM{α:Type}{f:Nat->Nat}:∀(n k:Nat) (l:List α) (out:Array α),n=l.length->(pickOrder.go f n k l out).toList.Perm (out.toList++l)
 | 0,k,l,out,h=>by rw[YS.mp h.symm,YF];exact .rfl
 | n+1,k,l,out,h=>by have hi:f k % l.length<l.length:=Nat.mod_lt _ (by lia);obtain⟨y,hy⟩:∃ y,l[f k % l.length]?=some y:=⟨_,Xr hi⟩;unfold pickOrder.go;rw[hy];dsimp only;refine(fM n (k+1) _ _ (by rw[GD hi];lia)).trans ?_;rw[xc,QE];refine List.Perm.append_left _ ?_;exact qo hy
theorem fL{I a:Addr}{f:Value}{i n ep:Nat}{Q:Ae}(hr:IsSi s.heap I a f i n ep)(h:Q (.ref I) s):wpAny (model prog w) A (pyIter (.ref I)) Q E s:=by
 refine wpAny_pyIter_slot hr.ty fO (Mq fO hr.ty ZC9 ?_ (ZD9 _));show wpAny _ _ (ret (.ref I)) _ _ s
 exact Yk ⟨_,rfl,"set_iterator",_,hr.ty,Xd.lookup,h⟩
def Hr(prog:Program)(w:World)(a:Addr)(es:Array (Int × Value))(ep:Nat)(t:SetTable)(ord:Ag)(sl:Nat->Nat):Prop :=
 ∀(A:Around) (E:Ae) (s:Shared) (i:Nat) (Q:Option (Value × Nat)->Shared->Prop),SetIs s.heap a es ep t->i<=ord.length->Q ((ord[i]?).map λx=>(x,sl (i+1))) s->wpAny (model prog w) A (setNext a (sl i) i ep) Q E s
theorem qm{I a:Addr}{es:Array (Int × Value)}{ep:Nat}{t:SetTable}{ord:Ag}{sl:Nat->Nat}{i:Nat}{x:Value}{Q:Option Value->Shared->Prop}(hN:Hr prog w a es ep t ord sl)(hS:SetIs s.heap a es ep t)(hf:t.fits es.size=true)(hi:IsSi s.heap I a (rawInt (sl i:Nat)) i es.size ep)(hx:ord[i]?=some x)
  (k:∀ h',IsSi h' I a (rawInt (sl (i+1):Nat)) (i+1) es.size ep->Heap.SameBut I s.heap h'->Q (some x) { s with heap:=h' }):wpAny (model prog w) A (pyNext (.ref I)) Q E s:=by
 obtain⟨o,ho,hc,hd⟩:=id hi;obtain⟨oa,LH,ql,Rt⟩:=id hS;unfold pyNext;refine XU (GG (Ay (name:=Str.ofString "__next__") hi.ty Xd (Mq Xd hi.ty yB ?_ (yA _))));unfold Builtin.«set_iterator.__next__»;refine XU (Oo (a:=(Value.ref I,[])) rfl ?_);dsimp only;refine XU (Ak ho hd ?_);dsimp only [rawInt];refine XU (GS LH Rt hf ?_);rw[if_neg (by simp)];rw[Yv,Yv,Yv];refine XU (hN _ _ s i _ hS (Oq (Xp.mp hx).1) ?_);rw[hx];dsimp only [Option.map_some];refine XU (HY ho hd (by simp) ?_);have SN:=Vx (Obj.mapFields (λvs=>vs.setIfInBounds 0 (rawInt (sl (i+1):Nat)))) ho (Aw (Pa hd _))
 refine XU (HY SN (Pa hd _) (by simp) ?_);refine Yk ⟨x,rfl,Yk (k _ ⟨_,Vx _ SN (Aw (Pa (Pa hd _) _)),?_,?_⟩ ((Mz ..).trans (Mz ..)))⟩
 .rw[wV,wV];exact hc
 .rw[Pa (Pa hd _)];simp;rfl
theorem Dm{I a:Addr}{es:Array (Int × Value)}{ep:Nat}{t:SetTable}{ord:Ag}{sl:Nat->Nat}{Q:Option Value->Shared->Prop}(hh:A.handled=none)(hN:Hr prog w a es ep t ord sl)(hS:SetIs s.heap a es ep t)(hf:t.fits es.size=true)(hi:IsSi s.heap I a (rawInt (sl ord.length:Nat)) ord.length es.size ep)
  (k:∀ h',Heap.ExtBut I s.heap h'->Q none { s with heap:=h' }):wpAny (model prog w) A (pyNext (.ref I)) Q E s:=by
 obtain⟨o,ho,hc,hd⟩:=id hi;obtain⟨oa,LH,ql,Rt⟩:=id hS;unfold pyNext;refine XU (GG (Ay (name:=Str.ofString "__next__") hi.ty Xd (Mq Xd hi.ty yB ?_ (yA _))));unfold Builtin.«set_iterator.__next__»;refine XU (Oo (a:=(Value.ref I,[])) rfl ?_);dsimp only;refine XU (Ak ho hd ?_);dsimp only [rawInt];refine XU (GS LH Rt hf ?_);rw[if_neg (by simp)];rw[Yv,Yv,Yv];refine XU (hN _ _ s ord.length _ hS (XM _) ?_);rw[Vy (XM _)];dsimp only [Option.map_none];refine XU (HY ho hd (by simp) ?_);show wpAny _ _ (newExc (.type "StopIteration") [] >>= _) _ _ _
 refine XU ?_;simp only [newExc,newTuple];refine XU (Mu ?_ (by size_fits));refine XU (m:=firstArgMember _ _) (Oo (a:=Value.none) (by first | rfl | (simp only [firstArgMember];rfl)) ?_)
 refine Mu ?_ (by size_fits);simp only [raiseNew];refine XU (wpAny_handled ?_);rw[show A.in1.handled=none from hh];refine XU (Yk (wpAny_throw ?_));refine XU (Ao (T:="StopIteration") (b:=true) ⟨_,Yo _ rfl,rfl⟩ isSubtype_stop ?_);exact Yk (k _ ((((Mz ..).extBut).push _).push _))
theorem ZB9{I a:Addr}{es:Array (Int × Value)}{ep:Nat}{t:SetTable}{ord:Ag}{sl:Nat->Nat}(hh:A.handled=none)(hN:Hr prog w a es ep t ord sl)(hf:t.fits es.size=true)(XJ:a≠I) :
  Walks prog w A I [I,a] [I] ord.length (λi v=>ord[i]?=some v) (λi h=>i<=ord.length/\IsSi h I a (rawInt (sl i:Nat)) i es.size ep/\SetIs h a es ep t) where
 sub:=λb hb=>Yg.mpr (.inl (XD.mp hb))
 frame:=λ_ _ _ x hk=>⟨x.1,x.2.1.keep λo e=>hk I (by simp) o e,x.2.2.keep λo e=>hk a (by simp) o e⟩
 item:=λi s Q E hi ⟨_,x1,x2⟩ hQ=>by have hx:ord[i]?=some (ord[i]'hi):=Xr hi;exact qm hN x2 hf x1 hx λh' y hs=>hQ _ h' s.toks hx ⟨hi,y,x2.keep λo e=>(hs.2 a XJ).trans e⟩ λb o hb eo=>hs.extBut b o (λe=>hb (by simp[e])) eo
 done:=λs Q E ⟨_,x1,x2⟩ hQ=>Dm hh hN x2 hf x1 λh' he=>hQ h' s.toks λb o hb eo=>he b o (λe=>hb (by simp[e])) eo
 self:=λ_ _ _ _ x hQ=>fL x.2.1 hQ
theorem Dl {a:Addr} {es:Array (Int × Value)} {ep:Nat} {t:SetTable} (hf:t.fits es.size=true) (hr:Ru t) (hb:w.params.followText "set-order"=false) (hl:t.led=true) (hd:(!t.plain && decide (es.size > 1))=false) :
  Hr prog w a es ep t (es.toList.map (·.2)) (λi=>if i=0 then 0 else (t.place.getD (i - 1) 0)+1):=by
 intro A E s i Q ⟨o,ho,hx,Rt⟩ hi q;have hps:t.place.size=es.size:=by unfold SetTable.fits at hf;simp only [Mr,SW]at hf;exact hf.1
 rw[Yd,YD]at hi;unfold setNext;refine XU (Ic ho Rt hf ?_);dsimp only;refine XU ?_;unfold setsByText;refine XU (Ia (Yk ?_));show wpAny _ _ (if (w.params.followText "set-order")=true then _ else _) _ _ _
 rw[if_neg (by rw[hb];decide)];show wpAny _ _ (if (!t.plain && decide (es.size > 1))=true then _ else _) _ _ _
 rw[if_neg (by rw[hd];decide)];refine XU ?_;show wpAny _ _ (if (!t.led && !es.isEmpty)=true then _ else _) _ _ _
 rw[if_neg (by rw[hl];simp)];refine Yk ?_;have eb:SetTable.below t.place (if i=0 then 0 else (t.place.getD (i - 1) 0)+1)=i:=by
  by_cases c:i=0
  .rw[if_pos c,c];exact Zu7 hr
  .rw[if_neg c];obtain⟨v,hv⟩:∃ v,t.place[i - 1]?=some v:=⟨_,YE (by lia)⟩;have e:t.place.getD (i - 1) 0=v:=by rw[YA,hv];rfl
   rw[e,Zv7 hr hv];lia
 rw[eb];refine Yk ?_;by_cases c:i<es.size
 .obtain⟨v,hv⟩:∃ v,t.place[i]?=some v:=⟨_,YE (by lia)⟩;obtain⟨y,hy⟩:∃ y,es[i]?=some y:=⟨_,YE c⟩;have e:t.place.getD i 0=v:=by rw[YA,hv];rfl
  rw[Yp,YU,hy]at q;rw[hv,hy];simp only [KQ,xh,e,if_neg (Nat.succ_ne_zero i)]at q;exact q
 .have e1:es[i]?=none:=Az (by lia);rw[Yp,YU,e1]at q;rw[e1];exact q
theorem ZR7 {a:Addr} {es:Array (Int × Value)} {ep:Nat} {t:SetTable} (hf:t.fits es.size=true) (hb:w.params.followText "set-order"=true) :
  Hr prog w a es ep t ((pickOrder (w.params.setOrder a ep) es).toList.map (·.2)) (λ_=>0):=by
 intro A E s i Q ⟨o,ho,hx,Rt⟩ hi q;unfold setNext;refine XU (Ic ho Rt hf ?_);dsimp only;refine XU ?_;unfold setsByText;refine XU (Ia (Yk ?_));show wpAny _ _ (if (w.params.followText "set-order")=true then _ else _) _ _ _
 rw[if_pos hb,if_neg (by simp)];refine XU ?_;unfold setWalk;refine XU (Ic ho Rt hf ?_);dsimp only;refine XU ?_;unfold setsByText;refine XU (Ia (Yk ?_));show wpAny _ _ (if (w.params.followText "set-order")=true then _ else _) _ _ _
 rw[if_pos hb];refine XU (Ia (Yk ?_));rw[Yp,YU,Option.map_map]at q;exact Yk q
def IsPl(h:Heap)(b:Addr)(pl:List Nat):Prop:=∃ o n,h.get? b=some o/\o.data=.seq (pl.map λ(i:Nat)=>rawInt (i:Int)).toArray n
theorem IsPl.keep{h h':Heap}{b:Addr}{pl:List Nat}(x:IsPl h b pl)(e:∀ o,h.get? b=some o->h'.get? b=some o):IsPl h' b pl:=let ⟨o,n,p,q⟩:=x;⟨o,n,e _ p,q⟩
theorem qk{I a b:Addr}{es:Array (Int × Value)}{ep:Nat}{t:SetTable}{pl:List Nat}{i j:Nat}{x:Int × Value}{Q:Option Value->Shared->Prop}(hS:SetIs s.heap a es ep t)(hf:t.fits es.size=true)(hi:IsSi s.heap I a (.ref b) i es.size ep)(hb:IsPl s.heap b pl)(hj:pl[i]?=some j)(hx:es[j]?=some x)
  (k:∀ h',IsSi h' I a (.ref b) (i+1) es.size ep->Heap.SameBut I s.heap h'->Q (some x.2) { s with heap:=h' }):wpAny (model prog w) A (pyNext (.ref I)) Q E s:=by
 obtain⟨o,ho,hc,hd⟩:=id hi;obtain⟨oa,LH,ql,Rt⟩:=id hS;obtain⟨ob,nb,RE,TV⟩:=hb;unfold pyNext;refine XU (GG (Ay (name:=Str.ofString "__next__") hi.ty Xd (Mq Xd hi.ty yB ?_ (yA _))));unfold Builtin.«set_iterator.__next__»;refine XU (Oo (a:=(Value.ref I,[])) rfl ?_);dsimp only;refine XU (Ak ho hd ?_);dsimp only [rawInt];refine XU (GS LH Rt hf ?_);rw[if_neg (by simp)];refine XU (Lc RE TV ?_);dsimp only;have e:(pl.map λ(i:Nat)=>rawInt (i:Int)).toArray[(i:Int).toNat]?=some (.int (j:Int) 0):=by rw[Yv,ju,Yp,hj];rfl
 rw[e];dsimp only;rw[Yv,Yv];refine XU ?_;unfold setNextDrawn;refine XU (Ic LH Rt hf ?_);dsimp only;rw[if_neg (by simp),hx];refine Yk ?_;refine XU (HY ho hd (by simp) ?_);refine Yk ⟨x.2,rfl,Yk (k _ ⟨_,Vx _ ho (Aw (Pa hd _)),?_,?_⟩ (Mz ..))⟩
 .rw[wV];exact hc
 .rw[Pa hd];simp;rfl
theorem Dk{I a b:Addr}{es:Array (Int × Value)}{ep:Nat}{t:SetTable}{pl:List Nat}{Q:Option Value->Shared->Prop}(hh:A.handled=none)(hS:SetIs s.heap a es ep t)(hf:t.fits es.size=true)(hi:IsSi s.heap I a (.ref b) pl.length es.size ep)(hb:IsPl s.heap b pl)
  (k:∀ h',Heap.ExtBut I s.heap h'->Q none { s with heap:=h' }):wpAny (model prog w) A (pyNext (.ref I)) Q E s:=by
 obtain⟨o,ho,hc,hd⟩:=id hi;obtain⟨oa,LH,ql,Rt⟩:=id hS;obtain⟨ob,nb,RE,TV⟩:=hb;unfold pyNext;refine XU (GG (Ay (name:=Str.ofString "__next__") hi.ty Xd (Mq Xd hi.ty yB ?_ (yA _))));unfold Builtin.«set_iterator.__next__»;refine XU (Oo (a:=(Value.ref I,[])) rfl ?_);dsimp only;refine XU (Ak ho hd ?_);dsimp only [rawInt];refine XU (GS LH Rt hf ?_);rw[if_neg (by simp)];refine XU (Lc RE TV ?_);dsimp only;have e:(pl.map λ(i:Nat)=>rawInt (i:Int)).toArray[(pl.length:Int).toNat]?=none:=by rw[Yv,ju];exact Vy (by simp)
 rw[e];dsimp only;refine XU (HY ho hd (by simp) ?_);have SN:=Vx (Obj.mapFields (λvs=>vs.setIfInBounds 0 (rawInt 0))) ho (Aw (Pa hd _))
 refine XU (HY SN (Pa hd _) (by simp) ?_);show wpAny _ _ (newExc (.type "StopIteration") [] >>= _) _ _ _
 refine XU ?_;simp only [newExc,newTuple];refine XU (Mu ?_ (by size_fits));refine XU (m:=firstArgMember _ _) (Oo (a:=Value.none) (by first | rfl | (simp only [firstArgMember];rfl)) ?_)
 refine Mu ?_ (by size_fits);simp only [raiseNew];refine XU (wpAny_handled ?_);rw[show A.in1.handled=none from hh];refine XU (Yk (wpAny_throw ?_));refine XU (Ao (T:="StopIteration") (b:=true) ⟨_,Yo _ rfl,rfl⟩ isSubtype_stop ?_);exact Yk (k _ (((((Mz ..).trans (Mz ..)).extBut).push _).push _))
theorem ZG9{I a b:Addr}{es:Array (Int × Value)}{ep:Nat}{t:SetTable}{pl:List Nat}(hh:A.handled=none)(hp:pl.Perm (List.range es.size))(hf:t.fits es.size=true)(XJ:a≠I)(hnb:b≠I) :
  Walks prog w A I [I,a,b] [I] pl.length (λi v=>(pl.filterMap λj=>(es[j]?).map (·.2))[i]?=some v) (λi h=>i<=pl.length/\IsSi h I a (.ref b) i es.size ep/\SetIs h a es ep t/\IsPl h b pl) where
 sub:=λc hc=>Yg.mpr (.inl (XD.mp hc))
 frame:=λ_ _ _ x hk=>⟨x.1,x.2.1.keep λo e=>hk I (by simp) o e,x.2.2.1.keep λo e=>hk a (by simp) o e,x.2.2.2.keep λo e=>hk b (by simp) o e⟩
 item:=λi s Q E hi ⟨_,x1,x2,x3⟩ hQ=>by
  have hj:pl[i]?=some (pl[i]'hi):=Xr hi;have Xi:=YI.mp (hp.mem_iff.mp (Xg hj))
  have hx:es[pl[i]'hi]?=some (es[pl[i]'hi]'Xi):=YE Xi;have fm:∀(l:List Nat),(∀ j∈l,j<es.size)->l.filterMap (λj=>(es[j]?).map (·.2))=l.map λj=>(es.getD j (0,.none)).2:=λl hl=>by
   induction l with
   | nil=>rfl
   | cons y l ih =>
    have hy:=hl y Ye;rw[GW,WC,ih λj h=>hl j (Yh _ h),YE hy,YA,YE hy];rfl
  have hv:(pl.filterMap λj=>(es[j]?).map (·.2))[i]?=some (es[pl[i]'hi]'Xi).2:=by rw[fm pl λj hj=>YI.mp (hp.mem_iff.mp hj),Yp,hj,KQ,YA,hx];rfl
  exact qk x2 hf x1 x3 hj hx λh' y hs=>hQ _ h' s.toks hv ⟨hi,y,x2.keep λo e=>(hs.2 a XJ).trans e,x3.keep λo e=>(hs.2 b hnb).trans e⟩ λc o hc eo=>hs.extBut c o (λe=>hc (by simp[e])) eo
 done:=λs Q E ⟨_,x1,x2,x3⟩ hQ=>Dk hh x2 hf x1 x3 λh' he=>hQ h' s.toks λc o hc eo=>he c o (λe=>hc (by simp[e])) eo
 self:=λ_ _ _ _ x hQ=>fL x.2.1 hQ
end
section
variable{prog:Program}{w:World}{A B:Around}{E:Ae}{s:Shared}
theorem SetIs.ty {a:Addr} {es:Array (Int × Value)} {ep:Nat} {t:SetTable} (x:SetIs s.heap a es ep t):s.TypeIs (.ref a) "set":=let ⟨o,p,q,_⟩:=x;⟨o,p,q.1⟩
theorem ZF9 {a:Addr} {es:Array (Int × Value)} {ep:Nat} {t:SetTable} {Q:Ae} (hh:A.handled=none) (hS:SetIs s.heap a es ep t) (hf:t.fits es.size=true) (hr:Ru t) (hl:t.led=!w.params.followText "set-order") (hz:es.size<=sizeLine)
  (k:∀(I:Addr) (h':Heap) d (ord:Ag) (fp:List Addr) (St:Nat->Heap->Prop),ord.Perm (es.toList.map (·.2))->Walks prog w A I fp [I] ord.length (λi v=>ord[i]?=some v) St->St 0 h'->(∀ b∈fp,b<h'.objs.size/\(b=a\/s.heap.objs.size<=b))->I∈fp->s.heap.objs.size<=I->(∀ c o,s.heap.get? c=some o->h'.get? c=some o)->Q (.ref I) { s with heap:=h',drawn:=d }) :
  wpAny (model prog w) B (pyIter (.ref a)) Q E s:=by
 obtain⟨o,ho,hx,hd⟩:=id hS;have LG:a<s.heap.objs.size:=Yl ho
 refine wpAny_pyIter_slot hS.ty fN (Mq fN hS.ty Zy9 ?_ (Yz9 _));unfold Builtin.«frozenset.__iter__»;refine XU (Oo (a:=a) rfl ?_);refine XU ?_;unfold Builtin.Frozenset.sizeOf;refine XU (GS ho hd hf (Yk ?_));refine XU ?_;unfold setDrawn;refine XU (Ic ho hd hf ?_);dsimp only;refine XU ?_;unfold setsByText;refine XU (Ia (Yk (Yk ?_)));have num:∀(ord:Ag) (sl:Nat->Nat),sl 0=0->Hr prog w a es ep t ord sl->ord.Perm (es.toList.map (·.2))->wpAny (model prog w) B.in1 (pure (rawInt 0) >>= λfirst=>setEpoch a >>= λe=>newFields "set_iterator" [first,rawInt 0,.ref a,rawInt (es.size:Int),rawInt (e:Int)] >>= λit=>ret it)
   (λfin s'=>∃ v,fin=Fin.done (Flow.ret v)/\∃ T' r,s'.TypeIs v T'/\typeLookup (Value.type T') (Str.ofString "__next__")=pure (some r)/\Q v s') E s:=λord sl h0 hN hp=>by
  refine XU (Yk (XU (wpAny_setEpoch_of ho hd hf (XU ?_))));unfold newFields;refine Mu ?_ (by size_fits);have hI:IsSi (s.heap.push { cls:=.type "set_iterator",data:=.fields [rawInt 0,rawInt 0,.ref a,rawInt (es.size:Int),rawInt (ep:Int)].toArray }) s.heap.objs.size a (rawInt (sl 0:Nat)) 0 es.size ep:=⟨_,Yo _ rfl,rfl,by rw [h0];rfl⟩
  refine Yk ⟨_,rfl,"set_iterator",_,IsSi.ty (s:={ s with heap:=_ }) hI,Xd.lookup,?_⟩;have ne:a≠s.heap.objs.size:=Yt LG
  refine k _ _ s.drawn ord _ _ hp (ZB9 hh hN hf ne) ⟨Yn _,hI,hS.keep λo e=>WZ _ e⟩ (λb hb=>?_) (by simp) (XM _) λc o e=>WZ _ e;rw[UD];rcases Yg.mp hb with e | e
  .rw[e];exact⟨OY _,.inr (XM _)⟩
  .rw[XD.mp e];exact⟨RU LG,.inl rfl⟩
 by_cases hb:w.params.followText "set-order"=true
 .rw [if_neg (by show ¬ (!w.params.followText "set-order" && _)=true;rw [hb];simp)];refine num _ (λ_=>0) rfl (ZR7 hf hb) ?_
  have:=fM (f:=w.params.setOrder a ep) es.size 0 es.toList #[] (by rw[YD])
  exact this.map _
 .have Qi:w.params.followText "set-order"=false:=by simpa using hb
  rw[Qi]at hl;by_cases c:(!t.plain && decide (es.size > 1))=true
  .rw [if_pos (by show(!w.params.followText "set-order" && (!t.plain && decide (es.size > 1)))=true;rw [Qi,c];rfl)];refine XU (Dn es.size (List.range es.size) s _ (by rw[OZ]) λpl d hp=>?_);have Vk:pl.length=es.size:=by rw[hp.length_eq,OZ]
   refine XU (wpAny_newTuple ?_ (by rw[Yd,Vk];exact hz));have hoS:∀(h:Heap) o,h.get? a=some o->(h.push { cls:=.type "tuple",data:=.seq (List.map (λi=>rawInt ((i:Nat):Int)) pl).toArray }).get? a=some o:=λh o e=>WZ _ e
   refine XU (wpAny_setEpoch_of (hoS s.heap o ho) hd hf (XU ?_));unfold newFields;refine Mu ?_ (by size_fits);have ne:a≠s.heap.objs.size:=Yt LG
   generalize qj:s.heap.push { cls:=.type "tuple",data:=.seq (List.map (λi=>rawInt ((i:Nat):Int)) pl).toArray }=h1;have s1:h1.objs.size=s.heap.objs.size+1:=by rw[<- qj];exact UD ..
   have Dj:∀ c o,s.heap.get? c=some o->h1.get? c=some o:=λc o e=>by rw[<- qj];exact WZ _ e
   have Nn:IsPl h1 s.heap.objs.size pl:=by rw[<- qj];exact⟨_,0,Yo _ rfl,rfl⟩
   have hI:IsSi (h1.push { cls:=.type "set_iterator",data:=.fields [Value.ref s.heap.objs.size,rawInt 0,.ref a,rawInt (es.size:Int),rawInt (ep:Int)].toArray }) h1.objs.size a (.ref s.heap.objs.size) 0 es.size ep:=⟨_,Yo _ rfl,rfl,rfl⟩;refine Yk ⟨_,rfl,"set_iterator",_,IsSi.ty (s:={ s with heap:=_,drawn:=d }) hI,Xd.lookup,?_⟩;have PH:(pl.filterMap λj=>(es[j]?).map (·.2)).Perm (es.toList.map (·.2)):=by refine(hp.filterMap _).trans ?_;rw[<- filterMap_getElem?_range es,List.map_filterMap]
   have QQ:(pl.filterMap λj=>(es[j]?).map (·.2)).length=pl.length:=by rw[PH.length_eq,Yd,YD,Vk]
   have W:=ZG9 (prog:=prog) (w:=w) (A:=A) (I:=h1.objs.size) (a:=a) (b:=s.heap.objs.size) (es:=es) (ep:=ep) (t:=t) hh hp hf (by rw[s1];exact Yt (RU LG)) (by rw[s1];exact Yt (OY _));rw[<- QQ]at W;refine k _ _ d _ _ _ PH W ⟨Yn _,hI,hS.keep λo e=>WZ _ (Dj _ o e),Nn.keep λo e=>WZ _ e⟩ (λb hb=>?_) (by simp) (by rw[s1];exact Uk _) λc o e=>WZ _ (Dj c o e);rw[UD,s1];rcases Yg.mp hb with e | e
   .rw[e,s1];exact⟨OY _,.inr (Uk _)⟩
   .rcases Yg.mp e with e | e
    .rw[e];exact⟨RU (RU LG),.inl rfl⟩
    .rw[XD.mp e];exact⟨RU (OY _),.inr (XM _)⟩
  .have c':(!t.plain && decide (es.size > 1))=false:=by simpa using c
   rw [if_neg (by show ¬ (!w.params.followText "set-order" && (!t.plain && decide (es.size > 1)))=true;rw [c'];simp)];exact num _ _ rfl (Dl hf hr Qi hl c') .rfl
end
theorem Di:typeLookup (.type "set") "__len__"=pure (some (.builtin "set.__len__")):=by rw [HZ,Ig];kernel_rfl
section
variable{prog:Program}{w:World}{A:Around}{E:Ae}{s:Shared}
theorem qi {r:Addr} {Q:Bool->Shared->Prop} (hT:s.TypeIs (.ref r) "set") (h:Q false s):wpAny (model prog w) A (Builtin.List.listLengthHint (.ref r)) Q E s:=by
 unfold Builtin.List.listLengthHint;refine XU (wpAny_specialOf hT Di ?_);generalize Ei:("set.__len__":String)=sS
 wp_delta
 rw [show splitId sS=some ("set","__len__") from by subst Ei;decide +kernel];subst Ei;refine XU (Ao (T:="set") (b:=true) hT sub_set_self ?_);show wpAny _ A (typeOf (Value.ref r) >>= _) _ _ _
 exact XU (z6 (T:="set") hT (Yk h))
theorem ZE5 {a:Addr} {es:Array (Int × Value)} {ep:Nat} {t:SetTable} {Q:List Value->Shared->Prop} (hh:A.handled=none) (hS:SetIs s.heap a es ep t) (hf:t.fits es.size=true) (hr:Ru t) (hl:t.led=!w.params.followText "set-order") (hz:es.size<=sizeLine)
  (k:∀(out:Ag) h' tk d,out.Perm (es.toList.map (·.2))->s.heap.objs.size<=h'.objs.size->(∀ c o,s.heap.get? c=some o->h'.get? c=some o)->Q out { s with heap:=h',toks:=tk,drawn:=d }):wpAny (model prog w) A (collect (.ref a)) Q E s:=by
 have Ee:(s.heap.push (seqObj "list" #[] 0)).get? s.heap.objs.size=some (seqObj "list" #[] 0):=Yo _ rfl;have Dr:SetIs (s.heap.push (seqObj "list" #[] 0)) a es ep t:=hS.keep λo e=>WZ _ e
 have LG:a<s.heap.objs.size:=let ⟨_,e,_⟩:=hS;Yl e
 unfold collect;refine XU (wpAny_runValue (RX entry_proto_collect' ?_));show wpAny _ _ (newList [] >>= λv=>again (.builtin "list.__iadd__" ⟨[v,.ref a],[]⟩)) _ _ s
 refine XU (RR (Yk ⟨Ar _ (by decide +kernel),RX entry_list_iadd' ?_⟩));show wpAny _ _ (Builtin.List.listExtendWith (.ref s.heap.objs.size) (.ref a) (.ref s.heap.objs.size)) _ _ { s with heap:=s.heap.push (seqObj "list" #[] 0) }
 unfold Builtin.List.listExtendWith;refine XU (z6 (T:="set") (SetIs.ty (s:={ s with heap:=s.heap.push (seqObj "list" #[] 0) }) Dr) ?_);have e1:Builtin.List.listSameRef (.ref s.heap.objs.size) (.ref a)=false:=by show(s.heap.objs.size == a)=false;exact wY (RW LG)
 rw[if_neg (by rw[e1];decide)];refine XU (ZF9 (A:=A.in1) (by simp[hh]) Dr hf hr hl hz λI h' d ord fp St PH W HH yy hI PF kp=>?_);have hT':Shared.TypeIs { s with heap:=h',drawn:=d } (.ref a) "set":=SetIs.ty (s:={ s with heap:=h',drawn:=d }) (Dr.keep λo e=>kp a o e)
 refine XU (Su (qi hT' ?_));rw[if_pos (by decide +kernel)];have fK:=kp _ _ Ee
 refine XU (GB (XU ?_));unfold Builtin.List.listTouch;refine XU (KY (xs:=#[]) (n:=0) fK rfl ?_ (Yn _) (by show 1<=sizeLine+1;lia));have fJ:=Vx (Obj.mapSeq (·.push Value.none)) fK rfl
 refine KY (xs:=#[].push Value.none) (n:=1) fJ rfl ?_ (by show 1<=sizeLine;decide) (by show 0<=sizeLine+1;lia);have hL4:=Vx (Obj.mapSeq Array.pop) fJ rfl
 have old:∀ c o,c≠s.heap.objs.size->h'.get? c=some o->((h'.update s.heap.objs.size (Obj.mapSeq (·.push Value.none))).update s.heap.objs.size (Obj.mapSeq Array.pop)).get? c=some o:=λc o hc e=>by rw[YO _ _ (YW hc),YO _ _ (YW hc)];exact e
 generalize (h'.update s.heap.objs.size (Obj.mapSeq (·.push Value.none))).update s.heap.objs.size (Obj.mapSeq Array.pop)=h4 at *;have SJ:s.heap.objs.size∉fp:=λq=>by
  rcases(yy _ q).2 with e | e
  .exact RW LG e
  .rw [show({ s with heap:=s.heap.push (seqObj "list" #[] 0) }:Shared).heap.objs.size=s.heap.objs.size+1 from UD ..] at e;exact Nat.not_succ_le_self _ e
 have qh:ord.length=es.size:=by rw[PH.length_eq,Yd,YD]
 refine Yk ⟨UC GC _,codeAny_extend_loopS W.toS (by rw[qh];exact hz) s.heap.objs.size SJ _ ord.length 0 _ #[] _ rfl (Yn _) (W.frame 0 _ _ HH λb hb o e=>old b o (λq=>SJ (q ▸ hb)) e) hL4 (ItemsOf.nil _) λs2 acc c m fI Uw=>?_⟩;have eo:acc.toList=ord:=by
  refine RT λi=>?_;rw[YU];by_cases hi:i<ord.length
  .have q:acc[i]?=some (acc[i]'(by rw[Uw.1];exact hi)):=YE _;rw[q,Uw.2 i _ q]
  .rw[Vy (by grind),Az (by rw[Uw.1];omega)]
 show wpAny _ A (load s.heap.objs.size >>= _) Q E s2;refine XU (wpAny_load fI ?_);refine Yk ?_;rw[eo,Moved.eq_with m];refine k ord s2.heap s2.toks d PH (Oq (Yl fI)) λc o e=>?_;have lt:=Yl e
 refine m.heap c o (λq=>?_) (old c o (Yt lt) (kp c o (WZ _ e)));rcases Yg.mp q with e' | e'
 .exact Yt lt e'
 .rw[XD.mp e']at lt
  have:=Ym lt (Yr (Uk _) (UD .. ▸ PF))
  exact QX _ this
end
theorem fH{m:Ac}:∀ {l:Ac},m.Nodup->l.length=m.length->(∀ x∈m,x∈l)->l.Perm m:=by
 induction m with
 | nil=>intro l _ h _;rw[YS.mp h]
 | cons x m ih =>
  intro l hn hl hs;have hx:=hs x Ye
  have TY:=QY.mp hn;refine(List.perm_cons_erase hx).trans ((ih TY.2 (by rw[xy hx,hl];rfl) λy hy=>?_).cons x);have ne:y≠x:=λe=>TY.1 (by rw[<- e];exact hy)
  exact(xq ne).mpr (hs y (Yh _ hy))
theorem Ze8{us vs:Ag}(p:us.Perm vs):∀ {ns:Ac},IntsAre vs ns->∃ ms,IntsAre us ms/\ms.Perm ns:=by
 induction p with
 | nil=>intro ns h;exact⟨ns,h,.rfl⟩
 | cons x _ ih =>
  intro ns h;cases h with
  | cons n t h =>
   obtain⟨ms,h1,h2⟩:=ih h;exact⟨n :: ms,.cons n t h1,h2.cons n⟩
 | swap x y l =>
  intro ns h;cases h with
  | cons n t h =>
   cases h with
   | cons m u h=>exact⟨m :: n :: _,.cons m u (.cons n t h),.swap n m _⟩
 | trans _ _ PX Td =>
  intro ns h;obtain⟨ms,h1,h2⟩:=Td h;obtain⟨ls,h3,h4⟩:=PX h1;exact⟨ls,h3,h4.trans h2⟩
theorem qg{vs:Ag}{ns:Ac}(h:IntsAre vs ns):vs.length=ns.length:=by
 induction h with
 | nil=>rfl
 | cons n t _ ih=>rw[YB,YB,ih]
theorem yx(val:Nat->Int):∀ i,(firstMet val i).Nodup
 | 0=>.nil
 | i+1=>by
  rw[firstMet_succ];unfold step_dedup;split
  .exact yx val i
  .rename_i h;refine YT.mpr ⟨yx val i,by simp,λa ha b hb e=>?_⟩;rw[XD.mp hb]at e;exact h (w5.mpr ⟨a,ha,by rw[e];simp⟩)
section
variable{prog:Program}{w:World}{A:Around}{E:Ae}{s:Shared}
theorem fG:∀ {l:List (Int × Value)},ElemsOf (intKind prog w) l->∃ ms,IntsAre (l.map (·.2)) ms/\∀ z,z∈ms↔∃ y∈l,(intKind prog w).is z y.2=true
 | [],_=>⟨[],.nil,λz=>⟨λh=>(by cases h),λ⟨y,h,_⟩=>(by cases h)⟩⟩
 | y :: l,h=>by
  obtain⟨ms,h1,h2⟩:=fG h.tail;obtain⟨⟨z,hz,_⟩,_⟩:=h.head;obtain⟨hy,v⟩:=y;obtain⟨u,rfl⟩:=Value.isInt_shape (show Value.isInt z v=true from hz);refine⟨z :: ms,.cons z u h1,λx=>?_⟩;rw[Yg,h2];constructor
  .rintro(e | ⟨y,hy,q⟩)
   .exact⟨_,Ye,e ▸ hz⟩
   .exact⟨y,Yh _ hy,q⟩
  .rintro⟨y,hy,q⟩;rcases Yg.mp hy with e | e
   .rw[e]at q;exact .inl ((intKind prog w).inj _ _ _ q hz)
   .exact .inr ⟨y,e,q⟩
theorem qf {a:Addr} {led:Bool} {S:Int->Bool} {n:Nat} {Q:Ae} (hh:A.handled=none) (hS:SetR prog w s.heap a (!w.params.followText "set-order") S n) (QN:n<64)
  (k:∀(ms:Ac) (out:Ag) r h' tk d c,IntsAre out ms->ms.Pairwise (·<=·)->ms.length=n->(∀ z,z∈ms↔S z=true)->s.heap.objs.size<=r->h'.get? r=some (seqObj "list" out.toArray c)->(∀ c o,s.heap.get? c=some o->h'.get? c=some o)->Q (.ref r) { s with heap:=h',toks:=tk,drawn:=d }) :
  wpAny (model prog w) A (call (.builtin "sorted") [.ref a]) Q E s:=by
 obtain⟨o,es,ep,t,ho,hx,hd,he,hm,hb,hf,hn,hr,hl⟩:=hS;obtain⟨ns,hI,hmem⟩:=fG he;have JK:sizeLine=16777216:=SX
 refine Calls.call_function_entry kind_sorted plain_sorted entry_sorted (args_sorted1 _) ?_;unfold Builtin.«sorted»;refine XU (m:=checkCount "sorted" 1 1 _) (Yk ?_);refine XU (ZE5 (A:=A.in1) (by simp[hh]) ⟨o,ho,hx,hd⟩ hf hr hl (by lia) λout h1 tk d hp PF kp=>?_);obtain⟨ls,fF,Wj⟩:=Ze8 hp hI;have lo:=qg fF
 have ll:ls.length=n:=by rw[<- lo,hp.length_eq,Yd,YD,hn]
 refine XU (RR ?_);have hL:(h1.push (seqObj "list" out.toArray 0)).get? h1.objs.size=some (seqObj "list" out.toArray 0):=Yo _ rfl
 refine XU (Su (Mq slot_list_sort ⟨_,hL,rfl⟩ entry_list_sort (list_sort_tree hL fF (by lia) λres ms b1 b2 b3=>⟨_,rfl,?_⟩) (args_list_sort _)));obtain⟨c,hc⟩:=sortedHeap_at (out:=res) hL;refine Yk ⟨_,rfl,k ms res.toList h1.objs.size _ tk d c b1 b3 (by rw[b2.length_eq,ll]) (λz=>by rw[b2.mem_iff,Wj.mem_iff,hmem,hm]) PF (by rw[Array.toArray_toList];exact hc) λb ob e=>?_⟩;have lt:=Yl (kp b ob e)
 rw[sortedHeap_old (Yt lt) (by rw[size_push'];exact RU lt)];exact WZ _ (kp b ob e)
end
section
variable{X:Cx}{p p2 pos Vr:Pos}{e:Expr}{t:TA}
theorem Inv.drew{X:Cx}{pins:List (Addr × Obj)}{σ:St}{H:Hp}{s:Shared}(I:Inv X pins σ H s)(d:Drawn):Inv X pins σ H { s with drawn:=d } :=
 I.step (g':=s.gens) (d':=d) (t':=s.toks) (h':=s.heap) (ch:=[]) (λb hb=>(by cases hb)) (λb o _ _ _ q _=>q) (λb o _ _ _ q _=>⟨o.slots,q⟩) (λb o _ _ n=>n) (λb o _ q=>⟨o,q⟩) (λb xs q=>q) (λb o u q=>q) (λb ps q=>⟨#[],by rw[q];simp⟩) (λm hm=>hm) I.hok I.bare
def ZW5(K:Ad)(t:TA):TE:=λσ H Q=>t σ H λvs H1=>∃(a:Addr) (ns:Ac),vs=[.ref a]/\SqL K H1 a (ns.map V.int)/\ns.length<64/\∀ ms:Ac,ms.Pairwise (· < ·)->(∀ z,z∈ms↔z∈ns)->∀ l,H1 l=none->Q (.ref l) (upd H1 l (.lst (ms.map V.int)))
theorem qd (K:Ad) (hc:X.calm=true) (g1:Gl X "sorted") (m1:X.mg "sorted"=none) (g2:Gl X "set") (m2:X.mg "set"=none) (ha:PA X [e] t) (hk:X.K=K:=by rfl)
  (he:starEach [e] X.env=[(false,eval e X.env)]:=by rfl)
  (Qg:starEach [.Call (.Name "set" p2) [e] [] Vr] X.env=[(false,eval (.Call (.Name "set" p2) [e] [] Vr) X.env)]:=by rfl) :
  PE X (.Call (.Name "sorted" p) [.Call (.Name "set" p2) [e] [] Vr] [] pos) (ZW5 K t):=by
 subst hk;intro pins s σ H Q I h;refine QF (QW I g1 m1 Boot.«sorted» ?_);refine jO ?_ (by rw[Qg];rfl) rfl;rw[Qg];show wpAny _ _ (spliced ((false,eval (.Call (.Name "set" p2) [e] [] Vr) X.env) :: backTo pos [])) _ _ s
 refine KI ?_;refine QF (QW I g2 m2 Boot.«set» ?_);refine Ln (thn (ha Vr pins s σ H _ I h) λus s1 ⟨vs,H1,I1,r1,q1⟩=>?_) (by rw[he];rfl) rfl;obtain⟨a,ns,rfl,hq,hn,q⟩:=q1;obtain⟨u,rfl,ru⟩:=RM r1;obtain rfl:u=Value.ref a:=ru;obtain⟨XW,rv,pl,hz⟩:=I1.list hq;have hi:=ZM rv
 have el:XW.toArray.size=ns.length:=by rw[Ya,<- rv.length,Yd]
 have sb:scanBound=4096:=rfl;refine qp (I.ok.hd hc) pl.isList (ns:=ns) (by simpa using hi) (by lia) λh2 tk hS kp=>?_;refine wQ ?_;have fl:=firstMet_length_le (λi=>ns.getD i 0) XW.toArray.size
 refine qf (led:=true) (s:={ s1 with heap:=h2,toks:=tk }) (I.ok.hd hc) hS (by lia) λms out r h3 tk3 d c hI hs hl hmem PF hr kp3=>?_;have em:∀ z,z∈ms↔z∈ns:=λz=>by
  rw[hmem,firstMet_any,el];have e1:(List.range ns.length).map (λi=>ns.getD i 0)=ns:=by
   refine RT λi=>?_;rw[Yp];by_cases c:i<ns.length
   .rw[xk c,Xr c,KQ,WJ,Xr c];rfl
   .rw[Vy (by rw[OZ];lia),Vy (by omega)];rfl
  rw[e1];simp
 have Tx:ms.Nodup:=(fH (yx _ _) hl λx hx=>(hmem x).mpr (w5.mpr ⟨x,hx,by simp⟩)).nodup_iff.mpr (yx _ _);have Xi:s1.heap.objs.size<=h2.objs.size:=let ⟨_,_,_,_,e,_⟩:=hS;Oq (Yl e)
 have Dh:s1.heap.objs.size<=r:=Yr Xi PF;have NH:ms.length<=ns.length:=by rw[hl,<- el];exact fl
 have I2:=(I1.laid (o:=.lst (ms.map V.int)) (h':=h3) (t':=tk3) (λb o e=>kp3 b o (kp b o e)) Dh ⟨by rw[Yd];have:sizeLine=16777216:=SX;lia,out,c,ZV hI,hr⟩).drew d;exact⟨.ref r,_,I2,rfl,q ms (My.Vp hs Tx) em r (I1.hok.fresh Dh)⟩
end
end L2
namespace My
open PySem L2
theorem Zm7{A B:List (Nat × Nat)}{f g:Nat->Nat}{N k:Nat}(hf:∀ i j,i<N->j<N->(f i=f j↔Conn A i j))(hk:∀ i,i<N->f i<k)(hg:∀ a,a<k->g a<N/\f (g a)=a)(hA:InN N A)(hB:InN N B) :
  (∀ i j,i<N->j<N->Conn (A++B) i j)↔∀ a b,a<k->b<k->Conn (B.map λe=>(f e.1,f e.2)) a b:=by
 have gi:∀ i,i<N->Conn A (g (f i)) i:=λi hi=>by obtain⟨h1,h2⟩:=hg (f i) (hk i hi);exact(hf _ _ h1 hi).mp h2
 constructor
 .intro c a b ha hb;obtain⟨a1,a2⟩:=hg a ha;obtain⟨b1,b2⟩:=hg b hb;have q:=(c (g a) (g b) a1 b1).image (f:=f) (fs:=B.map λe=>(f e.1,f e.2)) λe he=>by
   rcases Xy.mp he with q | q
   .obtain⟨e1,e2⟩:=hA e q;rw[(hf _ _ e1 e2).mpr (.edge q)];exact .refl _
   .exact .edge (YC.mpr ⟨e,q,rfl⟩)
  rw[a2,b2]at q;exact q
 .intro c i j hi hj;have up:∀ {i j:Nat},Conn A i j->Conn (A++B) i j:=λq=>q.mono λe he=>Yb _ he
  have q:=(c (f i) (f j) (hk i hi) (hk j hj)).image (f:=g) (fs:=A++B) λe he=>by obtain⟨d,hd,rfl⟩:=YC.mp he;obtain⟨d1,d2⟩:=hB d hd;exact(up (gi _ d1)).trans ((Conn.edge (Yc _ hd)).trans (up (gi _ d2)).symm)
  exact(up (gi i hi)).symm.trans (q.trans (up (gi j hj)))
def PC(n:Int)(ps:Aa)(I O:Ac)(c:Nat):Prop:=∃ L:Ab,L.Nodup/\(∀ l,l∈L↔Ze n ps l/\(∀ z∈I,z∈l)/\∀ z∈O,z∉l)/\L.length=c
theorem PC.uniq{n:Int}{ps:Aa}{I O:Ac}{c d:Nat}(h1:PC n ps I O c)(h2:PC n ps I O d):c=d:=by
 obtain⟨L,a1,a2,a3⟩:=h1;obtain⟨M,b1,b2,b3⟩:=h2
 have:L.Perm M:=(Lm a1 b1).mpr λl=>by rw[a2,b2]
 rw[<- a3,<- b3,this.length_eq]
def XE(m:Nat)(gone:Ac):Ac:=(We m).filter λz=>decide (z∉gone)
theorem WX{m:Nat}{gone:Ac}{z:Int}:z∈XE m gone↔(0<=z/\z<(m:Int))/\z∉gone:=by unfold XE;rw[Yf,YV,XB]
theorem Dg(m:Nat)(gone:Ac):(XE m gone).Pairwise (· < ·):=(XX.mp (yX m)).2.filter _
def Tw(f:Nat->Nat)(ps:Aa)(R:Ac):Aa:=R.map λz=>((f (Zq ps z).1:Int),(f (Zq ps z).2:Int))
def Rr(R:Ac)(S:Ac):Ac:=S.map λt=>R.getD t.toNat 0
theorem Df{R S:Ac}(hR:R.Pairwise (· < ·))(hS:IsSet R.length S):(Rr R S).Pairwise (· < ·):=by
 obtain⟨a1,a2⟩:=XX.mp hS;refine Mw.mpr (a2.imp_of_mem λ{a b} ha hb VN=>?_);have h1:=a1 a ha
 have h2:=a1 b hb;rw[WJ,WJ,Xr (by lia),Xr (by lia)];exact Ij.mp hR a.toNat b.toNat (by omega) (by omega) (by grind)
theorem De{R S:Ac}(hS:IsSet R.length S){z:Int}(h:z∈Rr R S):z∈R:=by
 obtain⟨t,ht,rfl⟩:=YC.mp h;have h1:=hS.all t ht
 rw[WJ,Xr (by lia)];exact Ms _
theorem qc{f:Nat->Nat}{ps:Aa}{R S:Ac}(hS:IsSet R.length S):XT (Tw f ps R) S=(XT ps (Rr R S)).map λe=>(f e.1,f e.2):=by
 unfold XT Rr;rw[Mm,Mm];refine YX λt ht=>?_;have h1:=hS.all t ht
 have e:(Tw f ps R).getD t.toNat (0,0)=((f (Zq ps (R.getD t.toNat 0)).1:Int),(f (Zq ps (R.getD t.toNat 0)).2:Int)):=by unfold Tw;rw[WJ,Yp,WJ,Xr (by omega)];rfl
 rw[e];rfl
def Sj(m:Nat)(I R S:Ac):Ac:=(We m).filter λz=>decide (z∈I\/z∈Rr R S)
theorem qb(m:Nat)(I R S:Ac):(Sj m I R S).Pairwise (· < ·):=(XX.mp (yX m)).2.filter _
theorem Xa{m:Nat}{I R S:Ac}{z:Int}:z∈Sj m I R S↔(0<=z/\z<(m:Int))/\(z∈I\/z∈Rr R S):=by unfold Sj;rw[Yf,YV,XB]
section
variable{n:Int}{ps:Aa}{I O S:Ac}{f g:Nat->Nat}{k:Nat}
theorem qa(hI:IsSet ps.length I)(hS:IsSet (XE ps.length (I++O)).length S):(Sj ps.length I (XE ps.length (I++O)) S).Perm (I++Rr (XE ps.length (I++O)) S):=by
 have ua:=Df (Dg ps.length (I++O)) hS;refine(Lm (JD (qb _ _ _ _)) (YT.mpr ⟨hI.nodup,JD ua,λa ha b hb e=>?_⟩)).mpr λz=>?_
 .have:=(WX.mp (De hS hb)).2
  exact this (Yb _ (e ▸ ha))
 .rw[Xa,Xy];refine⟨λh=>h.2,λh=>⟨?_,h⟩⟩;rcases h with q | q
  .exact hI.all z q
  .exact(WX.mp (De hS q)).1
theorem fE(g0:Zv n ps)(hI:IsSet ps.length I)(hf:∀ i j,i<n.toNat->j<n.toNat->(f i=f j↔Conn (XT ps I) i j))(hk:∀ i,i<n.toNat->f i<k)(hg:∀ a,a<k->g a<n.toNat/\f (g a)=a)(hS:IsSet (XE ps.length (I++O)).length S) :
  ((∀ i j,i<n.toNat->j<n.toNat->Conn (XT ps (Sj ps.length I (XE ps.length (I++O)) S)) i j)↔∀ a b,a<k->b<k->Conn (XT (Tw f ps (XE ps.length (I++O))) S) a b):=by
 have hp:=qa (O:=O) hI hS;have hA:=ZH (ns:=I) g0 hI.all
 have hB:=ZH (ns:=Rr (XE ps.length (I++O)) S) g0 λz hz=>(WX.mp (De hS hz)).1;have e:XT ps (I++Rr (XE ps.length (I++O)) S)=XT ps I++XT ps (Rr (XE ps.length (I++O)) S):=by unfold XT;exact YR
 rw[qc hS,<- Zm7 hf hk hg hA hB,<- e];exact⟨λc i j hi hj=>(TJ λz=>hp.mem_iff).mp (c i j hi hj),λc i j hi hj=>(TJ λz=>hp.mem_iff).mpr (c i j hi hj)⟩
theorem Dc{T:Ac}(hI:IsSet ps.length I)(hT:IsSet ps.length T)(h1:∀ z∈I,z∈T)(h2:∀ z∈O,z∉T):∃ S,IsSet (XE ps.length (I++O)).length S/\T=Sj ps.length I (XE ps.length (I++O)) S:=by
 refine⟨(We (XE ps.length (I++O)).length).filter λt=>decide ((XE ps.length (I++O)).getD t.toNat 0∈T),XX.mpr ⟨λt ht=>XB.mp (Yf.mp ht).1,(XX.mp (yX _)).2.filter _⟩,sj (XX.mp hT).2 (qb _ _ _ _) λz=>?_⟩;rw[Xa];constructor
 .intro hz;refine⟨hT.all z hz,?_⟩;by_cases c:z∈I
  .exact .inl c
  .right;have hR:z∈XE ps.length (I++O):=WX.mpr ⟨hT.all z hz,λq=>by
    rcases Xy.mp q with q | q
    .exact c q
    .exact h2 z q hz⟩
   obtain⟨t,ht⟩:=YZ hR;have e:(XE ps.length (I++O)).getD ((t:Int)).toNat 0=z:=by rw[Yv];exact ZP ht
   refine YC.mpr ⟨(t:Int),Yf.mpr ⟨XB.mpr ⟨by lia,by have:=(Xp.mp ht).1;omega⟩,Yx (by rw[e];exact hz)⟩,e⟩
 .rintro⟨_,q | q⟩
  .exact h1 z q
  .obtain⟨t,ht,rfl⟩:=YC.mp q;exact Yu (Yf.mp ht).2
theorem Zy8{S':Ac}(hS:IsSet (XE ps.length (I++O)).length S)(Tf:IsSet (XE ps.length (I++O)).length S')(e:Sj ps.length I (XE ps.length (I++O)) S=Sj ps.length I (XE ps.length (I++O)) S'):S=S':=by
 have key:∀ {A B:Ac},IsSet (XE ps.length (I++O)).length A->IsSet (XE ps.length (I++O)).length B->Sj ps.length I (XE ps.length (I++O)) A=Sj ps.length I (XE ps.length (I++O)) B->∀ t,t∈A->t∈B:=λ{A B} hA hB e t ht=>by
  have h1:=hA.all t ht;have hm:(XE ps.length (I++O)).getD t.toNat 0∈Rr (XE ps.length (I++O)) A:=YC.mpr ⟨t,ht,rfl⟩
  have hR:=WX.mp (De hA hm);have h2:(XE ps.length (I++O)).getD t.toNat 0∈Sj ps.length I (XE ps.length (I++O)) B:=e ▸ Xa.mpr ⟨hR.1,.inr hm⟩
  rcases(Xa.mp h2).2 with q | q
  .exact absurd (Yb _ q) hR.2
  .obtain⟨u,hu,e2⟩:=YC.mp q;have h3:=hB.all u hu
   rw[WJ,WJ,Xr (by lia),Xr (by lia)]at e2
   have:=HL (JD (Dg ps.length (I++O))) (i:=u.toNat) (j:=t.toNat) (Xr (by omega)) (by rw[Xr (by omega)];exact Xw some e2.symm)
   have e3:u=t:=by lia
   exact e3 ▸ hu
 exact sj (XX.mp hS).2 (XX.mp Tf).2 λt=>⟨key hS Tf e t,key Tf hS e.symm t⟩
theorem Nm(f:Nat->Nat)(ps:Aa)(R:Ac):(Tw f ps R).length=R.length:=Yd ..
theorem p9(g0:Zv n ps)(hI:IsSet ps.length I)(Vm:∀ z∈I,z∉O)(hf:∀ i j,i<n.toNat->j<n.toNat->(f i=f j↔Conn (XT ps I) i j))(hk:∀ i,i<n.toNat->f i<k)(hg:∀ a,a<k->g a<n.toNat/\f (g a)=a)(hn:(k:Int)+(I.length:Int)=n){c:Nat}(h:TC k (Tw f ps (XE ps.length (I++O))) c):PC n ps I O c:=by
 obtain⟨L,h1,h2,h3⟩:=h;have hs:∀ l∈L,IsSet (XE ps.length (I++O)).length l:=λl hl=>Nm f ps _ ▸ ((h2 l).mp hl).1
 have len:∀ {S:Ac},IsSet (XE ps.length (I++O)).length S->(Sj ps.length I (XE ps.length (I++O)) S).length=I.length+S.length:=λ{S} hS=>by rw[(qa hI hS).length_eq,Xs];unfold Rr;rw[Yd]
 have iff:∀ {S:Ac},IsSet (XE ps.length (I++O)).length S->(Ze n ps (Sj ps.length I (XE ps.length (I++O)) S)↔Ze k (Tw f ps (XE ps.length (I++O))) S):=λ{S} hS=>by
  have l:=len hS;have q:=fE (O:=O) g0 hI hf hk hg hS
  constructor
  .rintro⟨a1,a2,a3⟩;exact⟨by rw[Nm];exact hS,by lia,λa b ha hb=>q.mp a3 a b (by lia) (by lia)⟩
  .rintro⟨a1,a2,a3⟩;exact⟨XX.mpr ⟨λz hz=>(Xa.mp hz).1,qb _ _ _ _⟩,by lia,q.mpr λa b ha hb=>a3 a b (by lia) (by lia)⟩
 refine⟨L.map (Sj ps.length I (XE ps.length (I++O))),Mw.mpr (h1.imp_of_mem λ{a b} ha hb VN e=>VN (Zy8 (hs a ha) (hs b hb) e)),λT=>?_,by rw[Yd,h3]⟩;rw[YC];constructor
 .rintro⟨S,hS,rfl⟩;refine⟨(iff (hs S hS)).mpr ((h2 S).mp hS),λz hz=>Xa.mpr ⟨hI.all z hz,.inl hz⟩,λz hz q=>?_⟩;rcases(Xa.mp q).2 with q | q
  .exact Vm z q hz
  .exact(WX.mp (De (hs S hS) q)).2 (Yc _ hz)
 .rintro⟨hT,q1,q2⟩;obtain⟨S,hS,rfl⟩:=Dc hI hT.1 q1 q2;exact⟨S,(h2 S).mpr ((iff hS).mp hT),rfl⟩
theorem fD(g0:Zv n ps)(gone:Ac)(hk:∀ i,i<n.toNat->f i<k)(k1:1<=k)(kn:k<=n.toNat):Zv k (Tw f ps (XE ps.length gone)):=by
 obtain⟨g1,g2,g3,g4⟩:=g0;refine⟨by lia,by lia,?_,λp hp=>?_⟩
 .rw[Nm]
  have:(XE ps.length gone).length<=(We ps.length).length:=YH ..
  have:=(yX ps.length).len
  lia
 .obtain⟨z,hz,rfl⟩:=YC.mp hp;have hz1:=(WX.mp hz).1
  obtain⟨q,hq⟩:∃ q,ps[z.toNat]?=some q:=⟨_,Xr (by lia)⟩;obtain⟨e1,e2,e3,e4⟩:=g4 q (Xg hq);have ee:Zq ps z=(q.1.toNat,q.2.toNat):=by unfold Zq;rw[ZP hq]
  rw[ee];have a:=hk q.1.toNat (by grind)
  have b:=hk q.2.toNat (by grind);exact⟨by show(0:Int)<=(f q.1.toNat:Int);lia,by show(f q.1.toNat:Int)<(k:Int);grind,by show(0:Int)<=(f q.2.toNat:Int);lia,by show(f q.2.toNat:Int)<(k:Int);grind⟩
theorem p8(g0:Zv n ps)(hI:IsSet ps.length I)(hf:∀ i j,i<n.toNat->j<n.toNat->(f i=f j↔Conn (XT ps I) i j))(hk:∀ i,i<n.toNat->f i<k)(hg:∀ a,a<k->g a<n.toNat/\f (g a)=a)(k1:1<=k)(kn:k<=n.toNat)(hn:n<(k:Int)+(I.length:Int)):PC n ps I O 0:=by
 refine⟨[],.nil,λT=>⟨λh=>(by cases h),λ⟨hT,q1,q2⟩=>?_⟩,rfl⟩;obtain⟨S,hS,rfl⟩:=Dc hI hT.1 q1 q2;have q:=(fE (O:=O) g0 hI hf hk hg hS).mp hT.2.2
 have gg:=fD (f:=f) g0 (I++O) hk k1 kn;have l:=qC gg (by rw[Nm];exact hS) λa b ha hb=>q a b (by grind) (by grind)
 have l2:=hT.2.1;rw[(qa hI hS).length_eq,Xs]at l2;unfold Rr at l2;rw[Yd]at l2;omega
end
def Vl:Ac->Int->Nat
 | [],_=>0
 | x :: l,z=>if x=z then 0 else Vl l z+1
theorem Jn:∀ {l:Ac} {z:Int},z∈l->l[Vl l z]?=some z
 | x :: l,z,h=>by
  unfold Vl;by_cases c:x=z
  .rw[if_pos c,c];rfl
  .rw[if_neg c];exact Jn ((Yg.mp h).resolve_left λe=>c e.symm)
theorem p7{l:Ac}{z:Int}(h:z∈l):Vl l z<l.length:=(Xp.mp (Jn h)).1
theorem CZ{l:Ac}{z y:Int}(hz:z∈l)(hy:y∈l):Vl l z=Vl l y↔z=y:=by
 refine⟨λe=>?_,λe=>by rw[e]⟩;have h1:=Jn hz
 rw[e,Jn hy]at h1;exact(Yi h1).symm
theorem p6{l:Ac}(hn:l.Nodup){i:Nat}{z:Int}(h:l[i]?=some z):Vl l z=i:=HL hn (Jn (Xg h)) h
theorem LF{M:Ac}{i:Nat}(h:i<M.length):mk M i∈M:=by unfold mk;rw[WJ,Xr h];exact Ms h
section
variable{N:Nat}{es:List (Nat × Nat)}{F:Ac}
theorem CY(h:InN N es)(hF:F.Pairwise (· < ·))(hm:∀ z,z∈F↔z∈Xx N es) :
  ∃ g:Nat->Nat,(∀ i j,i<N->j<N->(Vl F (mk (Xx N es) i)=Vl F (mk (Xx N es) j)↔Conn es i j))/\(∀ i,i<N->Vl F (mk (Xx N es) i)<F.length)/\∀ a,a<F.length->g a<N/\Vl F (mk (Xx N es) (g a))=a:=by
 have hl:=Zw N es;have pZ:∀ i,i<N->mk (Xx N es) i∈F:=λi hi=>(hm _).mpr (LF (by lia))
 have ex:∀ a,∃ i,a<F.length->i<N/\Vl F (mk (Xx N es) i)=a:=λa=>by
  by_cases c:a<F.length
  .have q:=(hm _).mp (Ms c);obtain⟨i,hi⟩:=YZ q;have VB:=(Xp.mp hi).1
   refine⟨i,λ_=>⟨by lia,?_⟩⟩;have e:mk (Xx N es) i=F[a]:=by unfold mk;exact ZP hi
   rw[e];exact p6 (JD hF) (Xr c)
  .exact⟨0,λh=>absurd h c⟩
 refine⟨λa=>Classical.choose (ex a),λi j hi hj=>?_,λi hi=>p7 (pZ i hi),λa ha=>Classical.choose_spec (ex a) ha⟩;rw[CZ (pZ i hi) (pZ j hj)];exact VS h hi hj
theorem pY{M:Ac}:∀(i:Nat),∃ p,p<=i/\Wu M p=true/\mk M p=mk M i:=by
 intro i
 induction i using Nat.strongRecOn with
 | _ i ih =>
  by_cases c:Wu M i=true
  .exact⟨i,XM _,c,rfl⟩
  .obtain⟨j,hj,e⟩:∃ j,j<i/\mk M j=mk M i:=Yz λno=>c (XC.mpr λj hj e=>no ⟨j,hj,e⟩);obtain⟨p,h1,h2,h3⟩:=ih j hj;exact⟨p,by lia,h2,h3.trans e⟩
theorem Zn8{M:Ac}(hF:F.Pairwise (· < ·))(hm:∀ z,z∈F↔z∈M):F.length=cnt M:=by
 have e:F.Perm ((VG M M.length).map (mk M)):=by
  refine(Lm (JD hF) ?_).mpr λz=>?_
  .refine Mw.mpr ?_;unfold VG;refine(Qz.filter (Wu M)).imp_of_mem λ{a b} ha hb VN=>?_;exact XC.mp (Yf.mp hb).2 a VN
  .rw[hm,YC];constructor
   .intro hz;obtain⟨i,hi⟩:=YZ hz;have VB:=(Xp.mp hi).1
    obtain⟨p,h1,h2,h3⟩:=pY (M:=M) i;refine⟨p,Yf.mpr ⟨YI.mpr (by lia),h2⟩,h3.trans ?_⟩;unfold mk;exact ZP hi
   .rintro⟨p,hp,rfl⟩;exact LF (YI.mp (Yf.mp hp).1)
 rw[e.length_eq,Yd];rfl
theorem Zb4(h:InN N es)(hN:1<=N)(hF:F.Pairwise (· < ·))(hm:∀ z,z∈F↔z∈Xx N es):1<=F.length/\F.length<=N/\N<=F.length+es.length:=by
 have e:=Zn8 hF hm;have hl:=Zw N es
 have e2:=r6 (zx (n:=N) (es:=es) h);have e3:=NB es h
 have e4:=NA (M:=Xx N es) (by lia);have e5:cnt (Xx N es)<=N:=by unfold cnt VG;refine Yr (YH ..) ?_;rw[OZ];lia
 grind
end
def FD(A B:Ac)(t:Int):Prop:=t∈A/\t∉B/\∀ s,s<t->(s∈A↔s∈B)
theorem Jm:∀ {A B:Ac},A.Pairwise (· < ·)->B.Pairwise (· < ·)->A.length=B.length->(HT.lexLt A B=true↔∃ t,FD A B t)
 | [],[],_,_,_=>⟨λh=>(by cases h),λ⟨t,h,_⟩=>(by cases h)⟩
 | x :: A,y :: B,hA,hB,hl=>by
  obtain⟨a1,a2⟩:=QP.mp hA;obtain⟨b1,b2⟩:=QP.mp hB;have Sr:A.length=B.length:=UB hl
  show(if x=y then HT.lexLt A B else decide (x<y))=true↔_;by_cases c:x=y
  .subst c;rw[if_pos rfl,Jm a2 b2 Sr];constructor
   .rintro⟨t,h1,h2,h3⟩;have tx:=a1 t h1
    refine⟨t,Yh _ h1,λq=>?_,λs hs=>?_⟩
    .rcases Yg.mp q with e | e
     .lia
     .exact h2 e
    .rw[Yg,Yg,h3 s hs]
   .rintro⟨t,h1,h2,h3⟩;have tx:t≠x:=λe=>h2 (e ▸ Ye)
    have LW:=(Yg.mp h1).resolve_left tx;refine⟨t,LW,λq=>h2 (Yh _ q),λs hs=>?_⟩
    have:=h3 s hs
    rw[Yg,Yg]at this;by_cases e:s=x
    .rw[e];exact⟨λq=>absurd (a1 x q) (Int.lt_irrefl x),λq=>absurd (b1 x q) (Int.lt_irrefl x)⟩
    .exact⟨λq=>(this.mp (.inr q)).resolve_left e,λq=>(this.mpr (.inr q)).resolve_left e⟩
  .rw[if_neg c,YV];constructor
   .intro h;refine⟨x,Ye,λq=>?_,λs hs=>⟨λq=>?_,λq=>?_⟩⟩
    .rcases Yg.mp q with e | e
     .exact c e
     .have:=b1 x e;lia
    .rcases Yg.mp q with e | e
     .lia
     .have:=a1 s e;lia
    .rcases Yg.mp q with e | e
     .lia
     .have:=b1 s e;lia
   .rintro⟨t,h1,h2,h3⟩;have tx:x<=t:=by
     rcases Yg.mp h1 with e | e
     .lia
     .have:=a1 t e;lia
    refine Yz λhc=>?_;have hyx:y<x:=by lia
    have:=(h3 y (by grind)).mpr Ye
    rcases Yg.mp this with e | e
    .lia
    .have:=a1 y e;grind
theorem fC{α:Type}[DecidableEq α]:∀ {l m:List α},l.Nodup->(∀ x∈l,x∈m)->l.length<=m.length
 | [],_,_,_=>Yn _
 | x :: l,m,hn,hs=>by
  have hx:=hs x Ye;obtain⟨h1,h2⟩:=QY.mp hn
  have:=fC (m:=m.erase x) h2 λy hy=>(xq λe=>h1 (by rw[<- e];exact hy)).mpr (hs y (Yh _ hy))
  rw[xy hx]at this
  have:=Qy hx
  rw[YB];grind
theorem PD{s rest:TS}{D:Ends}{σ:L2.St}{H:Hp}(P:L2.St->Hp->Prop)(h1:∀ σ' H',P σ' H'->rest D σ' H')(h2:∀ K:L2.St->Hp->Prop,(∀ σ' H',P σ' H'->K σ' H')->s { D with nx:=K } σ H):Vg s rest D σ H:=h2 _ h1
theorem CW{m:Nat}(hm:m<=30):∀ k,(PY (m:Int) k).length<=30 ^ k
 | 0=>XM 1
 | k+1=>by
  have h1:=DW (m:=m) (PY (m:Int) k) λs hs=>(Wf.mp hs).2;have h2:=CW hm k
  have h3:m * (PY (m:Int) k).length<=30 * 30 ^ k:=Ld hm h2;rw[Nat.pow_succ,Ai];exact Yr h1 h3
theorem fB{n:Int}{ps:Aa}{c:Nat}(g:Zv n ps)(h:TC n ps c):c<10 ^ 20:=by
 obtain⟨L,hn,hm,rfl⟩:=h;obtain⟨g1,g2,g3,_⟩:=g;refine GV (m:=30 ^ 13) (Yr (fC (m:=PY (ps.length:Int) (n - 1).toNat) hn λx hx=>Wf.mpr ⟨?_,((hm x).mp hx).1⟩) (Yr (CW (by lia) _) (Hb (by decide) (by omega)))) (by decide)
 have:=((hm x).mp hx).2.1
 lia
theorem pX{n:Int}{ps:Aa}(g:Zv n ps):∃ L:Ab,(∀ l,l∈L↔Ze n ps l)/\L.Pairwise Nw:=⟨Wr n.toNat ps (n - 1).toNat,λ_=>rX g,(gL _ _).filter _⟩
def CV(ps:Aa):List (Nat × Nat):=ps.map λp=>(p.1.toNat,p.2.toNat)
theorem CU(ps:Aa){e:Nat × Nat}:e∈XT ps (We ps.length)↔e∈CV ps:=by
 unfold XT CV;rw[YC,YC];constructor
 .rintro⟨z,hz,rfl⟩;obtain⟨z0,z1⟩:=XB.mp hz;have hp:ps[z.toNat]?=some (ps[z.toNat]'(by lia)):=Xr (by omega)
  refine⟨_,Xg hp,?_⟩;rw[ZP hp]
 .rintro⟨p,hp,rfl⟩;obtain⟨i,hi⟩:=YZ hp
  have:=(Xp.mp hi).1
  refine⟨(i:Int),XB.mpr (by lia),?_⟩;rw[Yv,ZP hi]
theorem Rq{n:Int}{ps:Aa}:DU n ps↔∀ i j,i<n.toNat->j<n.toNat->Conn (CV ps) i j :=
 ⟨λh i j hi hj=>(h i j hi hj).mono λe he=>(CU ps).mp he,λh i j hi hj=>(h i j hi hj).mono λe he=>(CU ps).mpr he⟩
end My
namespace L2
open PySem PySem.Spec PyProof.Rows
structure CompScopeD (sc0:Scope) (N N':List Str) (o:Nat) (fr:List Nat) (scope:Scope) (xo:Str):Prop where
 kind:scope.kind=.function
 one:(scope.names.filter λy=>y.2 == .cell)=[(xo,.cell)]
 loc:(scope.names.all λy=>y.2 != .local || scope.names.lookup y.1 == some .local)=true
 free:(scope.names.all λy=>y.2 != .free || (y.1 != xo && (sc0.names.lookup y.1 == some .cell || sc0.names.lookup y.1 == some .free)))=true
 len:N'.length=o+fr.length
 sees:((List.range fr.length).all λj=>match fr[j]? with
  | none=>false
  | some y=>match N[y]? with
   | none=>false
   | some x=>N'[o+j]? == some x && scope.names.lookup x == some .free)=true
end L2
namespace My
open PySem L2
def ev(b:Int):Ac->Int
 | []=>0
 | d :: l=>d+b * ev b l
abbrev Jl(ls:Ac)(z:Int):Int:=ls.getD z.toNat 0
def lwS(ls:Ac)(x:Int):Ac:=(We ls.length).filter λz=>decide (Jl ls z<x)
def mA(N:Nat)(ps:Aa)(ls:Ac)(x:Int):Ac:=Xx N (XT ps (lwS ls x))
def lvl(ls:Ac)(x:Int)(i:Nat):Ac:=(We i).filter λz=>decide (Jl ls z=x)
def CT(ls T:Ac):Int:=(T.map (Jl ls)).sum
section
variable{n:Int}{ps:Aa}{T:Ac}(g:Zv n ps)
include g
theorem Zs9{W:Ac}(hT:Ze n ps T)(hW:Ze n ps W)(h:∀ z∈T,z∈W):T.Perm W:=by
 have:=fH (l:=W) hT.1.nodup (by have:=hT.2.1;have:=hW.2.1;lia) h
 exact this.symm
end
theorem Zp8{n:Int}{ps:Aa}{T W:Ac}(hT:Ze n ps T)(hW:Ze n ps W):(T.filter λy=>decide (y∉W)).length=(W.filter λy=>decide (y∉T)).length:=by
 have e1:=gG (λy=>decide (y∈W)) T;have e2:=gG (λy=>decide (y∈T)) W
 have p:(T.filter λy=>decide (y∈W)).Perm (W.filter λy=>decide (y∈T)):=(Lm (hT.1.nodup.filter _) (hW.1.nodup.filter _)).mpr λy=>by rw[Yf,Yf,YV,YV];exact And.comm
 have f1:(T.filter λy=>decide (y∉W))=T.filter λy=>!decide (y∈W):=Mv λy _=>by simp
 have f2:(W.filter λy=>decide (y∉T))=W.filter λy=>!decide (y∈T):=Mv λy _=>by simp
 have:=p.length_eq
 have h1:=hT.2.1;have h2:=hW.2.1
 rw[f1,f2];lia
end My
namespace HT
open PySem PyProof.Rows
section
def ltP(x y:Int × Ac):Bool:=decide (x.1<y.1) || (decide (x.1=y.1) && lexLt x.2 y.2)
end
end HT
namespace My
open PySem L2
def bkD(d:Int):Int:=if d % 2=0 then d+1 else d - 1
def fw(ps:Aa)(p:Int):Nat->Ac
 | 0=>[]
 | i+1=>fw ps p i++(if (ps.getD i (0,0)).1=p then [2 * (i:Int)] else [])++(if (ps.getD i (0,0)).2=p then [2 * (i:Int)+1] else [])
def dts(ps:Aa)(p:Int):Ac:=fw ps p ps.length
def VT(n:Nat)(ps:Aa)(ts:Ab):Prop:=ts.length=n/\∀(p:Nat) (row:Ac),ts[p]?=some row->row.Perm (dts ps (p:Int))
def bhR(row:Ac)(k:Nat):Aa:=(List.range k).map λi=>(bkD (row.getD i 0),row.getD ((i+1) % row.length) 0)
def bhL(ts:Ab):Aa:=ts.flatMap λrow=>bhR row row.length
def Orb(B:Aa)(d:Int)(row:Ac):Prop:=row[0]?=some d/\row.Nodup/\(∀ i x y,row[i]?=some x->row[i+1]?=some y->(x,y)∈B)/\∀ x,row[row.length - 1]?=some x->(x,d)∈B
def fv(B:Aa):Nat->Ab->Prop
 | 0,R=>R=[]
 | k+1,R=>∃ R',fv B k R'/\(((k:Int)∈R'.flatten/\R=R')\/((k:Int)∉R'.flatten/\∃ row,Orb B k row/\R=R'++[row]))
structure JagAt (H0:Hp) (r:Addr) (H:Hp) (ys:List V) (L:Ab):Prop where
 tab:H r=some (.lst ys)
 rows:Bears (LiV r H) ys L
 nd:ys.Nodup
 new:∀ A,V.ref A∈ys->H0 A=none
def RdW(ps:Aa)(ts:Ab)(R:Ab):Prop:=(ps.length=0/\R=[[]])\/(0<ps.length/\fv (bhL ts) (2 * ps.length) R)
def plR(row:Ac)(k:Int):Aa:=row.map λd=>(d,k)
def ft(ts:Ab):Nat->Aa
 | 0=>[]
 | i+1=>ft ts i++plR (ts.getD i []) i
def Flat(n:Int)(ps:Aa)(R:Ab):Prop:=DU n ps/\n - (ps.length:Int)+(R.length:Int)=2
def fq(R:Ab)(d:Int):Int:=((ft R R.length).find? λp=>decide (p.1=d)).elim 0 (·.2)
def Hq(R:Ab)(m:Nat):Aa:=(List.range m).map λ(k:Nat)=>(fq R (2 * (k:Int)),fq R (2 * (k:Int)+1))
section
variable{one d0 d1:Int}{other:Option Int}
def i5(one:Int)(other:Option Int)(d0 d1 y:Int):Int:=if y=one then d0 else if some y=other then d1 else y
end
structure Back (n:Nat) (ps:Aa) (ts R D:Ab):Prop where
 flat:Flat n ps R
 few:R.length<=14
 rows:∀ l∈R,l.length<64
 good:Zv R.length (Hq R ps.length)
 vt:VT R.length (Hq R ps.length) R
 rds:RdW (Hq R ps.length) R D
 fo:Flat R.length (Hq R ps.length) D
 len:D.length=n
 good2:Zv n (Hq D ps.length)
 tc:∀ c,TC n ps c->TC n (Hq D ps.length) c
 nd:D.flatten.Nodup
 all:∀ x:Int,0<=x->x<2 * (ps.length:Int)->x∈D.flatten
 small:D.flatten.length<=100
end My
namespace L2
open PySem PySem.Spec PyProof.Rows
section
variable{X:Cx}{a b:Expr}
theorem pW:WH X (compareOp .IsNot) (λx y H Q=>∃ a b:Bool,x=.bl a/\y=.bl b/\Q (.bl (!decide (a=b))) H):=by intro pins s σ H x y v u Q I rx ry h;obtain⟨a,b,rfl,rfl,q⟩:=h;cases rx;cases ry;refine PySem.wpAny_isNot_plain rfl (ZG I q ?_);cases a <;> cases b <;> rfl
end
end L2
namespace My
open PySem L2
def nT(i:Int):Str:=Str.ofString (toString i)
def Told(l:Ac):Prop:=∀ z∈l,-(10 ^ 60)<z/\z<(10:Int) ^ 60
abbrev Tr:=Int × Aa × Ac
def fk(T:Tr):Prop:=Zv T.1 T.2.1/\T.2.2.length=T.2.1.length/\Told T.2.2
def pV(C:Addr)(H:Hp)(v:V)(T:Tr):Prop:=∃ t w a,v=.ref t/\H t=some (.tup [.ref w,.ref a])/\WebAt C H w T.1 T.2.1/\H a=some (.lst (IL T.2.2))
def pU(H:Hp)(v:V)(T:Tr):Prop:=∃ p l b xs,v=.ref p/\H p=some (.tup [.int T.1,.ref l,.ref b])/\H l=some (.lst xs)/\PairsV H xs T.2.1/\H b=some (.lst (IL T.2.2))
def pT (C:Addr) (H:Hp) (x d:Addr) (zs:List V):Prop:=∃ dx,H x=some (.ins C dx (XO "stages" (.ref d) []))/\H d=some (.lst zs)
structure DSt (CD C:Addr) (H:Hp) (x d pA:Addr) (zs ys:List V) (L M:List Tr):Prop where
 desk:pT CD H x d zs
 st:Bears (pV C H) zs L
 pst:H pA=some (.lst ys)
 past:Bears (pU H) ys M
 okL:∀ T∈L,fk T
 okM:∀ T∈M,fk T
 posL:0<L.length
 posM:0<M.length
end My
namespace L2
open PySem PySem.Spec PyProof.Rows
section
variable{H:Hp}{e C:Addr}{fl:Value}{h0:Heap}
structure FlyM (h0:Heap) (H:Hp) (e C:Addr) (fl:Value) (h:Heap):Prop where
 ex:∃ oe vs T oT ts a0,h.get? e=some oe/\oe.cls=.ref C/\oe.data=.fields vs/\vs[0]?=some a0/\vs[1]?=some (.ref T)/\T≠e/\h.get? T=some oT/\oT.data=.fields ts/\ts[3]?=some fl/\h0.get? T=none/\H T=none
 new:h0.get? e=none
 free:H e=none
end
end L2
namespace My
open PySem PySem.W PyProof.Rows
def UK{α:Type}(c:Nat->Nat->Bool):KasT α->α
 | .ret a=>a
 | .ask i j k=>UK c (k (c i j))
theorem Rp{α β:Type}{c:Nat->Nat->Bool}{f:α->KasT β}:∀ t:KasT α,UK c (t.bind f)=UK c (f (UK c t))
 | .ret _=>rfl
 | .ask i j k=>Rp (k (c i j))
section
variable{n:Nat}{key:Nat->Int}
def Ahd(key:Nat->Int)(i j:Nat):Prop:=key i<key j\/(key i=key j/\i<j)
theorem Ahd.trans{i j k:Nat}(h1:Ahd key i j)(h2:Ahd key j k):Ahd key i k:=by unfold Ahd at *;grind
structure Ord (n m:Nat) (p:Array Nat):Prop where
 perm:p.Perm (List.range n).toArray
 suf:∀ i,m<=i->i<n->p.getD i 0=i
theorem Ord.size{m:Nat}{p:Array Nat}(h:Ord n m p):p.size=n:=by rw[h.perm.size_eq];simp
theorem Nl{p:Array Nat}{i:Nat}(h:i<p.size):p[i]?=some (p.getD i 0):=by rw[YA,YE h];rfl
theorem Ord.inj{m:Nat}{p:Array Nat}(h:Ord n m p){i j:Nat}(hi:i<n)(hj:j<n)(e:p.getD i 0=p.getD j 0):i=j:=by
 have hn:p.toList.Nodup:=(Ou.mp h.perm).nodup_iff.mpr List.nodup_range;have hs:=h.size
 have e1:=Nl (p:=p) (i:=i) (by lia);have e2:=Nl (p:=p) (i:=j) (by lia)
 rw[<- YU]at e1 e2;exact(xf (i:=i) (j:=j) (by rw[YD];omega) hn).mp (by rw[e1,e2,e])
theorem Ord.lt{m:Nat}{p:Array Nat}(h:Ord n m p)(hm:m<=n){i:Nat}(hi:i<m):p.getD i 0<m:=by
 by_cases hc:p.getD i 0<m
 .exact hc
 .have hs:=h.size;have hb:p.getD i 0<n:=by have e1:=Nl (p:=p) (i:=i) (by grind);rw[<- YU]at e1;exact YI.mp ((Ou.mp h.perm).mem_iff.mp (Xg e1))
  have e:=h.inj (by lia) hb (h.suf _ (by omega) hb).symm;grind
theorem Ord.mono{m k:Nat}{p:Array Nat}(h:Ord n m p)(hk:m<=k):Ord n k p:=⟨h.perm,λi hi=>h.suf i (by lia)⟩
theorem OG{p:Array Nat}{i j k:Nat}(hj:j<=p.size):(kas_rev p i j).getD k 0=if i<=k/\k<j then p.getD (i+j - 1 - k) 0 else p.getD k 0:=by unfold kas_rev;rw[YA,getElem?_mirror_all hj,apply_ite (λo:Option Nat=>o.getD 0),<- YA,<- YA]
theorem Ord.rev{m i j:Nat}{p:Array Nat}(h:Ord n m p)(hj:j<=m)(hm:m<=n):Ord n m (kas_rev p i j):=by have hs:=h.size;refine⟨(mirror_perm _ _ _ _).trans h.perm,λk hk hn=>?_⟩;rw[OG (by lia),if_neg (by lia)];exact h.suf k hk hn
def Asc(key:Nat->Int)(m:Nat)(p:Array Nat):Prop:=∀ i j,i<j->j<m->Ahd key (p.getD i 0) (p.getD j 0)
theorem Asc.more{m:Nat}{p:Array Nat}(hm:1<=m)(h:Asc key m p)(h2:Ahd key (p.getD (m - 1) 0) (p.getD m 0)):Asc key (m+1) p:=λi j Uv hj=>by
 by_cases e:j=m
 .subst e;by_cases e2:i=j - 1
  .rw[e2];exact h2
  .exact(h i (j - 1) (by lia) (by omega)).trans h2
 .exact h i j Uv (by lia)
theorem Jk:∀(f m:Nat) (p:Array Nat),m+f=n->1<=m->Ord n m p->Asc key m p->∃ k,UK (λi j=>decide (key i<key j)) (kas_asc p f m)=k/\m<=k/\k<=n/\Asc key k p/\(k<n->key (p.getD k 0)<key (p.getD (k - 1) 0))
 | 0,m,p,hf,h1,ho,ha=>⟨m,rfl,XM _,by lia,ha,λh=>by lia⟩
 | f+1,m,p,hf,h1,ho,ha=>by
  show ∃ k,UK _ (if decide (key (p.getD m 0)<key (p.getD (m - 1) 0))=true then KasT.ret m else kas_asc p f (m+1))=k/\_;by_cases hc:key (p.getD m 0)<key (p.getD (m - 1) 0)
  .rw[if_pos (Yx hc)];exact⟨m,rfl,XM _,by lia,ha,λ_=>hc⟩
  .rw[if_neg (λz=>hc (Yu z))];have e:=ho.suf m (XM _) (by lia)
   have l:=ho.lt (by lia) (i:=m - 1) (by lia);obtain⟨k,e1,e2,e3,e4,e5⟩:=Jk f (m+1) p (by lia) (by lia) (ho.mono (by lia)) (ha.more h1 (by unfold Ahd;rw[e]at hc ⊢;lia));exact⟨k,e1,by lia,e3,e4,e5⟩
structure Dsc (key:Nat->Int) (m g:Nat) (p:Array Nat):Prop where
 le:g+1<=m
 old:∀ i j,i<j->j<m - (g+1)->Ahd key (p.getD j 0) (p.getD i 0)
 mid:∀ i j,i<m - (g+1)->m - (g+1)<=j->j<m->key (p.getD j 0)<key (p.getD i 0)
 own:∀ i j,m - (g+1)<=i->i<j->j<m->key (p.getD i 0)=key (p.getD j 0)/\p.getD i 0<p.getD j 0
def Fall(key:Nat->Int)(m:Nat)(p:Array Nat):Prop:=∀ i j,i<j->j<m->Ahd key (p.getD j 0) (p.getD i 0)
theorem Dsc.turn{m g:Nat}{p:Array Nat}(h:Dsc key m g p)(hs:m<=p.size):Fall key m (kas_rev p (m - (g+1)) m):=λi j Uv hj=>by
 have hl:=h.le;rw[OG hs,OG hs];by_cases c1:m - (g+1)<=j
 .rw[if_pos ⟨c1,hj⟩];by_cases c2:m - (g+1)<=i
  .rw[if_pos ⟨c2,by lia⟩];exact .inr (h.own (m - (g+1)+m - 1 - j) (m - (g+1)+m - 1 - i) (by omega) (by omega) (by lia))
  .rw[if_neg (by lia)];exact .inl (h.mid i _ (by lia) (by lia) (by lia))
 .rw[if_neg (by lia),if_neg (by lia)];exact h.old i j Uv (by lia)
theorem Dsc.last{m g:Nat}{p:Array Nat}(h:Dsc key m g p)(hs:m<=p.size):key ((kas_rev p (m - (g+1)) m).getD (m - 1) 0)=key (p.getD (m - 1) 0):=by
 have hl:=h.le;rw[OG hs,if_pos (by grind)];by_cases e:g=0
 .congr 2;grind
 .exact(h.own (m - (g+1)+m - 1 - (m - 1)) (m - 1) (by omega) (by omega) (by lia)).1
theorem Dsc.fall{m:Nat}{p:Array Nat}(h:Dsc key m 0 p):Fall key m p:=λi j Uv hj=>by
 have hl:=h.le;by_cases e:j<m - (0+1)
 .exact h.old i j Uv e
 .exact .inl (h.mid i j (by grind) (by lia) hj)
theorem Fall.new{m:Nat}{p:Array Nat}(hm:1<=m)(h:Fall key m p)(hk:key (p.getD m 0)<key (p.getD (m - 1) 0)):Dsc key (m+1) 0 p:=by
 refine⟨by lia,λi j Uv hj=>h i j Uv (by lia),λi j hi h1 h2=>?_,λi j h1 h2 h3=>by grind⟩;have e:j=m:=by lia
 subst e;by_cases c:i=j - 1
 .rw[c];exact hk
 .have:=h i (j - 1) (by lia) (by omega)
  unfold Ahd at this;omega
theorem Fall.rev{m:Nat}{p:Array Nat}(h:Fall key m p)(hs:m<=p.size):Asc key m (kas_rev p 0 m):=λi j Uv hj=>by rw[OG hs,OG hs,if_pos ⟨Yn _,by lia⟩,if_pos ⟨Yn _,hj⟩];exact h _ _ (by omega) (by omega)
theorem Asc.rev{m:Nat}{p:Array Nat}(h:Asc key m p)(hs:m<=p.size):Fall key m (kas_rev p 0 m):=λi j Uv hj=>by rw[OG hs,OG hs,if_pos ⟨Yn _,hj⟩,if_pos ⟨Yn _,by omega⟩];exact h _ _ (by omega) (by omega)
theorem Nk:∀(f m g:Nat) (p:Array Nat),m+f=n->Ord n m p->Dsc key m g p->∃ p' m' g',UK (λi j=>decide (key i<key j)) (kas_desc f p m g)=(p',m',g')/\m<=m'/\m'<=n/\Ord n m' p'/\Dsc key m' g' p'
 | 0,m,g,p,hf,ho,hd=>⟨p,m,g,rfl,XM _,by omega,ho,hd⟩
 | f+1,m,g,p,hf,ho,hd=>by
  have hl:=hd.le;have hs:=ho.size
  have em:=ho.suf m (XM _) (by lia);have ll:=ho.lt (by lia) (i:=m - 1) (by lia)
  show ∃ p' m' g',UK _ (if decide (key (p.getD m 0)<key (p.getD (m - 1) 0))=true then (if g > 0 then kas_desc f (kas_rev p (m - (g+1)) m) (m+1) 0 else kas_desc f p (m+1) 0) else KasT.ask (p.getD (m - 1) 0) (p.getD m 0) λd=>if d=true then .ret (p,m,g) else kas_desc f p (m+1) (g+1))=_/\_;by_cases hc:key (p.getD m 0)<key (p.getD (m - 1) 0)
  .rw[if_pos (Yx hc)];by_cases hg:g > 0
   .rw[if_pos hg];have hr:=ho.rev (i:=m - (g+1)) (XM m) (by lia)
    have em2:=hr.suf m (XM _) (by lia);obtain⟨p',m',g',e1,e2,e3,e4,e5⟩:=Nk f (m+1) 0 (kas_rev p (m - (g+1)) m) (by lia) (hr.mono (by lia)) ((hd.turn (by lia)).new (by lia) (by rw[hd.last (by omega),em2];rw[em]at hc;exact hc));exact⟨p',m',g',e1,by lia,e3,e4,e5⟩
   .rw[if_neg hg];obtain rfl:g=0:=by lia
    obtain⟨p',m',g',e1,e2,e3,e4,e5⟩:=Nk f (m+1) 0 p (by omega) (ho.mono (by omega)) (hd.fall.new (by lia) hc);exact⟨p',m',g',e1,by lia,e3,e4,e5⟩
  .rw[if_neg (λz=>hc (Yu z))];show ∃ p' m' g',UK _ (if decide (key (p.getD (m - 1) 0)<key (p.getD m 0))=true then KasT.ret (p,m,g) else kas_desc f p (m+1) (g+1))=_/\_
   by_cases VD:key (p.getD (m - 1) 0)<key (p.getD m 0)
   .rw[if_pos (Yx VD)];exact⟨p,m,g,rfl,XM _,by omega,ho,hd⟩
   .rw[if_neg (λz=>VD (Yu z))];have ek:key (p.getD (m - 1) 0)=key (p.getD m 0):=by lia
    obtain⟨p',m',g',e1,e2,e3,e4,e5⟩:=Nk f (m+1) (g+1) p (by omega) (ho.mono (by omega)) ⟨by lia,λi j h1 h2=>hd.old i j h1 (by lia),λi j h1 h2 h3=>by
     by_cases c:j=m
     .rw[c,<- ek];exact hd.mid i (m - 1) (by lia) (by grind) (by lia)
     .exact hd.mid i j (by lia) (by lia) (by lia),λi j h1 h2 h3=>by
     by_cases c:j=m
     .rw[c];by_cases c2:i=m - 1
      .rw[c2,em];rw[em]at ek;exact⟨ek,ll⟩
      .have:=hd.own i (m - 1) (by lia) (by lia) (by omega)
       rw[em];rw[em]at ek;exact⟨this.1.trans ek,by lia⟩
     .exact hd.own i j (by lia) h2 (by omega)⟩
    exact⟨p',m',g',e1,by lia,e3,e4,e5⟩
theorem fj{m:Nat}{p:Array Nat}(hm:1<=m)(hn:m<=n)(ho:Ord n m p)(hf:Fall key m p):∃ k p',UK (λi j=>decide (key i<key j)) (kas_tail3 m n p)=(k,p')/\1<=k/\k<=n/\Ord n k p'/\Asc key k p':=by
 have hs:=ho.size;unfold kas_tail3;rw[Rp];have hr:=ho.rev (i:=0) (XM m) hn
 obtain⟨k,e1,e2,e3,e4,_⟩:=Jk (n - m) m (kas_rev p 0 m) (by grind) hm hr (hf.rev (by lia));rw[e1];exact⟨k,_,rfl,by lia,e3,hr.mono e2,e4⟩
theorem fi{m:Nat}{p:Array Nat}(hm:1<=m)(hn:m<n)(ho:Ord n m p)(hf:Fall key m p)(hk:key (p.getD m 0)<key (p.getD (m - 1) 0)):∃ k p',UK (λi j=>decide (key i<key j)) (kas_descPart m n p)=(k,p')/\1<=k/\k<=n/\Ord n k p'/\Asc key k p':=by
 unfold kas_descPart;rw[Rp];obtain⟨p',m',g',e1,e2,e3,e4,e5⟩:=Nk (n - (m+1)) (m+1) 0 p (by grind) (ho.mono (by lia)) (hf.new hm hk);rw[e1];have hs:=e4.size
 show ∃ k q,UK _ (if g' > 0 then kas_tail3 m' n (kas_rev p' (m' - (g'+1)) m') else kas_tail3 m' n p')=_/\_;by_cases hg:g' > 0
 .rw[if_pos hg];exact fj (by lia) e3 (e4.rev (XM _) e3) (e5.turn (by lia))
 .rw[if_neg hg];obtain rfl:g'=0:=by lia
  exact fj (by lia) e3 e4 e5.fall
theorem pS{p:Array Nat}(hn:1<=n)(ho:Ord n 1 p):∃ k p',UK (λi j=>decide (key i<key j)) (kas_count n p)=(k,p')/\1<=k/\k<=n/\Ord n k p'/\Asc key k p':=by
 unfold kas_count;rw[Rp];obtain⟨k,e1,e2,e3,e4,e5⟩:=Jk (key:=key) (n - 1) 1 p (by lia) (XM _) ho λi j h1 h2=>by lia
 rw[e1];have hs:=ho.size
 have hk:=ho.mono e2;by_cases c:k=n
 .rw[if_pos (by rw[c];exact Oj n)];exact⟨k,p,rfl,e2,e3,hk,e4⟩
 .rw[if_neg (λz=>c (SW.mp z))];have Xi:k<n:=by lia
  have h5:=e5 Xi;by_cases c1:k > 1
  .rw[if_pos c1];show ∃ k' p',UK _ (if decide (key (p.getD 0 0)<key (p.getD (k - 1) 0))=true then KasT.ret (k,p) else kas_descPart k n (kas_rev p 0 k))=_/\_
   by_cases c2:key (p.getD 0 0)<key (p.getD (k - 1) 0)
   .rw[if_pos (Yx c2)];exact⟨k,p,rfl,e2,e3,hk,e4⟩
   .rw[if_neg (λz=>c2 (Yu z))];have a0:=e4 0 (k - 1) (by lia) (by lia)
    have eq:key (p.getD 0 0)=key (p.getD (k - 1) 0):=by unfold Ahd at a0;grind
    have hr:=hk.rev (i:=0) (XM k) (by lia);refine fi e2 Xi hr (e4.rev (by lia)) ?_;rw[OG (by omega),OG (by omega),if_neg (by lia),if_pos (by lia),show 0+k - 1 - (k - 1)=0 by lia,eq];exact h5
  .rw[if_neg c1];obtain rfl:k=1:=by lia
   exact fi (XM _) Xi hk (λi j h1 h2=>by lia) h5
theorem Jj{p:Array Nat}{k:Nat}(hk:Asc key k p):∀(f l r:Nat),r - l<=f->l<=r->r<=k->(∀ i,i<l->¬ key (p.getD k 0)<key (p.getD i 0))->(∀ i,r<=i->i<k->key (p.getD k 0)<key (p.getD i 0))->∃ l',UK (λi j=>decide (key i<key j)) (kas_place p k f l r)=l'/\l'<=k/\(∀ i,i<l'->¬ key (p.getD k 0)<key (p.getD i 0))/\(∀ i,l'<=i->i<k->key (p.getD k 0)<key (p.getD i 0))
 | 0,l,r,hf,h1,h2,ha,hb=>⟨l,rfl,by lia,ha,λi hi=>hb i (by grind)⟩
 | f+1,l,r,hf,h1,h2,ha,hb=>by
  have mono:∀ i j,i<=j->j<k->key (p.getD i 0)<=key (p.getD j 0):=λi j Uv hj=>by
   by_cases e:i=j
   .rw[e];exact Mh _
   .have:=hk i j (by lia) hj
    unfold Ahd at this;lia
  unfold kas_place;by_cases c:l >= r
  .rw[if_pos c];exact⟨l,rfl,by lia,ha,λi hi=>hb i (by lia)⟩
  .rw[if_neg c];show ∃ l',UK _ (if decide (key (p.getD k 0)<key (p.getD ((l+r) / 2) 0))=true then kas_place p k f l ((l+r) / 2) else kas_place p k f ((l+r) / 2+1) r)=l'/\_
   by_cases c2:key (p.getD k 0)<key (p.getD ((l+r) / 2) 0)
   .rw[if_pos (Yx c2)];exact Jj hk f l ((l+r) / 2) (by grind) (by lia) (by lia) ha λi hi qB=>by
     have:=mono ((l+r) / 2) i hi qB
     omega
   .rw[if_neg (λz=>c2 (Yu z))];exact Jj hk f ((l+r) / 2+1) r (by grind) (by lia) (by lia) (λi hi=>by
     have:=mono i ((l+r) / 2) (by lia) (by lia)
     omega) hb
theorem Ji{p:Array Nat}{k d x:Nat}(hk:k<p.size)(hd:d<=k):(bubble p k d).getD x 0=if x=k - d then p.getD k 0 else if k - d<x/\x<=k then p.getD (x - 1) 0 else p.getD x 0:=by rw[YA,getElem?_bubble hk d hd,apply_ite (λo:Option Nat=>o.getD 0),apply_ite (λo:Option Nat=>o.getD 0),<- YA,<- YA,<- YA]
theorem CS:∀(f k:Nat) (p:Array Nat),k+f=n->Ord n k p->Asc key k p->∃ p',UK (λi j=>decide (key i<key j)) (kas_bin f p k)=p'/\Ord n n p'/\Asc key n p'
 | 0,k,p,hf,ho,ha=>by
  obtain rfl:k=n:=by lia
  exact⟨p,rfl,ho,ha⟩
 | f+1,k,p,hf,ho,ha=>by
  have hs:=ho.size;have ek:=ho.suf k (XM _) (by lia)
  unfold kas_bin;rw[Rp];obtain⟨l,e1,e2,e3,e4⟩:=Jj ha k 0 k (by lia) (by lia) (XM _) (λi hi=>by lia) λi hi VB=>by grind
  rw[e1];refine CS f (k+1) (bubble p k (k - l)) (by lia) ⟨(bubble_perm _ _ _).trans ho.perm,λi hi hn=>?_⟩ λi j Uv hj=>?_
  .rw[Ji (by lia) (by grind),if_neg (by lia),if_neg (by lia)];exact ho.suf i (by lia) hn
  .have low:∀ x,x<k->p.getD x 0<k:=λx hx=>ho.lt (by lia) hx;rw[Ji (by lia) (by grind),Ji (by omega) (by omega)];have ekl:k - (k - l)=l:=by grind
   rw[ekl];by_cases c1:i=l
   .rw[if_pos c1,if_neg (by lia),if_pos (by lia)];exact .inl (e4 (j - 1) (by grind) (by grind))
   .rw[if_neg c1];by_cases c2:j=l
    .rw[if_pos c2,if_neg (by lia)];have a:=e3 i (by grind)
     have b:=low i (by lia);rw[ek]at a ⊢;unfold Ahd;lia
    .rw[if_neg c2];by_cases c3:l<i
     .rw[if_pos ⟨c3,by lia⟩,if_pos ⟨by lia,by lia⟩];exact ha _ _ (by grind) (by grind)
     .rw[if_neg (by lia)];by_cases c4:l<j
      .rw[if_pos ⟨c4,by omega⟩];exact ha _ _ (by lia) (by grind)
      .rw[if_neg (by lia)];exact ha _ _ Uv (by lia)
theorem Nj(hn:1<=n):∃ p,UK (λi j=>decide (key i<key j)) (kas_sort n)=p/\p.toList.Perm (List.range n)/\p.toList.Pairwise (Ahd key):=by
 have fin:∀ p,Ord n n p->Asc key n p->p.toList.Perm (List.range n)/\p.toList.Pairwise (Ahd key):=λp ho ha=>by
  have hs:=ho.size;refine⟨Ou.mp ho.perm,Ij.mpr λi j hi hj Uv=>?_⟩;rw[YD]at hi hj
  have:=ha i j Uv (by lia)
  rw[YA,YA,YE hi,YE hj]at this;exact this
 unfold kas_sort;rw[Rp];obtain⟨k,p,e1,e2,e3,e4,e5⟩:=pS (key:=key) hn (p:=(List.range n).toArray) ⟨Array.Perm.refl _,λi _ hi=>by simp[Array.getD,hi]⟩;rw[e1];show ∃ q,UK _ (if k<n then kas_bin (n - max k 1) p (max k 1) else .ret p)=q/\_
 by_cases c:k<n
 .rw[if_pos c,Nat.max_eq_left e2];obtain⟨q,h1,h2,h3⟩:=CS (n - k) k p (by grind) e4 e5;exact⟨q,h1,fin q h2 h3⟩
 .rw[if_neg c];obtain rfl:k=n:=by lia
  exact⟨p,rfl,fin p e4 e5⟩
end
end My
namespace L2
open PySem PySem.Spec PyProof.Rows
def PB(P:Program)(w:World)(K:Ad)(mg:Af)(base:Heap)(N:List Str)(qual:Str)(scope:Scope)(f:Addr)(cd:Value)(cl:List (Str × Addr))(A:Around)(outer:List Env)(s:Shared)(H:Hp):Cx where
 prog:=P
 w:=w
 K:=K
 mg:=mg
 base:=base
 A:=A.deeper (PySem.W.envX qual scope s.heap.objs.size f cd cl)
 N:=N
 s₀:=s
 H₀:=H
 env:=PySem.W.envX qual scope s.heap.objs.size f cd cl
 outer:=outer
 stack:=PySem.W.envX qual scope s.heap.objs.size f cd cl :: outer
 ex:=[]
 calm:=true
 fn:=λ_=>false
 pn:=[]
 xe:=λ_ _=>False
structure LamScope (v x:Str) (sc:Scope):Prop where
 kind:sc.kind=.function
 co:sc.isCoroutine=false
 gen:sc.isGenerator=false
 nocell:∀ y∈sc.names,y.2≠.cell
 par:sc.names.lookup v=some .local
 free:sc.names.lookup x=some .free
 only:∀ y,sc.names.lookup y=some .free->y=x
 ne:v≠x
section
variable{P:Program}{w:World}{K:Ad}{mg:Af}{base:Heap}{qual name v x:Str}{scope:Scope}{f c c':Addr}{cd pm Si u ux:Value}{A:Around}{outer:List Env}{s:Shared}{H:Hp}{vv vx:V}{params:Arguments}{body:Expr}{k:Nat}{t:TE}{Q:VK}
theorem Ni{y:Str}{c2:Addr}(h:List.lookup y [(x,c)]=some c2):y=x/\c2=c:=by
 unfold List.lookup at h;split at h
 .rename_i e;exact⟨SW.mp e,(Yi h).symm⟩
 .cases h
theorem pR(S:LamScope v x scope)(hd:A.handled=none)(e0:Env0 P w K mg base A outer s H)(hc:s.heap.IsCell c (some ux))(rx:RelV vx ux)(pQ:H c=none)(rv:RelV vv u){h1:Heap}{tk:Nat}
  (VU:h1.Ns s.heap.objs.size λy=>[(v,u)].reverse.lookup y) (hk:∀ b o,s.heap.get? b=some o->h1.get? b=some o) :
  Inv (PB P w K mg base [v,x] qual scope f cd [(x,c)] A outer s H) [] [some vv,some vx] H { s with heap:=h1,toks:=tk }:=by
 have Ki:∀ b:Addr,b∉(PB P w K mg base [v,x] qual scope f cd [(x,c)] A outer s H).ex:=λb z=>absurd (show b∈([]:List Addr) from z) (by simp);have fh:h1.IsCell c (some ux):=by obtain⟨o,e,d⟩:=hc;exact⟨o,hk _ _ e,d⟩
 have lk:List.lookup x [(x,c)]=some c:=by unfold List.lookup;rw[Oj]
 refine⟨⟨e0.mod,S.kind,rfl,rfl,XM _,λy z c2 h1 h2=>?_,λy hy=>?_,λy c2 z _=>(nomatch z),λ_=>hd,Around.frames_deeper e0.frames,.inr ⟨rfl,rfl⟩,λb z=>absurd z (Ki b),e0.bs,e0.bsz,λb _ _=>Ki b,λb z=>absurd z (Ki b),e0.funs,e0.frf⟩,
  rfl,e0.bare,Un.kept hk,⟨_,VU,λi y v' h1 h2 h3=>?_⟩,λy c2 h=>?_,e0.hok.fresh (XM _),λy c2 h=>?_,λp hp=>absurd (show p∈([]:List (Addr × Obj)) from hp) (by simp),e0.hok.kept hk,rfl⟩
 .rw[(Ni h1).1,(Ni h2).1]
 .have hy:scope.names.lookup y=some .cell\/scope.names.lookup y=some .free:=hy;rcases hy with hy | hy
  .exact absurd rfl (S.nocell _ (Lj hy))
  .rw[S.only y hy];exact⟨c,lk⟩
 .match i,h1,h2 with
  | 0,h1,h2 =>
   obtain rfl:v=y:=Yi h1;obtain rfl:vv=v':=Yi (Yi h2);refine⟨u,rv,.inl ⟨S.par,?_⟩⟩;show List.lookup v [(v,u)]=some u
   unfold List.lookup;rw[Oj]
  | 1,h1,h2 =>
   obtain rfl:x=y:=Yi h1;obtain rfl:vx=v':=Yi (Yi h2);exact⟨ux,rx,.inr ⟨.inr S.free,c,lk,fh⟩⟩
  | i+2,h1,h2=>cases h1
 .rw[(Ni h).2];exact⟨_,fh⟩
 .rw[(Ni h).2];exact pQ
theorem CQ(S:LamScope v x scope)(hr:Room (k+1) A)(e0:Env0 P w K mg base A outer s H)(ho:s.heap.get? f=some (PySem.W.kla_obj name qual params body scope [(x,c)] pm c' Si))(Ui:s.heap.CodeRec (.ref c') qual)
  (Tv:bindArgs (PySem.W.kla_fn name qual params body scope [(x,c)] pm (.ref c') Si) ⟨[u],[]⟩=pure [(v,u)]) (hc:s.heap.IsCell c (some ux)) (rx:RelV vx ux) (pQ:H c=none) (rv:RelV vv u)
  (hb:PE (PB P w K mg base [v,x] qual scope f (.ref c') [(x,c)] A outer s H) body t) (hq:t [some vv,some vx] H Q) :
  codeAny (model P w) A (.call (.ref f) ⟨[u],[]⟩) (λr s'=>∃ u',r=.ok (.ret u')/\CE outer P w H s Q u' s') s:=by
 have lim:s.heap.NoLimit:=e0.mod.nolimit.keeps λb o e=>(e0.bs b o e).1;refine PySem.W.kla_callFunE hr.depth ho rfl S.co S.gen rfl Ui ?_;rw[Tv];refine Yk (wpAny_newFunctionEnv S.nocell (λy hy=>?_) (λh1 VU zp=>⟨lim.fresh _ zp,?_⟩) S.kind)
 .rw[XD.mp hy];exact S.par
 have hk:∀ b o,s.heap.get? b=some o->h1.get? b=some o:=λb o e=>zp.extBut b o (Yt (Yl e)) (WZ _ e);have I:Inv (PB P w K mg base [v,x] qual scope f (.ref c') [(x,c)] A outer s H) [] [some vv,some vx] H { s with heap:=h1,toks:=s.toks+[(v,u)].length }:=pR S hr.hd e0 hc rx pQ rv VU hk
 refine PySem.W.kla_codeExpr (Uj (hb [] _ _ H _ I hq) (λu' s' h=>?_) λe s' h=>False.elim h);obtain⟨y,H',J,r,q⟩:=h;exact⟨u',rfl,y,H',J.os,J.bare,J.base,J.hok,r,q⟩
end
end L2
namespace My
open PySem PySem.W PyProof.Rows
def Asks{α:Type}(n:Nat)(R:α->Prop):KasT α->Prop
 | .ret a=>R a
 | .ask i j k=>i<n/\j<n/\∀ b,Asks n R (k b)
theorem Asks.bind{α β:Type}{n:Nat}{R:α->Prop}{S:β->Prop}{f:α->KasT β}:∀ {t:KasT α},Asks n R t->(∀ a,R a->Asks n S (f a))->Asks n S (t.bind f)
 | .ret a,h,hf=>hf a h
 | .ask _ _ _,h,hf=>⟨h.1,h.2.1,λb=>Asks.bind (h.2.2 b) hf⟩
theorem goT_wp'{α:Type}{n:Nat}{R:α->Prop}{c:Nat->Nat->Bool}{cmp:Nat->Nat->(Bool->Shared->Prop)->Shared->Prop}{J:Shared->Prop}(h:∀ i j C s,i<n->j<n->J s->(∀ s',J s'->C (c i j) s')->cmp i j C s){Q:α->Shared->Prop}:∀(t:KasT α) (s:Shared),Asks n R t->J s->(∀ s',J s'->Q (UK c t) s')->t.kasWp cmp Q s
 | .ret _,s,_,hs,q=>q s hs
 | .ask i j k,s,ha,hs,q=>h i j _ s ha.1 ha.2.1 hs λs' OQ=>goT_wp' h (k (c i j)) s' (ha.2.2 _) OQ q
section
variable{n:Nat}
def Bd(n:Nat)(p:Array Nat):Prop:=p.Perm (List.range n).toArray
theorem Bd.lt{p:Array Nat}(h:Bd n p)(hn:1<=n)(i:Nat):p.getD i 0<n:=by
 by_cases hi:i<p.size
 .have e1:=Nl (p:=p) hi;rw[<- YU]at e1;exact YI.mp ((Ou.mp h).mem_iff.mp (Xg e1))
 .rw[YA,Az (by lia)];exact hn
theorem Bd.rev{p:Array Nat}(h:Bd n p)(i j:Nat):Bd n (kas_rev p i j):=(mirror_perm _ _ _ _).trans h
theorem pP(hn:1<=n){p:Array Nat}(hp:Bd n p):∀ f m:Nat,Asks n (λ_=>True) (kas_asc p f m)
 | 0,m=>trivial
 | f+1,m=>⟨hp.lt hn _,hp.lt hn _,λb=>by
  cases b with
  | true=>exact trivial
  | false=>exact pP hn hp f (m+1)⟩
theorem yw(hn:1<=n):∀(f:Nat) (p:Array Nat) (m q:Nat),Bd n p->Asks n (λr=>Bd n r.1) (kas_desc f p m q)
 | 0,p,m,q,hp=>hp
 | f+1,p,m,q,hp=>⟨hp.lt hn _,hp.lt hn _,λb=>by
  cases b with
  | true =>
   show Asks n _ (if q > 0 then kas_desc f (kas_rev p (m - (q+1)) m) (m+1) 0 else kas_desc f p (m+1) 0);split
   .exact yw hn f _ _ _ (hp.rev _ _)
   .exact yw hn f _ _ _ hp
  | false =>
   refine⟨hp.lt hn _,hp.lt hn _,λd=>?_⟩;cases d with
   | true=>exact hp
   | false=>exact yw hn f _ _ _ hp⟩
theorem fg(hn:1<=n){p:Array Nat}(hp:Bd n p)(m r:Nat):Asks n (λz=>Bd n z.2) (kas_tail3 m r p) :=
 (pP hn (hp.rev _ _) _ _).bind λ_ _=>hp.rev _ _
theorem fc(hn:1<=n){p:Array Nat}(hp:Bd n p)(m r:Nat):Asks n (λz=>Bd n z.2) (kas_descPart m r p) :=
 (yw hn _ p _ _ hp).bind λz hz=>by
  split
  .exact fg hn (hz.rev _ _) _ _
  .exact fg hn hz _ _
theorem Zl7(hn:1<=n){p:Array Nat}(hp:Bd n p)(r:Nat):Asks n (λz=>Bd n z.2) (kas_count r p) :=
 (pP hn hp _ _).bind λz _=>by
  split
  .exact hp
  .split
   .refine⟨hp.lt hn _,hp.lt hn _,λb=>?_⟩;cases b with
    | true=>exact hp
    | false=>exact fc hn (hp.rev _ _) _ _
   .exact fc hn hp _ _
theorem pO(hn:1<=n){p:Array Nat}(hp:Bd n p)(k:Nat):∀ f l r:Nat,Asks n (λ_=>True) (kas_place p k f l r)
 | 0,l,r=>trivial
 | f+1,l,r=>by
  unfold kas_place;split
  .exact trivial
  .refine⟨hp.lt hn _,hp.lt hn _,λb=>?_⟩;cases b with
   | true=>exact pO hn hp k f _ _
   | false=>exact pO hn hp k f _ _
theorem fb(hn:1<=n):∀(f:Nat) (p:Array Nat) (k:Nat),Bd n p->Asks n (λz=>Bd n z) (kas_bin f p k)
 | 0,p,k,hp=>hp
 | f+1,p,k,hp=>(pO hn hp k _ _ _).bind λl _=>fb hn f _ _ ((bubble_perm _ _ _).trans hp)
theorem Ro(hn:1<=n):Asks n (λz=>Bd n z) (kas_sort n) :=
 (Zl7 hn (p:=(List.range n).toArray) (Array.Perm.refl _) n).bind λz hz=>by
  split
  .exact fb hn _ _ _ hz
  .exact hz
end
end My
namespace L2
open PySem PySem.Spec PyProof.Rows PySem.W
def Sh(key:Int->Int)(ns ms:Ac):Prop:=∃ p:List Nat,p.Perm (List.range ns.length)/\p.Pairwise (My.Ahd λi=>key (ns.getD i 0))/\ms=p.map λi=>ns.getD i 0
section
variable{X:Cx}{pins:List (Addr × Obj)}{σ:St}{H:Hp}{s:Shared}{b:Addr}{o:Obj}
theorem Inv.pin1(I:Inv X pins σ H s)(F:FpOk X pins H b)(e:s.heap.get? b=some o)(hd:∀ v,o.data≠.cell v):Inv X (pins++[(b,o)]) σ H s:=I.pins_of λp hp=>by
 rcases Xy.mp hp with hp | hp
 .exact I.pin p (Yc _ hp)
 .rw[XD.mp hp];exact⟨e,F.1,F.2.1,F.2.2.1,hd⟩
theorem FpOk.more{pl:List (Addr × Obj)}(F:FpOk X pins H b)(hn:∀ p∈pl,p.1≠b):FpOk X (pins++pl) H b:=⟨F.1,F.2.1,F.2.2.1,F.2.2.2.1,F.2.2.2.2.1,λp hp=>by
 rcases Xy.mp hp with hp | hp
 .exact F.2.2.2.2.2 p (Yb _ hp)
 .rcases Xy.mp hp with hp | hp
  .exact F.2.2.2.2.2 p (Yc _ hp)
  .exact hn p hp⟩
theorem Inv.changed{h':Heap}{t':Nat}(I:Inv X pins σ H s)(F:FpOk X pins H b)(k:∀ c o,c≠b->s.heap.get? c=some o->h'.get? c=some o):Inv X pins σ H { s with heap:=h',toks:=t' } :=
 I.turned k F.1 F.2.1 F.2.2.2.1 F.2.2.2.2.1 F.2.2.2.2.2
theorem Inv.adopt{u:HO}(I:Inv X pins σ H s)(hex:X.ex=[])(F:FpOk X pins H b)(new:ObjOk X.prog X.w (upd H b u) s.heap b u):Inv X pins σ (upd H b u) s:=by
 have f4:X.s₀.heap.objs.size<=b:=F.2.2.2.1.resolve_left (by rw[hex];simp);have hn:=F.1
 refine⟨I.ok,I.os,I.bare,⟨I.base.keep,I.base.slot,λc o e n hc=>?_,I.base.there,λc xs q=>?_,λc o w q=>?_,λc ps q=>?_⟩,I.loc,I.cell,?_,λx c e=>?_,λp hp=>?_,λc w e=>?_,I.len⟩
 .rw[Zb (Yt (Ym (Yl e) f4))];exact I.base.free c o e n hc
 .have:=I.base.tups c xs q
  rw[Zb (Zc this hn)];exact this
 .have:=I.base.frzs c o w q
  rw[Zb (Zc this hn)];exact this
 .obtain⟨m,this⟩:=I.base.tbls c ps q;exact⟨m,by rw[Zb (Zc this hn)];exact this⟩
 .rw[Zb (YW F.2.1)];exact I.free
 .rw[Zb (F.2.2.2.2.1 x c e)];exact I.freeC x c e
 .have:=I.pin p hp
  exact⟨this.1,by rw[Zb (F.2.2.2.2.2 p hp)];exact this.2.1,this.2.2⟩
 .by_cases hb:c=b
  .subst hb;rw[XS]at e;cases e;exact new
  .rw[Zb hb]at e;exact(I.hok c w e).stay (λ_ _ _ q=>q) (λd q=>by rw[Zb (Zc q hn)];exact q) λd xs q=>by rw[Zb (Zc q hn)];exact q
end
section
variable{X:Cx}{pins:List (Addr × Obj)}{σ:St}{H:Hp}{s:Shared}{a kS:Addr}{A:Around}{E:Ae}{P:PySem.Fin->Shared->Prop}{kA:Array Value}{e e1:Nat}{ns:Ac}{vs:Ag}
theorem e9 {st:SortSt} {out:Ag} (I:Inv X (pins++[(a,seqObj "list" #[] e1),(kS,seqObj "list" kA e)]) σ H s) (Fa:FpOk X pins H a) (Fk:FpOk X pins H kS) (OF:a≠kS) (hz:kA.size<64) (RF:failedOf st=none)
  (Jh:(arrOf st).map (·.2)=out.toArray) (hlen:out.length<64) (h:∀ s' m,Inv X pins σ H s'->s'.heap.get? a=some (seqObj "list" out.toArray m)->P (.done (.ret .none)) s') :
  wpAny (model X.prog X.w) A (ksk_tail a false e1 (.ref kS) st) P E s:=by
 have JK:sizeLine=16777216:=SX;have pa:=(I.pin (a,seqObj "list" #[] e1) (by simp)).1
 have pk:=(I.pin (kS,seqObj "list" kA e) (by simp)).1;have I0:Inv X pins σ H s:=I.unpinned
 have pN:(s.heap.update kS (Obj.mapSeq λ_=>(#[]:Array Value))).get? a=some (seqObj "list" #[] e1):=(YO _ _ (YW OF)).trans pa;obtain⟨m,hm⟩:∃ m,((s.heap.update kS (Obj.mapSeq λ_=>(#[]:Array Value))).update a (Obj.mapSeq λ_=>out.toArray)).get? a=some (seqObj "list" out.toArray m):=⟨_,z7 pN λ_=>out.toArray⟩;unfold ksk_tail;dsimp only;rw[Jh];refine XU (KY pk rfl ?_ (by lia) (Yn _));refine XU (HW ?_);refine XU (seqEpoch_at pN rfl ?_);refine XU (KY pN rfl ?_ (Yn _) (by simp;lia));rw[RF];simp only [bne_self_eq_false,GU,KR];refine Yk (h _ m ?_ hm);have I1:Inv X pins σ H { s with heap:=s.heap.update kS (Obj.mapSeq λ_=>(#[]:Array Value)),toks:=s.toks }:=I0.changed Fk λc o hc q=>(YO _ _ (YW hc)).trans q
 exact I1.changed (t':=s.toks) Fa λc o hc q=>(YO _ _ (YW hc)).trans q
theorem pM:∀ {vs:Ag} {ns:Ac},IntsAre vs ns->∀ i,i<ns.length->∃ t,vs[i]?=some (.int (ns.getD i 0) t)
 | _,_,.nil,i,h=>absurd h (YY _)
 | _,_,.cons n t r,0,h=>⟨t,rfl⟩
 | _,_,.cons n t r,i+1,h=>pM r i (by rw[YB]at h;lia)
end
def Ho(c:Addr)(qual:Str):HO:=.ext λh=>h.CodeRec (.ref c) qual
def TabH(H:Hp)(Pt:Addr)(pos:Pos)(qual:Str):Prop:=∃ ps:Array Value,H Pt=some (.tbl ps)/\TriplesOk ps.toList/\(codeAmong pos ps.toList=none\/∃ c,codeAmong pos ps.toList=some (.ref c)/\H c=some (Ho c qual))
def SameX(Pt:Addr)(H H':Hp):Prop:=∀ b o,b≠Pt->H b=some o->H' b=some o
theorem e8{c:Addr}{qual:Str}(h1 h2:Heap)(r:h1.CodeRec (.ref c) qual)(k:∀ o,h1.get? c=some o->h2.get? c=some o):h2.CodeRec (.ref c) qual:=by obtain⟨c2,o,vs,t,e,g,r⟩:=r;cases e;exact⟨c,o,vs,t,rfl,k _ g,r⟩
section
variable{X:Cx}{pins:List (Addr × Obj)}{σ:St}{H:Hp}{s:Shared}{c Pt cc:Addr}{x:Str}{params:Arguments}{body:Expr}{scope:Scope}{pos:Pos}{E:Ae}{Q:Ae}
theorem Inv.builtinsAt(I:Inv X pins σ H s)(hB:X.base.BuiltinsAt X.mg Pt):s.heap.BuiltinsAt X.mg Pt:=by obtain⟨bm,o,h1,h2,h3,h4,h5,h6⟩:=hB;exact⟨bm,o,h1,h2,h3,h4,I.bk _ _ h5,h6⟩
theorem pL (I:Inv X pins σ H s) (UJ:X.env.code=.ref c) (hC:codeHdIn X.K c Pt=true) (hB:X.base.BuiltinsAt X.mg Pt) (hT:TabH H Pt pos (X.env.qual++Str.ofString "<lambda>")) (Ud:closureFor scope X.env=pure [(x,cc)]) (Jg:defaultsOf params X.env=([],[])) (CO:mainGlobals≠Pt)
  (h:∀ f c' pm Si s' H',SameX Pt H H'->TabH H' Pt pos (X.env.qual++Str.ofString "<lambda>")->FpOk X pins H' f->Inv X pins σ H' s'->s'.heap.get? f=some (kla_obj (Str.ofString "<lambda>") (X.env.qual++Str.ofString "<lambda>") params body scope [(x,cc)] pm c' Si)->H' c'=some (Ho c' (X.env.qual++Str.ofString "<lambda>"))->Q (.ref f) s') :
  wpAny (model X.prog X.w) X.A (eval (.Lambda params body scope pos) X.env) Q E s:=by
 obtain⟨ps,hP,CN,CM⟩:=hT;have UU:s.heap.get? Pt=some (tabObj ps):=I.hok Pt _ hP
 have VU:s.heap.Ns mainGlobals X.mg:=I.mod.glob.keeps I.bk;have eZ:=codeHd_of_K I.kIn hC
 refine kla_eval Jg ?_;rcases CM with eY | ⟨c',hf,WI⟩
 .refine kla_makeFunction Ud I.ok.glob VU UJ eZ UU CN eY CO (I.builtinsAt hB) λc' Si h' tk hx PF Xi Nh eX=>?_;have eW:Pt<s.heap.objs.size:=Yl UU
  have yt:H c'=none:=I.hok.fresh PF;have eV:c'≠Pt:=RW (Ym eW PF)
  have keep:∀ b o,b≠Pt->s.heap.get? b=some o->(h'.push (kla_obj (Str.ofString "<lambda>") (X.env.qual++Str.ofString "<lambda>") params body scope [(x,cc)] ((X.mg "__name__").getD .none) c' Si)).get? b=some o:=λb o hb e=>WZ _ (hx b o hb e);have sx:SameX Pt H (upd (upd H Pt (.tbl (ps++#[rawInt pos.line,rawInt pos.col,.ref c']))) c' (Ho c' (X.env.qual++Str.ofString "<lambda>"))):=λb o hb e=>by rw[Zb (Zc e yt),Zb hb];exact e
  have tb:TabH (upd (upd H Pt (.tbl (ps++#[rawInt pos.line,rawInt pos.col,.ref c']))) c' (Ho c' (X.env.qual++Str.ofString "<lambda>"))) Pt pos (X.env.qual++Str.ofString "<lambda>"):=by
   have et:(ps++#[rawInt pos.line,rawInt pos.col,Value.ref c']).toList=ps.toList++[rawInt pos.line,rawInt pos.col,.ref c']:=by simp
   refine⟨ps++#[rawInt pos.line,rawInt pos.col,.ref c'],by rw[Zb (YW eV),XS],by rw[et];exact TriplesOk_snoc _ _ _ _ CN,.inr ⟨c',by rw[et];exact codeAmong_snoc _ CN eY,XS⟩⟩
  have Jf:∀ b,H b=none->b≠Pt:=λb n z=>by rw[z,hP]at n;cases n
  refine h h'.objs.size c' _ Si _ _ sx tb ?_ (I.un ⟨λb o e n _ _=>keep b o (Jf b n) e,λb o e n _ _=>⟨o.slots,keep b o (Jf b n) e⟩,λb o e n _=>?_,λb o e _=>?_,λb xs e=>?_,λb o u e=>?_,λb qs e=>?_⟩ λb u e=>?_) (Yo _ rfl) XS
  .have pK:s.heap.objs.size<=h'.objs.size:=by lia
   refine I.fpOk pK ?_;rw[Zb (RW Xi),Zb (RW (Ym eW pK))];exact I.hok.fresh pK
  .rw[Zb (Yt (Ym (Yl e) PF)),Zb (Jf b n)];exact n
  .by_cases hb:b=Pt
   .rw[hb];exact⟨_,WZ _ eX⟩
   .exact⟨o,keep b o hb e⟩
  .exact sx b _ (λz=>by rw[z,hP]at e;cases e) e
  .exact sx b _ (λz=>by rw[z,hP]at e;cases e) e
  .by_cases hb:b=Pt
   .subst hb;rw[hP]at e;obtain rfl:ps=qs:=by cases e;rfl
    exact⟨#[rawInt pos.line,rawInt pos.col,.ref c'],by rw[Zb (YW eV),XS]⟩
   .exact⟨#[],by rw[sx b _ hb e];simp⟩
  .by_cases hb:b=c'
   .subst hb;rw[XS]at e;cases e;refine⟨e8 _ _ Nh λo g=>WZ _ g,?_,e8⟩;obtain⟨c2,o,_,_,e2,g,_⟩:=Nh;cases e2;exact⟨o,WZ _ g⟩
   .rw[Zb hb]at e;by_cases Je:b=Pt
    .subst Je;rw[XS]at e;cases e;exact WZ _ eX
    .rw[Zb Je]at e;refine(I.hok b u e).stay (λd o hd g=>keep d o (λz=>?_) g) (λd g=>sx d _ (λz=>by rw[z,hP]at g;cases g) g) λd xs g=>sx d _ (λz=>by rw[z,hP]at g;cases g) g;rcases hd with hd | hd
     .exact Je (hd.symm.trans z)
     .rw[z,hP]at hd;cases hd
 .refine kla_makeFunctionHit Ud I.ok.glob VU UJ eZ UU CN hf (I.builtinsAt hB) λSi h' tk hk hsz=>?_;refine h h'.objs.size c' _ Si _ H (λ_ _ _ e=>e) ⟨ps,hP,CN,.inr ⟨c',hf,WI⟩⟩ (I.fpOk hsz (I.hok.fresh hsz)) (I.kept λb o e=>WZ _ (hk b o e)) (Yo _ rfl) WI
end
section
variable{UT:Pos}{Pt:Addr}
theorem SqT.samex{K:Ad}{H H2:Hp}{a:Addr}{xs:List V}{qual:Str}(h:SqT K H a xs)(t:TabH H Pt UT qual)(sx:SameX Pt H H2):SqT K H2 a xs:=by
 obtain⟨ps,hP,_⟩:=t;rcases h with (h | ⟨o,h⟩) | h
 .exact .inl (.inl (sx _ _ (λz=>by rw[z,hP]at h;cases h) h))
 .exact .inl (.inr ⟨o,sx _ _ (λz=>by rw[z,hP]at h;cases h) h⟩)
 .exact .inr h
end
def Jd(Pt:Addr)(H:Hp):Prop:=H Pt=some (.tbl #[])/\∀ b,b=Pt\/H b=none\/∃ o xs,H b=some (.frz o (.lst xs))
theorem pJ{P:Program}{w:World}{K:Ad}{mg mb:Af}{CX:RJ}{k:Nat}{fa a Pt c:Addr}{fd:FuncData}{x:Str}{sp:Sp}{s₁:Shared}{vs:Ag}{ns:Ac}
  (KX:K.In s₁.heap) (VU:s₁.heap.Ns mainGlobals mg) (hb:s₁.heap.Ns builtinsNs mb) (rW:∀ x:Str,x≠"__name__"->mb x=bootBuiltins x) (pI:s₁.heap.NoLimit) (hg:s₁.gens=#[])
  (hT:s₁.heap.get? Pt=some (tabObj #[])) (hC:codeHdIn K c Pt=true) (pH:K.lookup Pt=none) (hbm:∃ bm ob,mg (Str.ofString "__builtins__")=some (.ref bm)/\bm≠builtinsNs/\s₁.heap.get? bm=some ob/\ob.cls=.type "module"/\ob.dict=some builtinsNs/\ob.data=.plain)
  (ha:s₁.heap.get? a=some { cls:=.type "list",data:=.seq vs.toArray }) (hi:IntsAre vs ns) (hl:ns.length<=sizeLine) (hr:Room k callerA)
  (F:∀ base:Heap,K.In base->base.Ns mainGlobals mg->base.BuiltinsAt mg Pt->FnOk P w K mg base CX k fa fd [x] sp) (Tv:∀(s:Shared) (u:Value),BindsTo s fd ⟨[u],[]⟩ [(x,u)])
  (Ti:∀ H:Hp,Jd Pt H->SqL K H a (ns.map V.int)->sp [.ref a] H (λv _=>v=.bl true) λ_ _ _=>False)
  (pG:∀ H e s',CX [] H s₁ (λ_ _ _=>False) e s'->False) :
  codeAny (model P w) callerA (.call (.ref fa) ⟨[.ref a],[]⟩) (λr s'=>r=.ok (.ret (.bool true))/\OldK s₁.heap s'.heap/\s'.os=s₁.os/\AllBare s'.gens) s₁:=by
 have rv:=iI hi;have pF:=hi.length
 have eS:a≠Pt:=λz=>by rw[z,hT]at ha;cases ha
 have core:∀ H:Hp,Jd Pt H->SqL K H a (ns.map V.int)->HOk P w H s₁.heap->(∀ b,H b≠none->b=a\/b=Pt)->(H a≠none->K.lookup a=none) ->
   codeAny (model P w) callerA (.call (.ref fa) ⟨[.ref a],[]⟩) (λr s'=>r=.ok (.ret (.bool true))/\OldK s₁.heap s'.heap/\s'.os=s₁.os/\AllBare s'.gens) s₁:=by
  intro H hO hS hok hA hK;have base_of:∀ {b:Addr} {o:Obj},s₁.heap.get? b=some o->H b=none->(Vh s₁.heap H).get? b=some o:=λe n=>wC e n
  have free:∀ {b:Addr} {o:Obj},s₁.heap.get? b=some o->(∀ XW n,o.data≠.seq XW n)->(∀ vs,o.data≠.fields vs)->H b=none:=λ{b o} e d1 d2=>by
   cases q:H b with
   | none=>rfl
   | some u =>
    rcases hA b (by rw[q];simp) with e' | e'
    .subst e';rw[ha]at e;cases e;exact absurd rfl (d1 _ _)
    .subst e';rw[hT]at e;cases e;exact absurd rfl (d2 _)
  have yr:∀ {b:Addr} {m:Af},s₁.heap.Ns b m->(Vh s₁.heap H).Ns b m:=λ{b m} ⟨o,es,ep,e,d,r⟩=>⟨o,es,ep,base_of e (free e (λ_ _ z=>by rw[d]at z;cases z) λ_ z=>by rw[d]at z;cases z),d,r⟩;have eR:K.In (Vh s₁.heap H):=λb o e=>base_of (KX b o e) (by
   cases q:H b with
   | none=>rfl
   | some u =>
    rcases hA b (by rw[q];simp) with e' | e'
    .subst e';rw[hK (by rw[q];simp)]at e;cases e
    .subst e';rw[pH]at e;cases e)
  have hM:Mod K mg (Vh s₁.heap H):=⟨eR,yr VU,⟨mb,yr hb,rW⟩,let ⟨mc,h1,h2⟩:=pI;⟨mc,yr h1,h2⟩⟩;have hB:(Vh s₁.heap H).BuiltinsAt mg Pt:=by
   obtain⟨bm,ob,b1,b2,b3,b4,b5,b6⟩:=hbm;refine⟨bm,ob,b1,b2,λz=>?_,λz=>?_,base_of b3 (free b3 (λ_ _ z=>by rw[b6]at z;cases z) λ_ z=>by rw[b6]at z;cases z),b4,b5,b6⟩
   .obtain⟨o,es,ep,e,d,_⟩:=VU;rw[z,e]at b3;cases b3;rw[d]at b6;cases b6
   .rw[z,hT]at b3;cases b3;cases b4
  have e0:Env0 P w K mg (Vh s₁.heap H) callerA [] s₁ H:=⟨rfl,hM,λb o e=>Gy e,Nat.le_of_eq (bE _ _),trivial,λb hb=>absurd (show b∈([]:List Addr) from hb) (by simp),hok,.of_eq hg⟩;refine Ml ((F _ eR (yr VU) hB).run callerA [] s₁ H ⟨[.ref a],[]⟩ [.ref a] [.ref a] _ _ hr e0 (Tv s₁ (.ref a)) (.cons rfl .nil) (Ti H hO hS)) λr s' h=>?_;cases r with
  | error e=>exact(pG H e s' h).elim
  | ok fl =>
   cases fl with
   | next=>exact False.elim h
   | brk=>exact False.elim h
   | cont=>exact False.elim h
   | ret u =>
    obtain⟨v,H',os,bare,un,CL,r',q⟩:=h;have q':v=.bl true:=q
    subst q';obtain rfl:u=Value.bool true:=r';obtain⟨more,eP⟩:=un.tbls Pt #[] hO.1;have eQ:s'.heap.get? Pt=some { cls:=.none,data:=.fields (#[]++more) }:=CL Pt _ eP
    have kept:∀ b o,b≠Pt->s₁.heap.get? b=some o->s'.heap.get? b=some o:=λb o Wd e=>by
     cases q:H b with
     | none=>exact un.keep b o e q (by intro z;exact absurd (show b∈([]:List Addr) from z) (by simp)) (by simp)
     | some u =>
      rcases hO.2 b with z | z | ⟨ob,xs,z⟩
      .exact absurd z Wd
      .rw[q]at z;cases z
      .have z2:=un.frzs b ob _ z;obtain⟨e1,_⟩:=hok b _ z;obtain⟨e2,_⟩:=CL b _ z2;rw[e]at e1;cases e1;exact e2
    refine⟨rfl,⟨λb o e=>?_,λb o e=>?_⟩,os,bare⟩
    .by_cases Wd:b=Pt
     .subst Wd;rw[hT]at e;obtain rfl:=Yi e;obtain⟨oc,vsc,_,_,_,_,_,_,_,c1,c2,c3,c4,_⟩:=codeHd_of_K KX hC;exact .inr (.inl ⟨⟨c,oc,vsc,c1,c2,c3,c4⟩,rfl,#[],more,rfl,eQ⟩)
     .exact .inl (kept b o Wd e)
    .by_cases Wd:b=Pt
     .rw[Wd];exact⟨_,eQ⟩
     .exact⟨o,kept b o Wd e⟩
 cases hk:K.lookup a with
 | some o =>
  have e:=KX a o hk;rw[ha]at e;cases e;refine core (λb=>if b=Pt then some (.tbl #[]) else none) ⟨if_pos rfl,λb=>?_⟩ (.inr ⟨_,vs.toArray,_,hk,rfl,rfl,rfl,by rw[Ya,pF];exact hl,by simpa using rv⟩) (λb u z=>?_) (λb z=>?_) λz=>absurd (if_neg eS) z
  .by_cases Wd:b=Pt
   .exact .inl Wd
   .exact .inr (.inl (if_neg Wd))
  .by_cases Wd:b=Pt
   .have z':=(if_pos Wd).symm.trans z;cases z';subst Wd;exact hT
   .have z':=(if_neg Wd).symm.trans z;cases z'
  .by_cases Wd:b=Pt
   .exact .inr Wd
   .exact absurd (if_neg Wd) z
 | none =>
  refine core (λb=>if b=Pt then some (.tbl #[]) else if b=a then some (.frz { cls:=.type "list",data:=.seq vs.toArray } (.lst (ns.map V.int))) else none) ⟨if_pos rfl,λb=>?_⟩ (.inl (.inr ⟨{ cls:=.type "list",data:=.seq vs.toArray },(if_neg eS).trans (if_pos rfl)⟩)) (λb u z=>?_) (λb z=>?_) λ_=>hk
  .by_cases Wd:b=Pt
   .exact .inl Wd
   .by_cases hb:b=a
    .exact .inr (.inr ⟨_,_,(if_neg Wd).trans (if_pos hb)⟩)
    .exact .inr (.inl ((if_neg Wd).trans (if_neg hb)))
  .by_cases Wd:b=Pt
   .have z':=(if_pos Wd).symm.trans z;cases z';subst Wd;exact hT
   .by_cases hb:b=a
    .have z':=((if_neg Wd).trans (if_pos hb)).symm.trans z;cases z';subst hb;exact⟨ha,by rw[Yd];exact hl,vs,_,rv,ha⟩
    .have z':=((if_neg Wd).trans (if_neg hb)).symm.trans z;cases z'
  .by_cases Wd:b=Pt
   .exact .inr Wd
   .by_cases hb:b=a
    .exact .inl hb
    .exact absurd ((if_neg Wd).trans (if_neg hb)) z
theorem Pz{l:PySem.W.OpenLaw}{n k:Nat}{q:Program}{loose:List Str}{XP:Af->Heap->Prop}{YP:World->Heap->Prop}{d:DefRec}{K:Params->Ad}{CX:RJ}{sp:Ad->Sp}{x:Str}{c Pt:Addr}
  (hn:l.most=some n) (Oe:n<=sizeLine) (uL:d.params.defaults=[]) (hr:Room k callerA)
  (hY:∀(w:World) (h:Heap),YP w h->(K w.params).In h/\h.get? Pt=some (tabObj #[])) (hC:∀ w:World,codeHdIn (K w.params) c Pt=true) (pH:∀ w:World,(K w.params).lookup Pt=none)
  (F:∀(w:World) (mg:Af) (fa:Addr) (h:Heap),(K w.params).In h->h.Ns mainGlobals mg->mg d.name=some (.ref fa) ->
   ∃ fd:FuncData,(∀(s:Shared) (u:Value),BindsTo s fd ⟨[u],[]⟩ [(x,u)]) /\
    ∀ base:Heap,(K w.params).In base->base.Ns mainGlobals mg->base.BuiltinsAt mg Pt->FnOk l.prog w (K w.params) mg base CX k fa fd [x] (sp (K w.params)))
  (Ti:∀(w:World) (H:Hp) (a:Addr) (ns:Ac),ns.length<=n->Jd Pt H->SqL (K w.params) H a (ns.map V.int)->sp (K w.params) [.ref a] H (λv _=>v=.bl true) λ_ _ _=>False)
  (pG:∀(H:Hp) (s:Shared) (e:Value) (s':Shared),CX [] H s (λ_ _ _=>False) e s'->False) :
  PySem.W.WalkO q loose XP YP l.row.toRowW d [] (λf vs=>PySem.call f vs):=by refine Att.TQ hn uL λw s₀ s₁ mg mb fa o pm cd doc a vs ns G Y ho hd Ui Fd Kd hints hlen hg=>?_;obtain⟨KX,hT⟩:=hY w _ Y;obtain⟨fd,hb,hF⟩:=F w mg fa _ KX G.T.g Fd;exact pJ KX G.T.g G.T.b G.T.builtins G.T.nolimit hg hT (hC w) (pH w) G.T.bmain Kd hints (Yr hlen Oe) hr hF hb (λH hO hS=>Ti w H a ns hlen hO hS) λH e s'=>pG H s₁ e s'
def QJ(K:Ad)(mg:Af)(base:Heap)(fd:FuncData)(Pt:Addr):Prop:=∃ c,fd.code=.ref c/\codeHdIn K c Pt=true/\base.BuiltinsAt mg Pt/\mainGlobals≠Pt
theorem LamScope.of{v x:Str}{sc:Scope}(h1:sc.kind=.function)(h2:sc.isCoroutine=false)(h3:sc.isGenerator=false)(h4:sc.names=[(v,.local),(x,.free)]\/sc.names=[(x,.free),(v,.local)])(hn:v≠x):LamScope v x sc:=by
 have b1:(v == x)=false:=wY hn;have b2:(x == v)=false:=wY (YW hn)
 refine⟨h1,h2,h3,λy hy=>?_,?_,?_,λy hy=>?_,hn⟩
 .have l1:NameKind.local≠NameKind.cell:=by decide
  have l2:NameKind.free≠NameKind.cell:=by decide
  rcases h4 with e | e <;> rw[e]at hy <;> rcases Yg.mp hy with rfl | hy
  .exact l1
  .rw[XD.mp hy];exact l2
  .exact l2
  .rw[XD.mp hy];exact l1
 .rcases h4 with e | e <;> rw[e] <;> simp[List.lookup,b1,b2]
 .rcases h4 with e | e <;> rw[e] <;> simp[List.lookup,b1,b2]
 .rcases h4 with e | e <;> rw[e]at hy <;> simp only [List.lookup]at hy
  .split at hy
   .cases hy
   .split at hy
    .rename_i q;exact SW.mp q
    .cases hy
  .split at hy
   .rename_i q;exact SW.mp q
   .split at hy
    .cases hy
    .cases hy
section
variable{P:Program}{w:World}{K:Ad}{mg:Af}{base:Heap}
theorem Fun.okL{x qual:Str}{st:Stmt}{f c:Addr}{fd:FuncData}{N ps:List Str}{k:Nat}{sp:Sp}(F:Fun K x qual st f fd)(hc:fd.code=.ref c)(S:FnScope N ps (XA st))(len:∀ vs H Q E,sp vs H Q E->vs.length=ps.length)
  (hbody:∀(A:Around) (outer:List Env) (s:Shared) (H:Hp) (vs:List V) (Q:VK) (E:XK),Room k (A.deeper (envOfC qual (XA st) s.heap.objs.size f (.ref c)))->sp vs H Q E ->
   ∃ t,PSs (Ws Xf P w K mg base N qual (XA st) f (.ref c) A outer s H E).nox (Ql st) t/\t { nx:=λ_ H'=>Q .non H',rt:=Q } (start N vs) H):FnOk P w K mg base Xf (k+1) f fd ps sp:=by obtain⟨oc,od,kV,doc,pm,an,Xz,ct,Ux,rfl,lk,Ui⟩:=F.ex;obtain rfl:Xz=.ref c:=hc;refine Kh lk Ui S len λA outer s H vs Q E hr Ti=>?_;obtain⟨t,h,q⟩:=hbody A outer s H vs Q E hr Ti;exact⟨t,h.nox,q⟩
end
end L2
namespace My
open PySem L2
def pE(n:Int)(ps:Aa)(I O W:Ac):Prop:=Ze n ps W/\(∀ z∈I,z∈W)/\∀ z∈O,z∉W
def pl(ls T U:Ac):Prop:=HT.ltP (CT ls T,T) (CT ls U,U)=true
def OrdL(ls:Ac)(m:Nat)(os:Ac):Prop:=os.Perm (We m)/\os.Pairwise λx y=>Jl ls x<Jl ls y\/(Jl ls x=Jl ls y/\x<y)
theorem pD{n:Int}{ps:Aa}{T W:Ac}(g:Zv n ps)(hT:Ze n ps T)(hW:Ze n ps W)(h:∀ z∈T,z∈W):T=W :=
 sj (yS hT) (yS hW) λz=>(Zs9 g hT hW h).mem_iff
structure Ent where
 T:Ac
 I:Ac
 O:Ac
deriving DecidableEq
def OE(n:Int)(ps:Aa)(E:Ent)(W:Ac):Prop:=pE n ps E.I E.O W
structure EOk (n:Int) (ps:Aa) (ls:Ac) (E:Ent):Prop where
 own:OE n ps E E.T
 min:∀ W,OE n ps E W->W=E.T\/pl ls E.T W
 iN:E.I.Nodup
 oN:E.O.Nodup
 oR:∀ z∈E.O,0<=z/\z<(ps.length:Int)
def eO(n:Int)(ps:Aa)(E F:Ent):Prop:=∀ W,OE n ps E W->¬ OE n ps F W
structure FB (n:Int) (ps:Aa) (ls:Ac) (E:Ent) (l:Ac) (Es:List Ent):Prop where
 ok:∀ F∈Es,EOk n ps ls F
 sub:∀ F∈Es,∀ W,OE n ps F W->OE n ps E W
 cov:∀ W,OE n ps E W->((∃ t∈l,t∉W)↔∃ F∈Es,OE n ps F W)
 dsj:Es.Pairwise (eO n ps)
structure RI (n:Int) (ps:Aa) (ls:Ac) (L:Ab) (Es:List Ent):Prop where
 tr:∀ T∈L,Ze n ps T
 asc:L.Pairwise (pl ls)
 ok:∀ E∈Es,EOk n ps ls E
 cov:∀ W,Ze n ps W->W∈L\/∃ E∈Es,OE n ps E W
 beh:∀ E∈Es,∀ W,OE n ps E W->∀ T∈L,pl ls T W
 dsj:Es.Pairwise (eO n ps)
structure Rkd (n:Int) (ps:Aa) (ls:Ac) (most:Nat) (L:Ab):Prop where
 tr:∀ T∈L,Ze n ps T
 asc:L.Pairwise (pl ls)
 few:L.length<=most
 all:∀ W,Ze n ps W->W∈L\/(L.length=most/\∀ T∈L,pl ls T W)
end My
namespace L2
open PySem PySem.Spec PyProof.Rows PySem.W My
theorem SameX.same{Pt:Addr}{H H':Hp}(s:Same H H'):SameX Pt H H':=λb o _ e=>s b o e
theorem SameX.trans{Pt:Addr}{H H1 H2:Hp}(a:SameX Pt H H1)(b:SameX Pt H1 H2):SameX Pt H H2:=λc o hc e=>b c o hc (a c o hc e)
theorem TabH.same{H H':Hp}{Pt:Addr}{pos:Pos}{qual:Str}(t:TabH H Pt pos qual)(s:Same H H'):TabH H' Pt pos qual:=by
 obtain⟨ps,h1,h2,h3⟩:=t;refine⟨ps,s _ _ h1,h2,?_⟩;rcases h3 with h | ⟨c,h,h'⟩
 .exact .inl h
 .exact .inr ⟨c,h,s _ _ h'⟩
theorem TabH.ne{H:Hp}{Pt a:Addr}{pos:Pos}{qual:Str}{o:HO}(t:TabH H Pt pos qual)(h:H a=some o)(hn:∀ ps,o≠.tbl ps):a≠Pt:=λe=>by obtain⟨ps,h1,_⟩:=t;rw[e,h1]at h;exact hn ps (Yi h).symm
theorem TabH.put{H:Hp}{Pt r:Addr}{pos:Pos}{qual:Str}{zs:List V}{u:List V}(t:TabH H Pt pos qual)(hr:H r=some (.lst zs)):TabH (upd H r (.lst u)) Pt pos qual:=by
 obtain⟨ps,h1,h2,h3⟩:=t;refine⟨ps,by rw[Zb (Qw h1 hr (by simp))];exact h1,h2,?_⟩;rcases h3 with h | ⟨c,h,h'⟩
 .exact .inl h
 .exact .inr ⟨c,h,by rw[Zb (Qw h' hr (by unfold Ho;simp))];exact h'⟩
end L2
namespace My
open PySem L2
theorem SqK.samex{kd:Bool}{K:Ad}{H H2:Hp}{a Pt:Addr}{xs:List V}{pos:Pos}{qual:Str}(h:SqK kd K H a xs)(t:TabH H Pt pos qual)(sx:SameX Pt H H2):SqK kd K H2 a xs:=by
 cases kd with
 | true=>exact SqT.samex (show SqT K H a xs from h) t sx
 | false =>
  rcases(show SqL K H a xs from h) with (h | ⟨o,h⟩) | h
  .exact .inl (.inl (sx _ _ (t.ne h (by simp)) h))
  .exact .inl (.inr ⟨o,sx _ _ (t.ne h (by simp)) h⟩)
  .exact .inr h
theorem WebAt.samex{C w Pt:Addr}{H H2:Hp}{n:Int}{ps:Aa}{pos:Pos}{qual:Str}(h:WebAt C H w n ps)(t:TabH H Pt pos qual)(sx:SameX Pt H H2):WebAt C H2 w n ps:=by obtain⟨dx,tl,xs,h1,h2,h3⟩:=h;refine⟨dx,tl,xs,sx _ _ (t.ne h1 (by simp)) h1,sx _ _ (t.ne h2 (by simp)) h2,h3.1,λi p hp=>?_⟩;obtain⟨x,hx,q,e,hq⟩:=h3.2 i p hp;exact⟨x,hx,q,e,sx _ _ (t.ne hq (by simp)) hq⟩
end My
namespace My
theorem Sg{α:Type}{P:List α->Prop}(h:∀ a,P [a])(l:List α)(e:l.length=1):P l:=by obtain⟨a,rfl⟩:=DO e;exact h a
theorem VI{α:Type}{P:List α->Prop}(h:∀ a b,P [a,b])(l:List α)(e:l.length=2):P l:=by obtain⟨a,b,rfl⟩:=DN e;exact h a b
theorem Sf{α:Type}{P:List α->Prop}(h:∀ a b c,P [a,b,c])(l:List α)(e:l.length=3):P l:=by obtain⟨a,b,c,rfl⟩:=DM e;exact h a b c
theorem un4{α:Type}{P:List α->Prop}(h:∀ a b c d,P [a,b,c,d])(l:List α)(e:l.length=4):P l:=by obtain⟨a,b,c,d,rfl⟩:=DL e;exact h a b c d
theorem un5{α:Type}{P:List α->Prop}(h:∀ a b c d e,P [a,b,c,d,e])(l:List α)(e:l.length=5):P l:=by
 cases l with
 | nil=>cases e
 | cons x r =>
  obtain⟨a,b,c,d,rfl⟩:=DL (UB e);exact h x a b c d
end My
namespace My
open PySem L2
theorem eN{n:Int}{ps:Aa}{c:Nat}(h:TC n ps c):c=0↔∀ T,¬ Ze n ps T:=by
 obtain⟨L,a1,a2,a3⟩:=h;constructor
 .intro e T hT;rw[e]at a3
  have:=(a2 T).mpr hT
  rw[YS.mp a3]at this;cases this
 .intro e;rw[<- a3,YS];exact AD.mpr λT hT=>e T ((a2 T).mp hT)
end My
namespace L2
open PySem PySem.Spec PyProof.Rows PySem.W
theorem eK:∀ bs:List Bool,(bs.map Value.bool).mapM firstOfTuple'=(pure ((bs.map Value.bool).map λ_=>none):Sem _)
 | []=>by simp
 | b :: bs=>by rw[WC,List.mapM_cons,eK bs];show(pure none >>= λb=>pure _ >>= λbs=>pure (b :: bs))=_;simp
theorem eJ:∀ bs:List Bool,(bs.map Value.bool).mapM typeOf=(pure ((bs.map Value.bool).map λ_=>Value.type "bool"):Sem _)
 | []=>by simp
 | b :: bs=>by rw [WC,List.mapM_cons,eJ bs];show(pure (Value.type "bool") >>= λb=>pure _ >>= λbs=>pure (b :: bs))=_;simp
theorem ZK6{kA:Array Value}{ns:Ac}{key:Int->Bool}(hk:kA.toList=ns.map λz=>Value.bool (key z))(h2:2<=ns.length):keyKind' kA=pure oneType':=by
 have e:kA=((ns.map key).map Value.bool).toArray:=by rw[<- Array.toArray_toList (xs:=kA),hk,Mm];rfl
 rw[e];obtain⟨b1,b2,bs,eb⟩:∃ b1 b2 bs,ns.map key=b1 :: b2 :: bs:=by
  match ns,h2 with
  | x :: y :: l,_=>exact⟨_,_,_,rfl⟩
 rw[eb,keyKind'_eq,List.mapM_toArray,eK];simp only [map_pure,pure_bind];rw[if_neg (by simp),if_neg (by simp)];rw[oneTypeOnly'_eq,List.mapM_toArray,eJ];simp only [map_pure,pure_bind];have Vt:((List.map (λ_=>Value.type "bool") (List.map Value.bool (b1 :: b2 :: bs))).toArray.all λx=>x == Value.type "bool")=true:=by simp only [List.all_toArray,List.all_map,QD];intro _ _;rfl
 have h0:(List.map (λ_=>Value.type "bool") (List.map Value.bool (b1 :: b2 :: bs))).toArray[0]?=some (Value.type "bool"):=by simp
 rw[h0];simp only [Vt,OW,pure_bind,Option.isSome_some]
theorem CK{prog:Program}{w:World}{A:Around}{E:Ae}{s:Shared}{p q:Bool}{Q:Bool->Shared->Prop}(h:Q (decide (b2i p<b2i q)) s):wpAny (model prog w) A (keyLt' oneType' (.bool p) (.bool q)) Q E s:=by rw[keyLt'_oneType,oneLt'_eq];simp only [OW];refine XU (wpAny_cRoomFor_byValue rfl ?_);refine XU (wpAny_callSpecialIfBound?_slot (typeIs_bool' s p) F.slot_bool_lt (call_gives F.slot_bool_lt (typeIs_bool' s p) F.entry_int_lt (F.args_int_lt_2 _ _) (gives_int_lt_bools p q) ?_));exact Ow h
section
variable{X:Cx}{pins:List (Addr × Obj)}{σ:St}{H:Hp}{s:Shared}{a kS:Addr}{A:Around}{E:Ae}{P:PySem.Fin->Shared->Prop}{kA:Array Value}{e e1:Nat}{f:Value}{key:Int->Bool}{ns:Ac}{vs:Ag}
theorem Jc(hv:IntsAre vs ns)(hk:kA.toList=ns.map λz=>Value.bool (key z)){i:Nat}(hi:i<ns.length):∃ u,kas_item (kA.zip vs.toArray) i=(.bool (key (ns.getD i 0)),.int (ns.getD i 0) u):=by
 obtain⟨u,hu⟩:=pM hv i hi;have ht:kA.toList[i]?=some (Value.bool (key (ns.getD i 0))):=by rw[hk,Yp,WJ,Xr hi];rfl
 refine⟨u,?_⟩;unfold kas_item;rw[YA,<- YU,ksk_zip,(List.getElem?_zip_eq_some (z:=(Value.bool (key (ns.getD i 0)),Value.int (ns.getD i 0) u))).mpr ⟨ht,hu⟩];rfl
theorem eE(hv:IntsAre vs ns)(hk:kA.toList=ns.map λz=>Value.bool (key z)):∀ l:List Nat,(∀ i∈l,i<ns.length)->IntsAre (l.map λi=>(kas_item (kA.zip vs.toArray) i).2) (l.map λi=>ns.getD i 0)
 | [],_=>.nil
 | i :: l,h=>by
  obtain⟨u,e⟩:=Jc hv hk (h i Ye);have r:=eE hv hk l λj hj=>h j (Yh _ hj)
  rw[WC,WC,e];exact .cons _ u r
theorem pC (I:Inv X (pins++[(a,seqObj "list" #[] e1),(kS,seqObj "list" kA e)]) σ H s) (Fa:FpOk X pins H a) (Fk:FpOk X pins H kS) (OF:a≠kS) (hv:IntsAre vs ns) (QN:ns.length<64) (hk:kA.toList=ns.map λz=>Value.bool (key z))
  (h:∀ s' m out ms,Inv X pins σ H s'->s'.heap.get? a=some (seqObj "list" out m)->IntsAre out.toList ms->Sh (λz=>b2i (key z)) ns ms->P (.done (.ret .none)) s') :
  wpAny (model X.prog X.w) A (ksk_end a false vs.toArray e1 (.ref kS) kA) P E s:=by
 have CJ:=hv.length;have pB:=Xw List.length hk
 rw[YD,Yd]at pB;have hzs:(kA.zip vs.toArray).size=ns.length:=by rw[Array.size_zip,show vs.toArray.size=vs.length from Ya];grind
 unfold ksk_end;dsimp only;rw[if_neg (by decide)];by_cases h2:vs.toArray.size<2
 .rw[if_pos h2,if_pos h2];rw[Ya]at h2;refine XU (Yk ?_);rw[StateT.run_pure];refine XU (Yk ?_);dsimp only;refine e9 (out:=vs) I Fa Fk OF (by lia) rfl ?_ (by grind) λs' m J e=>h s' m vs.toArray ns J e (by simpa using hv) ?_
  .show(if false=true then (kA.zip vs.toArray).reverse else kA.zip vs.toArray).map (·.2)=vs.toArray;rw[if_neg (by decide),Array.map_snd_zip (by rw[Ya];lia)]
  .refine⟨List.range ns.length,List.Perm.refl _,?_,?_⟩
   .match ns.length,(show ns.length<2 by lia) with
    | 0,_=>exact List.Pairwise.nil
    | 1,_=>exact Ii _ _
   .match ns,(show ns.length<2 by omega) with
    | [],_=>rfl
    | [x],_=>rfl
 .rw[if_neg h2,if_neg h2];rw[Ya]at h2;rw[ZK6 hk (by lia)];refine XU (Yk ?_);rw[if_neg (by decide)];obtain⟨p,Vj,Wj,Ng⟩:=My.Nj (n:=ns.length) (key:=λi=>b2i (key (ns.getD i 0))) (by lia);have runs:=kas_runs (prog:=X.prog) (w:=X.w) (A:=A) (E:=E) (κ:=oneType') (it:=kA.zip vs.toArray) (n:=ns.length) (s:=s) (Q:=λ_ st s'=>s'=s/\failedOf st=none/\arrOf st=p.map (kas_item (kA.zip vs.toArray)))
   (G:=λq s'=>s'=s/\q=p) (by omega) QN (λq st s' _ e2 e3 e4=>⟨e4.1,e3,by rw[e2,e4.2]⟩)
   (My.goT_wp' (c:=λi j=>decide (b2i (key (ns.getD i 0))<b2i (key (ns.getD j 0)))) (J:=λs'=>s'=s) (λi j C s' hi hj hs hC=>by obtain⟨u,e⟩:=Jc hv hk hi;obtain⟨u',e'⟩:=Jc hv hk hj;unfold kas_cmp;rw[e,e'];exact CK (hC s' hs)) _ s (My.Ro (by omega)) rfl λs' hs=>⟨hs,Vj⟩)
  unfold kasC kas_st at runs;rw[<- hzs,kas_range]at runs;refine XU (Uj runs ?_ λ_ _ z=>z);rintro⟨⟨⟩,st⟩ s' ⟨rfl,hf,ha⟩;dsimp only;have hb:∀ i∈p.toList,i<ns.length:=λi hi=>YI.mp (Wj.mem_iff.mp hi)
  have Vk:p.toList.length=ns.length:=by rw[Wj.length_eq,OZ]
  refine e9 (out:=p.toList.map λi=>(kas_item (kA.zip vs.toArray) i).2) I Fa Fk OF (by lia) hf ?_ (by rw[Yd];lia) λUO m J e=>h UO m _ _ J e (by simpa using eE hv hk p.toList hb) ⟨p.toList,Wj,Ng,rfl⟩;have ha:arrOf st=p.map (kas_item (kA.zip vs.toArray)):=ha
  rw[ha,Array.map_map];exact Array.toList_inj.mp (by simp)
theorem pz (I:Inv X (pins++[(a,seqObj "list" #[] e1),(kS,seqObj "list" #[] 0)]) σ H s) (Fa:FpOk X pins H a) (Fk:FpOk X pins H kS) (OF:a≠kS) (hv:IntsAre vs ns) (QN:ns.length<64)
  (turn:∀(pl:List (Addr × Obj)) (z:Int) (t:Tok) (s':Shared),z∈ns->Inv X (pins++pl) σ H s'->wpAny (model X.prog X.w) A (call f [.int z t]) (λv UO=>v=.bool (key z)/\Inv X (pins++pl) σ H UO) (λ_ _=>False) s')
  (h:∀ s' m out ms,Inv X pins σ H s'->s'.heap.get? a=some (seqObj "list" out m)->IntsAre out.toList ms->Sh (λz=>b2i (key z)) ns ms->P (.done (.ret .none)) s') :
  wpAny (model X.prog X.w) A (ksk_rest a f false vs.toArray e1 (.ref kS)) P E s:=by
 have JK:sizeLine=16777216:=SX;have CJ:=hv.length
 unfold ksk_rest;refine XU (GB ?_);rw[<- Array.forIn_toList];simp only [List.toList_toArray];refine XU (ksk_fold (λi s'=>∃(kA:Array Value) (e:Nat),Inv X (pins++[(a,seqObj "list" #[] e1),(kS,seqObj "list" kA e)]) σ H s'/\kA.toList=(ns.take i).map λz=>Value.bool (key z)) vs 0 s ⟨#[],0,I,rfl⟩ ?step ?done)
 case step =>
  rintro j x s' hx ⟨kA,e,J,hk⟩;rw[Mn]at hk ⊢;have hj:j<ns.length:=by rw[<- CJ];exact(Xp.mp hx).1
  obtain⟨t,ht⟩:=pM hv j hj;rw[hx]at ht;obtain rfl:=Yi ht;have hz:kA.size<=j:=by have h1:=Xw List.length hk;rw[YD,Yd,Yy]at h1;lia
  have eg:ns.getD j 0=ns[j]:=by rw[WJ,Xr hj];rfl
  have hmem:ns.getD j 0∈ns:=by rw[eg];exact Ms hj
  refine XU (GG (Uj (turn _ _ t s' hmem J) (λv UO he=>?_) λ_ _ hF=>hF.elim));obtain⟨rfl,J2⟩:=he;dsimp only;have pk:=(J2.pin (kS,seqObj "list" kA e) (by simp)).1
  obtain⟨c2,VD⟩:∃ c2,(UO.heap.update kS (Obj.mapSeq (·.push (.bool (key (ns.getD j 0)))))).get? kS=some (seqObj "list" (kA.push (.bool (key (ns.getD j 0)))) c2):=⟨_,z7 pk (·.push (.bool (key (ns.getD j 0))))⟩;refine XU (KY pk rfl ?_ (by lia) (by rw[Array.size_push];lia));refine Yk ⟨rfl,kA.push (.bool (key (ns.getD j 0))),c2,?_,?_⟩
  .have J3:Inv X (pins++[(a,seqObj "list" #[] e1)]) σ H UO:=J2.pins_of λp hp=>J2.pin p (Yc _ (by
    rcases Xy.mp hp with hp | hp
    .exact Yb _ hp
    .exact Yc _ (by rw[XD.mp hp];exact Ye)))
   have eD:FpOk X (pins++[(a,seqObj "list" #[] e1)]) H kS:=Fk.more λp hp=>by rw [XD.mp hp];exact OF
   have J4:=(J3.changed (t':=UO.toks) eD λc o hc q=>(YO UO.heap (Obj.mapSeq (·.push (.bool (key (ns.getD j 0))))) (YW hc)).trans q).pin1 eD VD λv z=>by cases z
   rw[QE]at J4;exact J4
  .have ek:((ns.take (j+1)).map λz=>Value.bool (key z))=((ns.take j).map λz=>Value.bool (key z))++[Value.bool (key (ns.getD j 0))]:=by rw[List.take_add_one,Xr hj,YR,eg];rfl
   rw[xc,ek,hk]
 case done =>
  rintro s' ⟨kA,e,J,hk⟩;rw[Mn,CJ,YM]at hk;have pk:=(J.pin (kS,seqObj "list" kA e) (by simp)).1
  refine XU (listItems_at pk rfl ?_);exact pC J Fa Fk OF hv QN hk h
theorem pw {n:Nat} (I:Inv X pins σ H s) (Fa:FpOk X pins H a) (ho:s.heap.get? a=some (seqObj "list" vs.toArray n)) (hv:IntsAre vs ns) (QN:ns.length<64)
  (turn:∀(pl:List (Addr × Obj)) (z:Int) (t:Tok) (s':Shared),z∈ns->Inv X (pins++pl) σ H s'->wpAny (model X.prog X.w) A (call f [.int z t]) (λv UO=>v=.bool (key z)/\Inv X (pins++pl) σ H UO) (λ_ _=>False) s')
  (h:∀ s' m out ms,Inv X pins σ H s'->s'.heap.get? a=some (seqObj "list" out m)->IntsAre out.toList ms->Sh (λz=>b2i (key z)) ns ms->P (.done (.ret .none)) s') :
  wpAny (model X.prog X.w) A (ksk_tree a f false) P E s:=by
 have JK:sizeLine=16777216:=SX;have CJ:=hv.length
 obtain⟨e1,eB⟩:∃ e1,(s.heap.update a (Obj.mapSeq λ_=>(#[]:Array Value))).get? a=some (seqObj "list" #[] e1):=⟨_,z7 ho λ_=>#[]⟩;have I1:Inv X pins σ H { s with heap:=s.heap.update a (Obj.mapSeq λ_=>(#[]:Array Value)),toks:=s.toks }:=I.changed Fa λc o hc q=>(YO _ _ (YW hc)).trans q
 have I2:Inv X pins σ H { s with heap:=(s.heap.update a (Obj.mapSeq λ_=>(#[]:Array Value))).push (seqObj "tuple" vs.toArray 0),toks:=s.toks }:=I1.kept λc o q=>WZ _ q;have SN:((s.heap.update a (Obj.mapSeq λ_=>(#[]:Array Value))).push (seqObj "tuple" vs.toArray 0)).get? a=some (seqObj "list" #[] e1):=WZ _ eB
 unfold ksk_tree;refine XU (listItems_at ho rfl ?_);refine XU (KY ho rfl ?_ (by rw[Ya];lia) (Yn _));refine XU (seqEpoch_at eB rfl ?_);refine XU (wpAny_newTuple ?_ (by show vs.length<=_;omega));refine XU (RR ?_ (Yn _));refine Su ?_;have Fk:FpOk X pins H ((s.heap.update a (Obj.mapSeq λ_=>(#[]:Array Value))).push (seqObj "tuple" vs.toArray 0)).objs.size:=I2.fpOk (XM _) (I2.hok.fresh (XM _))
 have OF:a≠((s.heap.update a (Obj.mapSeq λ_=>(#[]:Array Value))).push (seqObj "tuple" vs.toArray 0)).objs.size:=Yt (Yl SN);have I3:Inv X pins σ H { s with heap:=((s.heap.update a (Obj.mapSeq λ_=>(#[]:Array Value))).push (seqObj "tuple" vs.toArray 0)).push (seqObj "list" #[] 0),toks:=s.toks }:=I2.kept λc o q=>WZ _ q
 have I4:=(I3.pin1 Fa (WZ _ SN) λv z=>by cases z).pin1 (Fk.more (pl:=[(a,seqObj "list" #[] e1)]) λp hp=>by rw [XD.mp hp];exact OF) (Yo _ rfl) λv z=>by cases z
 rw[QE]at I4;exact pz I4 Fa Fk OF hv QN turn h
theorem Zp5{tp q:Addr}{Q:Ae}(I:Inv X pins σ H s)(ht:s.heap.IsList tp vs.toArray)(hv:IntsAre vs ns)(QN:ns.length<64)
  (turn:∀(pl:List (Addr × Obj)) (z:Int) (t:Tok) (s':Shared),z∈ns->Inv X (pins++pl) σ H s'->wpAny (model X.prog X.w) A.in1.in1 (call (.ref q) [.int z t]) (λv UO=>v=.bool (key z)/\Inv X (pins++pl) σ H UO) (λ_ _=>False) s')
  (h:∀ s' a m out ms,FpOk X pins H a->Inv X pins σ H s'->s'.heap.get? a=some (seqObj "list" out m)->IntsAre out.toList ms->Sh (λz=>b2i (key z)) ns ms->Q (.ref a) s') :
  wpAny (model X.prog X.w) A (call (.builtin "sorted") [.ref tp] [(Str.ofString "key",.ref q)]) Q E s:=by
 have JK:sizeLine=16777216:=SX;have CJ:=hv.length
 refine call_function_entry_kw kind_sorted plain_sorted entry_sorted (ksk_s1 _ _) ?_;unfold Builtin.«sorted»;refine XU (m:=checkCount "sorted" 1 1 _) (Yk ?_);refine XU (collect_list ht ?_ (by omega));refine XU (RR ?_ (by omega));have hsz:((s.heap.push (seqObj "list" #[] 0)).update s.heap.objs.size (Obj.mapSeq (·++vs.toArray))).objs.size=s.heap.objs.size+1:=by rw[Heap.size_update,size_push']
 have Mf:(((s.heap.push (seqObj "list" #[] 0)).update s.heap.objs.size (Obj.mapSeq (·++vs.toArray))).push (seqObj "list" vs.toArray 0)).get? (s.heap.objs.size+1)=some (seqObj "list" vs.toArray 0):=by rw[<- hsz];exact Yo _ rfl
 have keep:∀ b o,s.heap.get? b=some o->(((s.heap.push (seqObj "list" #[] 0)).update s.heap.objs.size (Obj.mapSeq (·++vs.toArray))).push (seqObj "list" vs.toArray 0)).get? b=some o:=λb o q=>by have Xi:b<s.heap.objs.size:=Yl q;exact WZ _ ((YO _ _ (RW Xi)).trans (WZ _ q))
 show wpAny _ _ _ _ _ { s with heap:=((s.heap.push (seqObj "list" #[] 0)).update s.heap.objs.size (Obj.mapSeq (·++vs.toArray))).push (seqObj "list" vs.toArray 0) };rw[hsz];have Fa:FpOk X pins H (s.heap.objs.size+1):=I.fpOk (Uk _) (I.hok.fresh (Uk _))
 refine XU (Su (wpAny_call_entry_kw slot_list_sort ⟨_,Mf,rfl⟩ entry_list_sort ?body (ksk_l1 _ _)));show wpAny (model X.prog X.w) A.in1.in1 (Builtin.«list.sort» ⟨[.ref (s.heap.objs.size+1)],[(Str.ofString "key",.ref q)]⟩) _ _ _
 rw[ksk_t1];refine pw (s:={ s with heap:=((s.heap.push (seqObj "list" #[] 0)).update s.heap.objs.size (Obj.mapSeq (·++vs.toArray))).push (seqObj "list" vs.toArray 0),toks:=s.toks }) (I.kept keep) Fa Mf hv QN turn λs' m out ms J e hi hs=>⟨_,rfl,?_⟩;exact Yk ⟨_,rfl,h s' _ m out ms Fa J e hi hs⟩
end
def pq(K:Ad)(Pt:Addr)(UT:Pos)(qual:Str)(i:Nat)(te tb:TE):TE:=λσ H Q=>te σ H λy H1=>∃(p:Addr) (ns:Ac) (vx:V) (key:Int->Bool),y=.ref p/\SqL K H1 p (ns.map V.int)/\ns.length<64/\TabH H1 Pt UT qual/\σ[i]?=some (some vx) /\
 (∀ H2,SameX Pt H1 H2->∀ z∈ns,tb [some (.int z),some vx] H2 λr H3=>r=.bl (key z)/\H3=H2) /\
 ∀(ms:Ac) (l:Addr) (H2:Hp),Sh (λz=>b2i (key z)) ns ms->SameX Pt H1 H2->TabH H2 Pt UT qual->H2 l=none->Q (.ref l) (upd H2 l (.lst (ms.map V.int)))
section
variable{X:Cx}{p kp pos UT:Pos}{e body:Expr}{params:Arguments}{scope:Scope}{te tb:TE}{v x:Str}{i k:Nat}{c Pt cc:Addr}
theorem SqL.samexT{K:Ad}{H H2:Hp}{a:Addr}{xs:List V}{qual:Str}(h:SqL K H a xs)(t:TabH H Pt UT qual)(sx:SameX Pt H H2):SqL K H2 a xs:=by
 obtain⟨ps,hP,_⟩:=t;rcases h with (h | ⟨o,h⟩) | h
 .exact .inl (.inl (sx _ _ (λz=>by rw[z,hP]at h;cases h) h))
 .exact .inl (.inr ⟨o,sx _ _ (λz=>by rw[z,hP]at h;cases h) h⟩)
 .exact .inr h
theorem Zs5 (he:PE X e te) (hg:Gl X (Str.ofString "sorted")) (hm:X.mg (Str.ofString "sorted")=none) (hr:Room (k+3) X.A) (hex:X.ex=[]) (UJ:X.env.code=.ref c) (hC:codeHdIn X.K c Pt=true) (hB:X.base.BuiltinsAt X.mg Pt) (CO:mainGlobals≠Pt)
  (S:LamScope v x scope) (Ud:closureFor scope X.env=pure [(x,cc)]) (Jg:defaultsOf params X.env=([],[])) (Tv:∀(c':Addr) (pm Si u:Value),bindArgs (kla_fn (Str.ofString "<lambda>") (X.env.qual++Str.ofString "<lambda>") params body scope [(x,cc)] pm (.ref c') Si) ⟨[u],[]⟩=pure [(v,u)])
  (hi:X.N[i]?=some x) (eA:X.env.kindOf x=some .cell) (Wv:X.env.cells.lookup x=some cc)
  (hb:∀(f c':Addr) (A:Around) (outer:List Env) (s:Shared) (H:Hp),Room k (A.deeper (envX (X.env.qual++Str.ofString "<lambda>") scope s.heap.objs.size f (.ref c') [(x,cc)]))->PE (PB X.prog X.w X.K X.mg X.base [v,x] (X.env.qual++Str.ofString "<lambda>") scope f (.ref c') [(x,cc)] A outer s H) body tb) (hs:starEach [e] X.env=[(false,eval e X.env)]:=by rfl) :
  PE X (.Call (.Name (Str.ofString "sorted") p) [e] [⟨some (Str.ofString "key"),.Lambda params body scope UT,kp⟩] pos) (pq X.K Pt UT (X.env.qual++Str.ofString "<lambda>") i te tb):=by
 intro pins s σ H Q I h;refine QF (QW I hg hm Boot.«sorted» ?_ (by decide) (by decide));have ha:PA X [e] (Qo te Kk):=XZ he XY hs
 refine callWith_kw (thn (ha pos pins s σ H (λvs H1=>match vs with
  | [y]=>∃(p:Addr) (ns:Ac) (vx:V) (key:Int->Bool),y=.ref p/\SqL X.K H1 p (ns.map V.int)/\ns.length<64/\TabH H1 Pt UT (X.env.qual++Str.ofString "<lambda>")/\σ[i]?=some (some vx) /\
   (∀ H2,SameX Pt H1 H2->∀ z∈ns,tb [some (.int z),some vx] H2 λr H3=>r=.bl (key z)/\H3=H2) /\
   ∀(ms:Ac) (l:Addr) (H2:Hp),Sh (λz=>b2i (key z)) ns ms->SameX Pt H1 H2->TabH H2 Pt UT (X.env.qual++Str.ofString "<lambda>")->H2 l=none->Q (.ref l) (upd H2 l (.lst (ms.map V.int)))
  | _=>False) I h) λus s1 hh=>?_) (by rw[hs];rfl) (by rw[hs];rfl) rfl rfl
 obtain⟨vs,H1,I1,r,q⟩:=hh
 match vs,r,q with
 | [],_,q=>exact False.elim q
 | _ :: _ :: _,_,q=>exact False.elim q
 | [y],r,q =>
  obtain⟨p2,ns,vx,key,rfl,hq,QN,hT,hσ,hk,q⟩:=q;obtain⟨u,rfl,ru⟩:=RM r;obtain rfl:u=Value.ref p2:=ru;refine kws_cons (pL I1 UJ hC hB hT Ud Jg CO λf c' pm Si s2 H2 sx tab F I2 hf WI=>kws_nil ?_);have I3:=I2.pin1 F hf λv z=>by cases z
  have LN:=SqL.samexT hq hT sx;obtain⟨XW,rv,g1,hz⟩:=I2.list LN;have hv:=ZM rv
  refine Zp5 I3 g1.isList hv QN (key:=key) (λpl z t s3 hmem J=>?_) λs3 a m out ms Fa J Nf Jh WE=>?_
  .-- the lambda called
   have RE:s3.heap.get? f=some (kla_obj (Str.ofString "<lambda>") (X.env.qual++Str.ofString "<lambda>") params body scope [(x,cc)] pm c' Si):=(J.pin (f,_) (Yc _ (Yb _ (Yc _ Ye)))).1;obtain⟨mm,_,pj⟩:=J.loc;obtain⟨ux,rx,CI⟩:=pj i x vx hi hσ (.inr (.inl eA));have Sq:s3.heap.IsCell cc (some ux):=by
    rcases CI with ⟨kz,_⟩ | ⟨_,c2,e2,VD⟩
    .rw[eA]at kz;cases kz
    .rw[Wv]at e2;cases e2;exact VD
   have Nh:s3.heap.CodeRec (.ref c') (X.env.qual++Str.ofString "<lambda>"):=(J.hok c' _ WI).1;have VM:Room (k+1) X.A.in1.in1:=(hr.in1).in1
   refine HV (Ml (CQ (u:=.int z t) (vv:=.int z) S VM J.env0.in1.in1 RE Nh (Tv c' pm Si _) Sq rx (J.freeC x cc Wv) ⟨t,rfl⟩ (hb f c' _ _ s3 H2 (VM.deeper _)) (hk H2 sx z hmem)) λrr s4 hh=>?_);obtain⟨u',rfl,ce⟩:=hh;obtain⟨v',H',J',rQ,e1,e2⟩:=J.after ce;subst e1 e2;obtain rfl:=rQ;exact⟨rfl,J'⟩
  .have J0:Inv X pins σ H2 s3:=J.unpinned;have Fa0:FpOk X pins H2 a:=⟨Fa.1,Fa.2.1,Fa.2.2.1,Fa.2.2.2.1,Fa.2.2.2.2.1,λp hp=>Fa.2.2.2.2.2 p (by
    rcases Xy.mp hp with hp | hp
    .exact Yb _ hp
    .exact Yc _ (Yb _ hp))⟩
   have NH:ms.length=ns.length:=by obtain⟨pp,h1,_,rfl⟩:=WE;rw[Yd,h1.length_eq,OZ]
   refine⟨.ref a,_,J0.adopt hex Fa0 (u:=.lst (ms.map V.int)) ⟨?_,out.toList,m,ZV Jh,by simpa using Nf⟩,rfl,q ms a H2 WE sx tab Fa.1⟩;rw[Yd,NH]
   have:sizeLine=16777216:=SX
   lia
end
abbrev UI:List (Str × Value):=[(Str.ofString "default",.none)]
section
variable{prog:Program}{w:World}{A:Around}{I S:Addr}{fp wr:List Addr}{n:Nat}{P:Nat->Value->Prop}{St:Nat->Heap->Prop}{R:Result->Shared->Prop}
theorem ZX7(W:Walks prog w A.in1 I fp wr n P St)(lt:Nat->Nat->Bool)(C:Heap->Prop)(ck:∀ h h',C h->(∀ b o,b≠S->b∉wr->h.get? b=some o->h'.get? b=some o)->C h')(cc:∀(s:Shared) (i j:Nat) (v u:Value) (E:Ae) (Q:Ae),C s.heap->i≠j->P i v->P j u->Q (.bool (lt i j)) s->wpAny (model prog w) A.in1 (compareOp .Lt v u) Q E s)(SJ:S∉fp):∀(k j:Nat) (s:Shared) (vb:Value) (c:Nat),n - (j+1)=k->j+1<=n->St (j+1) s.heap->P (argBest lt j) vb->C s.heap ->
  s.heap.get? S=some { cls:=.type "list",dict:=none,data:=.seq #[vb,vb] c,slots:=#[] } ->
  (∀ v h' tk,P (argBest lt (n - 1)) v->(∀ b o,b≠S->b∉wr->s.heap.get? b=some o->h'.get? b=some o)->R (.ok (.ret v)) { s with heap:=h',toks:=tk }) ->
  codeAny (model prog w) A (.builtin "min.loop" ⟨[.ref I,.none,.ref S],UI⟩) R s:=by
 have yq:S∉wr:=λh=>SJ (W.sub _ h);have nm:(toString "min"++toString ".loop":String)="min.loop":=by decide
 intro k
 induction k with
 | zero =>
  intro j s vb c hk hj st pb ta hS hR;have ej:j+1=n:=by grind
  refine RX An ?_;rw[Lh Ov _];show wpAny _ A.in1 (seqItems? (.ref S) >>= _) _ _ s
  refine XU (Lc hS rfl ?_);show wpAny _ A.in1 (tryCatch (pyNext (.ref I)) _ >>= _) _ _ s
  refine XU (GJ (W.done s _ _ (ej ▸ st) λh' tk Tu=>?_));have Tf:=Tu S _ yq hS
  show wpAny _ A.in1 (updateSeq S (λ_=>#[]) >>= _) _ _ _;refine XU (Am Tf rfl (XU (HW (Yk ?_))));exact hR vb _ tk (by rw[<- ej];exact pb) λb o b1 b2 e=>(YO _ _ (YW b1)).trans (Tu b o b2 e)
 | succ k ih =>
  intro j s vb c hk hj st pb ta hS hR;have Xi:j+1<n:=by omega
  refine RX An ?_;rw[Lh Ov _];show wpAny _ A.in1 (seqItems? (.ref S) >>= _) _ _ s
  refine XU (Lc hS rfl ?_);show wpAny _ A.in1 (tryCatch (pyNext (.ref I)) _ >>= _) _ _ s
  refine XU (GJ (W.item (j+1) s _ _ Xi st λv h' tk pv Tj Tu=>?_));have Tf:=Tu S _ yq hS
  have ph:=ck _ h' ta λb o _ b2 e=>Tu b o b2 e;show wpAny _ A.in1 (tryCatch (holding [v,v] (richCompare .Lt (v) (vb) >>= _)) _ >>= _) _ _ _
  refine XU (GJ (Su (XU (show wpAny _ _ (compareOp .Lt (v) (vb)) _ _ _ from cc { s with heap:=h',toks:=tk } (j+1) _ v vb _ _ ph (RW (Nat.lt_succ_of_le (My.Sl _ _))) pv pb ?_))));refine XU (Su (Ow ?_));refine XU (HW (Yk ?_));cases hb:lt (j+1) (argBest lt j) with
  | true =>
   simp only [OW];refine XU (Am Tf rfl (XU (HW ?_)));rw[nm];have up:∀ b o,b≠S->h'.get? b=some o->(h'.update S (Obj.mapSeq λ_=>#[v,v])).get? b=some o:=λb o b1 e=>(YO _ _ (YW b1)).trans e
   refine Yk ⟨UC Ov _,ih (j+1) _ (v) _ (by omega) Xi (W.frame _ h' _ Tj λb LJ o e=>up b o (λh=>SJ (h ▸ LJ)) e) ?_ (ck _ _ ph λb o b1 _ e=>up b o b1 e) (Vx _ Tf rfl) λv' JL Py CH CG=>?_⟩
   .unfold argBest;rw[if_pos hb];exact pv
   .exact hR v' JL Py CH λb o b1 b2 e=>CG b o b1 b2 (up b o b1 (Tu b o b2 e))
  | false =>
   simp only [GU,KR];refine XU (HW ?_);rw[nm];refine Yk ⟨UC Ov _,ih (j+1) _ (vb) c (by omega) Xi Tj ?_ ph Tf λv' JL Py CH CG=>?_⟩
   .unfold argBest;rw[if_neg (by rw[hb];decide)];exact pb
   .exact hR v' JL Py CH λb o b1 b2 e=>CG b o b1 b2 (Tu b o b2 e)
theorem Zw6 (W:Walks prog w A.in1 I fp wr n P St) (lt:Nat->Nat->Bool) (C:Heap->Prop) (ck:∀ h h',C h->(∀ b o,b≠S->b∉wr->h.get? b=some o->h'.get? b=some o)->C h') (cc:∀(s:Shared) (i j:Nat) (v u:Value) (E:Ae) (Q:Ae),C s.heap->i≠j->P i v->P j u->Q (.bool (lt i j)) s->wpAny (model prog w) A.in1 (compareOp .Lt v u) Q E s) (SJ:S∉fp) (hn:0<n) {s:Shared} {c:Nat} (st:St 0 s.heap) (ta:C s.heap) (hS:s.heap.get? S=some { cls:=.type "list",dict:=none,data:=.seq #[] c,slots:=#[] })
  (hR:∀ v h' tk,P (argBest lt (n - 1)) v->(∀ b o,b≠S->b∉wr->s.heap.get? b=some o->h'.get? b=some o)->R (.ok (.ret v)) { s with heap:=h',toks:=tk }) :
  codeAny (model prog w) A (.builtin "min.loop" ⟨[.ref I,.none,.ref S],UI⟩) R s:=by
 have yq:S∉wr:=λh=>SJ (W.sub _ h);have nm:(toString "min"++toString ".loop":String)="min.loop":=by decide
 refine RX An ?_;rw[Lh Ov _];show wpAny _ A.in1 (seqItems? (.ref S) >>= _) _ _ s
 refine XU (Lc hS rfl ?_);show wpAny _ A.in1 (tryCatch (pyNext (.ref I)) _ >>= _) _ _ s
 refine XU (GJ (W.item 0 s _ _ hn st λv h' tk pv Tj Tu=>?_));have Tf:=Tu S _ yq hS
 show wpAny _ A.in1 (updateSeq S (λ_=>#[v,v]) >>= _) _ _ _;refine XU (Am Tf rfl ?_);rw[nm];have up:∀ b o,b≠S->h'.get? b=some o->(h'.update S (Obj.mapSeq λ_=>#[v,v])).get? b=some o:=λb o b1 e=>(YO _ _ (YW b1)).trans e
 refine Yk ⟨UC Ov _,ZX7 W lt C ck cc SJ _ 0 _ v _ rfl hn (W.frame _ h' _ Tj λb LJ o e=>up b o (λh=>SJ (h ▸ LJ)) e) pv (ck _ _ ta λb o b1 b2 e=>up b o b1 (Tu b o b2 e)) (Vx _ Tf rfl) λv' JL Py CH CG=>?_⟩;exact hR v' JL Py CH λb o b1 b2 e=>CG b o b1 b2 (up b o b1 (Tu b o b2 e))
theorem ZW7 (W:Walks prog w A.in1 I fp wr n P St) (hn:n=0) (SJ:S∉fp) {s:Shared} {c:Nat} (st:St 0 s.heap) (hS:s.heap.get? S=some { cls:=.type "list",dict:=none,data:=.seq #[] c,slots:=#[] })
  (hR:∀ h' tk,(∀ b o,b≠S->b∉wr->s.heap.get? b=some o->h'.get? b=some o)->R (.ok (.ret .none)) { s with heap:=h',toks:=tk }) :
  codeAny (model prog w) A (.builtin "min.loop" ⟨[.ref I,.none,.ref S],UI⟩) R s:=by
 subst hn;refine RX An ?_;rw[Lh Ov _];show wpAny _ A.in1 (seqItems? (.ref S) >>= _) _ _ s
 refine XU (Lc hS rfl ?_);show wpAny _ A.in1 (tryCatch (pyNext (.ref I)) _ >>= _) _ _ s
 refine XU (GJ (W.done s _ _ st λh' tk Tu=>?_));refine XU (GB (Yk ?_));exact hR h' tk λb o _ b2 e=>Tu b o b2 e
theorem Zh4{E:Ae}{s:Shared}{id:String}{b:Builtin}{args:Ag}{kw:List (Str × Value)}{Q:Ae}(hk:builtinKind id=none)(hp:plainId id=true)(hb:entryFor table id=some b)(ha:argsOk id ⟨args,kw⟩)
  (hc:wpAny (model prog w) A.in1 (b ⟨args,kw⟩) (λfin s'=>match fin with
   | .done f=>(match (Except.ok f:Result) with | .ok (.ret v)=>Q v s' | .ok _=>False | .error e=>E e s')
   | .again c'=>c'.quiet=true/\codeAny (model prog w) A c' (λr s'=>match r with | .ok (.ret v)=>Q v s' | .ok _=>False | .error e=>E e s') s') E s):wpAny (model prog w) A (call (.builtin id) args kw) Q E s:=by
 refine HV (Av hp hb ?_);simp only [checkBuiltinCall,hk];cases pf:Manifest.signature? id with
 | none=>exact Yk hc
 | some sig =>
  have zj:Bind.checkArgs id sig ⟨args,kw⟩=pure ():=by simpa only [argsOk,pf] using ha
  simp only [zj];exact Yk hc
theorem pe (a:Value):argsOk "min" ⟨[a],UI⟩:=by unfold argsOk;kernel_rfl
theorem CF{E:Ae}{s:Shared}{l:Addr}{xs:Array (Int × Tok)}{Q:Ae}(hh:A.handled=none)(hl:s.heap.IsList l (intItems xs))
  (h0:xs.size=0->∀ h' tk,(∀ b o,s.heap.get? b=some o->h'.get? b=some o)->Q .none { s with heap:=h',toks:=tk })
  (h:0<xs.size->∀ v h' tk,(intItems xs)[argBest (λi j=>decide (numAt xs i<numAt xs j)) (xs.size - 1)]?=some v->(∀ b o,s.heap.get? b=some o->h'.get? b=some o)->Q v { s with heap:=h',toks:=tk }) :
  wpAny (model prog w) A (call (.builtin "min") [.ref l] UI) Q E s:=by
 have nm:(toString "min"++toString ".loop":String)="min.loop":=by decide
 refine Zh4 F.kind_min F.plain_min F.entry_min (pe _) ?_;show wpAny _ A.in1 (Builtin.Builtins.bindParams "min" ["key","default"] 0 ⟨[],UI⟩ >>= _) _ _ s
 refine XU (Oo (a:=[none,some .none]) rfl ?_);refine XU (Yk ?_);refine XU (iter_intList hl λs₂ e st yy hlI=>?_);subst e;refine XU (Mu ?_);rw[nm];have W:=Walks.list (prog:=prog) (w:=w) (A:=A.in1) hh s.heap.objs.size l hlI (intItems xs)
 obtain⟨G,hG⟩:∃ G,G=s.heap.push { cls:=.type "list_iterator",data:=.fields #[.ref l,.int 0 0] }:=⟨_,rfl⟩;have hold:∀ b o,s.heap.get? b=some o->b≠G.objs.size/\b∉[s.heap.objs.size]/\(G.push { cls:=.type "list",data:=.seq #[] 0 }).get? b=some o:=λb o e=>by
  have Xi:=Yl e;have pd:b<G.objs.size:=by rw[hG];exact Ym Xi (by rw[UD];exact Uk _)
  refine⟨Yt pd,λhm=>by rw[XD.mp hm]at Xi;exact QX _ Xi,WZ _ (by rw[hG];exact WZ _ e)⟩
 rw[<- hG]at st yy ⊢;have SJ:G.objs.size∉[s.heap.objs.size,l]:=λhm=>QX _ (yy _ hm)
 have Og:=W.frame 0 G (G.push { cls:=.type "list",data:=.seq #[] 0 }) st λb _ o e=>WZ _ e;have o9:(intItems xs).size=xs.size:=by simp[intItems]
 rcases Nat.eq_zero_or_pos xs.size with hz | hz
 .refine Yk ⟨UC Ov _,ZW7 W (o9.trans hz) SJ Og (Yo _ rfl) λh' tk hk=>?_⟩;exact h0 hz h' tk λb o e=>let ⟨a1,a2,a3⟩:=hold b o e;hk b o a1 a2 a3
 .refine Yk ⟨UC Ov _,Zw6 W (λi j=>decide (numAt xs i<numAt xs j)) (λ_=>True) (λ_ _ _ _=>trivial) (λs i j v u E Q _ _ pv pu q=>?_) SJ (by rw[o9];exact hz) Og trivial (Yo _ rfl) λv h' tk pv hk=>?_⟩
  .obtain⟨t1,rfl⟩:=intItems_at pv;obtain⟨t2,rfl⟩:=intItems_at pu;exact lt_int q
  .rw[o9]at pv;exact h hz v h' tk pv λb o e=>let ⟨a1,a2,a3⟩:=hold b o e;hk b o a1 a2 a3
end
def CC(K:Ad)(te:TE):TE:=λσ H Q=>te σ H λy H1=>∃(p:Addr) (ns:Ac),y=.ref p/\SqL K H1 p (ns.map V.int)/\(ns=[]->Q .non H1)/\∀ m:Int,m∈ns->(∀ a∈ns,m<=a)->Q (.int m) H1
theorem eh {X:Cx} {p kp pos cp:Pos} {e:Expr} {te:TE} {j:Nat} (hc:X.calm=true) (hg:Gl X (Str.ofString "min")) (hm:X.mg (Str.ofString "min")=none) (he:PE X e te) (hs:starEach [e] X.env=[(false,eval e X.env)]:=by rfl) :
  PE X (.Call (.Name (Str.ofString "min") p) [e] [⟨some (Str.ofString "default"),.Constant .none j cp,kp⟩] pos) (CC X.K te):=by
 intro pins s σ H Q I h;refine QF (QW I hg hm Boot.«min» ?_ (by decide) (by decide));have ha:PA X [e] (Qo te Kk):=XZ he XY hs
 refine callWith_kw (thn (ha pos pins s σ H (λvs H1=>match vs with
  | [y]=>∃(p:Addr) (ns:Ac),y=.ref p/\SqL X.K H1 p (ns.map V.int)/\(ns=[]->Q .non H1)/\∀ m:Int,m∈ns->(∀ a∈ns,m<=a)->Q (.int m) H1
  | _=>False) I h) λus s1 hh=>?_) (by rw[hs];rfl) (by rw[hs];rfl) rfl rfl
 obtain⟨vs,H1,I1,r,q⟩:=hh
 match vs,r,q with
 | [],_,q=>exact False.elim q
 | _ :: _ :: _,_,q=>exact False.elim q
 | [y],r,q =>
  obtain⟨p2,ns,rfl,hq,q0,q1⟩:=q;obtain⟨u,rfl,ru⟩:=RM r;obtain rfl:u=Value.ref p2:=ru;refine kws_cons (Constant_none (kws_nil ?_));obtain⟨XW,rv,pl,hz⟩:=I1.list hq;have hi:=ZM rv
  obtain⟨xs,e'⟩:=hi.allInts.items;have VU:ns=xs.toList.map (·.1):=by rw[<- hi.numsOf,<- nums_intItems,<- e']
  have hl:=pl.isList;rw[e']at hl;refine CF (I1.ok.hd hc) hl (λhsz h' tk hk=>?_) λhsz v h' tk hv hk=>?_
  .refine⟨.non,H1,I1.kept (t':=tk) hk,rfl,q0 ?_⟩;rw[VU,GY];exact YS.mp (by rw[YD];exact hsz)
  .obtain⟨t,rfl⟩:=intItems_at hv;obtain⟨h1,h2⟩:=argBest_lt (numAt xs) (xs.size - 1);refine⟨.int _,H1,I1.kept (t':=tk) hk,⟨t,rfl⟩,q1 _ ?_ λa ha=>?_⟩
   .rw[VU,numAt_eq];exact getD_mem (by rw[Yd,YD];omega)
   .rw[VU]at ha;obtain⟨j,hj,rfl⟩:=mem_getD ha;rw[Yd,YD]at hj;rw[<- numAt_eq];exact h2 j (by grind)
end L2
namespace My
open PySem L2
def CB (K:Ad) (mg:Af) (x qual:Str) (st:Stmt) (fs:List Str) (Pt:Addr):Prop:=∃(C f:Addr) (fd:FuncData) (c:Addr),mg x=some (.ref C)/\Fun K "__init__" qual st f fd/\Cls K C/\Mk K C f/\(∀ a∈fs,NoAttr K C a)/\fd.code=.ref c/\PySem.W.codeHdIn K c Pt=true
theorem Jb{K:Ad}{h:Heap}{mg:Af}{x qual:Str}{fs:List Str}{st:Stmt}{C f cA Pt:Addr}{oc:Value}{od an:Option Addr}{Ux:Array (Option Value)}{kV doc pm ct:Value}(X:K.In h)(G:h.Ns mainGlobals mg)
  (aC:PySem.W.nsIn K mainGlobals x=some (some (.ref C))) (a:PySem.W.findIn K (.ref C) "__init__"=some (some (.ref f))) (i:PySem.W.isFn K (.ref f)=true)
  (l:K.lookup f=some ⟨oc,od,.func (PySem.W.fnOf "__init__" qual (Kc st) (Ql st) (XA st) .none kV doc pm an (.ref cA) ct),Ux⟩) (c:PySem.W.codeIn K (.ref cA) qual=true) (k:PySem.W.keepIn K (.ref f)=true)
  (pg:PySem.W.plainGet K C Str.empty=true) (hd:PySem.W.hasDictIn K C=true) (po:PySem.W.plainOver K C=true) (sa:PySem.W.findIn K (.ref C) "__setattr__"=some (some (.builtin "object.__setattr__"))) (mk:PySem.W.makesIn K C=true) (kc:PySem.W.keepIn K (.ref C)=true)
  (na:∀ a∈fs,PySem.W.findIn K (.ref C) a=some none) (z:PySem.W.codeHdIn K cA Pt=true):CB K mg x qual st fs Pt :=
 ⟨C,f,_,cA,Mo X G aC,Kb l c k,⟨pg,hd,po,sa⟩,⟨mk,a,i,kc⟩,na,rfl,z⟩
def Nd(M:Ac)(ps:Aa)(g:Ac)(i:Nat):Ac:=(We i).filter λz=>decide (z∉g/\mk M (ps.getD z.toNat (0,0)).1.toNat≠mk M (ps.getD z.toNat (0,0)).2.toNat)
theorem ZW9(M:Ac)(ps:Aa)(g:Ac)(i:Nat):Nd M ps g (i+1)=Nd M ps g i++if (i:Int)∉g/\mk M (ps.getD i (0,0)).1.toNat≠mk M (ps.getD i (0,0)).2.toNat then [(i:Int)] else []:=by
 unfold Nd;rw[DP,QG];congr 1;rw[YN,KN];show(if decide ((i:Int)∉g/\mk M (ps.getD ((i:Int).toNat) (0,0)).1.toNat≠mk M (ps.getD ((i:Int).toNat) (0,0)).2.toNat)=true then [(i:Int)] else [])=_
 rw[Yv];simp only [Lf]
theorem o8(M:Ac)(ps:Aa)(g:Ac)(i:Nat):(Nd M ps g i).length<=i:=Yr (YH ..) (by rw[ZJ];exact XM _)
def Xe:Option Int->V
 | none=>.non
 | some z=>.int z
def yp (w k s ld l i fu:V):List (Str × V):=[("web",w),("kept",k),("shut",s),("lead",ld),("least",l),("incoming",i),("further",fu)]
theorem WL{H:Hp}{x:Addr}{o:HO}:SameX x H (upd H x o):=λb o' hb e=>by rw[Zb hb];exact e
theorem WebAt.but{C CP w x dx:Addr}{H H1:Hp}{n:Int}{ps:Aa}(h:WebAt C H w n ps)(hx:H x=some (.ins CP dx []))(s:SameX x H H1):WebAt C H1 w n ps:=by
 obtain⟨d,tl,xs,h1,h2,h3⟩:=h;refine⟨d,tl,xs,s _ _ (λe=>?_) h1,s _ _ (λe=>?_) h2,h3.1,λi p e=>?_⟩
 .rw[e,hx]at h1
  have:=Xw (λo=>match o with | some (HO.ins _ _ fs)=>fs.length | _=>0) h1
  exact absurd this (by show ¬ 0=2;decide)
 .rw[e,hx]at h2;cases h2
 .obtain⟨v,a1,tt,a2,a3⟩:=h3.2 i p e;exact⟨v,a1,tt,a2,s _ _ (λe=>by rw[e,hx]at a3;cases a3) a3⟩
theorem CA{K:Ad}{CP a x dx:Addr}{H H1:Hp}{xs:List V}(h:SqT K H a xs)(hx:H x=some (.ins CP dx []))(s:SameX x H H1):SqT K H1 a xs:=by
 rcases h with (h | ⟨o,h⟩) | h
 .exact .inl (.inl (s _ _ (λz=>by rw[z,hx]at h;cases h) h))
 .exact .inl (.inr ⟨o,s _ _ (λz=>by rw[z,hx]at h;cases h) h⟩)
 .exact .inr h
theorem o7{CP Pt x dx:Addr}{H H1:Hp}{pos:Pos}{qual:Str}(t:TabH H Pt pos qual)(hx:H x=some (.ins CP dx []))(s:SameX x H H1):TabH H1 Pt pos qual:=by
 obtain⟨ps,h1,h2,h3⟩:=t;refine⟨ps,s _ _ (λe=>by rw[e,hx]at h1;cases h1) h1,h2,?_⟩;rcases h3 with h | ⟨c,h,h'⟩
 .exact .inl h
 .exact .inr ⟨c,h,s _ _ (λe=>by rw[e,hx]at h';cases h') h'⟩
theorem Cz{K:Ad}{H:Hp}{a b:Addr}{l m:Ac}{Q:VK}(ha:SqT K H a (IL l))(hb:SqT K H b (IL m))(hl:l.length+m.length<=1000)(k:∀(r:Addr) (H':Hp),Same H H'->SqT K H' r (IL (l++m))->Q (.ref r) H'):JC K (.ref a) (.ref b) H Q:=by
 refine⟨a,b,_,_,rfl,rfl,ha,hb,by rw[Xq,Xq];exact Yr hl (by decide),λe=>?_,λ_ e=>?_,λ_ _ p hp=>?_⟩
 .have el:l=[]:=GY.mp e;rw[el,Mp]at k;exact k b H (Same.refl _) hb
 .have em:m=[]:=GY.mp e;rw[em,YF]at k;exact k a H (Same.refl _) ha
 .refine k p _ (XH hp) (SqT.of ?_);rw[XS,ET]
def UH(M:Ac)(ps:Aa)(z:Int):Int × Int:=(min (mk M (ps.getD z.toNat (0,0)).1.toNat) (mk M (ps.getD z.toNat (0,0)).2.toNat),max (mk M (ps.getD z.toNat (0,0)).1.toNat) (mk M (ps.getD z.toNat (0,0)).2.toNat))
theorem d9{l:Ac}{a b:Int}(hp:l.Perm [a,b])(hs:l.Pairwise (·<=·)):l=[min a b,max a b]:=by
 by_cases c:a<=b
 .rw[KL c,wZ c];exact zb hp hs (by simpa using c)
 .rw[w4 (by lia),KJ (by omega)];exact zb (hp.trans (List.Perm.swap b a [])) hs (by simp;omega)
theorem d8{M:Ac}{ps:Aa}{g:Ac}{i:Nat}{z:Int}(h:z∈Nd M ps g i):0<=z/\z<(i:Int):=XB.mp (Yf.mp h).1
def WW(n:Int)(ps:Aa)(I O F:Ac):Ac:=Nd (Xx n.toNat (XT ps I)) ps (I++O++F) ps.length
def Tt(n:Int)(ps:Aa)(I O F:Ac)(ld:Option Int):Ac:=(WW n ps I O F).filter λz=>decide (∃ y,ld=some y/\UH (Xx n.toNat (XT ps I)) ps z=UH (Xx n.toNat (XT ps I)) ps y)
def Wc(n:Int)(ps:Aa)(I O F:Ac)(ld:Option Int):Ac:=(WW n ps I O F).filter λz=>decide (z∉Tt n ps I O F ld)
def PartAt(K:Ad)(CP C:Addr)(H:Hp)(x:Addr)(n:Int)(ps:Aa)(I O F inc:Ac)(ld fu:Option Int):Prop:=∃ dx w a b l i,H x=some (.ins CP dx (yp (.ref w) (.ref a) (.ref b) (Xe ld) (.ref l) (.ref i) (Xe fu)))/\WebAt C H w n ps/\SqT K H a (IL I)/\SqT K H b (IL O)/\H l=some (.tup (IL F))/\H i=some (.lst (IL inc))
theorem PartAt.samex{K:Ad}{CP C Pt x:Addr}{H H2:Hp}{n:Int}{ps:Aa}{I O F inc:Ac}{ld fu:Option Int}{pos:Pos}{qual:Str}(h:PartAt K CP C H x n ps I O F inc ld fu)(t:TabH H Pt pos qual)(sx:SameX Pt H H2):PartAt K CP C H2 x n ps I O F inc ld fu:=by obtain⟨dx,w,a,b,l,i,h1,h2,h3,h4,h5,h6⟩:=h;exact⟨dx,w,a,b,l,i,sx _ _ (t.ne h1 (by simp)) h1,h2.samex t sx,SqK.samex (kd:=true) h3 t sx,SqK.samex (kd:=true) h4 t sx,sx _ _ (t.ne h5 (by simp)) h5,sx _ _ (t.ne h6 (by simp)) h6⟩
structure PartOk (n:Int) (ps:Aa) (I O:Ac) (ld:Option Int) (F inc:Ac) (fu:Option Int):Prop where
 tr:With n ps I O F
 least:∀ U,With n ps I O U->HT.lexLt U F=false
 inc:Sh (λz=>PyProof.Rows.b2i (decide (ld=some z))) (Tt n ps I O F ld) inc
 none:fu=none↔Wc n ps I O F ld=[]
 some:∀ y,fu=some y->y∈Wc n ps I O F ld/\∀ z∈Wc n ps I O F ld,y<=z
def xchT(F:Ac)(o z:Int):Ac:=(wo F o++[z]).mergeSort λa b=>decide (a<=b)
theorem LD(F:Ac)(o z:Int):(xchT F o z).Perm (wo F o++[z]):=List.mergeSort_perm _ _
theorem Rn(F:Ac)(o z:Int):(xchT F o z).Pairwise (·<=·):=by
 refine(jz (le:=λa b:Int=>decide (a<=b)) (λa b c h1 h2=>?_) (λa b=>?_) _).imp λh=>Yu h
 .simp only [Lf]at *;lia
 .simp only [KH,Lf];lia
def WN(n:Int)(ps:Aa)(I F:Ac)(z:Int):Ac:=(Uu n ps F z F).filter λt=>decide (t∉I)
section
variable{n:Int}{ps:Aa}{I O F T M:Ac}{x y z:Int}(g:Zv n ps)
include g
theorem Cy(hF:With n ps I O F)(he:exg n ps F x y)(hx:x∉I)(hy:y∉O)(hp:M.Perm (wo F x++[y]))(hs:M.Pairwise (·<=·)):With n ps I O M:=by
 refine⟨y9 g hF.1 he hp hs,λv hv=>(y8 g hF.1 he hp hs).mpr (.inl ⟨hF.2.1 v hv,λe=>hx (e ▸ hv)⟩),λv hv h=>?_⟩;rcases(y8 g hF.1 he hp hs).mp h with h | h
 .exact hF.2.2 v hv h.1
 .exact hy (h ▸ hv)
theorem d7(hF:Ze n ps F)(he:exg n ps F x y)(h:y<x)(hp:M.Perm (wo F x++[y]))(hs:M.Pairwise (·<=·)):HT.lexLt M F=true:=by
 have tM:=y9 g hF he hp hs;have yF:y∉F:=((Eb g hF).mp he).2.1
 refine(Jm (XX.mp tM.1).2 (XX.mp hF.1).2 (by have:=tM.2.1;have:=hF.2.1;lia)).mpr ⟨y,(y8 g hF he hp hs).mpr (.inr rfl),yF,λs OQ=>?_⟩;rw[y8 g hF he hp hs];constructor
 .rintro(q | q)
  .exact q.1
  .lia
 .exact λq=>.inl ⟨q,by lia⟩
theorem ZX(hF:With n ps I O F)(VQ:∀ U,With n ps I O U->HT.lexLt U F=false)(hT:With n ps (I++[z]) O T)(LC:∀ U,With n ps (I++[z]) O U->HT.lexLt U T=false):∀ v∈T,v∈F\/v=z:=λv hv=>Yz λno=>by
 have vF:v∉F:=λh=>no (.inl h);have vz:v≠z:=λh=>no (.inr h)
 obtain⟨u,e1,e2⟩:=sd g hT.1 hF.1 hv vF;have uF:u∈F:=e2.1
 have uT:u∉T:=((Eb g hT.1).mp e1).2.1;have uI:u∉I:=λh=>uT (hT.2.1 u (Yb _ h))
 have vO:v∉O:=λh=>hT.2.2 v h hv;have uO:u∉O:=λh=>hF.2.2 u h uF
 have vI:v∉I++[z]:=λh=>by
  rcases Xy.mp h with h | h
  .exact vF (hF.2.1 v h)
  .exact vz (XD.mp h)
 have uv:u≠v:=λe=>uT (e ▸ hv);obtain⟨M1,p1,q1⟩:=Jx (wo F u++[v]);have w1:=Cy g hF e2 uI vO p1 q1
 obtain⟨M2,p2,q2⟩:=Jx (wo T v++[u]);have w2:=Cy g hT e1 vI uO p2 q2
 rcases Int.lt_or_lt_of_ne uv with h | h
 .have:=d7 g hT.1 e1 h p2 q2
  rw[LC M2 w2]at this;cases this
 .have:=d7 g hF.1 e2 h p1 q1
  rw[VQ M1 w1]at this;cases this
theorem yn(hF:With n ps I O F)(VQ:∀ U,With n ps I O U->HT.lexLt U F=false)(hz:z∉F):With n ps I (O++[z]) F/\∀ U,With n ps I (O++[z]) U->HT.lexLt U F=false :=
 ⟨⟨hF.1,hF.2.1,λv hv=>(Xy.mp hv).elim (hF.2.2 v) λh=>by rw[XD.mp h];exact hz⟩,λU hU=>VQ U ⟨hU.1,hU.2.1,λv hv=>hU.2.2 v (Yb _ hv)⟩⟩
end
theorem WK{n:Int}{ps:Aa}{I O T:Ac}{z:Int}:With n ps I O T↔With n ps I (O++[z]) T\/With n ps (I++[z]) O T:=by
 constructor
 .intro h;by_cases c:z∈T
  .exact .inr ⟨h.1,λv hv=>(Xy.mp hv).elim (h.2.1 v) λe=>by rw[XD.mp e];exact c,h.2.2⟩
  .exact .inl ⟨h.1,h.2.1,λv hv=>(Xy.mp hv).elim (h.2.2 v) λe=>by rw[XD.mp e];exact c⟩
 .rintro(h | h)
  .exact⟨h.1,h.2.1,λv hv=>h.2.2 v (Yb _ hv)⟩
  .exact⟨h.1,λv hv=>h.2.1 v (Yb _ hv),h.2.2⟩
def RowAll(n:Int)(ps:Aa)(I O:Ac)(R:Ab):Prop:=R.Nodup/\∀ T,T∈R↔With n ps I O T
theorem RowAll.pc{n:Int}{ps:Aa}{I O:Ac}{R:Ab}(h:RowAll n ps I O R):PC n ps I O R.length:=⟨R,h.1,λl=>h.2 l,rfl⟩
theorem o6{n:Int}{ps:Aa}{I O:Ac}{z:Int}{A B:Ab}(hA:RowAll n ps I (O++[z]) A)(hB:RowAll n ps (I++[z]) O B):RowAll n ps I O (A++B.reverse):=by
 refine⟨YT.mpr ⟨hA.1,(List.reverse_perm B).nodup_iff.mpr hB.1,λa ha b hb e=>?_⟩,λT=>?_⟩
 .subst e;exact((hA.2 a).mp ha).2.2 z (by simp) (((hB.2 a).mp (Ie.mp hb)).2.1 z (by simp))
 .rw[Xy,Ie,hA.2,hB.2];exact WK.symm
theorem o5{a b c d:Int}(h1:min a b=min c d)(h2:max a b=max c d):(a=c/\b=d)\/(a=d/\b=c):=by
 rcases Int.le_total a b with p | p <;> rcases Int.le_total c d with q | q <;> simp only [KL,w4,KJ,wZ,p,q]at h1 h2
 .exact .inl ⟨h1,h2⟩
 .exact .inr ⟨h1,h2⟩
 .exact .inr ⟨h2,h1⟩
 .exact .inl ⟨h2,h1⟩
section
variable{n:Int}{ps:Aa}{I O F T:Ac}{o t t':Int}(g:Zv n ps)
include g
theorem d6(hT:Ze n ps T)(ho:o∈T):¬ Conn (XT ps (wo T o)) (Zq ps o).1 (Zq ps o).2:=by obtain⟨o0,o1⟩:=hT.1.all o ho;exact(ZN g hT o0 o1).mp ((HC g hT ho ho).mpr rfl)
theorem ZE7(hT:Ze n ps T)(hI:∀ v∈I,v∈T)(ht:t∈T)(hn:t∉I):¬ Conn (XT ps I) (Zq ps t).1 (Zq ps t).2:=λc =>
 d6 g hT ht (c.mono (ZC λv hv=>Xo.mpr ⟨hI v hv,λe=>hn (by rw[<- e];exact hv)⟩))
theorem Cw(Xt:∀ z∈I,0<=z/\z<(ps.length:Int))(t0:0<=t)(t1:t<(ps.length:Int))(s0:0<=t')(s1:t'<(ps.length:Int))(h:UH (Xx n.toNat (XT ps I)) ps t=UH (Xx n.toNat (XT ps I)) ps t') :
  (Conn (XT ps I) (Zq ps t).1 (Zq ps t').1/\Conn (XT ps I) (Zq ps t).2 (Zq ps t').2)\/(Conn (XT ps I) (Zq ps t).1 (Zq ps t').2/\Conn (XT ps I) (Zq ps t).2 (Zq ps t').1):=by
 have Wq:=ZH g Xt;have a:=Ut (z:=t) g t0 t1
 have b:=Ut (z:=t') g s0 s1;have h:(min (mk (Xx n.toNat (XT ps I)) (Zq ps t).1) (mk (Xx n.toNat (XT ps I)) (Zq ps t).2),max (mk (Xx n.toNat (XT ps I)) (Zq ps t).1) (mk (Xx n.toNat (XT ps I)) (Zq ps t).2))=(min (mk (Xx n.toNat (XT ps I)) (Zq ps t').1) (mk (Xx n.toNat (XT ps I)) (Zq ps t').2),max (mk (Xx n.toNat (XT ps I)) (Zq ps t').1) (mk (Xx n.toNat (XT ps I)) (Zq ps t').2)):=h
 obtain⟨h1,h2⟩:=Prod.mk.inj h;rw[<- VS Wq a.1 b.1,<- VS Wq a.2 b.2,<- VS Wq a.1 b.2,<- VS Wq a.2 b.1];exact o5 h1 h2
theorem Yz8(Xt:∀ z∈I,0<=z/\z<(ps.length:Int))(hT:Ze n ps T)(hI:∀ v∈I,v∈T)(ht:t∈T)(hs:t'∈T)(hn:t∉I)(TY:t'∉I)(h:UH (Xx n.toNat (XT ps I)) ps t=UH (Xx n.toNat (XT ps I)) ps t'):t=t':=Yz λne=>by
 obtain⟨t0,t1⟩:=hT.1.all t ht;obtain⟨s0,s1⟩:=hT.1.all t' hs;have sub:∀ v∈I++[t],v∈wo T t':=λv hv=>by
  rcases Xy.mp hv with hv | hv
  .exact Xo.mpr ⟨hI v hv,λe=>TY (by rw[<- e];exact hv)⟩
  .rw[XD.mp hv];exact Xo.mpr ⟨ht,ne⟩
 have up:∀ {i j},Conn (XT ps I) i j->Conn (XT ps (I++[t])) i j:=λc=>c.mono (ZC λv hv=>Yb _ hv);have ed:Conn (XT ps (I++[t])) (Zq ps t).1 (Zq ps t).2:=.edge (YC.mpr ⟨t,by simp,rfl⟩)
 have c:Conn (XT ps (I++[t])) (Zq ps t').1 (Zq ps t').2:=by
  rcases Cw g Xt t0 t1 s0 s1 h with ⟨a,b⟩ | ⟨a,b⟩
  .exact((up a).symm.trans ed).trans (up b)
  .exact((up b).symm.trans ed.symm).trans (up a)
 exact d6 g hT hs (c.mono (ZC sub))
theorem o4(Xt:∀ z∈I,0<=z/\z<(ps.length:Int))(hT:With n ps I O T)(hF:∀ v∈I,v∈F)(ht:t∈T)(hn:t∉F):t∈WW n ps I O F:=by
 obtain⟨t0,t1⟩:=hT.1.1.all t ht;have a:=Ut (z:=t) g t0 t1
 have hI:t∉I:=λh=>hn (hF t h);refine Yf.mpr ⟨XB.mpr ⟨t0,t1⟩,Yx ⟨λh=>?_,λe=>?_⟩⟩
 .rcases Xy.mp h with h | h
  .rcases Xy.mp h with h | h
   .exact hI h
   .exact hT.2.2 t h ht
  .exact hn h
 .exact ZE7 g hT.1 hT.2.1 ht hI ((VS (ZH g Xt) a.1 a.2).mp e)
end
def VZ(n:Int)(ps:Aa)(I F:Ac)(asc:Bool)(z:Int):Ab:=if asc then (WN n ps I F z).map λo=>xchT F o z else ((WN n ps I F z).map λo=>xchT F o z).reverse
def VF(n:Int)(ps:Aa)(I F:Ac):Ac->Bool->Ab
 | [],_=>[]
 | z :: r,asc=>VZ n ps I F asc z++VF n ps I F r (!asc)
theorem o3(n:Int)(ps:Aa)(I F:Ac)(z:Int):∀(l:Ac) (asc:Bool),VF n ps I F (l++[z]) asc=VF n ps I F l asc++VZ n ps I F (asc != (l.length % 2 == 1)) z
 | [],asc=>by show VZ n ps I F asc z++[]=[]++VZ n ps I F (asc != false) z;rw[YF,Mp,Bool.bne_false]
 | y :: l,asc=>by show VZ n ps I F asc y++VF n ps I F (l++[z]) (!asc)=VZ n ps I F asc y++VF n ps I F l (!asc)++_;rw[o3 n ps I F z l,QE,YB];congr 3;rcases(by lia:l.length % 2=0/\(l.length+1) % 2=1\/l.length % 2=1/\(l.length+1) % 2=0) with ⟨a,b⟩ | ⟨a,b⟩ <;> rw[a,b] <;> cases asc <;> rfl
theorem Cv(n:Int)(ps:Aa)(I F:Ac)(asc:Bool)(z:Int):(VZ n ps I F asc z).length<=F.length:=by
 unfold VZ;have h:(WN n ps I F z).length<=F.length:=Yr (YH ..) (HE n ps F z F)
 split
 .rw[Yd];exact h
 .rw[YK,Yd];exact h
theorem d5(n:Int)(ps:Aa)(I F:Ac):∀(l:Ac) (asc:Bool),(VF n ps I F l asc).length<=l.length * F.length
 | [],_=>Yn _
 | z :: l,asc=>by
  show(VZ n ps I F asc z++VF n ps I F l (!asc)).length<=_;rw[Xs,YB,Nat.succ_mul]
  have:=Cv n ps I F asc z
  have:=d5 n ps I F l (!asc)
  lia
def Cu(n:Int)(ps:Aa)(I F inc:Ac):Ab:=F :: VF n ps I F inc (inc.length % 2 == 1)
theorem Xh{n:Int}{ps:Aa}{F:Ac}{o t:Int}:o∈Uu n ps F t F↔o∈F/\t∈Vq n ps F o:=by unfold Uu;rw[Yf,YV];exact Iff.rfl
theorem XI{F:Ac}{o t v:Int}:v∈xchT F o t↔(v∈F/\v≠o)\/v=t:=by rw[(LD F o t).mem_iff,Xy,Xo,XD]
section
variable{n:Int}{ps:Aa}{I O F T:Ac}{ld:Option Int}{o t:Int}(g:Zv n ps)
include g
theorem oZ(Xt:∀ z∈I,0<=z/\z<(ps.length:Int))(hF:With n ps I O F)(hu:Wc n ps I O F ld=[])(hT:With n ps I O T):T=F\/∃ t∈WW n ps I O F,∃ o∈WN n ps I F t,T=xchT F o t:=by
 by_cases c:∀ v∈T,v∈F
 .exact .inl (pD g hT.1 hF.1 c)
 .obtain⟨t,ht,hn⟩:∃ t,t∈T/\t∉F:=Yz λno=>c λv hv=>Yz λhn=>no ⟨v,hv,hn⟩;have Ct:=o4 g Xt hT hF.2.1 ht hn
  have alike:∀ v∈WW n ps I O F,∃ y,ld=some y/\UH (Xx n.toNat (XT ps I)) ps v=UH (Xx n.toNat (XT ps I)) ps y:=λv hv=>by
   have hm:v∈Tt n ps I O F ld:=Yz λno=>by
    have:v∈Wc n ps I O F ld:=Yf.mpr ⟨hv,Yx no⟩
    rw[hu]at this;cases this
   exact Yu (Yf.mp hm).2
  have only:∀ v∈T,v∉F->v=t:=λv hv d4=>by obtain⟨y,e1,e2⟩:=alike v (o4 g Xt hT hF.2.1 hv d4);obtain⟨y',e3,e4⟩:=alike t Ct;rw[e1]at e3;cases e3;exact Yz8 g Xt hT.1 hT.2.1 hv ht (λh=>d4 (hF.2.1 v h)) (λh=>hn (hF.2.1 t h)) (e2.trans e4.symm)
  obtain⟨o,e1,e2⟩:=sd g hT.1 hF.1 ht hn;have oT:o∉T:=((Eb g hT.1).mp e1).2.1
  have hM:=y9 g hF.1 e2 (LD F o t) (Rn F o t);refine .inr ⟨t,Ct,o,Yf.mpr ⟨Xh.mpr ⟨e2.1,e2.2.2⟩,Yx λh=>oT (hT.2.1 o h)⟩,pD g hT.1 hM λv hv=>XI.mpr ?_⟩;by_cases cv:v∈F
  .exact .inl ⟨cv,λe=>oT (by rw[<- e];exact hv)⟩
  .exact .inr (only v hv cv)
theorem d3(hF:With n ps I O F)(ht:t∈WW n ps I O F)(ho:o∈WN n ps I F t):With n ps I O (xchT F o t):=by
 obtain⟨h1,h2⟩:=Yf.mp ht;obtain⟨hg,_⟩:=Yu h2;obtain⟨h3,h4⟩:=Yf.mp ho;obtain⟨h5,h6⟩:=Xh.mp h3;have tF:t∉F:=λh=>hg (Yc _ h)
 exact Cy g hF ⟨h5,λe=>tF (by rw[e];exact h5),h6⟩ (Yu h4) (λh=>hg (Yb _ (Yc _ h))) (LD F o t) (Rn F o t)
end
theorem Se{n:Int}{ps:Aa}{I F T:Ac}{asc:Bool}{z:Int}:T∈VZ n ps I F asc z↔∃ o∈WN n ps I F z,T=xchT F o z:=by
 have h:T∈((WN n ps I F z).map λo=>xchT F o z)↔∃ o∈WN n ps I F z,T=xchT F o z:=by rw[YC];exact⟨λ⟨o,h1,h2⟩=>⟨o,h1,h2.symm⟩,λ⟨o,h1,h2⟩=>⟨o,h1,h2.symm⟩⟩
 unfold VZ;split
 .exact h
 .rw[Ie];exact h
theorem Wb{n:Int}{ps:Aa}{I F T:Ac}:∀ {l:Ac} {asc:Bool},T∈VF n ps I F l asc↔∃ z∈l,∃ o∈WN n ps I F z,T=xchT F o z
 | [],_=>⟨λh=>(by cases h),λ⟨_,h,_⟩=>(by cases h)⟩
 | z :: l,asc=>by
  show T∈VZ n ps I F asc z++VF n ps I F l (!asc)↔_;rw[Xy,Se,Wb];constructor
  .rintro(h | ⟨z',h1,h2⟩)
   .exact⟨z,Ye,h⟩
   .exact⟨z',Yh _ h1,h2⟩
  .rintro⟨z',h1,h2⟩;rcases Yg.mp h1 with e | e
   .exact .inl (e ▸ h2)
   .exact .inr ⟨z',e,h2⟩
theorem Zn9{F:Ac}{o o' t t':Int}(ht:t∉F)(e:xchT F o t=xchT F o' t'):t=t':=by
 have:t∈xchT F o' t':=e ▸ XI.mpr (.inr rfl)
 rcases XI.mp this with h | h
 .exact absurd h.1 ht
 .exact h
theorem Cs{F:Ac}{o o' t:Int}(ho:o∈F)(ht:t∉F)(e:xchT F o t=xchT F o' t):o=o':=Yz λne=>by
 have h1:o∈xchT F o' t:=XI.mpr (.inl ⟨ho,ne⟩);rw[<- e]at h1;rcases XI.mp h1 with h | h
 .exact h.2 rfl
 .exact ht (h ▸ ho)
theorem ZY7{n:Int}{ps:Aa}{I F:Ac}(hF:F.Nodup){asc:Bool}{z:Int}(hz:z∉F):(VZ n ps I F asc z).Nodup:=by
 have hm:∀ v∈WN n ps I F z,v∈F:=λv hv=>(Xh.mp (Yf.mp hv).1).1;have h:((WN n ps I F z).map λo=>xchT F o z).Nodup:=by have hd:(WN n ps I F z).Pairwise (·≠·):=(hF.filter _).filter _;exact Mw.mpr (jE (λ{a b} ha hb VN e=>VN (Cs (hm a ha) hz e)) hd)
 unfold VZ;split
 .exact h
 .exact(List.reverse_perm _).nodup_iff.mpr h
theorem dZ{n:Int}{ps:Aa}{I F:Ac}(hF:F.Nodup):∀ {l:Ac} {asc:Bool},l.Nodup->(∀ z∈l,z∉F)->(VF n ps I F l asc).Nodup
 | [],_,_,_=>.nil
 | z :: l,asc,hn,hl=>by
  obtain⟨n1,n2⟩:=QY.mp hn;refine YT.mpr ⟨ZY7 hF (hl z Ye),dZ hF n2 λv hv=>hl v (Yh _ hv),λa ha b hb e=>?_⟩;obtain⟨o,_,h1⟩:=Se.mp ha;obtain⟨z',oY,o',_,h2⟩:=Wb.mp hb;rw[h1,h2]at e
  have:=Zn9 (hl z Ye) e
  exact n1 (this ▸ oY)
theorem oX{n:Int}{ps:Aa}{I O F inc:Ac}{ld:Option Int}(g:Zv n ps)(Xt:∀ z∈I,0<=z/\z<(ps.length:Int))(hF:With n ps I O F)(hu:Wc n ps I O F ld=[])(Ts:∀ z,z∈inc↔z∈WW n ps I O F)(hn:inc.Nodup):RowAll n ps I O (Cu n ps I F inc):=by
 have ym:∀ z∈inc,z∉F:=λz hz h=>(Yu (Yf.mp ((Ts z).mp hz)).2).1 (Yc _ h);refine⟨QY.mpr ⟨λh=>?_,dZ hF.1.1.nodup hn ym⟩,λT=>?_⟩
 .obtain⟨z,hz,o,_,e⟩:=Wb.mp h;exact ym z hz (by rw[e];exact XI.mpr (.inr rfl))
 .unfold Cu;rw[Yg,Wb];constructor
  .rintro(h | ⟨z,hz,o,ho,rfl⟩)
   .rw[h];exact hF
   .exact d3 g hF ((Ts z).mp hz) ho
  .intro h;rcases oZ g Xt hF hu h with e | ⟨t,ht,o,ho,e⟩
   .exact .inl e
   .exact .inr ⟨t,(Ts t).mpr ht,o,ho,e⟩
theorem Cr{es:List (Nat × Nat)}{u v i j:Nat}(c:Conn (es++[(u,v)]) i j):Conn es i j\/(Conn es i u/\Conn es v j)\/(Conn es i v/\Conn es u j):=by
 induction c with
 | refl i=>exact .inl (.refl i)
 | edge h =>
  rcases Xy.mp h with h | h
  .exact .inl (.edge h)
  .cases XD.mp h;exact .inr (.inl ⟨.refl _,.refl _⟩)
 | symm _ ih =>
  rcases ih with a | ⟨a,b⟩ | ⟨a,b⟩
  .exact .inl a.symm
  .exact .inr (.inr ⟨b.symm,a.symm⟩)
  .exact .inr (.inl ⟨b.symm,a.symm⟩)
 | trans _ _ PX Td =>
  rcases PX with a | ⟨a,b⟩ | ⟨a,b⟩ <;> rcases Td with c | ⟨c,d⟩ | ⟨c,d⟩
  .exact .inl (a.trans c)
  .exact .inr (.inl ⟨a.trans c,d⟩)
  .exact .inr (.inr ⟨a.trans c,d⟩)
  .exact .inr (.inl ⟨a,b.trans c⟩)
  .exact .inr (.inl ⟨a,d⟩)
  .exact .inl (a.trans d)
  .exact .inr (.inr ⟨a,b.trans c⟩)
  .exact .inl (a.trans d)
  .exact .inr (.inr ⟨a,d⟩)
theorem Cq{key:Int->Int}{ns ms:Ac}(h:Sh key ns ms):ms.Perm ns:=by
 obtain⟨p,h1,_,rfl⟩:=h;have e:(List.range ns.length).map (λi=>ns.getD i 0)=ns:=by
  refine RT λi=>?_;rw[Yp];by_cases c:i<ns.length
  .rw[xk c,Xr c];show some (ns.getD i 0)=_
   rw[WJ,Xr c];rfl
  .rw[Vy (by simpa using c),Vy (by lia)];rfl
 have:=h1.map λi=>ns.getD i 0
 rw[e]at this;exact this
theorem oW(key:Int->Int)(ns:Ac):∃ ms,Sh key ns ms:=by
 have hp:=List.mergeSort_perm (List.range ns.length) λi j=>decide (key (ns.getD i 0)<key (ns.getD j 0)\/(key (ns.getD i 0)=key (ns.getD j 0)/\i<=j));have hs:=jz (le:=λi j=>decide (key (ns.getD i 0)<key (ns.getD j 0)\/(key (ns.getD i 0)=key (ns.getD j 0)/\i<=j))) (λa b c h1 h2=>by simp only [Lf]at *;grind) (λa b=>by simp only [KH,Lf];grind) (List.range ns.length)
 refine⟨_,_,hp,?_,rfl⟩;refine(hs.and (hp.nodup_iff.mpr List.nodup_range)).imp λ{a b} h=>?_;have h1:=Yu h.1
 have h2:=h.2;show key (ns.getD a 0)<key (ns.getD b 0)\/(key (ns.getD a 0)=key (ns.getD b 0)/\a<b)
 grind
theorem oV(n:Int)(ps:Aa)(I O F:Ac)(ld:Option Int):(Wc n ps I O F ld).Pairwise (· < ·):=((Hy _).filter _).filter _
theorem Tq{n:Int}{ps:Aa}{I O:Ac}(g:Zv n ps)(ld:Option Int)(h:∃ U,With n ps I O U):∃ F inc fu,PartOk n ps I O ld F inc fu:=by
 obtain⟨L,l1,l2⟩:=pX g;obtain⟨U,hU⟩:=h;obtain⟨F,hF,hm⟩:∃ F,With n ps I O F/\∀ U,With n ps I O U->HT.lexLt U F=false:=by
  have key:∀ M:Ab,M.Pairwise Nw->(∃ U∈M,With n ps I O U)->∃ F∈M,With n ps I O F/\∀ U∈M,With n ps I O U->HT.lexLt U F=false:=by
   intro M
   induction M with
   | nil=>rintro _ ⟨U,h,_⟩;cases h
   | cons x M ih =>
    intro hp hex;obtain⟨p1,p2⟩:=QP.mp hp;by_cases c:With n ps I O x
    .refine⟨x,Ye,c,λV hV _=>?_⟩;rcases Yg.mp hV with e | e
     .rw[e];exact sE x
     .cases q:HT.lexLt V x with
      | false=>rfl
      | true =>
       have z:=gQ q (p1 V e);rw[sE]at z;cases z
    .obtain⟨V,hV,hw⟩:=hex;obtain⟨F,hF,a,b⟩:=ih p2 ⟨V,(Yg.mp hV).resolve_left λe=>c (e ▸ hw),hw⟩;refine⟨F,Yh _ hF,a,λV hV hw=>?_⟩;rcases Yg.mp hV with e | e
     .exact absurd (e ▸ hw) c
     .exact b V e hw
  obtain⟨F,_,a,b⟩:=key L l2 ⟨U,(l1 U).mpr hU.1,hU⟩;exact⟨F,a,λV hV=>b V ((l1 V).mpr hV.1) hV⟩
 obtain⟨inc,hi⟩:=oW (λz=>PyProof.Rows.b2i (decide (ld=some z))) (Tt n ps I O F ld);have SH:=oV n ps I O F ld
 cases hu:Wc n ps I O F ld with
 | nil=>exact⟨F,inc,none,hF,hm,hi,⟨λ_=>hu,λ_=>rfl⟩,λy h=>by cases h⟩
 | cons y l =>
  rw[hu]at SH;refine⟨F,inc,some y,hF,hm,hi,⟨λh=>(by cases h),λh=>(by rw[hu]at h;cases h)⟩,λv h=>?_⟩;cases h;rw[hu];refine⟨Ye,λv hv=>?_⟩;rcases Yg.mp hv with e | e
  .rw[e];exact Mh _
  .exact La ((QP.mp SH).1 v e)
inductive RowR (n:Int) (ps:Aa):Nat->Ac->Ac->Option Int->Ab->Prop
 | und {d:Nat} {I O F inc:Ac} {ld:Option Int}:PartOk n ps I O ld F inc none->inc.length<=30->(∀ z∈inc,z∉F/\0<=z/\z<(ps.length:Int))->RowR n ps d I O ld (Cu n ps I F inc)
 | div {d:Nat} {I O F inc:Ac} {z y:Int} {A B:Ab}:PartOk n ps I O (some z) F inc (some y)->(I++[z]).Nodup->(∀ v∈I++[z],0<=v/\v<(ps.length:Int))->(∀ v∈I++[z],v∉O)->(O++[z]).length<=30->(∃ U,With n ps (I++[z]) O U)->(∃ U,With n ps I (O++[z]) U)->0<=y->y<(ps.length:Int)->PC n ps I (O++[z]) A.length->RowR n ps d I (O++[z]) (some y) A->RowR n ps d (I++[z]) O (some y) B->RowR n ps (d+1) I O (some z) (A++B.reverse)
theorem ZG7{key:Int->Int}{ns ms dY:Ac}(h:Sh key ns ms)(h':Sh key ns dY):ms=dY:=by
 obtain⟨p,h1,h2,rfl⟩:=h;obtain⟨p',LW,oU,rfl⟩:=h';have e:p=p':=List.Perm.eq_of_pairwise (le:=Ahd λi=>key (ns.getD i 0)) (λa b _ _ x y=>by unfold Ahd at x y;omega) h2 oU (h1.trans LW.symm)
 rw[e]
theorem PartOk.uniq{n:Int}{ps:Aa}{I O F F' inc WA:Ac}{ld fu LB:Option Int}(h1:PartOk n ps I O ld F inc fu)(h2:PartOk n ps I O ld F' WA LB):F=F'/\inc=WA/\fu=LB:=by
 have eF:F=F':=Te (h2.least F h1.tr) (h1.least F' h2.tr);subst eF;refine⟨rfl,ZG7 h1.inc h2.inc,?_⟩;cases fu with
 | none =>
  cases LB with
  | none=>rfl
  | some y =>
   have:=(h2.some y rfl).1
   rw[h1.none.mp rfl]at this;cases this
 | some y =>
  cases LB with
  | none =>
   have:=(h1.some y rfl).1
   rw[h2.none.mp rfl]at this;cases this
  | some y' =>
   obtain⟨a1,a2⟩:=h1.some y rfl;obtain⟨b1,b2⟩:=h2.some y' rfl
   have:=a2 y' b1
   have:=b2 y a1
   rw[show y=y' by omega]
def RowW(n:Int)(ps:Aa)(R:Ab):Prop:=∃(ld:Option Int) (F inc:Ac) (fu:Option Int),PartOk n ps [] [] ld F inc fu/\(ld=none↔WW n ps [] [] F=[])/\(∀ y,ld=some y->y∈WW n ps [] [] F/\∀ z∈WW n ps [] [] F,y<=z)/\RowR n ps 31 [] [] ld R/\TC n ps R.length
section
variable{n:Int}{ps:Aa}{I O F:Ac}{y z:Int}(g:Zv n ps)
include g
theorem ZR(Xt:∀ v∈I,0<=v/\v<(ps.length:Int)):z∈WW n ps I O F↔(0<=z/\z<(ps.length:Int))/\z∉I/\z∉O/\z∉F/\¬ Conn (XT ps I) (Zq ps z).1 (Zq ps z).2:=by
 unfold WW Nd;rw[Yf,XB,YV];constructor
 .rintro⟨h,h1,h2⟩;have a:=Ut (z:=z) g h.1 h.2
  exact⟨h,λq=>h1 (Yb _ (Yb _ q)),λq=>h1 (Yb _ (Yc _ q)),λq=>h1 (Yc _ q),λc=>h2 ((VS (ZH g Xt) a.1 a.2).mpr c)⟩
 .rintro⟨h,h1,h2,h3,h4⟩;have a:=Ut (z:=z) g h.1 h.2
  refine⟨h,λq=>?_,λe=>h4 ((VS (ZH g Xt) a.1 a.2).mp e)⟩;rcases Xy.mp q with q | q
  .rcases Xy.mp q with q | q
   .exact h1 q
   .exact h2 q
  .exact h3 q
theorem yk(Xt:∀ v∈I,0<=v/\v<(ps.length:Int))(hF:With n ps I O F)(hz:z∈WW n ps I O F):∃ U,With n ps (I++[z]) O U:=by
 obtain⟨⟨z0,z1⟩,zI,zO,zF,hc⟩:=(ZR g Xt).mp hz;obtain⟨o,ho,hoI⟩:∃ o,o∈Uu n ps F z F/\o∉I:=Yz λno=>hc ((gJ g hF.1 z0 z1).mono (ZC λv hv=>Yz λh=>no ⟨v,hv,h⟩));obtain⟨h5,h6⟩:=Xh.mp ho;have he:exg n ps F o z:=⟨h5,λe=>zF (by rw[e];exact h5),h6⟩
 have hw:=Cy g hF he hoI zO (LD F o z) (Rn F o z);refine⟨xchT F o z,hw.1,λv hv=>?_,hw.2.2⟩;rcases Xy.mp hv with hv | hv
 .exact hw.2.1 v hv
 .rw[XD.mp hv];exact XI.mpr (.inr rfl)
theorem Cp(Xt:∀ v∈I,0<=v/\v<(ps.length:Int))(y0:0<=y/\y<(ps.length:Int))(z0:0<=z/\z<(ps.length:Int))(h:(Conn (XT ps I) (Zq ps y).1 (Zq ps z).1/\Conn (XT ps I) (Zq ps z).2 (Zq ps y).2)\/(Conn (XT ps I) (Zq ps y).1 (Zq ps z).2/\Conn (XT ps I) (Zq ps z).1 (Zq ps y).2)):UH (Xx n.toNat (XT ps I)) ps y=UH (Xx n.toNat (XT ps I)) ps z:=by
 have Wq:=ZH g Xt;have a:=Ut (z:=y) g y0.1 y0.2
 have b:=Ut (z:=z) g z0.1 z0.2;rw[<- VS Wq a.1 b.1,<- VS Wq b.2 a.2,<- VS Wq a.1 b.2,<- VS Wq b.1 a.2]at h;show(min (mk (Xx n.toNat (XT ps I)) (Zq ps y).1) (mk (Xx n.toNat (XT ps I)) (Zq ps y).2),max (mk (Xx n.toNat (XT ps I)) (Zq ps y).1) (mk (Xx n.toNat (XT ps I)) (Zq ps y).2))=(min (mk (Xx n.toNat (XT ps I)) (Zq ps z).1) (mk (Xx n.toNat (XT ps I)) (Zq ps z).2),max (mk (Xx n.toNat (XT ps I)) (Zq ps z).1) (mk (Xx n.toNat (XT ps I)) (Zq ps z).2))
 rcases h with ⟨e1,e2⟩ | ⟨e1,e2⟩
 .rw[e1,<- e2]
 .rw[e1,<- e2,Int.min_comm,Int.max_comm]
end
section
variable{n:Int}{ps:Aa}(g:Zv n ps)
include g
theorem Co{I O F inc:Ac}{ld fu:Option Int}(d:Nat)(hP:PartOk n ps I O ld F inc fu)(Xt:∀ v∈I,0<=v/\v<(ps.length:Int))(hu:Wc n ps I O F ld=[]):∃ R,RowR n ps d I O ld R/\RowAll n ps I O R:=by
 obtain rfl:=hP.none.mpr hu;have hp:=Cq hP.inc
 have Tx:(Tt n ps I O F ld).Nodup:=((((Hy _).imp λh e=>by lia:(We ps.length).Nodup)).filter _).filter _;have Ts:∀ z,z∈inc↔z∈WW n ps I O F:=λz=>by
  rw[hp.mem_iff];constructor
  .exact λh=>(Yf.mp h).1
  .intro h;refine Yz λno=>?_
   have:z∈Wc n ps I O F ld:=Yf.mpr ⟨h,Yx no⟩
   rw[hu]at this;cases this
 have hlen:inc.length<=30:=by rw[hp.length_eq];refine Yr (YH ..) (Yr (o8 _ _ _ _) g.2.2.1)
 exact⟨_,.und hP hlen λz hz=>by obtain⟨h1,_,_,h2,_⟩:=(ZR g Xt).mp ((Ts z).mp hz);exact⟨h2,h1⟩,oX g Xt hP.tr hu Ts (hp.nodup_iff.mpr Tx)⟩
theorem oS:∀(d:Nat) (I O F inc:Ac) (ld fu:Option Int),PartOk n ps I O ld F inc fu->I.Nodup->(∀ v∈I,0<=v/\v<(ps.length:Int))->(∀ v∈I,v∉O)->O.Nodup->(∀ v∈O,0<=v/\v<(ps.length:Int))->(ld=none->WW n ps I O F=[])->(∀ z,ld=some z->z∈WW n ps I O F)->ps.length<=d+I.length+O.length->∃ R,RowR n ps d I O ld R/\RowAll n ps I O R:=by
 intro d
 induction d with
 | zero =>
  intro I O F inc ld fu hP hIn Xt Vm yj yi _ _ hm;refine Co g 0 hP Xt ?_;have ym:WW n ps I O F=[]:=AD.mpr λz hz=>by
   obtain⟨h1,h2,h3,_⟩:=(ZR g Xt).mp hz;have nd:(z :: (I++O)).Nodup:=QY.mpr ⟨λh=>(Xy.mp h).elim h2 h3,YT.mpr ⟨hIn,yj,λa ha b hb e=>Vm a ha (e ▸ hb)⟩⟩
   have:=Jy (m:=We ps.length) nd λv hv=>XB.mpr (by
    rcases Yg.mp hv with e | e
    .rw[e];exact h1
    .exact(Xy.mp e).elim (Xt v) (yi v))
   rw[ZJ,YB,Xs]at this;lia
  unfold Wc;rw[ym];rfl
 | succ d ih =>
  intro I O F inc ld fu hP hIn Xt Vm yj yi QK SG hm;by_cases hu:Wc n ps I O F ld=[]
  .exact Co g _ hP Xt hu
  obtain⟨y,rfl⟩:∃ y,fu=some y:=by
   cases fu with
   | none=>exact absurd (hP.none.mp rfl) hu
   | some y=>exact⟨y,rfl⟩
  obtain⟨yu,_⟩:=hP.some y rfl;obtain⟨yo,ya⟩:=Yf.mp yu;have ya:=Yu ya
  obtain⟨z,rfl⟩:∃ z,ld=some z:=by
   cases ld with
   | none=>rw[QK rfl]at yo;cases yo
   | some z=>exact⟨z,rfl⟩
  have zo:=SG z rfl;obtain⟨Nc,yI,yO,yF,yc⟩:=(ZR g Xt).mp yo;obtain⟨LA,zI,zO,zF,zc⟩:=(ZR g Xt).mp zo;have XJ:UH (Xx n.toNat (XT ps I)) ps y≠UH (Xx n.toNat (XT ps I)) ps z:=λe=>ya (Yf.mpr ⟨yo,Yx ⟨z,rfl,e⟩⟩)
  have yz:y≠z:=λe=>XJ (by rw[e]);have dX:(I++[z]).Nodup:=YT.mpr ⟨hIn,by simp,λa ha b hb e=>zI (by rw[<- XD.mp hb,<- e];exact ha)⟩
  have dW:(O++[z]).Nodup:=YT.mpr ⟨yj,by simp,λa ha b hb e=>zO (by rw[<- XD.mp hb,<- e];exact ha)⟩;have Up:∀ v∈I++[z],0<=v/\v<(ps.length:Int):=λv hv=>(Xy.mp hv).elim (Xt v) λh=>by rw[XD.mp h];exact LA
  have Cn:∀ v∈O++[z],0<=v/\v<(ps.length:Int):=λv hv=>(Xy.mp hv).elim (yi v) λh=>by rw[XD.mp h];exact LA
  have SF:(O++[z]).length<=30:=by
   have:=Jy (m:=We ps.length) dW λv hv=>XB.mpr (Cn v hv)
   rw[ZJ]at this
   have:=g.2.2.1
   lia
  have Cm:∀ v∈I++[z],v∉O:=λv hv=>(Xy.mp hv).elim (Vm v) λh=>by rw[XD.mp h];exact zO
  have oQ:∀ v∈I,v∉O++[z]:=λv hv h=>(Xy.mp h).elim (Vm v hv) λh=>zI (by rw[<- XD.mp h];exact hv);obtain⟨s1,s2⟩:=yn g hP.tr hP.least zF;obtain⟨F1,SE,Ja,Nn⟩:=Tq g (some y) ⟨F,s1⟩;have e1:F1=F:=Te (s2 F1 Nn.tr) (Nn.least F s1)
  subst e1;have hW:=yk g Xt hP.tr zo
  obtain⟨F2,Px,Ck,SD⟩:=Tq g (some y) hW;have yF2:y∉F2:=λh=>(ZX g hP.tr hP.least SD.tr SD.least y h).elim yF yz
  obtain⟨A,SI,Uc⟩:=ih I (O++[z]) F1 SE (some y) Ja Nn hIn Xt oQ dW Cn (λh=>by cases h) (λv h=>by cases h;exact(ZR g Xt).mpr ⟨Nc,yI,λh=>(Xy.mp h).elim yO λh=>yz (XD.mp h),yF,yc⟩) (by rw[Xs,Yj];lia)
  obtain⟨B,HF,NC⟩:=ih (I++[z]) O F2 Px (some y) Ck SD dX Up Cm yj yi (λh=>by cases h) (λv h=>by
   cases h;refine(ZR g Up).mpr ⟨Nc,λh=>(Xy.mp h).elim yI λh=>yz (XD.mp h),yO,yF2,λc=>?_⟩;have e:XT ps (I++[z])=XT ps I++[((Zq ps z).1,(Zq ps z).2)]:=YR
   rw[e]at c;rcases Cr c with h | h
   .exact yc h
   .exact XJ (Cp g Xt Nc LA h)) (by rw[Xs,Yj];lia)
  exact⟨_,.div hP dX Up Cm SF hW ⟨F1,s1⟩ Nc.1 Nc.2 Uc.pc SI HF,o6 Uc NC⟩
theorem oP(h:∃ U,Ze n ps U):∃ R,RowW n ps R/\R.Nodup/\∀ T,T∈R↔Ze n ps T:=by
 obtain⟨U,hU⟩:=h;have hw:∀ T,With n ps [] [] T↔Ze n ps T:=λT=>⟨λh=>h.1,λh=>⟨h,λz q=>(by cases q),λz q=>(by cases q)⟩⟩
 obtain⟨F,_,_,yh⟩:=Tq g none ⟨U,(hw U).mpr hU⟩;have SH:(WW n ps [] [] F).Pairwise (· < ·):=(Hy _).filter _
 obtain⟨ld,h1,h2⟩:∃ ld:Option Int,(ld=none↔WW n ps [] [] F=[])/\∀ y,ld=some y->y∈WW n ps [] [] F/\∀ z∈WW n ps [] [] F,y<=z:=by
  cases ho:WW n ps [] [] F with
  | nil=>exact⟨none,⟨λ_=>rfl,λ_=>rfl⟩,λy h=>by cases h⟩
  | cons y l =>
   rw[ho]at SH;refine⟨some y,⟨λh=>(by cases h),λh=>(by cases h)⟩,λv h=>?_⟩;cases h;refine⟨Ye,λv hv=>?_⟩;rcases Yg.mp hv with e | e
   .rw[e];exact Mh _
   .exact La ((QP.mp SH).1 v e)
 obtain⟨F',inc,fu,hP⟩:=Tq g ld ⟨U,(hw U).mpr hU⟩;have eF:F'=F:=Te (yh.least F' hP.tr) (hP.least F yh.tr)
 subst eF;obtain⟨R,r1,r2⟩:=oS g 31 [] [] F' inc ld fu hP .nil (λv h=>by cases h) (λv h=>by cases h) .nil (λv h=>by cases h) (λe=>h1.mp e) (λz e=>(h2 z e).1) (by have:=g.2.2.1;simp;lia);exact⟨R,⟨ld,F',inc,fu,hP,h1,h2,r1,R,r2.1,λl=>(r2.2 l).trans (hw l),rfl⟩,r2.1,λT=>(r2.2 T).trans (hw T)⟩
end
end My
namespace L2
open PySem PySem.Spec PyProof.Rows PySem.MeetsSeq
section
variable{X:Cx}
def oO(K:Ad):V->List V->Hp->VK->Prop:=λx vs H Q=>∃(n:Nat) (l:Addr) (xs:List V) (y:V) (e:Addr->Bool) (j:Nat) (a:Addr),x=.ref l/\vs=[y]/\H l=some (.lst xs)/\n<=6/\(∀ v∈xs,∃ a,v=.ref a/\EqD K H n v y (e a))/\xs[j]?=some (.ref a)/\e a=true/\(∀ m b,m<j->xs[m]?=some (.ref b)->e b=false)/\Q (.int j) H
theorem ZT7 (K:Ad) (hu:X.A.units+8<cLine) (hk:X.K=K:=by rfl):Md X "list.index" (oO K):=by
 subst hk;intro pins s σ H x vs v us Q I rx rv h;obtain⟨n,l,xs,y,e,j,a,rfl,rfl,hH,hn,he,hj,hy,Sm,q⟩:=h;cases rx;obtain⟨u,rfl,ru⟩:=rv.one;obtain⟨z,XW,m,r,hl,ho⟩:=I.lstM hH;have hsz:sizeLine=16777216:=SX
 have NO:j<xs.length:=(Xp.mp hj).1;have at_:∀(i:Nat) (hi:i<XW.toArray.size),∃ b,xs[i]?=some (.ref b)/\XW.toArray[i]=.ref b:=λi hi=>by
  have VB:i<XW.length:=by simpa using hi
  obtain⟨w,ew,Ob⟩:=r.at VB;obtain⟨b,rfl,_⟩:=he w (Xg ew);have e3:XW[i]=Value.ref b:=Ob
  exact⟨b,ew,by simpa using e3⟩
 have dU:j<XW.toArray.size:=by rw[Ya];lia
 refine Ua F.slot_list_index ⟨_,ho,rfl⟩ F.entry_list_index (F.args_list_index_2 _ _) (SeqAt.list_indexAt l XW.toArray m none #[] u (λw=>match w with | .ref b=>e b | _=>false) j dU (by lia) ?_ ?_) ⟨ho,λw hw=>?_,?_⟩
 .obtain⟨b,e1,e2⟩:=at_ j dU;rw[hj]at e1;cases e1;rw[e2];exact hy
 .intro i hi Uv;obtain⟨b,e1,e2⟩:=at_ i hi;rw[e2];exact Sm i b Uv e1
 .exact gT I (by show X.A.units+1+n<cLine;lia) ru r he w (by simpa using hw)
 .exact⟨.int j,H,I.tok _,⟨_,rfl⟩,q⟩
end
end L2
namespace My
open PySem L2
theorem dS{P:Program}{w:World}{K:Ad}{mg:Af}{base:Heap}{k:Nat}{f:Addr}{fd:FuncData}{ps:List Str}:FnOk P w K mg base Xf k f fd ps λ_ _ _ _=>False:=⟨λ_ _ _ _ h=>h.elim,λ_ _ _ _ _ _ _ _ _ _ _ _ _ h=>h.elim⟩
theorem Cj{α:Type}[DecidableEq α]{x:α}:∀ {l:List α},x∈l->∃ j:Nat,l[j]?=some x/\∀ i:Nat,i<j->l[i]?≠some x
 | y :: l,h=>by
  by_cases c:y=x
  .exact⟨0,by rw[c];rfl,λi hi=>absurd hi (YY _)⟩
  .obtain⟨j,h1,h2⟩:=Cj ((Yg.mp h).resolve_left λe=>c e.symm);refine⟨j+1,h1,λi hi=>?_⟩
   match i,hi with
   | 0,_=>exact λe=>c (Yi e)
   | i+1,hi=>exact h2 i (by lia)
theorem ZD7{K:Ad}{H:Hp}{xs:List V}{L:Ab}{ta:Addr}{U:Ac}(hX:Bears (Xb H) xs L)(yg:SqT K H ta (IL U))(hU:U∈L):∃(e:Addr->Bool) (j:Nat) (a:Addr),(∀ v∈xs,∃ a,v=.ref a/\EqD K H 1 v (.ref ta) (e a))/\xs[j]?=some (.ref a)/\e a=true/\(∀ m b,m<j->xs[m]?=some (.ref b)->e b=false)/\L[j]?=some U:=by
 have key:∀ {c:Addr} {w:Ac},H c=some (.tup (IL w))->(Xb H (.ref c) U↔w=U):=λ{c w} hc=>by
  constructor
  .rintro⟨c',e,h⟩;cases e;rw[hc]at h;injection h with h
   injection h with h;exact(List.map_inj_right (λ_ _ h=>by injection h)).mp h
  .rintro rfl;exact⟨c,rfl,hc⟩
 obtain⟨j,h1,h2⟩:=Cj hU;obtain⟨v,hv,c,rfl,hc⟩:=hX.2 j U h1;refine⟨λa=>@decide (Xb H (.ref a) U) (Classical.propDecidable _),j,c,λv hv=>?_,hv,?_,λm b hm hb=>?_,h1⟩
 .obtain⟨i,hi⟩:=YZ hv;obtain⟨w,hw,c',rfl,WI⟩:=hX.at hi;refine⟨c',rfl,?_⟩;have e:@decide (Xb H (.ref c') U) (Classical.propDecidable _)=decide (w=U):=by rw[xa];exact key WI
  show EqD K H 1 (.ref c') (.ref ta) (@decide (Xb H (.ref c') U) (Classical.propDecidable _));rw[e];exact tI (SqT.of WI) yg
 .exact @Yx _ (Classical.propDecidable _) ((key hc).mpr rfl)
 .obtain⟨w,hw,c',e,WI⟩:=hX.at hb;cases e;exact @Sw _ (Classical.propDecidable _) λh=>h2 m hm (by rw[hw,(key WI).mp h])
theorem Ci{n:Int}{ps:Aa}{d:Nat}{I O:Ac}{ld:Option Int}{R:Ab}(g:Zv n ps)(h:RowR n ps d I O ld R):∀ T∈R,With n ps I O T:=by
 induction h with
 | und hP _ _ =>
  intro T hT;rcases Yg.mp hT with e | e
  .rw[e];exact hP.tr
  .obtain⟨z,hz,o,ho,rfl⟩:=Wb.mp e;exact d3 g hP.tr (Yf.mp ((Cq hP.inc).mem_iff.mp hz)).1 ho
 | div _ _ _ _ _ _ _ _ _ _ _ _ Cg oM =>
  intro T hT;rcases Xy.mp hT with h | h
  .exact WK.mpr (.inl (Cg T h))
  .exact WK.mpr (.inr (oM T (Ie.mp h)))
theorem Zw9{key:Int->Int}{ns ms:Ac}(h:Sh key ns ms):ms.Pairwise λa b=>key a<=key b:=by
 obtain⟨p,h1,h2,rfl⟩:=h;refine Mw.mpr (h2.imp λ{a b} h=>?_);have h:key (ns.getD a 0)<key (ns.getD b 0)\/(key (ns.getD a 0)=key (ns.getD b 0)/\a<b):=h
 lia
theorem dR{k:Int->Int}:∀ {l:Ac},(∀ a∈l,k a=0\/k a=1)->l.Pairwise (λa b=>k a<=k b)->∃ l1 l2,l=l1++l2/\(∀ a∈l1,k a=0)/\∀ a∈l2,k a=1
 | [],_,_=>⟨[],[],rfl,λa h=>(by cases h),λa h=>(by cases h)⟩
 | a :: l,h0,h=>by
  obtain⟨p1,p2⟩:=QP.mp h;rcases h0 a Ye with e | e
  .obtain⟨l1,l2,rfl,q1,q2⟩:=dR (λb hb=>h0 b (Yh _ hb)) p2;exact⟨a :: l1,l2,rfl,λb hb=>(Yg.mp hb).elim (λz=>z ▸ e) (q1 b),q2⟩
  .refine⟨[],a :: l,rfl,λa h=>(by cases h),λb hb=>?_⟩;rcases Yg.mp hb with z | z
   .rw[z];exact e
   .have:=p1 b z
    have:=h0 b (Yh _ z)
    lia
theorem VA{z a:Int}:(PyProof.Rows.b2i (decide (some z=some a))=0↔a≠z)/\(PyProof.Rows.b2i (decide (some z=some a))=1↔a=z):=by
 by_cases c:a=z
 .subst c;simp[PyProof.Rows.b2i]
 .simp[PyProof.Rows.b2i,c,YW c]
theorem oK{ns ms:Ac}{z:Int}(h:Sh (λa=>PyProof.Rows.b2i (decide (some z=some a))) ns ms):∃ l1 l2,ms=l1++l2/\(∀ a∈l1,a≠z)/\∀ a∈l2,a=z:=by
 obtain⟨l1,l2,e,h1,h2⟩:=dR (λa _=>by
  by_cases c:a=z
  .exact .inr (VA.2.mpr c)
  .exact .inl (VA.1.mpr c)) (Zw9 h)
 exact⟨l1,l2,e,λa ha=>VA.1.mp (h1 a ha),λa ha=>VA.2.mp (h2 a ha)⟩
theorem Hn{n:Int}{ps:Aa}{I O F:Ac}{z:Int}(h:z∈WW n ps I O F):z∉F:=λq=>(Yu (Yf.mp h).2).1 (Yc _ q)
theorem yf{n:Int}{ps:Aa}{I O F:Ac}{y z:Int}(h:y∈Wc n ps I O F (some z)):y∉F/\y≠z:=by obtain⟨h1,h2⟩:=Yf.mp h;refine⟨Hn h1,λe=>Yu h2 (Yf.mpr ⟨h1,Yx ⟨z,rfl,by rw[e]⟩⟩)⟩
section
variable{n:Int}{ps:Aa}{d:Nat}{I O:Ac}{R:Ab}(g:Zv n ps)
include g
theorem dQ{ld:Option Int}(h:RowR n ps d I O ld R):∀ F,With n ps I O F->(∀ U,With n ps I O U->HT.lexLt U F=false)->(∀ z,ld=some z->z∉F)->R[0]?=some F:=by
 induction h with
 | und hP _ _ =>
  intro F hF hm _;rw[Te (hP.least F hF) (hm _ hP.tr)];rfl
 | div hP _ _ _ _ _ _ _ _ _ _ _ Cg _ =>
  intro F hF hm hz;obtain⟨s1,s2⟩:=yn g hF hm (hz _ rfl);have e:=Te (hP.least F hF) (hm _ hP.tr)
  have:=Cg F s1 s2 λy' e'=>by cases e';rw[e];exact(yf (hP.some _ rfl).1).1
  rw[Ys (Xp.mp this).1,this]
end
def Sd(T U:Ac):Prop:=(T.filter λy=>decide (y∉U)).length=1
theorem Cf{T U:Ac}{a:Int}(hT:T.Nodup)(ha:a∈T)(hU:a∉U)(h:∀ v∈T,v∈U\/v=a):Sd T U:=by
 have p:(T.filter λy=>decide (y∉U)).Perm [a]:=(Lm (hT.filter _) (by simp)).mpr λv=>by
  rw[Yf,YV,XD];constructor
  .exact λq=>(h v q.1).resolve_left q.2
  .rintro rfl;exact⟨ha,hU⟩
 exact p.length_eq
theorem dP{n:Int}{ps:Aa}{T U:Ac}(hT:Ze n ps T)(hU:Ze n ps U)(h:Sd T U):Sd U T:=(Zp8 hU hT).trans h
def Adj{α:Type}(P:α->α->Prop)(l:List α):Prop:=∀(i:Nat) (a b:α),l[i]?=some a->l[i+1]?=some b->P a b
theorem Adj.nil{α:Type}{P:α->α->Prop}:Adj P []:=λi a b h=>by simp at h
theorem Adj.one{α:Type}{P:α->α->Prop}{x:α}:Adj P [x]:=λi a b _ h=>by simp at h
theorem Adj.append{α:Type}{P:α->α->Prop}{l m:List α}(h1:Adj P l)(h2:Adj P m)(h:∀ a b,l[l.length - 1]?=some a->m[0]?=some b->P a b):Adj P (l++m):=λi a b ha hb=>by
 by_cases c:i+1<l.length
 .rw[Ys (by lia)]at ha hb;exact h1 i a b ha hb
 .rw[Yq (by lia)]at hb;by_cases c':i<l.length
  .rw[Ys c',show i=l.length - 1 by lia]at ha;rw[show i+1 - l.length=0 by omega]at hb;exact h a b ha hb
  .rw[Yq (by omega)]at ha;rw[show i+1 - l.length=i - l.length+1 by grind]at hb;exact h2 _ a b ha hb
theorem Adj.rev{α:Type}{P:α->α->Prop}{l:List α}(h:Adj P l)(hs:∀ a∈l,∀ b∈l,P a b->P b a):Adj P l.reverse:=λi a b ha hb=>by
 have hi:=(Xp.mp hb).1;rw[YK]at hi;rw[Lk (by omega)]at ha hb
 have:=h (l.length - 1 - (i+1)) b a hb (by rw[show l.length - 1 - (i+1)+1=l.length - 1 - i by grind];exact ha)
 exact hs b (Xg hb) a (Xg ha) this
theorem dO{α:Type}(l:List α):l.reverse[l.reverse.length - 1]?=l[0]?:=by
 cases l with
 | nil=>rfl
 | cons x l =>
  rw[YK,Lk (by simp)];simp
theorem dN{α:Type}(l:List α):l.reverse[0]?=l[l.length - 1]?:=by
 cases l with
 | nil=>rfl
 | cons x l=>rw[Lk (by simp)];simp
theorem dM{F:Ac}{o z:Int}(hF:F.Nodup)(hz:z∉F):(xchT F o z).Nodup:=(LD F o z).nodup_iff.mpr (YT.mpr ⟨hF.filter _,by simp,λa ha b hb e=>hz (by rw[<- XD.mp hb,<- e];exact(Yf.mp ha).1)⟩)
theorem dJ{n:Int}{ps:Aa}{I F L:Ac}(hF:F.Nodup)(hL:L.Nodup)(oJ:∀ o∈L,o∈F):∀(l:Ac) (asc:Bool),l.Nodup->(∀ z∈l,z∉F)->(∀ z∈l,WN n ps I F z=L)->Adj Sd (VF n ps I F l asc)/\∀ U,(VF n ps I F l asc)[0]?=some U->∃ o z,l[0]?=some z/\(if asc then L[0]? else L[L.length - 1]?)=some o/\U=xchT F o z
 | [],asc,_,_,_=>⟨Adj.nil,λU h=>by simp[VF]at h⟩
 | z :: l,asc,hn,hz,hl=>by
  obtain⟨n1,n2⟩:=QY.mp hn;obtain⟨PX,Td⟩:=dJ hF hL oJ l (!asc) n2 (λv hv=>hz v (Yh _ hv)) (λv hv=>hl v (Yh _ hv));have zF:=hz z Ye
  have e0:WN n ps I F z=L:=hl z Ye;have same:∀ o∈L,∀ o'∈L,o≠o'->Sd (xchT F o z) (xchT F o' z):=λo ho o' WQ ne=>Cf (a:=o') (dM hF zF) (XI.mpr (.inl ⟨oJ o' WQ,YW ne⟩)) (λh=>by
   rcases XI.mp h with q | q
   .exact q.2 rfl
   .exact zF (q ▸ oJ o' WQ)) λv hv=>by
   rcases XI.mp hv with q | q
   .by_cases c:v=o'
    .exact .inr c
    .exact .inl (XI.mpr (.inl ⟨q.1,c⟩))
   .exact .inl (XI.mpr (.inr q))
  have am:Adj Sd (L.map λo=>xchT F o z):=λi a b ha hb=>by
   rw[Yp]at ha hb;cases ea:L[i]? with
   | none=>rw[ea]at ha;cases ha
   | some o =>
    cases eb:L[i+1]? with
    | none=>rw[eb]at hb;cases hb
    | some o' =>
     rw[ea]at ha;rw[eb]at hb;cases ha;cases hb;refine same o (Xg ea) o' (Xg eb) λe=>?_;subst e
     have:=(xf (Xp.mp ea).1 hL).mp (ea.trans eb.symm)
     lia
  have ar:Adj Sd (VZ n ps I F asc z):=by
   unfold VZ;rw[e0];cases asc with
   | true=>exact am
   | false =>
    refine am.rev λa ha b hb _=>?_;obtain⟨o,ho,rfl⟩:=YC.mp ha;obtain⟨o',WQ,rfl⟩:=YC.mp hb;by_cases c:o'=o
    .rename_i h;subst c;exact h
    .exact same o' WQ o ho c
  have hlen:(L.map λo=>xchT F o z).length=L.length:=Yd _;have last:∀ U,(VZ n ps I F asc z)[(VZ n ps I F asc z).length - 1]?=some U->∃ o∈L,(if asc then L[L.length - 1]? else L[0]?)=some o/\U=xchT F o z:=λU h=>by
   unfold VZ at h;rw[e0]at h;cases asc with
   | true =>
    rw[if_pos rfl,hlen,Yp]at h;cases e:L[L.length - 1]? with
    | none=>rw[e]at h;cases h
    | some o=>rw[e]at h;cases h;exact⟨o,Xg e,rfl,rfl⟩
   | false =>
    rw[if_neg (by decide),dO,Yp]at h;cases e:L[0]? with
    | none=>rw[e]at h;cases h
    | some o=>rw[e]at h;cases h;exact⟨o,Xg e,rfl,rfl⟩
  have head:∀ U,(VZ n ps I F asc z)[0]?=some U->∃ o,(if asc then L[0]? else L[L.length - 1]?)=some o/\U=xchT F o z:=λU h=>by
   unfold VZ at h;rw[e0]at h;cases asc with
   | true =>
    rw[if_pos rfl,Yp]at h;cases e:L[0]? with
    | none=>rw[e]at h;cases h
    | some o=>rw[e]at h;cases h;exact⟨o,rfl,rfl⟩
   | false =>
    rw[if_neg (by decide),dN,hlen,Yp]at h;cases e:L[L.length - 1]? with
    | none=>rw[e]at h;cases h
    | some o=>rw[e]at h;cases h;exact⟨o,rfl,rfl⟩
  refine⟨ar.append PX λa b ha hb=>?_,λU h=>?_⟩
  .obtain⟨o,ho,e1,rfl⟩:=last a ha;obtain⟨o',z',oY,e2,rfl⟩:=Td b hb;have eo:o'=o:=by
    cases asc with
    | true=>exact(Yi (e1.symm.trans e2)).symm
    | false=>exact(Yi (e1.symm.trans e2)).symm
   subst eo;have zl:=Xg oY
   refine Cf (a:=z) (dM hF zF) (XI.mpr (.inr rfl)) (λh=>?_) λv hv=>?_
   .rcases XI.mp h with q | q
    .exact zF q.1
    .exact n1 (q ▸ zl)
   .rcases XI.mp hv with q | q
    .exact .inl (XI.mpr (.inl q))
    .exact .inr q
  .cases hh:VZ n ps I F asc z with
   | cons x r =>
    have h':(VZ n ps I F asc z)[0]?=some U:=by
     have:=h
     unfold VF at this;rw[hh]at this ⊢;exact this
    obtain⟨o,e1,e2⟩:=head U h';exact⟨o,z,rfl,e1,e2⟩
   | nil =>
    exfalso;have Ce:L=[]:=by
     have:(VZ n ps I F asc z).length=L.length:=by unfold VZ;rw[e0];cases asc <;> simp
     rw[hh]at this;exact YS.mp this.symm
    obtain⟨o,z',_,e2,_⟩:=Td U (by have:=h;unfold VF at this;rw[hh]at this;exact this);rw[Ce]at e2;cases asc <;> simp at e2
section
variable{n:Int}{ps:Aa}{d:Nat}{I O F T:Ac}{R:Ab}{y z:Int}(g:Zv n ps)
include g
theorem oH(hF:With n ps I O F)(hz:z∉F)(VQ:∀ U,With n ps I O U->HT.lexLt U F=false)(hT:With n ps (I++[z]) O T)(LC:∀ U,With n ps (I++[z]) O U->HT.lexLt U T=false):∃ o∈WN n ps I F z,T=xchT F o z/\∀ o'∈WN n ps I F z,o'<=o:=by
 have half:=ZX g hF VQ hT LC;have zT:z∈T:=hT.2.1 z (by simp)
 obtain⟨o,e1,e2⟩:=sd g hT.1 hF.1 zT hz;have oT:o∉T:=((Eb g hT.1).mp e1).2.1
 have oI:o∉I:=λh=>oT (hT.2.1 o (Yb _ h));have zO:z∉O:=λh=>hT.2.2 z h zT
 have hM:=y9 g hF.1 e2 (LD F o z) (Rn F o z);have eT:T=xchT F o z:=pD g hT.1 hM λv hv=>XI.mpr <| by
  rcases half v hv with q | q
  .exact .inl ⟨q,λe=>oT (by rw[<- e];exact hv)⟩
  .exact .inr q
 refine⟨o,Yf.mpr ⟨Xh.mpr ⟨e2.1,e2.2.2⟩,Yx oI⟩,eT,λo' WQ=>Yz λno=>?_⟩;obtain⟨h3,h4⟩:=Yf.mp WQ;obtain⟨h5,h6⟩:=Xh.mp h3;have he:exg n ps F o' z:=⟨h5,λe=>hz (by rw[e];exact h5),h6⟩
 have w:=Cy g hF he (Yu h4) zO (LD F o' z) (Rn F o' z);have w2:With n ps (I++[z]) O (xchT F o' z):=(WK (z:=z).mp w).resolve_left λq=>q.2.2 z (by simp) (XI.mpr (.inr rfl))
 have lt:HT.lexLt (xchT F o' z) T=true:=by
  refine(Jm (XX.mp w.1.1).2 (XX.mp hT.1.1).2 (by have:=w.1.2.1;have:=hT.1.2.1;lia)).mpr ⟨o,XI.mpr (.inl ⟨e2.1,λe=>no (by lia)⟩),oT,λs hs=>?_⟩;rw[eT,XI,XI];constructor
  .rintro(q | q)
   .exact .inl ⟨q.1,by lia⟩
   .exact .inr q
  .rintro(q | q)
   .exact .inl ⟨q.1,by lia⟩
   .exact .inr q
 rw[LC _ w2]at lt;cases lt
theorem oG(Xt:∀ v∈I,0<=v/\v<(ps.length:Int))(h:RowR n ps d I O (some z) R)(hF:With n ps I O F)(VQ:∀ U,With n ps I O U->HT.lexLt U F=false)(hz:z∉F)(hT:With n ps (I++[z]) O T)(LC:∀ U,With n ps (I++[z]) O U->HT.lexLt U T=false):R[R.length - 1]?=some T:=by
 cases h with
 | und hP hl hi =>
  rename_i F' inc;have eF:=Te (hP.least F hF) (VQ _ hP.tr)
  subst eF;obtain⟨o,ho,eT,oE⟩:=oH g hF hz VQ hT LC;have zo:z∈WW n ps I O F:=o4 g Xt (WK.mpr (.inr hT)) hF.2.1 (hT.2.1 z (by simp)) hz
  have za:z∈Tt n ps I O F (some z):=Yf.mpr ⟨zo,Yx ⟨z,rfl,rfl⟩⟩;have hp:=Cq hP.inc
  have Tx:inc.Nodup:=hp.nodup_iff.mpr (((((Hy _).imp λh e=>by lia:(We ps.length).Nodup)).filter _).filter _);have zi:=hp.mem_iff.mpr za
  obtain⟨l1,l2,rfl,q1,q2⟩:=oK hP.inc;have e2:l2=[z]:=by
   obtain⟨_,n2,_⟩:=YT.mp Tx;have zl:z∈l2:=(Xy.mp zi).resolve_left λh=>q1 z h rfl
   match l2,zl,n2,q2 with
   | [a],_,_,q=>rw[q a (by simp)]
   | a :: b :: r,_,nd,q =>
    have e1:=q a (by simp);have e2:=q b (by simp)
    rw[e1,e2]at nd;simp at nd
  subst e2;have flag:(((l1++[z]).length % 2 == 1) != (l1.length % 2 == 1))=true:=by
   rw[Xs,Yj];rcases Nat.mod_two_eq_zero_or_one l1.length with c | c
   .rw[c,show(l1.length+1) % 2=1 by lia];rfl
   .rw[c,show(l1.length+1) % 2=0 by lia];rfl
  unfold Cu;rw[o3,flag];unfold VZ;rw[if_pos rfl];have asc:(WN n ps I F z).Pairwise (· < ·):=(((XX.mp hF.1.1).2).filter _).filter _
  have pos:=Qy ho;have lo:(WN n ps I F z)[(WN n ps I F z).length - 1]?=some o:=by
   obtain⟨i,hi,e⟩:=xm ho;by_cases c:i=(WN n ps I F z).length - 1
   .rw[<- c,Xr hi,e]
   .have lt:=Ij.mp asc i ((WN n ps I F z).length - 1) hi (by omega) (by lia);have le:=oE _ (Ms (show(WN n ps I F z).length - 1<_ by omega))
    rw[e]at lt;lia
  show((F :: VF n ps I F l1 ((l1++[z]).length % 2 == 1))++(WN n ps I F z).map λo=>xchT F o z)[_]?=_;rw[Yq (by simp;lia),Yp]
  have:((F :: (VF n ps I F l1 ((l1++[z]).length % 2 == 1)++(WN n ps I F z).map λo=>xchT F o z)).length - 1 - (F :: VF n ps I F l1 ((l1++[z]).length % 2 == 1)).length)=(WN n ps I F z).length - 1:=by
   simp;lia
  rw[this,lo,eT];rfl
 | div hP a1 a2 a3 a4 a5 a6 a7 a8 a9 hA hB =>
  rename_i d F' inc y A B;have eF:=Te (hP.least F hF) (VQ _ hP.tr)
  subst eF;obtain⟨yF,yz⟩:=yf (hP.some _ rfl).1;have hf:=dQ g hB T hT LC λv e=>by cases e;exact λq=>(ZX g hF VQ hT LC y q).elim yF yz
  have hb:=(Xp.mp hf).1;rw[<- dO]at hf;rw[Yq (by rw[Xs,YK];lia)];rw[YK]at hf;rw[show(A++B.reverse).length - 1 - A.length=B.length - 1 by rw[Xs,YK];lia];exact hf
theorem oB(Xt:∀ v∈I,0<=v/\v<(ps.length:Int))(hF:With n ps I O F)(y0:0<=y/\y<(ps.length:Int))(z0:0<=z/\z<(ps.length:Int))(h:UH (Xx n.toNat (XT ps I)) ps y=UH (Xx n.toNat (XT ps I)) ps z):WN n ps I F y=WN n ps I F z:=by
 have key:∀ a∈F,a∉I->(y∈Vq n ps F a↔z∈Vq n ps F a):=λa ha hn=>by
  rw[ZN g hF.1 y0.1 y0.2,ZN g hF.1 z0.1 z0.2];refine not_congr ?_;have up:∀ {i j},Conn (XT ps I) i j->Conn (XT ps (wo F a)) i j:=λc=>c.mono (ZC λv hv=>Xo.mpr ⟨hF.2.1 v hv,λe=>hn (by rw[<- e];exact hv)⟩)
  rcases Cw g Xt y0.1 y0.2 z0.1 z0.2 h with ⟨a,b⟩ | ⟨a,b⟩
  .exact⟨λc=>((up a).symm.trans c).trans (up b),λc=>((up a).trans c).trans (up b).symm⟩
  .exact⟨λc=>((up b).symm.trans c.symm).trans (up a),λc=>((up a).trans c.symm).trans (up b).symm⟩
 unfold WN Uu;rw[List.filter_filter,List.filter_filter];refine Mv λa ha=>?_;by_cases c:a∈I
 .simp[c]
 .have:=key a ha c
  unfold Vq at this;simp[c,this]
theorem oA{F2:Ac}(Xt:∀ v∈I,0<=v/\v<(ps.length:Int))(hF:With n ps I O F)(VQ:∀ U,With n ps I O U->HT.lexLt U F=false)(hz:z∈WW n ps I O F)(hy:y∈Wc n ps I O F (some z)):y∈WW n ps I (O++[z]) F/\(With n ps (I++[z]) O F2->(∀ U,With n ps (I++[z]) O U->HT.lexLt U F2=false)->y∈WW n ps (I++[z]) O F2):=by
 obtain⟨yF,yz⟩:=yf hy;obtain⟨yo,ya⟩:=Yf.mp hy;obtain⟨Nc,yI,yO,_,yc⟩:=(ZR g Xt).mp yo;obtain⟨LA,zI,zO,zF,zc⟩:=(ZR g Xt).mp hz;refine⟨(ZR g Xt).mpr ⟨Nc,yI,λh=>(Xy.mp h).elim yO λh=>yz (XD.mp h),yF,yc⟩,λh2 h2m=>?_⟩;have Up:∀ v∈I++[z],0<=v/\v<(ps.length:Int):=λv hv=>(Xy.mp hv).elim (Xt v) λh=>by rw[XD.mp h];exact LA
 refine(ZR g Up).mpr ⟨Nc,λh=>(Xy.mp h).elim yI λh=>yz (XD.mp h),yO,λh=>(ZX g hF VQ h2 h2m y h).elim yF yz,λc=>?_⟩;have e:XT ps (I++[z])=XT ps I++[((Zq ps z).1,(Zq ps z).2)]:=YR
 rw[e]at c;rcases Cr c with h | h
 .exact yc h
 .exact Yu ya (Yf.mpr ⟨yo,Yx ⟨z,rfl,Cp g Xt Nc LA h⟩⟩)
end
theorem ZI7{n:Int}{ps:Aa}{d:Nat}{I O:Ac}{ld:Option Int}{R:Ab}(g:Zv n ps)(h:RowR n ps d I O ld R):(∀ v∈I,0<=v/\v<(ps.length:Int))->(∀ F z,With n ps I O F->(∀ U,With n ps I O U->HT.lexLt U F=false)->ld=some z->z∈WW n ps I O F)->Adj Sd R:=by
 induction h with
 | @und d I O F inc ld hP hl hi =>
  intro Xt Cd;have hp:=Cq hP.inc
  have Tx:inc.Nodup:=hp.nodup_iff.mpr (((((Hy _).imp λh e=>by omega:(We ps.length).Nodup)).filter _).filter _);have oz:=hP.tr.1.1.nodup
  cases ld with
  | none =>
   have e:inc=[]:=by refine AD.mpr λz hz=>?_;obtain⟨y,h,_⟩:=Yu (Yf.mp (hp.mem_iff.mp hz)).2;cases h
   subst e;exact Adj.one
  | some z =>
   have zo:=Cd F z hP.tr hP.least rfl;obtain⟨LA,_⟩:=(ZR g Xt).mp zo;obtain⟨c1,c2⟩:=dJ (n:=n) (ps:=ps) (I:=I) (F:=F) (L:=WN n ps I F z) oz ((oz.filter _).filter _) (λo ho=>(Xh.mp (Yf.mp ho).1).1) inc (inc.length % 2 == 1) Tx (λv hv=>(hi v hv).1) (λv hv=>by obtain⟨y,e,h⟩:=Yu (Yf.mp (hp.mem_iff.mp hv)).2;cases e;exact oB g Xt hP.tr (hi v hv).2 LA h)
   show Adj Sd ([F]++VF n ps I F inc (inc.length % 2 == 1));refine Adj.one.append c1 λa b ha hb=>?_;cases ha;obtain⟨o,v,hv,ho,rfl⟩:=c2 b hb;have vF:=(hi v (Xg hv)).1
   have oL:o∈WN n ps I F z:=by
    split at ho
    .exact Xg ho
    .exact Xg ho
   have oF:=(Xh.mp (Yf.mp oL).1).1;refine Cf (a:=o) oz oF (λh=>?_) λw hw=>?_
   .rcases XI.mp h with q | q
    .exact q.2 rfl
    .exact vF (q ▸ oF)
   .by_cases c:w=o
    .exact .inr c
    .exact .inl (XI.mpr (.inl ⟨hw,c⟩))
 | @div d I O F inc z y A B hP hIn Up Vm hO hW _ _ _ _ hA hB Cg oM =>
  intro Xt Cd;have zo:=Cd F z hP.tr hP.least rfl
  have zF:=Hn zo;have yu:=(hP.some y rfl).1
  obtain⟨yF,yz⟩:=yf yu;obtain⟨s1,s2⟩:=yn g hP.tr hP.least zF;obtain⟨F2,_,_,SD⟩:=Tq g (some y) hW;obtain⟨y1,y2⟩:=oA (F2:=F2) g Xt hP.tr hP.least zo yu;have y2:=y2 SD.tr SD.least
  have aA:=Cg Xt λF' v h1 h2 e=>by cases e;rw[Te (s2 F' h1) (h2 F s1)];exact y1
  have aB:=oM Up λF' v h1 h2 e=>by cases e;rw[Te (SD.least F' h1) (h2 F2 SD.tr)];exact y2
  refine aA.append (aB.rev λa ha b hb q=>dP (Ci g hB a ha).1 (Ci g hB b hb).1 q) λa b ha hb=>?_;rw[dN]at hb;obtain⟨G,_,_,hG⟩:=Tq g none (yk g Xt hP.tr (Yf.mp yu).1);have zG:z∉G:=λh=>(ZX g hP.tr hP.least hG.tr hG.least z h).elim zF (YW yz)
  obtain⟨g1,g2⟩:=yn g hG.tr hG.least zG;have ea:=oG g Xt hA s1 s2 yF g1 g2
  rw[<- Yi (ea.symm.trans ha)];obtain⟨T2,_,_,h2⟩:=Tq g none (yk g Up SD.tr y2);have eb:=oG g Up hB SD.tr SD.least (Hn y2) h2.tr h2.least
  rw[<- Yi (eb.symm.trans hb)];have sw:∀ U,With n ps (I++[z]++[y]) O U↔With n ps (I++[y]++[z]) O U:=λU=>by
   unfold With;refine and_congr_right λ_=>and_congr_left λ_=>⟨λh v hv=>h v ?_,λh v hv=>h v ?_⟩
   all_goals
    simp only [Xy,XD]at hv ⊢;rcases hv with (q | q) | q
    .exact .inl (.inl q)
    .exact .inr q
    .exact .inl (.inr q)
  have hh:=ZX g hG.tr hG.least ((sw T2).mp h2.tr) λU hU=>h2.least U ((sw U).mpr hU);exact dP h2.tr.1 g1.1 (Cf (a:=z) h2.tr.1.1.nodup (h2.tr.2.1 z (by simp)) zG λv hv=>hh v hv)
theorem dI{l:Ac}{ld Lz:Option Int}(h1:ld=none↔l=[])(h2:∀ y,ld=some y->y∈l/\∀ z∈l,y<=z)(LW:Lz=none↔l=[])(oU:∀ y,Lz=some y->y∈l/\∀ z∈l,y<=z):ld=Lz:=by
 cases ld with
 | none=>exact(LW.mpr (h1.mp rfl)).symm
 | some y =>
  cases Lz with
  | none=>exact absurd (h1.mpr (LW.mp rfl)) (by simp)
  | some y' =>
   obtain⟨a1,a2⟩:=h2 y rfl;obtain⟨b1,b2⟩:=oU y' rfl
   have:=a2 y' b1
   have:=b2 y a1
   rw[show y=y' by lia]
theorem Rm{n:Int}{ps:Aa}{T:Ac}:With n ps [] [] T↔Ze n ps T:=⟨λh=>h.1,λh=>⟨h,λz q=>(by cases q),λz q=>(by cases q)⟩⟩
theorem oy{n:Int}{ps:Aa}{R:Ab}{F L:Ac}(g:Zv n ps)(hR:RowW n ps R)(hF:Ze n ps F)(VQ:∀ U,Ze n ps U->HT.lexLt U F=false):R[0]?=some F/\Adj Sd R/\(1<R.length->R[R.length - 1]?=some L->Sd L F):=by
 have Hm:=Rm.mpr hF;have Nb:∀ U,With n ps [] [] U->HT.lexLt U F=false:=λU hU=>VQ U hU.1
 have Xt:∀ v∈([]:Ac),0<=v/\v<(ps.length:Int):=λv h=>by cases h
 obtain⟨ld,F',inc,fu,hP,h1,h2,Ly,_⟩:=id hR;have eF:F'=F:=Te (VQ F' hP.tr.1) (hP.least F Hm)
 subst eF;refine⟨dQ g Ly F' Hm Nb λz e=>Hn (h2 z e).1,ZI7 g Ly Xt λF2 z a b e=>?_,λhl hL=>?_⟩
 .rw[Te (Nb F2 a) (b F' Hm)];exact(h2 z e).1
 .cases ld with
  | none =>
   exfalso;have eo:=h1.mp rfl
   cases Ly with
   | und ou _ _ =>
    obtain⟨rfl,rfl,rfl⟩:=hP.uniq ou;have e:inc=[]:=AD.mpr λz hz=>by
     have:=(Yf.mp ((Cq hP.inc).mem_iff.mp hz)).1
     rw[eo]at this;cases this
    subst e;exact absurd hl (by show ¬ 1<1;decide)
  | some z =>
   have zo:=(h2 z rfl).1;obtain⟨T2,_,_,Hl⟩:=Tq g none (yk g Xt Hm zo);rw[oG g Xt Ly Hm Nb (Hn zo) Hl.tr Hl.least]at hL;obtain rfl:=Yi hL;exact Cf (a:=z) Hl.tr.1.1.nodup (Hl.tr.2.1 z (by simp)) (Hn zo) λv hv=>ZX g Hm Nb Hl.tr Hl.least v hv
def top(i:Nat):Stmt:=PySem.Challenge.pw_spanrow_k41_pieces_of_the_row.main.body.getD i (.Pass ⟨0,0,0,0⟩)
abbrev sZ0:Stmt:=top 10
abbrev sZ1:Stmt:=top 11
abbrev sZ2:Stmt:=top 12
abbrev sZ3:Stmt:=top 13
abbrev sZ4:Stmt:=top 14
abbrev sZ5:Stmt:=top 15
abbrev sZ6:Stmt:=top 21
abbrev sZ7:Stmt:=top 20
abbrev sZ8:Stmt:=iH (top 19) 0
abbrev sZ9:Stmt:=top 22
abbrev sZa:Stmt:=top 23
abbrev sZb:Stmt:=top 24
abbrev sZc:Stmt:=top 25
abbrev sZd:Stmt:=top 26
abbrev sZe:Stmt:=top 27
abbrev sZf:Stmt:=top 28
abbrev sZg:Stmt:=top 29
abbrev sZh:Stmt:=top 31
abbrev sZi:Stmt:=top 32
abbrev sZj:Stmt:=top 33
abbrev sZk:Stmt:=top 34
abbrev sZl:Stmt:=top 36
abbrev sZm:Stmt:=top 37
abbrev sZn:Stmt:=top 38
abbrev sZo:Stmt:=top 39
abbrev sZp:Stmt:=top 40
abbrev sZq:Stmt:=top 42
abbrev sZr:Stmt:=top 45
abbrev sZs:Stmt:=top 46
abbrev sZt:Stmt:=iH (top 47) 0
abbrev sZu:Stmt:=top 48
abbrev sZv:Stmt:=top 49
abbrev sZw:Stmt:=top 50
abbrev sZx:Stmt:=top 51
abbrev sZy:Stmt:=top 52
abbrev sZz:Stmt:=top 53
abbrev sZA:Stmt:=top 54
abbrev sZB:Stmt:=top 43
abbrev sZC:Stmt:=top 56
abbrev sZD:Stmt:=top 57
abbrev sZE:Stmt:=top 55
abbrev sZF:Stmt:=top 58
abbrev sZG:Stmt:=top 60
abbrev sZH:Stmt:=top 61
abbrev sZI:Stmt:=top 62
abbrev sZJ:Stmt:=top 63
abbrev sZK:Stmt:=top 64
abbrev sZL:Stmt:=top 65
abbrev sZM:Stmt:=top 66
abbrev sZN:Stmt:=top 67
abbrev sZO:Stmt:=top 68
abbrev sZP:Stmt:=top 69
abbrev sZQ:Stmt:=top 70
set_option genInjectivity false in
structure Adr where
 aZ0:Addr
 dZ0:FuncData
 aZ1:Addr
 dZ1:FuncData
 aZ2:Addr
 dZ2:FuncData
 aZ3:Addr
 dZ3:FuncData
 aZ4:Addr
 dZ4:FuncData
 aZ5:Addr
 dZ5:FuncData
 aZ6:Addr
 dZ6:FuncData
 aZ7:Addr
 dZ7:FuncData
 aZ8:Addr
 dZ8:FuncData
 aZ9:Addr
 dZ9:FuncData
 aZa:Addr
 dZa:FuncData
 aZb:Addr
 dZb:FuncData
 aZc:Addr
 dZc:FuncData
 aZd:Addr
 dZd:FuncData
 aZe:Addr
 dZe:FuncData
 aZf:Addr
 dZf:FuncData
 aZg:Addr
 dZg:FuncData
 aZh:Addr
 dZh:FuncData
 aZi:Addr
 dZi:FuncData
 aZj:Addr
 dZj:FuncData
 aZk:Addr
 dZk:FuncData
 aZl:Addr
 dZl:FuncData
 aZm:Addr
 dZm:FuncData
 aZn:Addr
 dZn:FuncData
 aZo:Addr
 dZo:FuncData
 aZp:Addr
 dZp:FuncData
 aZq:Addr
 dZq:FuncData
 aZr:Addr
 dZr:FuncData
 aZs:Addr
 dZs:FuncData
 aZt:Addr
 dZt:FuncData
 aZu:Addr
 dZu:FuncData
 aZv:Addr
 dZv:FuncData
 aZw:Addr
 dZw:FuncData
 aZx:Addr
 dZx:FuncData
 aZy:Addr
 dZy:FuncData
 aZz:Addr
 dZz:FuncData
 aZA:Addr
 dZA:FuncData
 aZB:Addr
 dZB:FuncData
 aZC:Addr
 dZC:FuncData
 aZD:Addr
 dZD:FuncData
 aZE:Addr
 dZE:FuncData
 aZF:Addr
 dZF:FuncData
 aZG:Addr
 dZG:FuncData
 aZH:Addr
 dZH:FuncData
 aZI:Addr
 dZI:FuncData
 aZJ:Addr
 dZJ:FuncData
 aZK:Addr
 dZK:FuncData
 aZL:Addr
 dZL:FuncData
 aZM:Addr
 dZM:FuncData
 aZN:Addr
 dZN:FuncData
 aZO:Addr
 dZO:FuncData
 aZP:Addr
 dZP:FuncData
 aZQ:Addr
 dZQ:FuncData
 A_Web:Addr
 A_Part:Addr
 A_WebError:Addr
 A_NoTree:Addr
 A_NoSuch:Addr
 A_Parted:Addr
structure Txt (K:Ad) (mg:Af) (t:Adr):Prop where
 fZ0:Fun K "refuse_not_square" "refuse_not_square" sZ0 t.aZ0 t.dZ0
 bZ0:Binds K t.dZ0 ["table"] []
 mZ0:mg "refuse_not_square"=some (.ref t.aZ0)
 fZ1:Fun K "row_taken_off" "row_taken_off" sZ1 t.aZ1 t.dZ1
 bZ1:Binds K t.dZ1 ["row","pivot","last"] []
 mZ1:mg "row_taken_off"=some (.ref t.aZ1)
 fZ2:Fun K "first_with_some" "first_with_some" sZ2 t.aZ2 t.dZ2
 bZ2:Binds K t.dZ2 ["rows"] []
 mZ2:mg "first_with_some"=some (.ref t.aZ2)
 fZ3:Fun K "determinant" "determinant" sZ3 t.aZ3 t.dZ3
 bZ3:Binds K t.dZ3 ["table"] []
 mZ3:mg "determinant"=some (.ref t.aZ3)
 fZ4:Fun K "row_without" "row_without" sZ4 t.aZ4 t.dZ4
 bZ4:Binds K t.dZ4 ["row","number"] []
 mZ4:mg "row_without"=some (.ref t.aZ4)
 fZ5:Fun K "table_without" "table_without" sZ5 t.aZ5 t.dZ5
 bZ5:Binds K t.dZ5 ["table","number"] []
 mZ5:mg "table_without"=some (.ref t.aZ5)
 fZ6:Fun K "is_tie" "is_tie" sZ6 t.aZ6 t.dZ6
 bZ6:Binds K t.dZ6 ["web","number"] []
 mZ6:mg "is_tie"=some (.ref t.aZ6)
 fZ7:Fun K "refuse_bad_web" "refuse_bad_web" sZ7 t.aZ7 t.dZ7
 bZ7:Binds K t.dZ7 ["places","ties"] []
 mZ7:mg "refuse_bad_web"=some (.ref t.aZ7)
 fZ8:Fun K "__init__" "Web.__init__" sZ8 t.aZ8 t.dZ8
 bZ8:Binds K t.dZ8 ["self","places","ties"] []
 fZ9:Fun K "ties_beside" "ties_beside" sZ9 t.aZ9 t.dZ9
 bZ9:Binds K t.dZ9 ["web","ties"] []
 mZ9:mg "ties_beside"=some (.ref t.aZ9)
 fZa:Fun K "ties_without" "ties_without" sZa t.aZa t.dZa
 bZa:Binds K t.dZa ["ties","left_out"] []
 mZa:mg "ties_without"=some (.ref t.aZa)
 fZb:Fun K "is_set" "is_set" sZb t.aZb t.dZb
 bZb:Binds K t.dZb ["web","ties"] []
 mZb:mg "is_set"=some (.ref t.aZb)
 fZc:Fun K "made_set" "made_set" sZc t.aZc t.dZc
 bZc:Binds K t.dZc ["web","ties"] []
 mZc:mg "made_set"=some (.ref t.aZc)
 fZd:Fun K "merged_marks" "merged_marks" sZd t.aZd t.dZd
 bZd:Binds K t.dZd ["web","marks","ties"] []
 mZd:mg "merged_marks"=some (.ref t.aZd)
 fZe:Fun K "piece_marks" "piece_marks" sZe t.aZe t.dZe
 bZe:Binds K t.dZe ["web","ties"] []
 mZe:mg "piece_marks"=some (.ref t.aZe)
 fZf:Fun K "pieces_of" "pieces_of" sZf t.aZf t.dZf
 bZf:Binds K t.dZf ["web","ties"] []
 mZf:mg "pieces_of"=some (.ref t.aZf)
 fZg:Fun K "is_joined" "is_joined" sZg t.aZg t.dZg
 bZg:Binds K t.dZg ["web","ties"] []
 mZg:mg "is_joined"=some (.ref t.aZg)
 fZh:Fun K "weighted_table" "weighted_table" sZh t.aZh t.dZh
 bZh:Binds K t.dZh ["web","weights"] []
 mZh:mg "weighted_table"=some (.ref t.aZh)
 fZi:Fun K "pull_table" "pull_table" sZi t.aZi t.dZi
 bZi:Binds K t.dZi ["web"] []
 mZi:mg "pull_table"=some (.ref t.aZi)
 fZj:Fun K "tree_count" "tree_count" sZj t.aZj t.dZj
 bZj:Binds K t.dZj ["web"] []
 mZj:mg "tree_count"=some (.ref t.aZj)
 fZk:Fun K "part_count" "part_count" sZk t.aZk t.dZk
 bZk:Binds K t.dZk ["web","inside","outside"] []
 mZk:mg "part_count"=some (.ref t.aZk)
 fZl:Fun K "is_tree" "is_tree" sZl t.aZl t.dZl
 bZl:Binds K t.dZl ["web","ties"] []
 mZl:mg "is_tree"=some (.ref t.aZl)
 fZm:Fun K "refuse_no_tree" "refuse_no_tree" sZm t.aZm t.dZm
 bZm:Binds K t.dZm ["web","tree"] []
 mZm:mg "refuse_no_tree"=some (.ref t.aZm)
 fZn:Fun K "grown_tree" "grown_tree" sZn t.aZn t.dZn
 bZn:Binds K t.dZn ["web","inside","order"] []
 mZn:mg "grown_tree"=some (.ref t.aZn)
 fZo:Fun K "tree_cut" "tree_cut" sZo t.aZo t.dZo
 bZo:Binds K t.dZo ["web","tree","tie"] []
 mZo:mg "tree_cut"=some (.ref t.aZo)
 fZp:Fun K "ring_of" "ring_of" sZp t.aZp t.dZp
 bZp:Binds K t.dZp ["web","tree","tie"] []
 mZp:mg "ring_of"=some (.ref t.aZp)
 fZq:Fun K "least_in" "least_in" sZq t.aZq t.dZq
 bZq:Binds K t.dZq ["web","inside","outside"] []
 mZq:mg "least_in"=some (.ref t.aZq)
 fZr:Fun K "end_pieces" "end_pieces" sZr t.aZr t.dZr
 bZr:Binds K t.dZr ["web","marks","tie"] []
 mZr:mg "end_pieces"=some (.ref t.aZr)
 fZs:Fun K "open_ties" "open_ties" sZs t.aZs t.dZs
 bZs:Binds K t.dZs ["web","marks","gone"] []
 mZs:mg "open_ties"=some (.ref t.aZs)
 fZt:Fun K "__init__" "Part.__init__" sZt t.aZt t.dZt
 bZt:Binds K t.dZt ["self","web","kept","shut","lead"] []
 fZu:Fun K "whole_part" "whole_part" sZu t.aZu t.dZu
 bZu:Binds K t.dZu ["web"] []
 mZu:mg "whole_part"=some (.ref t.aZu)
 fZv:Fun K "half_without" "half_without" sZv t.aZv t.dZv
 bZv:Binds K t.dZv ["part"] []
 mZv:mg "half_without"=some (.ref t.aZv)
 fZw:Fun K "half_with" "half_with" sZw t.aZw t.dZw
 bZw:Binds K t.dZw ["part"] []
 mZw:mg "half_with"=some (.ref t.aZw)
 fZx:Fun K "part_size" "part_size" sZx t.aZx t.dZx
 bZx:Binds K t.dZx ["part"] []
 mZx:mg "part_size"=some (.ref t.aZx)
 fZy:Fun K "trees_with_tie" "trees_with_tie" sZy t.aZy t.dZy
 bZy:Binds K t.dZy ["part","into"] []
 mZy:mg "trees_with_tie"=some (.ref t.aZy)
 fZz:Fun K "undivided_row" "undivided_row" sZz t.aZz t.dZz
 bZz:Binds K t.dZz ["part"] []
 mZz:mg "undivided_row"=some (.ref t.aZz)
 fZA:Fun K "trees_between" "trees_between" sZA t.aZA t.dZA
 bZA:Binds K t.dZA ["part","size","start","stop"] []
 mZA:mg "trees_between"=some (.ref t.aZA)
 fZB:Fun K "refuse_below_nought" "refuse_below_nought" sZB t.aZB t.dZB
 bZB:Binds K t.dZB ["number"] []
 mZB:mg "refuse_below_nought"=some (.ref t.aZB)
 fZC:Fun K "row_from" "row_from" sZC t.aZC t.dZC
 bZC:Binds K t.dZC ["web","number","most"] []
 mZC:mg "row_from"=some (.ref t.aZC)
 fZD:Fun K "row_at" "row_at" sZD t.aZD t.dZD
 bZD:Binds K t.dZD ["web","number"] []
 mZD:mg "row_at"=some (.ref t.aZD)
 fZE:Fun K "number_in" "number_in" sZE t.aZE t.dZE
 bZE:Binds K t.dZE ["part","size","tree"] []
 mZE:mg "number_in"=some (.ref t.aZE)
 fZF:Fun K "row_number" "row_number" sZF t.aZF t.dZF
 bZF:Binds K t.dZF ["web","tree"] []
 mZF:mg "row_number"=some (.ref t.aZF)
 fZG:Fun K "_law_at" "_law_at" sZG t.aZG t.dZG
 bZG:Binds K t.dZG ["script","k"] []
 mZG:mg "_law_at"=some (.ref t.aZG)
 fZH:Fun K "_law_mixed" "_law_mixed" sZH t.aZH t.dZH
 bZH:Binds K t.dZH ["cell","k"] []
 mZH:mg "_law_mixed"=some (.ref t.aZH)
 fZI:Fun K "_law_digits" "_law_digits" sZI t.aZI t.dZI
 bZI:Binds K t.dZI ["script","size"] []
 mZI:mg "_law_digits"=some (.ref t.aZI)
 fZJ:Fun K "_law_stirred" "_law_stirred" sZJ t.aZJ t.dZJ
 bZJ:Binds K t.dZJ ["script","size"] []
 mZJ:mg "_law_stirred"=some (.ref t.aZJ)
 fZK:Fun K "_law_large" "_law_large" sZK t.aZK t.dZK
 bZK:Binds K t.dZK ["script"] []
 mZK:mg "_law_large"=some (.ref t.aZK)
 fZL:Fun K "_law_cells" "_law_cells" sZL t.aZL t.dZL
 bZL:Binds K t.dZL ["script","most"] []
 mZL:mg "_law_cells"=some (.ref t.aZL)
 fZM:Fun K "_law_far_web" "_law_far_web" sZM t.aZM t.dZM
 bZM:Binds K t.dZM ["script"] []
 mZM:mg "_law_far_web"=some (.ref t.aZM)
 fZN:Fun K "_law_refused" "_law_refused" sZN t.aZN t.dZN
 bZN:Binds K t.dZN ["web","number","most"] []
 mZN:mg "_law_refused"=some (.ref t.aZN)
 fZO:Fun K "_law_chain" "_law_chain" sZO t.aZO t.dZO
 bZO:Binds K t.dZO ["web","trees"] []
 mZO:mg "_law_chain"=some (.ref t.aZO)
 fZP:Fun K "_law_good" "_law_good" sZP t.aZP t.dZP
 bZP:Binds K t.dZP ["web","total","m"] []
 mZP:mg "_law_good"=some (.ref t.aZP)
 fZQ:Fun K "law" "law" sZQ t.aZQ t.dZQ
 bZQ:Binds K t.dZQ ["script"] []
 oq:mg "law"=some (.ref t.aZQ)
 c_Web:mg "Web"=some (.ref t.A_Web)
 cl_Web:Cls K t.A_Web
 k_Web:Mk K t.A_Web t.aZ8
 n_Web_places:NoAttr K t.A_Web "places"
 n_Web_ties:NoAttr K t.A_Web "ties"
 c_Part:mg "Part"=some (.ref t.A_Part)
 cl_Part:Cls K t.A_Part
 k_Part:Mk K t.A_Part t.aZt
 n_Part_web:NoAttr K t.A_Part "web"
 n_Part_kept:NoAttr K t.A_Part "kept"
 n_Part_shut:NoAttr K t.A_Part "shut"
 n_Part_lead:NoAttr K t.A_Part "lead"
 n_Part_least:NoAttr K t.A_Part "least"
 n_Part_incoming:NoAttr K t.A_Part "incoming"
 n_Part_further:NoAttr K t.A_Part "further"
 c_WebError:mg "WebError"=some (.ref t.A_WebError)
 c_NoTree:mg "NoTree"=some (.ref t.A_NoTree)
 c_NoSuch:mg "NoSuch"=some (.ref t.A_NoSuch)
 c_Parted:mg "Parted"=some (.ref t.A_Parted)
 x_NoSuch:XCls K (t.A_NoSuch)
 ki_NoSuch_ValueError:PySem.W.kitOne K (.ref (t.A_NoSuch)) (.type "ValueError")=some true
 ki_NoSuch_NoTree:PySem.W.kitOne K (.ref (t.A_NoSuch)) (.ref (t.A_NoTree))=some false
 ki_NoSuch_Parted:PySem.W.kitOne K (.ref (t.A_NoSuch)) (.ref (t.A_Parted))=some false
 em_NoSuch:PySem.W.exmOne K (.ref (t.A_NoSuch)) (.ref (t.A_WebError))=some true
 g_MOST_PLACES:∃ tk,mg "MOST_PLACES"=some (.int 14 tk)
 g_MOST_TIES:∃ tk,mg "MOST_TIES"=some (.int 30 tk)
 n_ValueError:mg "ValueError"=none
 n_enumerate:mg "enumerate"=none
 n_isinstance:mg "isinstance"=none
 n_len:mg "len"=none
 n_list:mg "list"=none
 n_max:mg "max"=none
 n_min:mg "min"=none
 n_range:mg "range"=none
 n_reversed:mg "reversed"=none
 n_set:mg "set"=none
 n_sorted:mg "sorted"=none
 n_tuple:mg "tuple"=none
 n_zip:mg "zip"=none
end My
namespace My
open PySem L2 PyProof.Rows
set_option maxHeartbeats 4000000
section
variable{P:Program}{w:World}{K:Ad}{mg:Af}{base:Heap}{t:Adr}
def oo(K:Ad):Sp:=λvs H Q _=>∃(a:Addr) (kd:Bool) (xs:List V) (L:Ab),vs=[.ref a]/\SqK kd K H a xs/\Bears (DC K H) xs L /\
 ((∀ l∈L,l.length=L.length)->Q .non H)/\(¬ (∀ l∈L,l.length=L.length)->False)
theorem Cc:FnScope ["table","row"] ["table"] (XA sZ0):=⟨rfl,rfl,rfl,by decide +kernel,rfl,by decide +kernel,by decide +kernel⟩
theorem om (T:Txt K mg t):FnOk P w K mg base Xf 1 t.aZ0 t.dZ0 ["table"] (oo K):=by
 refine T.fZ0.ok Cc (λvs H Q E h=>?_) (λXz A outer s H vs Q E hr h=>?_)
 .obtain⟨a,kd,xs,L,rfl,_⟩:=h;rfl
 .obtain⟨a,kd,xs,L,rfl,hS,hB,q,qe⟩:=h;refine⟨_,(XF (SQ Ww rfl (TL K (pv 0)) (Zf (i:=1) Cc.nd rfl (Or.inl rfl))
   (XF (Wx (Zg QU (Zd (Zn K) (by rfl) T.n_len Boot.«len» (XZ (pv 1) XY)) (Zd (Zn K) (by rfl) T.n_len Boot.«len» (XZ (pv 0) XY)) (Zu _))
   (XF Kz)
   Zp)))),?_⟩
  have IZ:=hB.1;refine⟨_,rfl,a,rfl,zC (K:=K) (k:=kd) (a:=a) (xs:=xs) (λi σ H2=>∃ v1,σ=[some (.ref a),v1]/\H2=H/\∀ l∈L.take i,l.length=L.length) ⟨none,rfl,rfl,λl h=>(by cases h)⟩ (λi σ H2 _ ⟨_,_,e,_⟩=>e ▸ hS) ?_ ?_⟩
  .rintro i v σ H2 hi ⟨v1,rfl,rfl,Vt⟩;obtain⟨l,hl,r,k,rfl,hr⟩:=hB.at hi;refine nm ?_;refine⟨_,rfl,r,_,rfl,hr.or,_,rfl,a,xs,rfl,hS.or,rfl,_,rfl,?_⟩;rw[Xq,ZA];refine WM (λe=>?_) (λe=>?_)
   .refine⟨_,rfl,rfl,λm hm=>?_⟩;rw[WD,hl]at hm;rcases Xy.mp hm with h | h
    .exact Vt m h
    .have LY:m=l:=by simpa using h
     rw[LY];lia
   .exact qe λh=>e (by rw[h l (Xg hl),IZ])
  .rintro σ H2 ⟨v1,rfl,rfl,Vt⟩;rw[IZ,YM]at Vt;exact q Vt
def oj(K:Ad):Sp:=λvs H Q _=>∃(r p:Addr) (x y last:Int) (l q:Ac),vs=[.ref r,.ref p,.int last]/\SqL K H r (IL (x :: l))/\SqL K H p (IL (y :: q))/\l.length=q.length/\l.length<=1000/\last≠0/\last.natAbs<2 ^ 9000 /\
 (∀ z∈x :: l,z.natAbs<2 ^ 9000)/\(∀ z∈y :: q,z.natAbs<2 ^ 9000)/\∀(c:Addr) (H':Hp),Same H H'->H c=none->H' c=some (.lst (IL (PN y q last (x :: l))))->Q (.ref c) H'
theorem oh:FnScope ["row","pivot","last"] ["row","pivot","last"] (XA sZ1):=⟨rfl,rfl,rfl,by decide +kernel,rfl,by decide +kernel,by decide +kernel⟩
theorem og (T:Txt K mg t):FnOk P w K mg base Xf 1 t.aZ1 t.dZ1 ["row","pivot","last"] (oj K):=by
 refine T.fZ1.ok oh (λvs H Q E h=>?_) (λXz A outer s H vs Q E hr h=>?_)
 .obtain⟨r,p,x,y,last,l,q,rfl,_⟩:=h;rfl
 .obtain⟨r,p,x,y,last,l,q',rfl,hR,hP,dH,hl,l0,l1,hx,hy,q⟩:=h;refine⟨_,(XF (Zk (Sn rfl (sc0:=XA sZ1) (N0:=["row","pivot","last"]) (N':=["own","other","pivot","row","last"]) (o:=2) (fr:=[1,0,2]) ⟨rfl,by decide +kernel,by decide +kernel,by decide +kernel,rfl,by decide +kernel⟩ (rN K rfl T.n_zip (XZ (Vf (Vb K) (pv 0) (Qn XQ) Oc) (XZ (Vf (Vb K) (pv 1) (Qn XQ) Oc) XY))) (EX (Vc (by decide) (Vc (by decide) EY))) (λ_ _ _ _=>(QO (n:=2) K rfl (Zr (Zf (i:=0) (show List.Nodup (["own","other","pivot","row","last"]:List Str) by decide +kernel) rfl (Or.inl rfl)) (Zr (Zf (i:=1) (show List.Nodup (["own","other","pivot","row","last"]:List Str) by decide +kernel) rfl (Or.inl rfl)) QV)))) (λ_ _ _ _=>QS) (λ_ _ _ _=>(Zl Jq (Zl Uz (Zl q8 (ZQ (Zi K) (pv 2) XQ (λ_ _=>rfl)) (pv 0)) (Zl q8 (ZQ (Zi K) (pv 3) XQ (λ_ _=>rfl)) (pv 1))) (pv 4)))))),?_⟩;refine⟨_,rfl,_,rfl,r,_,rfl,hR,λp1 Vj=>?_⟩;rw[gr];have s1:=XH (o:=.lst (IL l)) Vj
  refine⟨_,rfl,_,rfl,p,_,rfl,s1.seq hP,λp2 Wj=>?_⟩;rw[gr];have s2:=XH (o:=.lst (IL q')) Wj
  have Wz:=s1.trans s2;have h1:=s2 _ _ (XS (H:=H) (a:=p1) (o:=.lst (IL l)))
  have h2:(upd (upd H p1 (.lst (IL l))) p2 (.lst (IL q'))) p2=some (.lst (IL q')):=XS;generalize upd (upd H p1 (.lst (IL l))) p2 (.lst (IL q'))=H2 at *;refine⟨p1,p2,rfl,⟨_,_,SqL.of h1,SqL.of h2⟩,rL (K:=K) (a:=p1) (b:=p2) (xs:=IL l) (ys:=IL q') (λi zs H3=>Same H2 H3/\i<=l.length/\zs=IL ((PN y q' last (x :: l)).take i)) ⟨Same.refl _,Yn _,rfl⟩ (by rw[Xq,Xq];exact dH) (Zo (by rw[Xq];lia))
   (λi zs H3 hi ⟨e,VB,ez⟩=>⟨SqL.of (e _ _ h1),SqL.of (e _ _ h2),by rw[ez,Xq,Yy];lia⟩) ?_ ?_⟩
  .rintro i u v zs H3 pt US hu hv ⟨s3,Vn,rfl⟩ S Xc;obtain⟨own,rfl,ho⟩:=UL hu;obtain⟨JE,rfl,ht⟩:=UL hv;have Xl:=(Xp.mp ho).1
   have s4:=XH (o:=.tup [.int own,.int JE]) US;refine⟨pt,_,rfl,SqT.of XS,rfl,_,_,rfl,_,_,rfl,rfl,?_⟩;have Sb:=Wz.trans (s3.trans s4)
   have a1:=hy y Ye;have a2:=hx own (Yh _ (Xg ho))
   have a3:=hx x Ye;have a4:=hy JE (Yh _ (Xg ht))
   refine⟨_,rfl,p,_,0,.int y,rfl,rfl,Sb.seq hP,ZK (n:=0) rfl rfl,_,rfl,_,_,rfl,rfl,⟨a1,a2⟩,_,rfl,r,_,0,.int x,rfl,rfl,Sb.seq hR,ZK (n:=0) rfl rfl,_,rfl,_,_,rfl,rfl,⟨a3,a4⟩,_,_,rfl,rfl,_,rfl,_,_,rfl,rfl,⟨l0,l1⟩,?_⟩;refine Xc _ _ ⟨s3.trans s4,Xl,?_⟩;have e:(PN y q' last (x :: l))[i]?=some ((y * own - x * JE).fdiv last):=by show(List.zipWith _ l q')[i]?=_;rw[Ih,ho,ht];rfl
   rw[WD,e];exact(ZY _ _).symm
  .rintro zs H3 ⟨s3,_,rfl⟩ c hc;rw[Xq,UE (by rw[gu (by rw[YB,dH])];lia)];exact q c _ (Wz.trans (s3.trans (XH hc))) ((Wz.trans s3).free hc) XS
def n9(K:Ad):Sp:=λvs H Q _=>∃(a:Addr) (ys:List V) (R:Ab),vs=[.ref a]/\SqL K H a ys/\Bears (OL H) ys R/\(∀ l∈R,0<l.length) /\
 (∀ H':Hp,Same H H'->(∀ i,i<R.length->fnL R i 0=0)->Q .non H')/\(∀(t:Nat) (H':Hp),Same H H'->t<R.length->fnL R t 0≠0->Q (.int t) H')
theorem IY:FnScope ["rows","at","row"] ["rows"] (XA sZ2):=⟨rfl,rfl,rfl,by decide +kernel,rfl,by decide +kernel,by decide +kernel⟩
theorem n8 (T:Txt K mg t):FnOk P w K mg base Xf 1 t.aZ2 t.dZ2 ["rows"] (n9 K):=by
 refine T.fZ2.ok IY (λvs H Q E h=>?_) (λXz A outer s H vs Q E hr h=>?_)
 .obtain⟨a,ys,R,rfl,_⟩:=h;rfl
 .obtain⟨a,ys,R,rfl,hS,hB,hp,q0,q1⟩:=h;refine⟨_,(XN (SQ Ww rfl (LZ K rfl T.n_enumerate (XZ (pv 0) XY)) (QO (n:=2) K rfl (Zr (Zf (i:=1) IY.nd rfl (Or.inl rfl)) (Zr (Zf (i:=2) IY.nd rfl (Or.inl rfl)) QV)))
   (XF (Wx (Zg QU (ZQ (Zi K) (pv 2) XQ (λ_ _=>rfl)) XQ (Zu _))
   (XF (Zk (pv 1)))
   Zp)))
   (XF (Zk Gu))),?_⟩
  have ye:=hB.1;refine⟨_,rfl,a,rfl,⟨_,hS⟩,zB (K:=K) (a:=a) (xs:=ys) (λi σ H2=>∃ v1 v2,σ=[some (.ref a),v1,v2]/\Same H H2/\∀ j,j<i->fnL R j 0=0) ⟨none,none,rfl,Same.refl _,λj h=>absurd h (YY _)⟩ (λi σ H2 _ ⟨_,_,_,e,_⟩=>e.seq hS) ?_ ?_⟩
  .rintro i v σ H2 pt US hi ⟨v1,v2,rfl,s2,hz⟩;obtain⟨l,hl,r,rfl,hr⟩:=hB.at hi;have hlp:=hp l (Xg hl)
   obtain⟨x,l',rfl⟩:∃ x l',l=x :: l':=by
    cases l with
    | nil=>exact absurd hlp (QX 0)
    | cons x l'=>exact⟨x,l',rfl⟩
   have e0:fnL R i 0=x:=OH hl rfl;have s3:=s2.trans (XH (o:=.tup [.int i,.ref r]) US)
   refine⟨pt,_,rfl,SqT.of XS,rfl,_,_,rfl,_,_,rfl,rfl,?_⟩;generalize upd H2 pt (.tup [.int i,.ref r])=H3 at *;refine⟨_,rfl,r,_,0,.int x,rfl,rfl,SqL.of (s3 _ _ hr),ZK (n:=0) rfl rfl,rfl,_,rfl,?_⟩;rw[ZA];refine WM (λe=>?_) (λe=>?_)
   .refine⟨_,_,rfl,s3,λj hj=>?_⟩;by_cases c:j=i
    .rw[c,e0,e]
    .exact hz j (by lia)
   .exact⟨_,rfl,q1 i H3 s3 (by have:=(Xp.mp hl).1;exact this) (by rw[e0];exact e)⟩
  .rintro σ H2 ⟨v1,v2,rfl,s2,hz⟩;exact q0 H2 s2 λi hi=>hz i (by lia)
def n6(K:Ad):Sp:=λvs H Q _=>∃(a:Addr) (kd:Bool) (xs:List V) (L:Ab),vs=[.ref a]/\SqK kd K H a xs/\Bears (DC K H) xs L/\L.length<=16/\(∀ i j,i<L.length->j<L.length->(fnL L i j).natAbs<=2 ^ 400) /\
 ((∀ l∈L,l.length=L.length)->∀ H':Hp,Same H H'->Q (.int (det L.length (fnL L))) H')/\(¬ (∀ l∈L,l.length=L.length)->∀ H':Hp,Same H H'->False)
theorem n5{s rest:TS}{D:Ends}{σ:L2.St}{H:Hp}(P:L2.St->Hp->Prop)(h1:∀ σ' H',P σ' H'->rest D σ' H')(h2:∀ K:L2.St->Hp->Prop,(∀ σ' H',P σ' H'->K σ' H')->s { D with nx:=K } σ H):Vg s rest D σ H:=h2 _ h1
theorem Uo:FnScope ["table","rows","sign","last","at","pivot"] ["table"] (XA sZ3):=⟨rfl,rfl,rfl,by decide +kernel,rfl,by decide +kernel,by decide +kernel⟩
theorem n4 (T:Txt K mg t):FnOk P w K mg base Xf 2 t.aZ3 t.dZ3 ["table"] (n6 K):=by
 refine T.fZ3.ok Uo (λvs H Q E h=>?_) (λXz A outer s H vs Q E hr h=>?_)
 .obtain⟨a,kd,xs,L,rfl,_⟩:=h;rfl
 .obtain⟨a,kd,xs,L,rfl,hS,hB,Cb,dG,q,qe⟩:=h;refine⟨_,(XN (Wh (Za (om T) (hr.mono (by decide)) rfl T.mZ0 T.fZ0.kp T.bZ0 .nil Zt (XZ (pv 0) XY)))
   (XN (NX (i:=1) rfl Uo.nd rfl rfl (sc0:=XA sZ3) (N0:=["table","rows","sign","last","at","pivot"]) (N':=["row"]) (o:=1) (fr:=[]) ⟨rfl,by decide +kernel,by decide +kernel,by decide +kernel,rfl,by decide +kernel⟩ (TL K (pv 0)) (Zz (by decide)) (λ_ _ _ _=>(Zf (i:=0) (show List.Nodup (["row"]:List Str) by decide +kernel) rfl (Or.inl rfl))) (λ_ _ _ _=>QS) (λ_ _ _ _=>(Zs (SM K) (by rfl) T.n_list Boot.«list» (XZ (pv 0) XY))))
   (XN (Zh (i:=2) Uo.nd rfl (Or.inl rfl) XQ)
   (XN (Zh (i:=3) Uo.nd rfl (Or.inr rfl) XQ)
   (XN (jg Ww (Zg RN (Zd (Zn K) (by rfl) T.n_len Boot.«len» (XZ (pv 1) XY)) XQ (Zu _))
   (XN (Zh (i:=4) Uo.nd rfl (Or.inl rfl) (Za (n8 T) (hr.mono (by decide)) rfl T.mZ2 T.fZ2.kp T.bZ2 .nil Zt (XZ (pv 1) XY)))
   (XN (Wx (Zg vR (pv 4) Gu (Zu _))
   (XF (Zk XQ))
   Zp)
   (XN (Wx (Zg Qq (Zl ZF (pv 4) XQ) XQ (Zu _))
   (XF (Zh (i:=2) Uo.nd rfl (Or.inl rfl) (RP HQ (pv 2))))
   Zp)
   (XN (Zh (i:=5) Uo.nd rfl (Or.inr rfl) (VH K YQ jv jw iK (pv 1) (XZ (pv 4) XY)))
   (XN (NX (i:=1) rfl Uo.nd rfl rfl (sc0:=XA sZ3) (N0:=["table","rows","sign","last","at","pivot"]) (N':=["row","pivot","last"]) (o:=1) (fr:=[5,3]) ⟨rfl,by decide +kernel,by decide +kernel,by decide +kernel,rfl,by decide +kernel⟩ (Va K (pv 1)) (Zz (by decide)) (λ_ _ _ _=>(Zf (i:=0) (show List.Nodup (["row","pivot","last"]:List Str) by decide +kernel) rfl (Or.inl rfl))) (λ_ _ _ _=>QS) (λ_ _ _ _=>(Za (og T) (hr.mono (by decide)) rfl T.mZ1 T.fZ1.kp T.bZ1 .nil Zt (XZ (pv 0) (XZ (pv 1) (XZ (pv 2) XY))))))
   (XF (Zh (i:=3) Uo.nd rfl (Or.inr rfl) (ZQ (Zi K) (pv 5) XQ (λ_ _=>rfl))))))))))
   (XF (Zk (Zl q8 (pv 2) (pv 3))))))))),?_⟩
  have IZ:=hB.1;refine⟨_,rfl,a,kd,xs,L,rfl,hS,hB,λnZ=>?_,λh=>qe h H (Same.refl H)⟩;have q:=q nZ
  obtain⟨n,hn⟩:∃ n,n=L.length:=⟨_,rfl⟩;rw[<- hn]at q nZ dG Cb;refine⟨_,rfl,a,rfl,NT (K:=K) (k:=kd) (a:=a) (xs:=xs) (λi zs H2=>Same H H2/\i<=xs.length/\Bears (OL H2) zs (L.take i)) ⟨Same.refl _,Yn _,⟨rfl,λi l e=>by simp at e⟩⟩ (Zo (by lia)) (λi zs H2 hi ⟨e,VB,ez⟩=>⟨hS.same e,by rw[ez.1,Yy];lia⟩) ?_ ?_⟩
  .rintro i v zs H2 hi ⟨s2,Vn,hZ⟩ S Xc;obtain⟨l,hl,r,k,rfl,hr⟩:=hB.at hi;have Xl:=(Xp.mp hi).1
   refine nm ?_;refine⟨_,rfl,r,_,rfl,(hr.same s2).or,λc hc=>Xc _ _ ⟨s2.trans (XH hc),Xl,?_⟩⟩;rw[WD,hl];refine(hZ.imp λ_ _ ⟨r',e,h⟩=>⟨r',e,XH hc _ _ h⟩).snoc ⟨c,rfl,XS⟩
  rintro zs H2 ⟨s2,_,hZ⟩ rA Na;rw[IZ,YM]at hZ;have s3:=s2.trans (XH (o:=.lst zs) Na)
  refine⟨λm σ H4=>∃(A:Mx) (k:Nat) (rA:Addr) (ys:List V) (R:Ab) (sgn last:Int) (v4 v5:Option V),σ=[some (.ref a),some (.ref rA),some (.int sgn),some (.int last),v4,v5]/\Same H H4/\H rA=none/\H4 rA=some (.lst ys)/\Bears (LiV rA H4) ys R/\R.length=m/\(∀ l∈R,l.length=m)/\k+m=n/\Sk A k m (fnL R) last/\det n (fnL L)=sgn * det n A/\(∀ i j,i<n->j<n->(A i j).natAbs<=2 ^ 400)/\(m=0->last=det n A)/\(sgn=1\/sgn=-1)/\last.natAbs<2 ^ 9000,⟨n,fnL L,0,rA,zs,L,1,1,none,none,rfl,s3,s2.free Na,XS,?_,hn.symm,nZ,by lia,Zw8 _ _,by grind,dG,λe=>by rw[e];rfl,.inl rfl,Nat.one_lt_two_pow (by decide)⟩,?_⟩
  .exact hZ.imp λv l ⟨r,e,h⟩=>⟨r,e,XH Na _ _ h,Zc h Na⟩
  rintro m σ H4 ⟨A,k,rA,ys,R,sgn,last,v4,v5,rfl,s4,Vz,Pw,hR,nY,QI,yd,MZ,IX,dF,nX,dE,dD⟩;have ye:=hR.1
  refine⟨_,rfl,rA,ys,rfl,.inl (SqL.of Pw),_,_,rfl,rfl,_,rfl,?_⟩;refine WT (λRB=>?_) (λRB=>?_)
  .obtain⟨M,rfl⟩:∃ M,m=M+1:=⟨m - 1,by lia⟩;refine⟨_,λσ' H' h=>⟨M,OY M,h⟩,?_⟩;have Eu:∀ l∈R,∀ z∈l,z.natAbs<2 ^ 9000:=λl hl z hz=>by
    obtain⟨i,hi⟩:=YZ hl;obtain⟨j,hj⟩:=YZ hz;have h1:=(Xp.mp hi).1
    have h2:=(Xp.mp hj).1;have h3:=QI l hl
    have:=Zx8 MZ yd Cb dF (i:=i) (j:=j) (by lia) (by lia)
    rw[OH hi hj]at this;exact this
   refine⟨_,rfl,rA,ys,R,rfl,SqL.of Pw,hR.imp λ_ _ h=>h.list,λl hl=>by rw[QI l hl];lia,λH5 s5 h0=>?_,λt H5 s5 ht XJ=>?_⟩
   .refine⟨_,rfl,rfl,_,rfl,?_⟩;refine zD (c:=V.non=V.non) rfl ?_;have z:det n A=0:=by
     have:=rh MZ λi hi=>h0 i (by lia)
     rw[show k+M+1=n by lia]at this;exact this
    rw[IX,z,Ss]at q;exact q H5 (s4.trans s5)
   refine⟨_,rfl,rfl,_,rfl,?_⟩;refine JW (c:=V.int (t:Int)=V.non) (λz=>nomatch z) ?_;refine nm ?_;dsimp only;refine n5 (λσ H6=>∃ MY:Int,H6=H5/\σ=[some (.ref a),some (.ref rA),some (.int MY),some (.int last),some (.int t),v5]/\MY=sgn * sg t) ?_ ?_
   .rintro σ H6 ⟨MY,rfl,rfl,Ca⟩;have OD:=s5 _ _ Pw
    have dC:=hR.imp λ_ _ h=>h.same s5;obtain⟨l,hl⟩:∃ l,R[t]?=some l:=⟨_,Xr ht⟩;have Ht:=QI l (Xg hl)
    obtain⟨y,p',rfl⟩:∃ y p',l=y :: p':=by
     cases l with
     | nil=>cases Ht
     | cons y p'=>exact⟨y,p',rfl⟩
    have Vk:p'.length=M:=by rw[YB]at Ht;lia
    obtain⟨v,hv,pA,rfl,hpA,hpn⟩:=dC.2 t _ hl;have hy0:y≠0:=by rw[OH hl rfl]at XJ;exact XJ
    refine⟨_,rfl,.inl ⟨rfl,_,SqL.of OD⟩,_,rfl,rA,ys,(t:Int),t,.ref pA,rfl,rfl,OD,by lia,by lia,by rw[Ef (by lia) (by lia),Yv],hv,?_⟩;have BZ:(upd H6 rA (.lst (ys.eraseIdx t))) pA=some (.lst (IL (y :: p'))):=by rw[Zb hpn];exact hpA
    have s7:Same H (upd H6 rA (.lst (ys.eraseIdx t))):=ZE Vz (s4.trans s5);have dB:Bears (LiV rA (upd H6 rA (.lst (ys.eraseIdx t)))) (ys.eraseIdx t) (R.eraseIdx t):=(dC.erase t).imp λ_ _ h=>h.mut
    have MX:(upd H6 rA (.lst (ys.eraseIdx t))) rA=some (.lst (ys.eraseIdx t)):=XS;generalize upd H6 rA (.lst (ys.eraseIdx t))=H7 at *;have dz:(R.eraseIdx t).length=M:=by rw[Ax,if_pos ht];lia
    have IW:∀ l∈R.eraseIdx t,l.length=M+1:=λl h=>QI l (xA h);have hy7:=dB.1
    refine⟨_,rfl,rA,rfl,⟨_,SqL.of MX⟩,NU (K:=K) (a:=rA) (xs:=ys.eraseIdx t) (λi zs H8=>Same H7 H8/\i<=(ys.eraseIdx t).length/\Bears (OL H8) zs (((R.eraseIdx t).take i).map (PN y p' last))) ⟨Same.refl _,Yn _,⟨rfl,λi l e=>by simp at e⟩⟩ (Zo (by lia)) (λi zs H8 hi ⟨e,VB,ez⟩=>⟨SqL.of (e _ _ MX),by rw[ez.1,Yd,Yy];lia⟩) ?_ ?_⟩
    .rintro i v zs H8 hi ⟨s8,Vn,x9⟩ S Xc;obtain⟨l,LL,r,rfl,hr,_⟩:=dB.at hi;have Xl:=(Xp.mp hi).1
     have QT:=IW l (Xg LL);obtain⟨x,l',rfl⟩:∃ x l',l=x :: l':=by
      cases l with
      | nil=>cases QT
      | cons x l'=>exact⟨x,l',rfl⟩
     have Sr:l'.length=M:=by rw[YB]at QT;lia
     refine nm ?_;refine⟨_,rfl,_,rfl,_,rfl,r,pA,x,y,last,l',p',rfl,SqL.of (s8 _ _ hr),SqL.of (s8 _ _ BZ),by lia,by lia,MZ.1,dD,Eu _ (xA (Xg LL)),Eu _ (Xg hl),λc H9 s9 BY hc=>Xc _ _ ⟨s8.trans s9,Xl,?_⟩⟩;rw[WD,LL,YR];exact(x9.imp λ_ _ ⟨r',e,h⟩=>⟨r',e,s9 _ _ h⟩).snoc ⟨c,rfl,hc⟩
    rintro zs H8 ⟨s8,_,x9⟩ cA MW;rw[hy7,YM]at x9;have s9:=XH (o:=.lst zs) MW
    refine⟨_,rfl,pA,_,0,.int y,rfl,rfl,SqL.of (s9 _ _ (s8 _ _ BZ)),ZK (n:=0) rfl rfl,?_⟩;have yD:Sk (λi=>A (rotN k t i)) k (M+1) (fnL ((y :: p') :: R.eraseIdx t)) last:=by rw[qX hl];exact rj MZ (by lia)
    have Je:Sk (λi=>A (rotN k t i)) (k+1) M (fnL ((R.eraseIdx t).map (PN y p' last))) y:=rn yD hy0 λi j hi hj=>qW Vk dz IW hi hj;have hdr:=rE (n:=n) (k:=k) (t:=t) (A:=A) (by lia)
    refine⟨λi=>A (rotN k t i),k+1,cA,zs,(R.eraseIdx t).map (PN y p' last),MY,y,_,_,rfl,s7.trans (s8.trans s9),(s7.trans s8).free MW,XS,?_,by rw[Yd];exact dz,λl h=>?_,by lia,Je,?_,λi j hi hj=>dF _ _ ?_ hj,λe0=>?_,?_,Eu _ (Xg hl) y Ye⟩
    .exact x9.imp λv l ⟨r,e,h⟩=>⟨r,e,s9 _ _ h,Zc h MW⟩
    .obtain⟨l0,h0,rfl⟩:=YC.mp h;rw[gu (by rw[IW l0 h0,Vk]),Vk]
    .rw[hdr,IX,Ca,Sv,<- Sv (sg t),DB,SY]
    .unfold rotN;split
     .grind
     .split
      .lia
      .split <;> lia
    .subst e0
     have:=rg yD
     rw[show k+1=n by lia]at this;exact this
    .rw[Ca];have WE:sg t=1\/sg t=-1:=by
      unfold sg;split
      .exact .inl rfl
      .exact .inr rfl
     rcases dE with e | e <;> rcases WE with f | f <;> rw[e,f]
     .exact .inl rfl
     .exact .inr rfl
     .exact .inr rfl
     .exact .inl rfl
   .intro Kn hK;refine⟨_,rfl,_,_,rfl,rfl,(by show(0:Int)<2;decide),rfl,_,rfl,?_⟩;rw[ZA];refine WT (λh1=>?_) (λh1=>?_)
    .refine⟨_,rfl,_,rfl,hK _ _ ⟨-sgn,rfl,rfl,?_⟩⟩;have e:sg t=-1:=by unfold sg;rw[if_neg (by lia)]
     rw[e];lia
    .refine hK _ _ ⟨sgn,rfl,rfl,?_⟩;have e:sg t=1:=by unfold sg;rw[if_pos (by lia)]
     rw[e];grind
  .have QH:m=0:=by lia
   refine⟨_,rfl,_,rfl,_,_,rfl,rfl,⟨?_,dD⟩,?_⟩
   .rcases dE with e | e <;> rw[e] <;> exact Nat.one_lt_two_pow (by decide)
   .rw[nX QH]at *;rw[IX]at q;exact q H4 s4
def nW(K:Ad):Sp:=λvs H Q _=>∃(a:Addr) (l:Ac) (i:Nat),vs=[.ref a,.int i]/\SqL K H a (IL l)/\l.length<=1000/\∀(r:Addr) (H':Hp),Same H H'->H r=none->H' r=some (.lst (IL (cutz l i)))->Q (.ref r) H'
theorem nV(l:Ac)(z:Int):cutz (IL l) z=IL (cutz l z):=by
 unfold cutz;show(l.map V.int).take _++(l.map V.int).drop _=(l.take _++l.drop _).map V.int
 rw[YR,List.map_take,List.map_drop]
theorem nU:FnScope ["row","number"] ["row","number"] (XA sZ4):=⟨rfl,rfl,rfl,by decide +kernel,rfl,by decide +kernel,by decide +kernel⟩
theorem nS (T:Txt K mg t):FnOk P w K mg base Xf 1 t.aZ4 t.dZ4 ["row","number"] (nW K):=by
 refine T.fZ4.ok nU (λvs H Q E h=>?_) (λXz A outer s H vs Q E hr h=>?_)
 .obtain⟨a,l,i,rfl,_⟩:=h;rfl
 .obtain⟨a,l,i,rfl,hA,hl,q⟩:=h;refine⟨_,(XF (Zk (Zl Fi (Zs (SM K) (by rfl) T.n_list Boot.«list» (XZ (Vf (Vb K) (pv 0) Oc (Qn (pv 1))) XY)) (Zs (SM K) (by rfl) T.n_list Boot.«list» (XZ (Vf (Vb K) (pv 0) (Qn (Zl ZW (pv 1) XQ)) Oc) XY))))),?_⟩;refine⟨_,rfl,_,rfl,(i:Int),rfl,a,_,rfl,hA,λp1 Vj=>?_⟩;have u1:=XH (o:=.lst (WU (IL l) none (some (i:Int)))) Vj
  refine⟨p1,_,rfl,.inl (SqL.of XS),λp2 Wj=>?_⟩;have u2:=XH (o:=.lst (WU (IL l) none (some (i:Int)))) Wj
  refine⟨_,rfl,_,rfl,_,_,rfl,rfl,_,rfl,a,_,rfl,(u1.trans u2).seq hA,λp3 Ng=>?_⟩;have u3:=XH (o:=.lst (WU (IL l) (some ((i:Int)+1)) none)) Ng
  refine⟨p3,_,rfl,.inl (SqL.of XS),λp4 Lx=>?_⟩;have u4:=XH (o:=.lst (WU (IL l) (some ((i:Int)+1)) none)) Lx
  have c1:=Fz (IL l) none (some (i:Int));have c2:=Fz (IL l) (some ((i:Int)+1)) none
  rw[Xq]at c1 c2;refine⟨p2,p4,_,_,rfl,rfl,(u3.trans u4) _ _ XS,XS,NV (by lia),λp5 x8=>?_⟩;have dy:=u1.trans (u2.trans (u3.trans u4))
  refine q p5 _ (dy.trans (XH x8)) (dy.free x8) ?_;rw[XS,sf (by lia),nV]
def nR(K:Ad):Sp:=λvs H Q _=>∃(a:Addr) (ys:List V) (L:Ab) (i:Nat),vs=[.ref a,.int i]/\SqL K H a ys/\Bears (OL H) ys L/\L.length<=1000/\(∀ l∈L,l.length<=1000)/\i<L.length /\
 ∀(r:Addr) (zs:List V) (H':Hp),Same H H'->H' r=some (.lst zs)->Bears (OL H') zs ((cutz L i).map λl=>cutz l (i:Int))->Q (.ref r) H'
theorem BX{α:Type}{l:List α}{i j:Nat}{x:α}(hx:l[j]?=some x):cutz (l.take (j+1)) (i:Int)=cutz (l.take j) (i:Int)++(if j=i then [] else [x]):=by
 have hj:=(Xp.mp hx).1;have e:l.take (j+1)=l.take j++[x]:=by rw[WD,hx];rfl
 have hl:(l.take j).length=j:=by rw[Yy];grind
 have short:∀ m:List α,m.length<=i->cutz m (i:Int)=m:=λm hm=>by unfold cutz;rw[Yv,UE hm,Ll (by lia),YF]
 rw[e];by_cases c:j=i
 .subst c;rw[if_pos rfl,YF,short (l.take j) (by lia)];unfold cutz;rw[Yv,xE (by lia),Ll (by rw[Xs,hl];exact XM _),YF,UE (by omega)]
 .rw[if_neg c];by_cases d:j<i
  .rw[short (l.take j++[x]) (by rw[Xs,hl];exact d),short (l.take j) (by lia)]
  .unfold cutz;rw[Yv,xE (by grind),xD (by lia),QE]
theorem nQ:FnScope ["table","number"] ["table","number"] (XA sZ5):=⟨rfl,rfl,rfl,by decide +kernel,rfl,by decide +kernel,by decide +kernel⟩
theorem nP (T:Txt K mg t):FnOk P w K mg base Xf 2 t.aZ5 t.dZ5 ["table","number"] (nR K):=by
 refine T.fZ5.ok nQ (λvs H Q E h=>?_) (λXz A outer s H vs Q E hr h=>?_)
 .obtain⟨a,ys,L,i,rfl,_⟩:=h;rfl
 .obtain⟨a,ys,L,i,rfl,hA,hB,hL,Hk,hi,q⟩:=h;refine⟨_,(XF (Zk (Sn rfl (sc0:=XA sZ5) (N0:=["table","number"]) (N':=["at","row","number"]) (o:=2) (fr:=[1]) ⟨rfl,by decide +kernel,by decide +kernel,by decide +kernel,rfl,by decide +kernel⟩ (LZ K rfl T.n_enumerate (XZ (pv 0) XY)) (EX (Vc (by decide) (Vc (by decide) EY))) (λ_ _ _ _=>(QO (n:=2) K rfl (Zr (Zf (i:=0) (show List.Nodup (["at","row","number"]:List Str) by decide +kernel) rfl (Or.inl rfl)) (Zr (Zf (i:=1) (show List.Nodup (["at","row","number"]:List Str) by decide +kernel) rfl (Or.inl rfl)) QV)))) (λ_ _ _ _=>(Qk (Zg QU (pv 0) (pv 2) (Zu _)))) (λ_ _ _ _=>(Za (nS T) (hr.mono (by decide)) rfl T.mZ4 T.fZ4.kp T.bZ4 .nil Zt (XZ (pv 1) (XZ (pv 2) XY))))))),?_⟩;have ye:=hB.1
  refine⟨_,rfl,a,rfl,⟨_,hA⟩,zd (K:=K) (a:=a) (xs:=ys) (λj zs H2=>Same H H2/\j<=ys.length/\Bears (OL H2) zs ((cutz (L.take j) (i:Int)).map λl=>cutz l (i:Int))) ⟨Same.refl _,Yn _,by rw[show(cutz (L.take 0) (i:Int)).map (λl=>cutz l (i:Int))=[] by unfold cutz;simp];exact⟨rfl,λi l e=>by simp at e⟩⟩ (Zo (by lia)) (λj zs H2 hj ⟨e,QL,ez⟩=>⟨e.seq hA,by
   rw[ez.1,Yd];refine Yr (se _ _) ?_;rw[Yy]
   lia⟩) ?_ ?_⟩
  .rintro j v zs H2 pt US hj ⟨s2,NO,hZ⟩ S Xc;obtain⟨l,hl,r,rfl,hr⟩:=hB.at hj;have Wa:=(Xp.mp hj).1
   have s3:=XH (o:=.tup [.int j,.ref r]) US;refine⟨pt,_,rfl,SqT.of XS,rfl,_,_,rfl,_,_,rfl,rfl,?_⟩;have dw:Bears (OL (upd H2 pt (.tup [.int j,.ref r]))) zs ((cutz (L.take j) (i:Int)).map λl=>cutz l (i:Int)):=hZ.imp λ_ _ ⟨r',e,h⟩=>⟨r',e,s3 _ _ h⟩
   have nO:=s2.trans s3;generalize upd H2 pt (.tup [.int j,.ref r])=H3 at *;refine⟨_,rfl,_,rfl,rfl,_,rfl,?_⟩;rw[ZA];refine WM (λe=>?_) (λe=>?_)
   .refine Xc _ _ ⟨nO,Wa,?_⟩;rw[BX hl,if_pos (by lia),YF];exact dw
   .refine⟨_,rfl,_,rfl,r,l,i,rfl,SqL.of (nO _ _ hr),Hk l (Xg hl),λc H4 s4 _ hc=>Xc _ _ ⟨nO.trans s4,Wa,?_⟩⟩;rw[BX hl,if_neg (by lia),YR];exact(dw.imp λ_ _ ⟨r',e,h⟩=>⟨r',e,s4 _ _ h⟩).snoc ⟨c,rfl,hc⟩
  .rintro zs H2 ⟨s2,_,hZ⟩ p hp;rw[ye,YM]at hZ;exact q p zs _ (s2.trans (XH hp)) XS (hZ.imp λ_ _ ⟨r',e,h⟩=>⟨r',e,XH hp _ _ h⟩)
def nN(C:Addr):Sp:=λvs H Q _=>∃(w:Addr) (n:Int) (ps:Aa) (k:Int),vs=[.ref w,.int k]/\WebAt C H w n ps/\Q (.bl (decide (0<=k/\k<(ps.length:Int)))) H
theorem nM:FnScope ["web","number"] ["web","number"] (XA sZ6):=⟨rfl,rfl,rfl,by decide +kernel,rfl,by decide +kernel,by decide +kernel⟩
theorem BW (T:Txt K mg t):FnOk P w K mg base Xf 1 t.aZ6 t.dZ6 ["web","number"] (nN t.A_Web):=by
 refine T.fZ6.ok nM (λvs H Q E h=>?_) (λXz A outer s H vs Q E hr h=>?_)
 .obtain⟨w,n,ps,k,rfl,_⟩:=h;rfl
 .obtain⟨w,n,ps,k,rfl,⟨dx,tl,xs,h1,h2,h3⟩,q⟩:=h;refine⟨_,(XF (Zk (bq Qp RO XQ (pv 1) (Zd (Zn K) (by rfl) T.n_len Boot.«len» (XZ (Zm K (pv 0) rfl) XY))))),?_⟩;refine⟨_,rfl,_,_,rfl,rfl,_,rfl,?_⟩;refine Fc (λhc=>?_) (λhc=>?_)
  .refine⟨_,rfl,w,_,dx,_,_,rfl,h1,T.cl_Web,T.n_Web_ties,ON _ _,tl,xs,rfl,.inl (SqL.of h2),_,_,rfl,rfl,?_⟩;have hc:=Yu hc
   show Q (.bl (decide (k<(xs.length:Int)))) H;rw[h3.1,show decide (k<(ps.length:Int))=decide (0<=k/\k<(ps.length:Int)) from by simp[hc]];exact q
  .have hc:¬ (0<=k):=λz=>hc (Yx z);show Q (.bl false) H
   rw[show(false:Bool)=decide (0<=k/\k<(ps.length:Int)) from by simp;lia];exact q
def nL(K:Ad):Sp:=λvs H Q _=>∃(n:Int) (a:Addr) (kd:Bool) (xs:List V) (ps:Aa),vs=[.int n,.ref a]/\SqK kd K H a xs/\PairsV H xs ps/\Zv n ps/\Q .non H
theorem IV:FnScope ["places","ties","ends","end"] ["places","ties"] (XA sZ7):=⟨rfl,rfl,rfl,by decide +kernel,rfl,by decide +kernel,by decide +kernel⟩
theorem nK (T:Txt K mg t):FnOk P w K mg base Xf 1 t.aZ7 t.dZ7 ["places","ties"] (nL K):=by
 refine T.fZ7.ok IV (λvs H Q E h=>?_) (λXz A outer s H vs Q E hr h=>?_)
 .obtain⟨n,a,kd,xs,ps,rfl,_⟩:=h;rfl
 .obtain⟨n,a,kd,xs,ps,rfl,hS,hp,⟨g1,g2,g3,g4⟩,q⟩:=h;refine⟨_,(XN (Wx (Oh (i6 Qp Qp XQ (pv 0) (Gr (v:=V.int 14) rfl T.g_MOST_PLACES.choose_spec ⟨_,rfl⟩)))
   (XF Kz)
   Zp)
   (XN (Wx (Zg RN (Zd (Zn K) (by rfl) T.n_len Boot.«len» (XZ (pv 1) XY)) (Gr (v:=V.int 30) rfl T.g_MOST_TIES.choose_spec ⟨_,rfl⟩) (Zu _))
   (XF Kz)
   Zp)
   (XF (SQ Ww rfl (TL K (pv 1)) (Zf (i:=2) IV.nd rfl (Or.inl rfl))
   (XF (SQ Ww rfl (tS K (pv 2)) (Zf (i:=3) IV.nd rfl (Or.inl rfl))
   (XF (Wx (Oh (i6 Qp RO XQ (pv 3) (pv 0)))
   (XF Kz)
   Zp)))))))),?_⟩
  refine⟨_,rfl,_,_,rfl,rfl,_,rfl,?_⟩;refine zD g1 ?_;refine⟨_,_,rfl,rfl,_,rfl,?_⟩;refine tZ g2 ?_;refine⟨_,rfl,a,xs,rfl,hS.or,_,_,rfl,rfl,_,rfl,?_⟩;refine JW (by rw[hp.1];lia) ?_;refine⟨_,rfl,a,rfl,zC (k:=kd) (K:=K) (xs:=xs) (λi σ H2=>∃ v v2,σ=[some (.int n),some (.ref a),v,v2]/\H2=H) ⟨none,none,rfl,rfl⟩ (λi σ H2 _ ⟨_,_,_,e⟩=>e ▸ hS) ?_ ?_⟩
  .rintro i x σ H2 hi ⟨v,v2,rfl,rfl⟩;obtain⟨p,Qd,tt,rfl,ht⟩:=hp.at hi;obtain⟨e1,e2,e3,e4⟩:=g4 p (Xg Qd);refine⟨_,rfl,tt,rfl,⟨_,SqT.of ht⟩,FT (K:=K) (a:=tt) (xs:=[.int p.1,.int p.2]) (λj σ H3=>∃ v v2,σ=[some (.int n),some (.ref a),v,v2]/\H3=H2) ⟨_,_,rfl,rfl⟩ (λj σ H3 _ ⟨_,_,_,e⟩=>e ▸ SqT.of ht) ?_ ?_⟩
   .rintro j y σ H3 hj ⟨v,v2,rfl,rfl⟩;have hy:∃ z:Int,y=.int z/\0<=z/\z<n:=by
     match j,hj with
     | 0,hj=>exact⟨p.1,(Yi hj).symm,e1,e2⟩
     | 1,hj=>exact⟨p.2,(Yi hj).symm,e3,e4⟩
    obtain⟨z,rfl,z1,z2⟩:=hy;refine⟨_,rfl,_,_,rfl,rfl,_,rfl,?_⟩;refine zD z1 ?_;refine⟨_,rfl,_,_,rfl,rfl,_,rfl,?_⟩;refine tZ z2 ?_;exact⟨_,_,rfl,rfl⟩
   .rintro σ H3 ⟨v,v2,rfl,rfl⟩;exact⟨_,_,rfl,rfl⟩
  .rintro σ H2 ⟨v,v2,rfl,rfl⟩;exact q
def Zn5(K:Ad)(C:Addr):Sp:=λvs H Q _=>∃(w dx:Addr) (n:Int) (a:Addr) (kd:Bool) (xs:List V) (ps:Aa),vs=[.ref w,.int n,.ref a]/\H w=some (.ins C dx [])/\(∀ o,SqK kd K (upd H w o) a xs)/\PairsV H xs ps/\Zv n ps /\
 ∀ H':Hp,WebAt C H' w n ps->(∀ b o,H b=some o->b≠w->H' b=some o)->Q .non H'
theorem nJ:FnScope ["self","places","ties"] ["self","places","ties"] (XA sZ8):=⟨rfl,rfl,rfl,by decide +kernel,rfl,by decide +kernel,by decide +kernel⟩
theorem BV (T:Txt K mg t):FnOk P w K mg base Xf 2 t.aZ8 t.dZ8 ["self","places","ties"] (Zn5 K t.A_Web):=by
 refine T.fZ8.ok nJ (λvs H Q E h=>?_) (λXz A outer s H vs Q E hr h=>?_)
 .obtain⟨w,dx,n,a,kd,xs,ps,rfl,_⟩:=h;rfl
 .obtain⟨w,dx,n,a,kd,xs,ps,rfl,hw,hS,hp,g,q⟩:=h;have eH:upd H w (.ins t.A_Web dx [])=H:=by
   funext b
   by_cases hb:b=w
   .subst hb;rw[XS,hw]
   .rw[Zb hb]
  have HG:SqK kd K H a xs:=by have z:=hS (.ins t.A_Web dx []);rw[eH]at z;exact z
  refine⟨_,(XN (Wh (Za (nK T) (hr.mono (by decide)) rfl T.mZ7 T.fZ7.kp T.bZ7 .nil Zt (XZ (pv 1) (XZ (pv 2) XY))))
   (XN (Uy (pv 0) (pv 1) rfl)
   (XF (Uy (pv 0) (Sn rfl (sc0:=XA sZ8) (N0:=["self","places","ties"]) (N':=["ends"]) (o:=1) (fr:=[]) ⟨rfl,by decide +kernel,by decide +kernel,by decide +kernel,rfl,by decide +kernel⟩ (TL K (pv 2)) (Zz (by decide)) (λ_ _ _ _=>(Zf (i:=0) (show List.Nodup (["ends"]:List Str) by decide +kernel) rfl (Or.inl rfl))) (λ_ _ _ _=>QS) (λ_ _ _ _=>(SO (XZ (ZQ (ZL K) (pv 0) XQ (λ_ _=>rfl)) (XZ (ZQ (ZL K) (pv 0) XQ (λ_ _=>rfl)) XY))))) rfl)))),?_⟩
  refine⟨_,rfl,_,rfl,n,a,kd,xs,ps,rfl,HG,hp,g,?_⟩;refine⟨_,rfl,_,rfl,w,_,dx,[],rfl,hw,T.cl_Web,T.n_Web_places,(by show 0<1000;decide),?_⟩;have Vj:PairsV (upd H w (.ins t.A_Web dx (XO "places" (.int n) []))) xs ps:=⟨hp.1,λi p e=>by obtain⟨v,e1,tt,e2,e3⟩:=hp.2 i p e;exact⟨v,e1,tt,e2,by rw[Zb (Qw e3 hw (λz=>nomatch z))];exact e3⟩⟩
  have sx:xs.length<sizeLine:=Zo (by rw[hp.1];have:=g.2.2.1;lia);refine⟨_,rfl,a,rfl,NT (k:=kd) (K:=K) (xs:=xs) (λi ys H2=>i<=xs.length/\ys.length=i/\Same (upd H w (.ins t.A_Web dx (XO "places" (.int n) []))) H2/\PairsV H2 ys (ps.take i)) ⟨Yn _,rfl,Same.refl _,PairsV.nil⟩ sx
   (λi ys H2 _ ⟨_,hl,s2,_⟩=>⟨(hS _).same s2,Nat.le_of_eq hl⟩) ?_ ?_⟩
  .rintro i x ys H2 hi ⟨h1,hl,s2,hy⟩ S Xc;obtain⟨p,Qd,tt,rfl,ht⟩:=Vj.at hi;have IU:=s2 _ _ ht
   refine iy ?_;refine⟨_,rfl,tt,_,0,.int p.1,rfl,rfl,SqT.of IU,rfl,_,rfl,tt,_,1,.int p.2,rfl,rfl,SqT.of IU,rfl,(by show 2<=sizeLine;decide),λq hq=>?_⟩;have Vn:i<xs.length:=(Xp.mp hi).1
   refine Xc _ _ ⟨Vn,by rw[Xs,hl];rfl,Zy s2 hq,?_⟩;rw[WD,Qd];exact(hy.same (XH hq)).snoc ⟨q,rfl,XS⟩
  .rintro ys H2 ⟨_,hl,s2,hy⟩ tl nI;have nH:=s2 w _ XS
   have dv:w≠tl:=Zc nH nI;refine⟨_,rfl,w,_,dx,_,rfl,(by rw[Zb dv];exact nH),T.cl_Web,T.n_Web_ties,(by show 1<1000;decide),?_⟩;refine q _ ⟨dx,tl,ys,XS,by rw[Zb (YW dv),XS],?_⟩ λb ob e hb=>?_
   .have e1:ps.take xs.length=ps:=UE (by rw[hp.1];exact XM _);rw[e1]at hy;refine⟨hy.1,λi p e=>?_⟩;obtain⟨v,e2,tt,e3,e4⟩:=hy.2 i p e;exact⟨v,e2,tt,e3,by rw[Zb (Qw e4 nH (λz=>nomatch z)),Zb (Zc e4 nI)];exact e4⟩
   .have e2:=s2 b ob (by rw[Zb hb];exact e);rw[Zb hb,Zb (Zc e2 nI)];exact e2
def nG(K:Ad)(C:Addr):Sp:=λvs H Q _=>∃(w a:Addr) (n:Int) (ps:Aa) (kd:Bool) (T:Ac),vs=[.ref w,.ref a]/\WebAt C H w n ps/\ps.length<=1000/\SqK kd K H a (IL T) /\
 ∀(D:Ac),D.Pairwise (· < ·)->(∀ z,z∈D↔(0<=z/\z<(ps.length:Int))/\z∉T)->∀(r:Addr) (H':Hp),Same H H'->H' r=some (.tup (IL D))->Q (.ref r) H'
theorem nF:FnScope ["web","ties"] ["web","ties"] (XA sZ9):=⟨rfl,rfl,rfl,by decide +kernel,rfl,by decide +kernel,by decide +kernel⟩
theorem nE (T:Txt K mg t):FnOk P w K mg base Xf 1 t.aZ9 t.dZ9 ["web","ties"] (nG K t.A_Web):=by
 refine T.fZ9.ok nF (λvs H Q E h=>?_) (λXz A outer s H vs Q E hr h=>?_)
 .obtain⟨w,a,n,ps,kd,T,rfl,_⟩:=h;rfl
 .obtain⟨w,a,n,ps,kd,T',rfl,hW,hl,hA,q⟩:=h;refine⟨_,(XF (Zk (Zs (ZI K) (by rfl) T.n_tuple Boot.«tuple» (XZ (Sn rfl (sc0:=XA sZ9) (N0:=["web","ties"]) (N':=["tie","ties"]) (o:=1) (fr:=[1]) ⟨rfl,by decide +kernel,by decide +kernel,by decide +kernel,rfl,by decide +kernel⟩ (HR rfl T.n_range (XZ (Zd (Zn K) (by rfl) T.n_len Boot.«len» (XZ (Zm K (pv 0) rfl) XY)) XY)) (Zz (by decide)) (λ_ _ _ _=>(Zf (i:=0) (show List.Nodup (["tie","ties"]:List Str) by decide +kernel) rfl (Or.inl rfl))) (λ_ _ _ _=>(Qk (Zg (HK K) (pv 0) (pv 1) rfl))) (λ_ _ _ _=>(pv 0))) XY)))),?_⟩;obtain⟨dx,tl,xs,h1,h2,h3⟩:=hW;have Nv:=h3.1
  refine⟨_,rfl,w,_,dx,_,_,rfl,h1,T.cl_Web,T.n_Web_ties,ON _ _,tl,xs,rfl,.inl (SqL.of h2),_,rfl,by lia,by lia,NS (lo:=0) (n:=(xs.length:Int).toNat) (λj ys H3=>H3=H/\∃ D:Ac,ys=IL D/\D.length<=j/\D.Pairwise (· < ·)/\∀ z,z∈D↔(0<=z/\z<(j:Int))/\z∉T') ⟨rfl,[],rfl,XM _,.nil,λz=>⟨λh=>(by cases h),λh=>(by lia)⟩⟩ (Zo (by lia)) (λj ys H3 _ ⟨_,D,e,hl,_⟩=>by rw[e,Xq];exact hl) ?_ ?_⟩
  .rintro j ys H3 hj ⟨rfl,D,rfl,du,hp,hm⟩ S Xc;have lt:∀ z∈D,z<(j:Int):=λz hz=>((hm z).mp hz).1.2
   refine nm ?_;refine⟨_,rfl,_,rfl,a,_,rfl,hA.or,rfl,ZT _,_,rfl,?_⟩;rw[NP,HX];refine WM (λWq=>?_) (λWq=>?_)
   .refine Xc _ _ ⟨rfl,D,rfl,by lia,hp,λz=>?_⟩;rw[hm z];refine⟨λh=>⟨by lia,h.2⟩,λh=>⟨⟨h.1.1,?_⟩,h.2⟩⟩;by_cases e:z=(j:Int)
    .exact absurd (e ▸ Wq) h.2
    .lia
   .refine⟨_,rfl,Xc _ _ ⟨rfl,D++[(j:Int)],?_,by rw[Xs];exact Nat.succ_le_succ du,?_,λz=>?_⟩⟩
    .rw[ZY]
    .exact Vi.mpr ⟨hp,Ii _ _,λa ha b hb=>by rw[XD.mp hb];exact lt a ha⟩
    .rw[Xy,XD,hm z];constructor
     .rintro(⟨f1,f2⟩ | h)
      .exact⟨by lia,f2⟩
      .rw[h];exact⟨by lia,Wq⟩
     .rintro⟨f1,f2⟩;by_cases e:z=(j:Int)
      .exact .inr e
      .exact .inl ⟨by lia,f2⟩
  rintro ys H3 ⟨rfl,D,rfl,du,hp,hm⟩ la nB;rw[show(((xs.length:Int).toNat:Nat):Int)=(ps.length:Int) by lia]at hm;refine⟨la,_,rfl,.inl ⟨SqL.of XS,λtp JG=>?_⟩⟩;exact q D hp hm tp _ ((XH nB).trans (XH JG)) XS
def nz(K:Ad):Sp:=λvs H Q _=>∃(a:Addr) (kd:Bool) (ns:Ac) (z:Int),vs=[.ref a,.int z]/\SqK kd K H a (IL ns)/\ns.length<=1000 /\
 ∀(r:Addr) (H':Hp),Same H H'->H r=none->H' r=some (.tup (IL (wo ns z)))->Q (.ref r) H'
theorem ny:FnScope ["ties","left_out"] ["ties","left_out"] (XA sZa):=⟨rfl,rfl,rfl,by decide +kernel,rfl,by decide +kernel,by decide +kernel⟩
theorem BU (T:Txt K mg t):FnOk P w K mg base Xf 1 t.aZa t.dZa ["ties","left_out"] (nz K):=by
 refine T.fZa.ok ny (λvs H Q E h=>?_) (λXz A outer s H vs Q E hr h=>?_)
 .obtain⟨a,kd,ns,z,rfl,_⟩:=h;rfl
 .obtain⟨a,kd,ns,z,rfl,hS,hn,q⟩:=h;refine⟨_,(XF (Zk (Zs (ZI K) (by rfl) T.n_tuple Boot.«tuple» (XZ (Sn rfl (sc0:=XA sZa) (N0:=["ties","left_out"]) (N':=["tie","left_out"]) (o:=1) (fr:=[1]) ⟨rfl,by decide +kernel,by decide +kernel,by decide +kernel,rfl,by decide +kernel⟩ (TL K (pv 0)) (Zz (by decide)) (λ_ _ _ _=>(Zf (i:=0) (show List.Nodup (["tie","left_out"]:List Str) by decide +kernel) rfl (Or.inl rfl))) (λ_ _ _ _=>(Qk (Zg QU (pv 0) (pv 1) (Zu _)))) (λ_ _ _ _=>(pv 0))) XY)))),?_⟩;refine⟨_,rfl,a,rfl,NT (k:=kd) (K:=K) (xs:=IL ns) (λi ys H2=>H2=H/\i<=ns.length/\ys=IL (wo (ns.take i) z)) ⟨rfl,Yn _,rfl⟩ (Zo (by rw[Xq];lia))
   (λi ys H2 hi ⟨e,VB,ey⟩=>⟨e ▸ hS,by rw[ey,Xq];exact Yr (LQ _ _) (by rw[Yy];lia)⟩) ?_ ?_⟩
  .rintro i x ys H2 hi ⟨rfl,Vn,rfl⟩ S Xc;obtain⟨y,rfl,hy⟩:=UL hi;have Xl:i<ns.length:=(Xp.mp hy).1
   refine nm ?_;refine⟨_,rfl,_,rfl,rfl,_,rfl,?_⟩;rw[ZA];refine WM (λhe=>?_) (λhe=>?_)
   .refine Xc _ _ ⟨rfl,Xl,?_⟩;rw[gZ hy,if_neg (by simpa using he),YF]
   .refine⟨_,rfl,Xc _ _ ⟨rfl,Xl,?_⟩⟩;rw[gZ hy,if_pos he,ZY]
  .rintro ys H2 ⟨rfl,_,rfl⟩ p hp;rw[Xq,YM];refine⟨p,_,rfl,.inl ⟨SqL.of XS,λr hr=>?_⟩⟩;exact q r _ (Zy (XH hp) hr) ((XH hp).free hr) XS
def nu(K:Ad)(C:Addr):Sp:=λvs H Q _=>∃(w a:Addr) (n:Int) (ps:Aa) (kd:Bool) (ns:Ac),vs=[.ref w,.ref a]/\WebAt C H w n ps/\SqK kd K H a (IL ns)/\∀ b:Bool,(b=true↔IsSet ps.length ns)->Q (.bl b) H
theorem MV:FnScope ["web","ties","last","tie"] ["web","ties"] (XA sZb):=⟨rfl,rfl,rfl,by decide +kernel,rfl,by decide +kernel,by decide +kernel⟩
theorem BS (T:Txt K mg t):FnOk P w K mg base Xf 2 t.aZb t.dZb ["web","ties"] (nu K t.A_Web):=by
 refine T.fZb.ok MV (λvs H Q E h=>?_) (λXz A outer s H vs Q E hr h=>?_)
 .obtain⟨w,a,n,ps,kd,ns,rfl,_⟩:=h;rfl
 .obtain⟨w,a,n,ps,kd,ns,rfl,hW,hS,q⟩:=h;refine⟨_,(XN (Zh (i:=2) MV.nd rfl (Or.inl rfl) (RP HQ XQ))
   (XN (SQ Ww rfl (TL K (pv 1)) (Zf (i:=3) MV.nd rfl (Or.inl rfl))
   (XN (Wx (PW.pt (KA (Zg Qp (pv 3) (pv 2) (Zu _)) (SU (Oh (OU (Za (BW T) (hr.mono (by decide)) rfl T.mZ6 T.fZ6.kp T.bZ6 .nil Zt (XZ (pv 0) (XZ (pv 3) XY))))))))
   (XF (Zk RQ))
   Zp)
   (XF (Zh (i:=2) MV.nd rfl (Or.inl rfl) (pv 3)))))
   (XF (Zk RQ)))),?_⟩
  refine⟨_,rfl,?_⟩;refine⟨_,rfl,a,rfl,zC (k:=kd) (K:=K) (xs:=IL ns) (λi σ H2=>∃(l:Int) (v:Option V),σ=[some (.ref w),some (.ref a),some (.int l),v]/\H2=H/\(i=0->l=-1)/\(i≠0->ns[i - 1]?=some l)/\∀ j z,j<i->ns[j]?=some z->0<=z/\z<(ps.length:Int)/\∀ y,j≠0->ns[j - 1]?=some y->y<z)
   ⟨-1,none,rfl,rfl,λ_=>rfl,λz=>absurd rfl z,λj z hj=>absurd hj (YY j)⟩ (λi σ H2 _ ⟨_,_,_,e,_⟩=>e ▸ hS) ?_ ?_⟩
  .rintro i x σ H2 hi ⟨l,v,rfl,rfl,QK,SG,hp⟩;obtain⟨z,rfl,hz⟩:=UL hi;refine⟨_,rfl,_,rfl,_,_,rfl,rfl,_,rfl,?_⟩;refine WT (λhc=>?_) (λhc=>?_)
   .-- tie<=last
    refine Ve ?_;refine q false ⟨λz=>(nomatch z),λhs=>?_⟩;obtain⟨b1,b2,b3⟩:=hs i z hz;by_cases h0:i=0
    .have:=QK h0;lia
    .have:=b3 l h0 (SG h0);lia
   .refine⟨_,rfl,_,rfl,w,n,ps,z,rfl,hW,_,rfl,?_⟩;refine WM (λVD=>?_) (λVD=>?_)
    .refine⟨_,rfl,?_⟩;refine⟨z,_,rfl,rfl,λe=>(nomatch e),λ_=>by simpa using hz,λj y hj ey=>?_⟩;by_cases hji:j<i
     .exact hp j y hji ey
     .have e:j=i:=by lia
      subst e;rw[hz]at ey;cases ey;refine⟨VD.1,VD.2,λy h0 ey=>?_⟩;rw[SG h0]at ey;cases ey;lia
    .refine q false ⟨λz=>(nomatch z),λhs=>?_⟩;obtain⟨b1,b2,b3⟩:=hs i z hz;exact absurd ⟨b1,b2⟩ VD
  .rintro σ H2 ⟨l,v,rfl,rfl,QK,SG,hp⟩;refine q true ⟨λ_ i z hz=>?_,λ_=>rfl⟩;have hi:i<(IL ns).length:=by rw[Xq];exact(Xp.mp hz).1
   exact hp i z hi hz
def nr(K:Ad)(C:Addr):Sp:=λvs H Q _=>∃(w a:Addr) (n:Int) (ps:Aa) (kd:Bool) (ns:Ac),vs=[.ref w,.ref a]/\WebAt C H w n ps/\SqK kd K H a (IL ns)/\IsSet ps.length ns /\
 ∀(r:Addr) (H':Hp),Same H H'->SqT K H' r (IL ns)->Q (.ref r) H'
theorem nq:FnScope ["web","ties"] ["web","ties"] (XA sZc):=⟨rfl,rfl,rfl,by decide +kernel,rfl,by decide +kernel,by decide +kernel⟩
theorem nj (T:Txt K mg t):FnOk P w K mg base Xf 3 t.aZc t.dZc ["web","ties"] (nr K t.A_Web):=by
 refine T.fZc.ok nq (λvs H Q E h=>?_) (λXz A outer s H vs Q E hr h=>?_)
 .obtain⟨w,a,n,ps,kd,ns,rfl,_⟩:=h;rfl
 .obtain⟨w,a,n,ps,kd,ns,rfl,hW,hS,hI,q⟩:=h;refine⟨_,(XN (Wx (Oh (OU (Za (BS T) (hr.mono (by decide)) rfl T.mZb T.fZb.kp T.bZb .nil Zt (XZ (pv 0) (XZ (pv 1) XY)))))
   (XF Kz)
   Zp)
   (XF (Zk (Zs (ZI K) (by rfl) T.n_tuple Boot.«tuple» (XZ (pv 1) XY))))),?_⟩
  refine⟨_,rfl,_,rfl,w,a,n,ps,kd,ns,rfl,hW,hS,λb hb=>⟨_,rfl,?_⟩⟩;refine ER (λ_=>?_) (λz=>?_)
  .refine⟨_,rfl,a,IL ns,rfl,?_⟩;cases kd with
   | false=>exact .inl ⟨hS,λl hl=>q l _ (XH hl) (SqT.of XS)⟩
   | true=>exact .inr ⟨hS,q a H (Same.refl H) hS⟩
  .rw[hb.mpr hI]at z;cases z
def ni(K:Ad)(C:Addr):Sp:=λvs H Q _=>∃(w m a:Addr) (n:Int) (ps:Aa) (M:Ac) (kd:Bool) (ns:Ac),vs=[.ref w,.ref m,.ref a]/\WebAt C H w n ps/\Zv n ps/\H m=some (.lst (IL M))/\M.length=n.toNat/\SqK kd K H a (IL ns)/\(∀ z∈ns,0<=z/\z<(ps.length:Int)) /\
 ∀(m':Addr) (H':Hp),Same H H'->(m'=m\/H m'=none)->H' m'=some (.lst (IL (OK M (XT ps ns))))->Q (.ref m') H'
theorem Rl:FnScope ["web","marks","ties","tie","ends","low","high"] ["web","marks","ties"] (XA sZd):=⟨rfl,rfl,rfl,by decide +kernel,rfl,by decide +kernel,by decide +kernel⟩
theorem BR (T:Txt K mg t):FnOk P w K mg base Xf 1 t.aZd t.dZd ["web","marks","ties"] (ni K t.A_Web):=by
 refine T.fZd.ok Rl (λvs H Q E h=>?_) (λXz A outer s H vs Q E hr h=>?_)
 .obtain⟨w,m,a,n,ps,M,kd,ns,rfl,_⟩:=h;rfl
 .obtain⟨w,m0,a,n,ps,M0,kd,ns,rfl,⟨dx,tl,xs,h1,h2,h3⟩,⟨g1,g2,g3,g4⟩,hm,hlM,hS,hI,q⟩:=h;refine⟨_,(XN (SQ Ww rfl (TL K (pv 2)) (Zf (i:=3) Rl.nd rfl (Or.inl rfl))
   (XN (Zh (i:=4) Rl.nd rfl (Or.inl rfl) (ZQ (Zi K) (Zm K (pv 0) rfl) (pv 3) (λ_ _=>rfl)))
   (XN (Zh (i:=5) Rl.nd rfl (Or.inr rfl) (Zd (zP rfl) (by rfl) T.n_min Boot.«min» (XZ (ZQ (Zi K) (pv 1) (ZQ (ZL K) (pv 4) XQ (λ_ _=>rfl)) (λ_ _=>rfl)) (XZ (ZQ (Zi K) (pv 1) (ZQ (ZL K) (pv 4) XQ (λ_ _=>rfl)) (λ_ _=>rfl)) XY))))
   (XN (Zh (i:=6) Rl.nd rfl (Or.inr rfl) (Zd (zQ rfl) (by rfl) T.n_max Boot.«max» (XZ (ZQ (Zi K) (pv 1) (ZQ (ZL K) (pv 4) XQ (λ_ _=>rfl)) (λ_ _=>rfl)) (XZ (ZQ (Zi K) (pv 1) (ZQ (ZL K) (pv 4) XQ (λ_ _=>rfl)) (λ_ _=>rfl)) XY))))
   (XF (Wx (Zg RO (pv 5) (pv 6) (Zu _))
   (XF (NX (i:=1) rfl Rl.nd rfl rfl (sc0:=XA sZd) (N0:=["web","marks","ties","tie","ends","low","high"]) (N':=["mark","high","low"]) (o:=1) (fr:=[6,5]) ⟨rfl,by decide +kernel,by decide +kernel,by decide +kernel,rfl,by decide +kernel⟩ (Va K (pv 1)) (Zz (by decide)) (λ_ _ _ _=>(Zf (i:=0) (show List.Nodup (["mark","high","low"]:List Str) by decide +kernel) rfl (Or.inl rfl))) (λ_ _ _ _=>QS) (λ_ _ _ _=>(ji (Zg Qq (pv 0) (pv 1) (Zu _)) (pv 2) (pv 0)))))
   Zp))))))
   (XF (Zk (pv 1)))),?_⟩
  refine⟨_,rfl,a,rfl,zC (k:=kd) (K:=K) (a:=a) (xs:=IL ns) (λi σ H2=>∃(m:Addr) (v3 v4 v5 v6:Option V),σ=[some (.ref w),some (.ref m),some (.ref a),v3,v4,v5,v6]/\Same H H2/\(m=m0\/H m=none)/\H2 m=some (.lst (IL (OK M0 (XT ps (ns.take i))))))
   ⟨m0,none,none,none,none,rfl,Same.refl _,.inl rfl,hm⟩ (λi σ H2 _ ⟨_,_,_,_,_,_,s2,_⟩=>hS.same s2) ?_ ?_⟩
  .rintro i x σ H2 hi ⟨m,v3,v4,v5,v6,rfl,s2,QH,Wi⟩;obtain⟨z,rfl,hz⟩:=UL hi;obtain⟨z0,z1⟩:=hI z (Xg hz);obtain⟨p,hp⟩:∃ p,ps[z.toNat]?=some p:=⟨_,Xr (by lia)⟩;obtain⟨v,hv,tt,rfl,Tp⟩:=h3.2 z.toNat p hp;obtain⟨e1,e2,e3,e4⟩:=g4 p (Xg hp);have ed:ps.getD z.toNat (0,0)=p:=ZP hp
   refine⟨_,rfl,w,_,dx,_,_,rfl,s2 _ _ h1,T.cl_Web,T.n_Web_ties,ON _ _,_,rfl,tl,xs,z,.ref tt,rfl,rfl,SqL.of (s2 _ _ h2),ZK (n:=z.toNat) (by lia) hv,?_⟩;have IU:=s2 _ _ Tp
   have hl:(OK M0 (XT ps (ns.take i))).length=n.toNat:=(Zf6 _ _).trans hlM;generalize hM:OK M0 (XT ps (ns.take i))=M at *;have ha:M[p.1.toNat]?=some (mk M p.1.toNat):=OM (by grind)
   have hb:M[p.2.toNat]?=some (mk M p.2.toNat):=OM (by grind);have iA:Wg (IL M) p.1=some (.int (mk M p.1.toNat)):=ZK (n:=p.1.toNat) (by lia) (by rw[Yp,ha];rfl)
   have iB:Wg (IL M) p.2=some (.int (mk M p.2.toNat)):=ZK (n:=p.2.toNat) (by lia) (by rw[Yp,hb];rfl);have t0:Wg ([.int p.1,.int p.2]:List V) 0=some (.int p.1):=rfl
   have t1:Wg ([.int p.1,.int p.2]:List V) 1=some (.int p.2):=rfl;refine⟨_,rfl,_,rfl,tt,_,0,_,rfl,rfl,SqT.of IU,t0,m,_,p.1,_,rfl,rfl,SqL.of Wi,iA,_,rfl,_,rfl,tt,_,1,_,rfl,rfl,SqT.of IU,t1,m,_,p.2,_,rfl,rfl,SqL.of Wi,iB,_,_,rfl,?_⟩;refine⟨_,rfl,_,rfl,tt,_,0,_,rfl,rfl,SqT.of IU,t0,m,_,p.1,_,rfl,rfl,SqL.of Wi,iA,_,rfl,_,rfl,tt,_,1,_,rfl,rfl,SqT.of IU,t1,m,_,p.2,_,rfl,rfl,SqL.of Wi,iB,_,_,rfl,?_⟩;have eL:(if mk M p.2.toNat<mk M p.1.toNat then mk M p.2.toNat else mk M p.1.toNat)=min (mk M p.1.toNat) (mk M p.2.toNat):=by rw[Int.min_def];split <;> split <;> lia
   have eH:(if mk M p.2.toNat > mk M p.1.toNat then mk M p.2.toNat else mk M p.1.toNat)=max (mk M p.1.toNat) (mk M p.2.toNat):=by rw[Int.max_def];split <;> split <;> lia
   refine⟨_,rfl,_,rfl,_,_,rfl,rfl,_,rfl,?_⟩;rw[eL,eH];have step:OK M0 (XT ps (ns.take (i+1)))=pm M p.1.toNat p.2.toNat:=by rw[ZC5 hz,ZP9,hM,ed]
   refine WT (λhc=>?_) (λhc=>?_)
   .refine⟨_,rfl,m,rfl,⟨_,SqL.of Wi⟩,NU (K:=K) (a:=m) (xs:=IL M) (λj ys H3=>H3=H2/\j<=M.length/\ys=IL ((M.take j).map λk=>if k=max (mk M p.1.toNat) (mk M p.2.toNat) then min (mk M p.1.toNat) (mk M p.2.toNat) else k)) ⟨rfl,Yn _,rfl⟩ (Zo (by rw[Xq];grind))
     (λj ys H3 hj ⟨e,NO,ey⟩=>⟨e ▸ SqL.of Wi,by rw[ey,Xq,Yd,Yy];lia⟩) ?_ ?_⟩
    .rintro j y ys H3 hj ⟨rfl,NO,rfl⟩ S Xc;obtain⟨k,rfl,hk⟩:=UL hj;refine iy ?_;refine⟨_,rfl,_,rfl,rfl,_,rfl,?_⟩;have Wa:j<M.length:=(Xp.mp hk).1
     have app:∀ r:Int,r=(if k=max (mk M p.1.toNat) (mk M p.2.toNat) then min (mk M p.1.toNat) (mk M p.2.toNat) else k) ->
       IL ((M.take j).map λk=>if k=max (mk M p.1.toNat) (mk M p.2.toNat) then min (mk M p.1.toNat) (mk M p.2.toNat) else k)++[.int r]=IL ((M.take (j+1)).map λk=>if k=max (mk M p.1.toNat) (mk M p.2.toNat) then min (mk M p.1.toNat) (mk M p.2.toNat) else k):=by intro r er;rw[WD,hk,er];simp
     refine WT (λhe=>?_) (λhe=>?_)
     .refine⟨_,rfl,Xc _ _ ⟨rfl,Wa,app _ ?_⟩⟩;rw[if_pos (V.int.inj he)]
     .refine⟨_,rfl,Xc _ _ ⟨rfl,Wa,app _ ?_⟩⟩;rw[if_neg λz=>he (Xw V.int z)]
    .rintro ys H3 ⟨rfl,_,rfl⟩ p' IT;refine⟨p',_,_,_,_,rfl,Zy s2 IT,.inr (s2.free IT),?_⟩;rw[XS,step,Xq,YM];unfold pm;rw[if_pos hc]
   .refine⟨m,_,_,_,_,rfl,s2,QH,?_⟩;rw[Wi,step];unfold pm;rw[if_neg hc]
  .rintro σ H2 ⟨m,v3,v4,v5,v6,rfl,s2,QH,Wi⟩;rw[Xq,YM]at Wi;exact⟨_,rfl,q m H2 s2 QH Wi⟩
def nh(K:Ad)(C:Addr):Sp:=λvs H Q _=>∃(w a:Addr) (n:Int) (ps:Aa) (ns:Ac),vs=[.ref w,.ref a]/\WebAt C H w n ps/\Zv n ps/\SqT K H a (IL ns)/\(∀ z∈ns,0<=z/\z<(ps.length:Int)) /\
 ∀(m:Addr) (H':Hp),Same H H'->H m=none->H' m=some (.lst (IL (Xx n.toNat (XT ps ns))))->Q (.ref m) H'
theorem ng:FnScope ["web","ties"] ["web","ties"] (XA sZe):=⟨rfl,rfl,rfl,by decide +kernel,rfl,by decide +kernel,by decide +kernel⟩
theorem Rk (T:Txt K mg t):FnOk P w K mg base Xf 2 t.aZe t.dZe ["web","ties"] (nh K t.A_Web):=by
 refine T.fZe.ok ng (λvs H Q E h=>?_) (λXz A outer s H vs Q E hr h=>?_)
 .obtain⟨w,a,n,ps,ns,rfl,_⟩:=h;rfl
 .obtain⟨w,a,n,ps,ns,rfl,hW,hG,hS,hI,q⟩:=h;refine⟨_,(XF (Zk (Za (BR T) (hr.mono (by decide)) rfl T.mZd T.fZd.kp T.bZd .nil Zt (XZ (pv 0) (XZ (Zs (ZO3 rfl) (by rfl) T.n_list Boot.«list» (XZ (Zs Zt8 (by rfl) T.n_range Boot.«range» (XZ (Zm K (pv 0) rfl) XY)) XY)) (XZ (pv 1) XY)))))),?_⟩;obtain⟨dx,tl,xs,h1,h2,h3⟩:=id hW;obtain⟨g1,g2,g3,g4⟩:=id hG;refine⟨_,rfl,_,rfl,w,_,dx,_,_,rfl,h1,T.cl_Web,T.n_Web_places,JU _ _,n,rfl,λr Vz=>⟨r,0,n,rfl,XS,⟨by decide,by decide,by lia,by omega⟩,by lia,λm hm=>?_⟩⟩;have sm:Same H (upd (upd H r (.rng 0 n)) m (.lst ((TN 0 n).map V.int))):=Zy (XH Vz) hm
  refine⟨_,rfl,w,m,a,n,ps,(List.range n.toNat).map (λ(i:Nat)=>(i:Int)),true,ns,rfl,hW.same sm,hG,?_,by simp,Ma sm hS,hI,λm' H' s' hf LY=>?_⟩
  .rw[XS,ZK7]
  .refine q m' H' (sm.trans s') ?_ LY;rcases hf with rfl | hf
   .exact(XH Vz).free hm
   .exact sm.free hf
def nc(K:Ad)(C:Addr):Sp:=λvs H Q _=>∃(w a:Addr) (n:Int) (ps:Aa) (kd:Bool) (ns:Ac),vs=[.ref w,.ref a]/\WebAt C H w n ps/\Zv n ps/\SqK kd K H a (IL ns)/\IsSet ps.length ns /\
 ∀(r:Addr) (as:List Addr) (H':Hp),Same H H'->H r=none->H' r=some (.lst (as.map V.ref))->r∉as->GrpAt H H' (JS (Xx n.toNat (XT ps ns))) as->Q (.ref r) H'
theorem MU:FnScope ["web","ties","pieces","place","mark"] ["web","ties"] (XA sZf):=⟨rfl,rfl,rfl,by decide +kernel,rfl,by decide +kernel,by decide +kernel⟩
theorem m9 (T:Txt K mg t):FnOk P w K mg base Xf 4 t.aZf t.dZf ["web","ties"] (nc K t.A_Web):=by
 refine T.fZf.ok MU (λvs H Q E h=>?_) (λXz A outer s H vs Q E hr h=>?_)
 .obtain⟨w,a,n,ps,kd,ns,rfl,_⟩:=h;rfl
 .obtain⟨w,a,n,ps,kd,ns,rfl,hW,hG,hS,hI,q⟩:=h;refine⟨_,(XN (Zh (i:=2) MU.nd rfl (Or.inl rfl) aN)
   (XN (SQ Ww rfl (LZ K rfl T.n_enumerate (XZ (Za (Rk T) (hr.mono (by decide)) rfl T.mZe T.fZe.kp T.bZe .nil Zt (XZ (pv 0) (XZ (Za (nj T) (hr.mono (by decide)) rfl T.mZc T.fZc.kp T.bZc .nil Zt (XZ (pv 0) (XZ (pv 1) XY))) XY))) XY)) (QO (n:=2) K rfl (Zr (Zf (i:=3) MU.nd rfl (Or.inl rfl)) (Zr (Zf (i:=4) MU.nd rfl (Or.inl rfl)) QV)))
   (XF (Wh (VH K YQ Hc Hd Fm (VH K jB jN PySem.F.type_dict_setdefault ZF3 (pv 2) (XZ (pv 4) (XZ (TX XY) XY))) (XZ (pv 3) XY)))))
   (XF (Zk (Zs (Zk3 rfl) (by rfl) T.n_list Boot.«list» (XZ (iw K jB jF PySem.F.type_dict_values ZS7 (pv 2)) XY)))))),?_⟩
  intro d hd;have s0:Same H (upd H d (.dK [])):=XH hd
  refine⟨_,rfl,_,rfl,_,rfl,w,a,n,ps,kd,ns,rfl,hW.same s0,hS.same s0,hI,λr H1 s1 VP=>?_⟩;refine⟨w,r,n,ps,ns,rfl,(hW.same s0).same s1,hG,VP,hI.all,λm H2 s2 Tz Wi=>?_⟩;have OC:Same H H2:=(s0.trans s1).trans s2
  have hd2:H2 d=some (.dK []):=s2 _ _ (s1 _ _ XS);have hl:(Xx n.toNat (XT ps ns)).length=n.toNat:=Zw _ _
  generalize hM:Xx n.toNat (XT ps ns)=M at *;have QH:H m=none:=(s0.trans s1).free Tz
  have n14:M.length<=14:=by have:=hG.2.1;grind
  refine⟨m,rfl,⟨_,SqL.of Wi⟩,?_⟩;refine zB (K:=K) (a:=m) (xs:=IL M) (λi σ H3=>∃(as:List Addr) (v3 v4:Option V),σ=[some (.ref w),some (.ref a),some (.ref d),v3,v4]/\i<=M.length/\Same H H3/\H3 m=some (.lst (IL M))/\H3 d=some (.dK (UZ (Xu M i) as))/\d∉as/\m∉as/\GrpAt H H3 (Xu M i) as/\as.length<=i)
   ⟨[],none,none,rfl,Yn _,OC,Wi,hd2,by simp,by simp,⟨rfl,List.nodup_nil,λi kv a e=>by simp[Xu]at e,λa ha=>by simp at ha⟩,XM _⟩ (λi σ H3 _ ⟨_,_,_,_,_,_,h,_⟩=>SqL.of h) ?_ ?_
  .rintro i x σ H3 pt US hi ⟨as,v3,v4,rfl,Vn,s3,BQ,OB,x6,xZ,gA,dt⟩;obtain⟨k,rfl,hk⟩:=UL hi;have Tu:mk M i=k:=ZP hk
   have Xl:i<M.length:=(Xp.mp hk).1;have s4:Same H3 (upd H3 pt (.tup [.int i,.int k])):=XH US
   refine⟨pt,_,rfl,SqT.of XS,rfl,_,_,rfl,_,_,rfl,rfl,?_⟩;refine⟨_,rfl,.inr (.inr (.inl ⟨rfl,.inl ⟨_,s4 _ _ OB⟩⟩)),_,rfl,(by show 0<=sizeLine;exact Yn _),λl QK=>?_⟩;have s5:Same H3 (upd (upd H3 pt (.tup [.int i,.int k])) l (.lst [])):=Zy s4 QK
   have dq:=s5 _ _ OB;have Hj:H3 l=none:=s4.free QK
   have m8:d≠l:=Zc OB Hj;have gl:=gA.len
   refine⟨d,UZ (Xu M i) as,Sum.inl k,.ref l,rfl,rfl,dq,?_,λv hv=>?_,λhv=>?_⟩
   .rw[ZW6 gl];exact Zo (by grind)
   .-- the mark has XW list
    rcases tO (g:=Xu M i) (as:=as) (k:=k) gl with ⟨h1,_⟩ | ⟨j,kv,b,e1,e2,e3,e4⟩
    .rw[h1]at hv;cases hv
    .rw[e4]at hv;cases hv;have dk:=s5 _ _ (gA.at_ j kv b e1 e2)
     have yd:k∈(Xu M i).map (·.1):=YC.mpr ⟨kv,Xg e1,e3⟩;have hlen:kv.2.length<=i:=JR (Xg e1)
     refine⟨.inl ⟨rfl,_,SqL.of dk⟩,_,rfl,b,_,.int i,rfl,rfl,dk,?_,?_⟩
     .rw[Xq];exact Zo (by grind)
     .have IS:b∈as:=Xg e2;have TV:d≠b:=λz=>x6 (z ▸ IS)
      have hmb:m≠b:=λz=>xZ (z ▸ IS);have Np:=gA.new b IS
      have Lw:(Xu M (i+1)).map (·.1)=(Xu M i).map (·.1):=by show(Wo (Xu M i) (i:Int) (mk M i)).map (·.1)=_;rw[NQ,Tu,if_pos yd]
      refine⟨as,_,_,rfl,Xl,ZE Np (s3.trans s5),by rw[Zb hmb];exact s5 _ _ BQ,by rw[Zb TV,dq,iq Lw],x6,xZ,⟨?_,gA.nd,?_,gA.new⟩,by lia⟩
      .have:=Xw List.length Lw
       rw[Yd,Yd]at this;lia
      .intro i2 xY a2 f1 f2;have f1:(Wo (Xu M i) (i:Int) (mk M i))[i2]?=some xY:=f1
       unfold Wo at f1;rw[Tu,if_pos yd,Yp]at f1;cases f3:(Xu M i)[i2]? with
       | none=>rw[f3]at f1;cases f1
       | some Hi =>
        rw[f3]at f1;have f1:(if Hi.1=k then (Hi.1,Hi.2++[(i:Int)]) else Hi)=xY:=Yi f1
        by_cases hj:i2=j
        .subst hj;rw[e1]at f3;cases f3;rw[e2]at f2;cases f2;rw[if_pos e3]at f1;subst f1;rw[XS];simp
        .have VN:a2≠b:=λz=>by subst z;exact hj (HL gA.nd f2 e2)
         have xX:¬ Hi.1=k:=λz=>hj (HL (tP M i) (by rw[Yp,f3];exact Xw some z) (by rw[Yp,e1];exact Xw some e3));rw[if_neg xX]at f1;subst f1;rw[Zb VN];exact s5 _ _ (gA.at_ i2 Hi a2 f3 f2)
   .-- a new list
    rcases tO (g:=Xu M i) (as:=as) (k:=k) gl with ⟨h1,hkn⟩ | ⟨j,kv,b,e1,e2,e3,e4⟩
    .have BP:(upd (upd (upd H3 pt (.tup [.int i,.int k])) l (.lst [])) d (.dK (UZ (Xu M i) as++[(Sum.inl k,.ref l)]))) l=some (.lst []):=by rw[Zb (YW m8),XS]
     refine⟨.inl ⟨rfl,_,SqL.of BP⟩,_,rfl,l,[],.int i,rfl,rfl,BP,(by show 0<sizeLine;decide),?_⟩;have BO:H l=none:=s3.free Hj
     have m7:l∉as:=λz=>by obtain⟨_,e⟩:=gA.mem z;rw[Hj]at e;cases e
     have NH:m≠l:=Zc BQ Hj;have hmd:m≠d:=Qw BQ OB (λz=>nomatch z)
     have m6:Xu M (i+1)=Xu M i++[(k,[(i:Int)])]:=by show Wo (Xu M i) (i:Int) (mk M i)=_;unfold Wo;rw[Tu,if_neg hkn]
     have hdH:H d=none:=hd;refine⟨as++[l],_,_,rfl,Xl,ZE BO (ZE hdH (s3.trans s5)),by rw[Zb NH,Zb hmd];exact s5 _ _ BQ,?_,?_,?_,⟨?_,?_,?_,?_⟩,?_⟩
     .rw[Zb m8,XS,m6,ip gl]
     .rw[Xy,XD];rintro(z | z)
      .exact x6 z
      .exact m8 z
     .rw[Xy,XD];rintro(z | z)
      .exact xZ z
      .exact NH z
     .rw[m6,Xs,Xs,gl];rfl
     .exact ix gA.nd m7
     .intro i2 xY a2 f1 f2;rw[m6]at f1;by_cases VB:i2<(Xu M i).length
      .rw[Ys VB]at f1;rw[Ys (by lia)]at f2;have e:=gA.at_ i2 xY a2 f1 f2
       have n1:a2≠l:=Zc e Hj;have n2:a2≠d:=Qw e OB (λz=>nomatch z)
       rw[Zb n1,Zb n2];exact s5 _ _ e
      .have h2:i2=(Xu M i).length:=by
        have:=(Xp.mp f1).1
        rw[Xs,Yj]at this;grind
       subst h2;rw[Yq (XM _),Ot]at f1;rw[Yq (by lia),gl,Ot]at f2;cases f1;cases f2;rw[XS];rfl
     .intro a2 ha2;rcases Xy.mp ha2 with z | z
      .exact gA.new a2 z
      .rw[XD.mp z];exact BO
     .rw[Xs,Yj];lia
    .rw[e4]at hv;cases hv
  .rintro σ H3 ⟨as,v3,v4,rfl,Vn,s3,BQ,OB,x6,xZ,gA,dt⟩;rw[Xq]at OB gA;refine⟨_,rfl,.inr (.inr (.inl ⟨rfl,.inl ⟨_,OB⟩⟩)),d,_,rfl,rfl,OB,λp hp=>?_⟩;have s6:Same H3 (upd H3 p (RD p d)):=XH hp
   refine⟨p,d,_,rfl,XS,s6 _ _ OB,λr Vz=>?_⟩;have s7:Same H3 (upd (upd H3 p (RD p d)) r (.lst ((UZ (Xu M M.length) as).map (·.2)))):=Zy s6 Vz
   refine q r as _ (s3.trans s7) ((s3.trans s6).free Vz) (by rw[XS,EJ gA.len]) (λz=>?_) (gA.same s7);obtain⟨_,e⟩:=gA.mem z;rw[s6.free Vz]at e;cases e
def m5(K:Ad)(C:Addr):Sp:=λvs H Q _=>∃(w a:Addr) (n:Int) (ps:Aa) (kd:Bool) (ns:Ac),vs=[.ref w,.ref a]/\WebAt C H w n ps/\Zv n ps/\SqK kd K H a (IL ns)/\IsSet ps.length ns /\
 ∀(b:Bool) (H':Hp),Same H H'->(b=true↔(JS (Xx n.toNat (XT ps ns))).length=1)->Q (.bl b) H'
theorem mZ:FnScope ["web","ties"] ["web","ties"] (XA sZg):=⟨rfl,rfl,rfl,by decide +kernel,rfl,by decide +kernel,by decide +kernel⟩
theorem mY (T:Txt K mg t):FnOk P w K mg base Xf 5 t.aZg t.dZg ["web","ties"] (m5 K t.A_Web):=by
 refine T.fZg.ok mZ (λvs H Q E h=>?_) (λXz A outer s H vs Q E hr h=>?_)
 .obtain⟨w,a,n,ps,kd,ns,rfl,_⟩:=h;rfl
 .obtain⟨w,a,n,ps,kd,ns,rfl,hW,hG,hS,hI,q⟩:=h;refine⟨_,(XF (Zk (Kp Qq (Zd (Zn K) (by rfl) T.n_len Boot.«len» (XZ (Za (m9 T) (hr.mono (by decide)) rfl T.mZf T.fZf.kp T.bZf .nil Zt (XZ (pv 0) (XZ (pv 1) XY))) XY)) XQ (Zu _)))),?_⟩;refine⟨_,rfl,_,rfl,w,a,n,ps,kd,ns,rfl,hW,hG,hS,hI,λr as H' s1 Vz VP hnr gA=>?_⟩;refine⟨r,_,rfl,.inl (SqL.of VP),rfl,?_⟩;rw[Yd,gA.len,ZA];refine q _ H' s1 ?_;rw[YV];lia
def mX(K:Ad)(C:Addr):Sp:=λvs H Q _=>∃(w b:Addr) (n:Int) (ps:Aa) (ws:Ac),vs=[.ref w,.ref b]/\WebAt C H w n ps/\Zv n ps/\SqL K H b (IL ws)/\ws.length=ps.length /\
 ∀(r:Addr) (ys:List V) (L:Ab) (H':Hp),Same H H'->H r=none->TabAt H r n.toNat H' ys L->(∀ i j,i<n.toNat->j<n.toNat->fnL L i j=lapE (WY ps ws) i j)->Q (.ref r) H'
theorem dj(x:V)(k:Nat):(List.replicate k [x]).flatten=List.replicate k x:=by
 induction k with
 | zero=>rfl
 | succ k ih=>rw[Li,GQ,ih,Li];rfl
theorem mW(n i j:Nat):fnL (List.replicate n (List.replicate n 0)) i j=0:=by
 unfold fnL;cases h:(List.replicate n (List.replicate n (0:Int)))[i]? with
 | none =>
  have e:(List.replicate n (List.replicate n (0:Int))).getD i []=[]:=by rw[WJ,h];rfl
  rw[e];rfl
 | some l =>
  have e:(List.replicate n (List.replicate n (0:Int))).getD i []=l:=by rw[WJ,h];rfl
  rw[e,AB (Xg h),WJ,AA];split <;> rfl
theorem TabAt.get{H0 H:Hp}{r:Addr}{n:Nat}{ys:List V}{L:Ab}(h:TabAt H0 r n H ys L){i j:Nat}(hi:i<n)(hj:j<n):∃(A:Addr) (l:Ac) (x:Int),ys[i]?=some (.ref A)/\H A=some (.lst (IL l))/\l[j]?=some x/\l.length=n/\x=fnL L i j/\H0 A=none/\∀ y:Int,∃ L':Ab,TabAt H0 r n (upd H A (.lst ((IL l).set j (.int y)))) ys L'/\∀ a b,fnL L' a b=if a=i/\b=j then y else fnL L a b:=by
 obtain⟨A,l,y1,z1,hA,hl,hn,hr⟩:=h.at hi;obtain⟨x,hx⟩:∃ x,l[j]?=some x:=⟨_,Xr (by lia)⟩;refine⟨A,l,x,y1,hA,hx,hl,(OH z1 hx).symm,hn,λy=>⟨L.set i (l.set j y),?_,qE z1 (by omega)⟩⟩;have e:(IL l).set j (.int y)=IL (l.set j y):=(List.map_set ..).symm
 rw[e];exact h.put y1 z1 hr (by rw[SV];exact hl)
theorem xW{xs:List V}{i:Int}(h0:0<=i)(h1:i<(xs.length:Int)):OS xs.length i=some i.toNat:=by unfold OS;rw[if_pos h0,if_pos (by omega)]
theorem Rj:FnScope ["web","weights","table","ends","weight","one","other"] ["web","weights"] (XA sZh):=⟨rfl,rfl,rfl,by decide +kernel,rfl,by decide +kernel,by decide +kernel⟩
theorem mV (T:Txt K mg t):FnOk P w K mg base Xf 1 t.aZh t.dZh ["web","weights"] (mX K t.A_Web):=by
 refine T.fZh.ok Rj (λvs H Q E h=>?_) (λXz A outer s H vs Q E hr h=>?_)
 .obtain⟨w,b,n,ps,ws,rfl,_⟩:=h;rfl
 .obtain⟨w,b,n,ps,ws,rfl,hW,hG,hS,Fe,q⟩:=h;refine⟨_,(XN (NX (i:=2) rfl Rj.nd rfl rfl (sc0:=XA sZh) (N0:=["web","weights","table","ends","weight","one","other"]) (N':=["place","web"]) (o:=1) (fr:=[0]) ⟨rfl,by decide +kernel,by decide +kernel,by decide +kernel,rfl,by decide +kernel⟩ (HR rfl T.n_range (XZ (Zm K (pv 0) rfl) XY)) (Zz (by decide)) (λ_ _ _ _=>(Zf (i:=0) (show List.Nodup (["place","web"]:List Str) by decide +kernel) rfl (Or.inl rfl))) (λ_ _ _ _=>QS) (λ_ _ _ _=>(Zl Fg (TX (XZ XQ XY)) (Zm K (pv 1) rfl))))
   (XN (SQ Ww rfl (rN K rfl T.n_zip (XZ (Zm K (pv 0) rfl) (XZ (pv 1) XY))) (QO (n:=2) K rfl (Zr (Zf (i:=3) Rj.nd rfl (Or.inl rfl)) (Zr (Zf (i:=4) Rj.nd rfl (Or.inl rfl)) QV)))
   (XN (Zh (i:=5) Rj.nd rfl (Or.inl rfl) (ZQ (ZL K) (pv 3) XQ (λ_ _=>rfl)))
   (XN (Zh (i:=6) Rj.nd rfl (Or.inl rfl) (ZQ (ZL K) (pv 3) XQ (λ_ _=>rfl)))
   (XF (Wx (Zg QU (pv 5) (pv 6) (Zu _))
   (XN (zU (ZQ (Zi K) (pv 2) (pv 5) (λ_ _=>rfl)) (pv 5) (yJ K) (pv 4) FZ Fu)
   (XN (zU (ZQ (Zi K) (pv 2) (pv 6) (λ_ _=>rfl)) (pv 6) (yJ K) (pv 4) FZ Fu)
   (XN (zU (ZQ (Zi K) (pv 2) (pv 5) (λ_ _=>rfl)) (pv 6) (yJ K) (pv 4) FY Fu)
   (XF (zU (ZQ (Zi K) (pv 2) (pv 6) (λ_ _=>rfl)) (pv 5) (yJ K) (pv 4) FY Fu)))))
   Zp)))))
   (XF (Zk (pv 2))))),?_⟩
  obtain⟨dx,tl,xs,h1,h2,h3⟩:=id hW;have hl:=h3.1
  obtain⟨g1,g2,g3,g4⟩:=id hG;have one:1<=sizeLine:=by decide
  refine⟨_,rfl,w,_,dx,_,_,rfl,h1,T.cl_Web,T.n_Web_places,JU _ _,n,rfl,by lia,by lia,NS (lo:=0) (n:=n.toNat) (λi zs H2=>Same H H2/\Bears (OL H2) zs (List.replicate i (List.replicate n.toNat 0))/\zs.Nodup/\∀ A,V.ref A∈zs->H A=none/\∃ o,H2 A=some o) ⟨Same.refl _,⟨rfl,λi l e=>by simp at e⟩,.nil,λA h=>(by cases h)⟩ (Zo (by lia)) (λi zs H2 _ ⟨_,e,_⟩=>by rw[e.1,YG];exact XM _) ?_ ?_⟩
  .rintro i zs H2 hi ⟨s2,hZ,Tx,RG⟩ S Xc;refine nm ?_;refine⟨one,λp1 Vj=>?_⟩;have u1:=XH (o:=.lst [.int 0]) Vj
   refine⟨_,rfl,w,_,dx,_,_,rfl,u1 _ _ (s2 _ _ h1),T.cl_Web,T.n_Web_places,JU _ _,p1,n,_,rfl,rfl,XS,by lia,by lia,NV (by show 1 * n.toNat<=_;lia),λp2 Wj=>?_⟩;have e0:(List.replicate n.toNat [V.int 0]).flatten=IL (List.replicate n.toNat 0):=by rw[dj];show _=(List.replicate n.toNat 0).map V.int;rw[List.map_replicate]
   rw[e0];have u2:=u1.trans (XH (o:=.lst (IL (List.replicate n.toNat 0))) Wj)
   have BN:H2 p2=none:=(XH Vj).free Wj;refine Xc _ _ ⟨s2.trans u2,?_,?_,λA hA=>?_⟩
   .rw[List.replicate_succ'];exact(hZ.imp λ_ _ ⟨r',e,h⟩=>⟨r',e,u2 _ _ h⟩).snoc ⟨p2,rfl,XS⟩
   .refine YT.mpr ⟨Tx,by simp,λx hx y hy e=>?_⟩;rw[XD.mp hy]at e;obtain⟨_,o,ho⟩:=RG p2 (e ▸ hx);rw[BN]at ho;cases ho
   .rcases Xy.mp hA with e | e
    .obtain⟨a1,o,a2⟩:=RG A e;exact⟨a1,o,u2 _ _ a2⟩
    .have e':A=p2:=by simpa using e
     rw[e'];exact⟨s2.free BN,_,XS⟩
  rintro zs H2 ⟨s2,hZ,Tx,RG⟩ tA Pu;have s3:=s2.trans (XH (o:=.lst zs) Pu)
  have MT:H tA=none:=s2.free Pu;have hT:TabAt H tA n.toNat (upd H2 tA (.lst zs)) zs (List.replicate n.toNat (List.replicate n.toNat 0)):=⟨XS,hZ.imp λ_ _ ⟨r',e,h⟩=>⟨r',e,XH Pu _ _ h,Zc h Pu⟩,YG,λl h=>by rw[AB h];exact YG,Tx,λA h=>(RG A h).1⟩
  have hzero:∀ i j,fnL (List.replicate n.toNat (List.replicate n.toNat 0)) i j=0:=λi j=>by
   have:=mW n.toNat i j
   exact this
  generalize upd H2 tA (.lst zs)=H3 at *;generalize List.replicate n.toNat (List.replicate n.toNat (0:Int))=L0 at *;refine⟨_,rfl,w,_,dx,_,_,rfl,s3 _ _ h1,T.cl_Web,T.n_Web_ties,ON _ _,_,rfl,tl,b,rfl,⟨_,_,SqL.of (s3 _ _ h2),s3.seq hS⟩,Dt (K:=K) (a:=tl) (b:=b) (xs:=xs) (ys:=IL ws) (by rw[Xq];lia) (λi σ H4=>∃(L:Ab) (v3 v4 v5 v6:Option V),σ=[some (.ref w),some (.ref b),some (.ref tA),v3,v4,v5,v6]/\Same H H4/\TabAt H tA n.toNat H4 zs L/\∀ x y,x<n.toNat->y<n.toNat->fnL L x y=lapE (WY (ps.take i) (ws.take i)) x y) ⟨L0,none,none,none,none,rfl,s3,hT,λx y _ _=>hzero x y⟩ (λi σ H4 _ ⟨_,_,_,_,_,_,e,_⟩=>⟨SqL.of (e _ _ h2),e.seq hS⟩) ?_ ?_⟩
  .rintro i v v' σ H4 pt US hi Rz ⟨L,v3,v4,v5,v6,rfl,s4,mU,Pr⟩;obtain⟨p,hp,tt,rfl,Tp⟩:=h3.at hi;obtain⟨wt,rfl,hwt⟩:=UL Rz;obtain⟨e1,e2,e3,e4⟩:=g4 p (Xg hp);have u1:=XH (o:=.tup [.ref tt,.int wt]) US
   refine⟨pt,_,rfl,SqT.of XS,rfl,_,_,rfl,_,_,rfl,rfl,?_⟩;have zm:=mU.same u1
   have s5:=s4.trans u1;generalize upd H4 pt (.tup [.ref tt,.int wt])=H5 at *;refine⟨_,rfl,tt,_,0,.int p.1,rfl,rfl,SqT.of (s5 _ _ Tp),rfl,?_⟩;refine⟨_,rfl,tt,_,1,.int p.2,rfl,rfl,SqT.of (s5 _ _ Tp),rfl,?_⟩;refine⟨_,rfl,_,rfl,rfl,_,rfl,?_⟩;rw[ZA];have di:=qD hp hwt
   refine WM (λheq=>?_) (λXJ=>?_)
   .refine⟨L,_,_,_,_,rfl,s5,zm,λx y hx hy=>?_⟩;rw[di,fX (by show p.1.toNat=p.2.toNat;rw[heq])];exact Pr x y hx hy
   have JP:p.1.toNat≠p.2.toNat:=λe=>XJ (by grind);obtain⟨A1,l1,x1,y1,SI,h7,SG,rm,mT,mS⟩:=zm.get (i:=p.1.toNat) (j:=p.1.toNat) (by grind) (by omega);refine⟨_,rfl,_,rfl,tA,zs,p.1,.ref A1,rfl,rfl,SqL.of zm.tab,ZK (n:=p.1.toNat) (by lia) y1,_,rfl,A1,_,p.1,.int x1,rfl,rfl,SqL.of SI,by lia,Ue h7,_,rfl,_,_,rfl,rfl,A1,_,p.1,p.1.toNat,rfl,rfl,SI,xW (by omega) (by rw[Xq];grind),?_⟩;obtain⟨L1,dh,xV⟩:=mS (x1+wt);have s6:Same H (upd H5 A1 (.lst ((IL l1).set p.1.toNat (.int (x1+wt))))):=ZE mT s5
   generalize upd H5 A1 (.lst ((IL l1).set p.1.toNat (.int (x1+wt))))=H6 at *;rw[rm]at xV;obtain⟨A2,l2,x2,y2,Uc,Er,QT,ex2,Oe,put2⟩:=dh.get (i:=p.2.toNat) (j:=p.2.toNat) (by grind) (by omega);refine⟨_,rfl,_,rfl,tA,zs,p.2,.ref A2,rfl,rfl,SqL.of dh.tab,ZK (n:=p.2.toNat) (by lia) y2,_,rfl,A2,_,p.2,.int x2,rfl,rfl,SqL.of Uc,by lia,Ue Er,_,rfl,_,_,rfl,rfl,A2,_,p.2,p.2.toNat,rfl,rfl,Uc,xW (by omega) (by rw[Xq];grind),?_⟩;obtain⟨L2,dg,MS⟩:=put2 (x2+wt);have s7:Same H (upd H6 A2 (.lst ((IL l2).set p.2.toNat (.int (x2+wt))))):=ZE Oe s6
   generalize upd H6 A2 (.lst ((IL l2).set p.2.toNat (.int (x2+wt))))=H7 at *;rw[ex2]at MS;obtain⟨A3,l3,x3,y3,ND,hx3,Hj,ex3,hn3,put3⟩:=dg.get (i:=p.1.toNat) (j:=p.2.toNat) (by grind) (by grind);refine⟨_,rfl,_,rfl,tA,zs,p.1,.ref A3,rfl,rfl,SqL.of dg.tab,ZK (n:=p.1.toNat) (by lia) y3,_,rfl,A3,_,p.2,.int x3,rfl,rfl,SqL.of ND,by lia,Ue hx3,_,rfl,_,_,rfl,rfl,A3,_,p.2,p.2.toNat,rfl,rfl,ND,xW (by omega) (by rw[Xq];grind),?_⟩;obtain⟨L3,df,de⟩:=put3 (x3 - wt);have s8:Same H (upd H7 A3 (.lst ((IL l3).set p.2.toNat (.int (x3 - wt))))):=ZE hn3 s7
   generalize upd H7 A3 (.lst ((IL l3).set p.2.toNat (.int (x3 - wt))))=H8 at *;rw[ex3]at de;obtain⟨A4,l4,x4,y4,Lv,xU,hl4,ex4,mR,mQ⟩:=df.get (i:=p.2.toNat) (j:=p.1.toNat) (by grind) (by grind);refine⟨_,rfl,_,rfl,tA,zs,p.2,.ref A4,rfl,rfl,SqL.of df.tab,ZK (n:=p.2.toNat) (by lia) y4,_,rfl,A4,_,p.1,.int x4,rfl,rfl,SqL.of Lv,by lia,Ue xU,_,rfl,_,_,rfl,rfl,A4,_,p.1,p.1.toNat,rfl,rfl,Lv,xW (by omega) (by rw[Xq];grind),?_⟩;obtain⟨L4,mP,xT⟩:=mQ (x4 - wt);have s9:Same H (upd H8 A4 (.lst ((IL l4).set p.1.toNat (.int (x4 - wt))))):=ZE mR s8
   generalize upd H8 A4 (.lst ((IL l4).set p.1.toNat (.int (x4 - wt))))=H9 at *;rw[ex4]at xT;refine⟨L4,_,_,_,_,rfl,s9,mP,λx y hx hy=>?_⟩;rw[di,Jp,<- Pr x y hx hy];exact four JP x y xV MS de xT
  .rintro σ H4 ⟨L,v3,v4,v5,v6,rfl,s4,mU,Pr⟩;rw[hl,YM,<- Fe,YM]at Pr;exact⟨_,rfl,q tA zs L H4 s4 MT mU Pr⟩
def mO(K:Ad)(C:Addr):Sp:=λvs H Q _=>∃(w:Addr) (n:Int) (ps:Aa),vs=[.ref w]/\WebAt C H w n ps/\Zv n ps /\
 ∀(r:Addr) (ys:List V) (L:Ab) (H':Hp),Same H H'->H r=none->TabAt H r n.toNat H' ys L->(∀ i j,i<n.toNat->j<n.toNat->fnL L i j=lapE (WY ps (List.replicate ps.length 1)) i j)->Q (.ref r) H'
theorem mM:FnScope ["web"] ["web"] (XA sZi):=⟨rfl,rfl,rfl,by decide +kernel,rfl,by decide +kernel,by decide +kernel⟩
theorem mL (T:Txt K mg t):FnOk P w K mg base Xf 2 t.aZi t.dZi ["web"] (mO K t.A_Web):=by
 refine T.fZi.ok mM (λvs H Q E h=>?_) (λXz A outer s H vs Q E hr h=>?_)
 .obtain⟨w,n,ps,rfl,_⟩:=h;rfl
 .obtain⟨w,n,ps,rfl,hW,hG,q⟩:=h;refine⟨_,(XF (Zk (Za (mV T) (hr.mono (by decide)) rfl T.mZh T.fZh.kp T.bZh .nil Zt (XZ (pv 0) (XZ (Zl Fg (TX (XZ XQ XY)) (Zd (Zn K) (by rfl) T.n_len Boot.«len» (XZ (Zm K (pv 0) rfl) XY))) XY))))),?_⟩;obtain⟨dx,tl,xs,h1,h2,h3⟩:=id hW;have hl:=h3.1
  have g3:=hG.2.2.1;refine⟨_,rfl,(by show 1<=sizeLine;decide),λp1 Vj=>?_⟩;have u1:=XH (o:=.lst [.int 1]) Vj
  refine⟨_,rfl,w,_,dx,_,_,rfl,u1 _ _ h1,T.cl_Web,T.n_Web_ties,ON _ _,tl,xs,rfl,.inl (SqL.of (u1 _ _ h2)),p1,(xs.length:Int),_,rfl,rfl,XS,by lia,by lia,NV (by show 1 * _<=_;lia),λp2 Wj=>?_⟩;have e0:(List.replicate (xs.length:Int).toNat [V.int 1]).flatten=IL (List.replicate ps.length 1):=by
   rw[Yv,hl,dj];show _=(List.replicate ps.length 1).map V.int
   rw[List.map_replicate]
  rw[e0];have u2:=u1.trans (XH (o:=.lst (IL (List.replicate ps.length 1))) Wj)
  refine⟨w,p2,n,ps,List.replicate ps.length 1,rfl,hW.same u2,hG,SqL.of XS,YG,λr ys L H' s hr hT hf=>?_⟩;exact q r ys L H' (u2.trans s) (u2.free hr) ⟨hT.tab,hT.rows,hT.len,hT.all,hT.nd,λA h=>u2.free (hT.new A h)⟩ hf
def mK(K:Ad)(C:Addr):Sp:=λvs H Q _=>∃(w:Addr) (n:Int) (ps:Aa),vs=[.ref w]/\WebAt C H w n ps/\Zv n ps/\∀(c:Nat) (H':Hp),TC n ps c->Same H H'->Q (.int c) H'
theorem dc(u v i:Nat):(ind u v i).natAbs<=1:=by unfold ind;split <;> split <;> decide
theorem c9:∀ {E:List Ed},(∀ e∈E,e.2.2=1)->∀ i j,(lapE E i j).natAbs<=E.length
 | [],_,i,j=>XM 0
 | e :: E,h,i,j=>by
  have ih:=c9 (λf hf=>h f (Yh _ hf)) i j;have h1:=dc e.1 e.2.1 i
  have h2:=dc e.1 e.2.1 j;have h3:(ind e.1 e.2.1 i * ind e.1 e.2.1 j).natAbs<=1:=by rw[wR];exact Ld h1 h2
  show(e.2.2 * (ind e.1 e.2.1 i * ind e.1 e.2.1 j)+lapE E i j).natAbs<=(e :: E).length;rw[h e Ye,SY,YB]
  have:=Int.natAbs_add_le (ind e.1 e.2.1 i * ind e.1 e.2.1 j) (lapE E i j)
  lia
theorem c8{α:Type}{l:List α}{i:Nat}(hi:l.length=i+1):cutz l (i:Int)=l.take i:=by unfold cutz;rw[Yv,Ll (by lia),YF]
theorem mJ:FnScope ["web"] ["web"] (XA sZj):=⟨rfl,rfl,rfl,by decide +kernel,rfl,by decide +kernel,by decide +kernel⟩
theorem MR (T:Txt K mg t):FnOk P w K mg base Xf 3 t.aZj t.dZj ["web"] (mK K t.A_Web):=by
 refine T.fZj.ok mJ (λvs H Q E h=>?_) (λXz A outer s H vs Q E hr h=>?_)
 .obtain⟨w,n,ps,rfl,_⟩:=h;rfl
 .obtain⟨w,n,ps,rfl,hW,hG,q⟩:=h;refine⟨_,(XF (Zk (Za (n4 T) (hr.mono (by decide)) rfl T.mZ3 T.fZ3.kp T.bZ3 .nil Zt (XZ (Za (nP T) (hr.mono (by decide)) rfl T.mZ5 T.fZ5.kp T.bZ5 .nil Zt (XZ (Za (mL T) (hr.mono (by decide)) rfl T.mZi T.fZi.kp T.bZi .nil Zt (XZ (pv 0) XY)) (XZ (Zl Uz (Zm K (pv 0) rfl) XQ) XY))) XY)))),?_⟩;obtain⟨g1,g2,g3,g4⟩:=id hG;refine⟨_,rfl,w,n,ps,rfl,hW,hG,λr ys L H1 s1 hr hT hf=>?_⟩;obtain⟨dx,tl,xs,h1,h2,h3⟩:=id hW;refine⟨_,rfl,w,_,dx,_,_,rfl,s1 _ _ h1,T.cl_Web,T.n_Web_places,JU _ _,_,_,rfl,rfl,?_⟩;obtain⟨k,hk⟩:∃ k:Nat,n - 1=(k:Int):=⟨(n - 1).toNat,by omega⟩;have hnk:n.toNat=k+1:=by grind
  have Hk:=hT.len;have hTB:Bears (OL H1) ys L:=hT.rows.imp λ_ _ h=>h.list
  refine⟨r,ys,L,k,?_,SqL.of hT.tab,hTB,by grind,λl h=>by rw[hT.all l h];grind,by lia,λr2 zs H2 s2 VM hZ=>?_⟩
  .show [V.ref r,V.int (n - 1)]=_;rw[hk]
  have w1:∀ e∈WY ps (List.replicate ps.length (1:Int)),e.2.2=1:=λe he=>by
   unfold WY at he;obtain⟨i,hi⟩:=YZ he;rw[Ih]at hi;cases h1:ps[i]? with
   | none=>rw[h1]at hi;cases hi
   | some p =>
    cases h2:(List.replicate ps.length (1:Int))[i]? with
    | none=>rw[h1,h2]at hi;cases hi
    | some w =>
     rw[h1,h2]at hi;obtain rfl:=Yi hi;exact AB (Xg h2)
  have el:(WY ps (List.replicate ps.length (1:Int))).length<=30:=by unfold WY;rw[GX,YG];lia
  have hM:(cutz L (k:Int)).map (λl=>cutz l (k:Int))=(L.take k).map λl=>l.take k:=by rw[c8 (by lia)];exact YX λl hl=>c8 (by rw[hT.all l (Ha hl)];lia)
  rw[hM]at hZ;have Sa:((L.take k).map λl=>l.take k).length=k:=by rw[Yd,Yy];grind
  have HS:∀ i j,i<k->j<k->fnL ((L.take k).map λl=>l.take k) i j=lapE (WY ps (List.replicate ps.length 1)) i j:=λi j hi hj=>by
   rw[<- hf i j (by grind) (by grind)];obtain⟨l,hl⟩:∃ l,L[i]?=some l:=⟨_,Xr (by grind)⟩;have Ht:=hT.all l (Xg hl)
   obtain⟨x,hx⟩:∃ x,l[j]?=some x:=⟨_,Xr (by grind)⟩;rw[OH hl hx];exact OH (l:=l.take k) (by rw[Yp,Ox,if_pos hi,hl];rfl) (by rw[Ox,if_pos hj];exact hx)
  refine⟨r2,false,zs,(L.take k).map λl=>l.take k,rfl,SqL.of VM,hZ.imp (λ_ _ ⟨r',e,h⟩=>⟨r',false,e,SqL.of h⟩),by rw[Sa];lia,λi j hi hj=>?_,λ_ H3 s3=>?_,λh=>absurd (λl hl=>?_) h⟩
  .rw[Sa]at hi hj;rw[HS i j hi hj];exact Yr (c9 w1 i j) (Yr el (Yr (by decide:30<=2 ^ 5) (Hb (by decide) (by decide))))
  .have hd:det ((L.take k).map λl=>l.take k).length (fnL ((L.take k).map λl=>l.take k))=det (n - 1).toNat (lapE (WY ps (List.replicate ps.length 1))):=by rw[Sa,show(n - 1).toNat=k by lia];exact Zj λi j hi hj=>HS i j hi hj
   obtain⟨c,M,a1,a2,a3⟩:∃ c,TC n ps c:=by obtain⟨M,a1,a2,_⟩:=yK _ (n - 1).toNat (WY ps (List.replicate ps.length 1)) rfl (Du hG _);exact⟨M.length,M,a1,λl=>by rw[a2,fW g1 YG],rfl⟩
   rw[hd,Zt9 hG a1 a2,a3];exact q c H3 ⟨M,a1,a2,a3⟩ (s1.trans (s2.trans s3))
  .obtain⟨l0,h0,rfl⟩:=YC.mp hl;rw[Sa,Yy,hT.all l0 (Ha h0)];grind
def mI(K:Ad)(C:Addr):Sp:=λvs H Q _=>∃(w a b:Addr) (n:Int) (ps:Aa) (Is Os:Ac),vs=[.ref w,.ref a,.ref b]/\WebAt C H w n ps/\Zv n ps/\SqT K H a (IL Is)/\SqT K H b (IL Os)/\Is.Nodup/\(∀ z∈Is,0<=z/\z<(ps.length:Int))/\Os.length<=30/\(∀ z∈Is,z∉Os)/\∀(c:Nat) (H':Hp),PC n ps Is Os c->Same H H'->Q (.int c) H'
theorem mH{K:Ad}{H:Hp}{a b:Addr}{l m:Ac}{Q:VK}(ha:SqT K H a (IL l))(hb:SqT K H b (IL m))(hl:l.length+m.length<=1000)(k:∀(r:Addr) (H':Hp),Same H H'->SqT K H' r (IL (l++m))->Q (.ref r) H'):JC K (.ref a) (.ref b) H Q:=by
 refine⟨a,b,_,_,rfl,rfl,ha,hb,by rw[Xq,Xq];exact Yr hl (by decide),λe=>?_,λ_ e=>?_,λ_ _ p hp=>?_⟩
 .have el:l=[]:=GY.mp e;rw[el,Mp]at k;exact k b H (Same.refl _) hb
 .have em:m=[]:=GY.mp e;rw[em,YF]at k;exact k a H (Same.refl _) ha
 .refine k p _ (XH hp) (SqT.of ?_);rw[XS,ET]
theorem c7{gone:Ac}(j:Nat):XE (j+1) gone=XE j gone++(if ((j:Int)∈gone) then [] else [(j:Int)]):=by
 unfold XE;rw[DP,QG];congr 1;by_cases c:(j:Int)∈gone
 .rw[if_pos c,YN,if_neg (by simp[c])];rfl
 .rw[if_neg c,YN,if_pos (by simp[c])];rfl
theorem Ri:FnScope ["web","inside","outside","marks","firsts","numbers","gone","free"] ["web","inside","outside"] (XA sZk):=⟨rfl,rfl,rfl,by decide +kernel,rfl,by decide +kernel,by decide +kernel⟩
theorem mG (T:Txt K mg t):FnOk P w K mg base Xf 4 t.aZk t.dZk ["web","inside","outside"] (mI K t.A_Web):=by
 refine T.fZk.ok Ri (λvs H Q E h=>?_) (λXz A outer s H vs Q E hr h=>?_)
 .obtain⟨w,a,b,n,ps,Is,Os,rfl,_⟩:=h;rfl
 .obtain⟨w,a,b,n,ps,Is,Os,rfl,hW,hG,hA,hB,hIn,Xt,hO,Vm,q⟩:=h;refine⟨_,(XN (Zh (i:=3) Ri.nd rfl (Or.inl rfl) (Za (Rk T) (hr.mono (by decide)) rfl T.mZe T.fZe.kp T.bZe .nil Zt (XZ (pv 0) (XZ (pv 1) XY))))
   (XN (Zh (i:=4) Ri.nd rfl (Or.inr rfl) (qd K rfl rfl T.n_sorted rfl T.n_set (XZ (pv 3) XY)))
   (XN (Wx (Zg RN (Zl ZW (Zd (Zn K) (by rfl) T.n_len Boot.«len» (XZ (pv 4) XY)) (Zd (Zn K) (by rfl) T.n_len Boot.«len» (XZ (pv 1) XY))) (Zm K (pv 0) rfl) (Zu _))
   (XF (Zk XQ))
   Zp)
   (XN (Zh (i:=5) Ri.nd rfl (Or.inr rfl) (Sn rfl (sc0:=XA sZk) (N0:=["web","inside","outside","marks","firsts","numbers","gone","free"]) (N':=["mark","firsts"]) (o:=1) (fr:=[4]) ⟨rfl,by decide +kernel,by decide +kernel,by decide +kernel,rfl,by decide +kernel⟩ (Va K (pv 3)) (Zz (by decide)) (λ_ _ _ _=>(Zf (i:=0) (show List.Nodup (["mark","firsts"]:List Str) by decide +kernel) rfl (Or.inl rfl))) (λ_ _ _ _=>QS) (λ_ _ _ _=>(VH K YQ jC jD (ZU7 K) (pv 1) (XZ (pv 0) XY)))))
   (XN (Zh (i:=6) Ri.nd rfl (Or.inr rfl) (Zl (HD K) (pv 1) (pv 2)))
   (XN (NX (i:=7) rfl Ri.nd rfl rfl (sc0:=XA sZk) (N0:=["web","inside","outside","marks","firsts","numbers","gone","free"]) (N':=["tie","ends","gone"]) (o:=2) (fr:=[6]) ⟨rfl,by decide +kernel,by decide +kernel,by decide +kernel,rfl,by decide +kernel⟩ (LZ K rfl T.n_enumerate (XZ (Zm K (pv 0) rfl) XY)) (EX (Vc (by decide) (Vc (by decide) EY))) (λ_ _ _ _=>(QO (n:=2) K rfl (Zr (Zf (i:=0) (show List.Nodup (["tie","ends","gone"]:List Str) by decide +kernel) rfl (Or.inl rfl)) (Zr (Zf (i:=1) (show List.Nodup (["tie","ends","gone"]:List Str) by decide +kernel) rfl (Or.inl rfl)) QV)))) (λ_ _ _ _=>(Qk (Zg (HK K) (pv 0) (pv 2) rfl))) (λ_ _ _ _=>(pv 1)))
   (XF (Zk (Za (MR T) (hr.mono (by decide)) rfl T.mZj T.fZj.kp T.bZj .nil Zt (XZ (FC T.k_Web (BV T) (hr.mono (by decide)) rfl T.c_Web T.bZ8 .nil Zt (XZ (Zd (Zn K) (by rfl) T.n_len Boot.«len» (XZ (pv 4) XY)) (XZ (Sn rfl (sc0:=XA sZk) (N0:=["web","inside","outside","marks","firsts","numbers","gone","free"]) (N':=["ends","numbers"]) (o:=1) (fr:=[5]) ⟨rfl,by decide +kernel,by decide +kernel,by decide +kernel,rfl,by decide +kernel⟩ (Va K (pv 7)) (Zz (by decide)) (λ_ _ _ _=>(Zf (i:=0) (show List.Nodup (["ends","numbers"]:List Str) by decide +kernel) rfl (Or.inl rfl))) (λ_ _ _ _=>QS) (λ_ _ _ _=>(SO (XZ (ZQ (Zi K) (pv 1) (ZQ (ZL K) (pv 0) XQ (λ_ _=>rfl)) (λ_ _=>rfl)) (XZ (ZQ (Zi K) (pv 1) (ZQ (ZL K) (pv 0) XQ (λ_ _=>rfl)) (λ_ _=>rfl)) XY))))) XY))) XY)))))))))),?_⟩
  obtain⟨g1,g2,g3,g4⟩:=id hG;obtain⟨Js,OA,hJ2⟩:=Jx Is;have hJ:IsSet ps.length Js:=XX.mpr ⟨λz hz=>Xt z (OA.mem_iff.mp hz),(hJ2.and (OA.nodup_iff.mpr hIn)).imp λh=>by have:=h.1;have:=h.2;lia⟩
  have hIl:Is.length<=ps.length:=by rw[<- OA.length_eq];exact hJ.len
  have yt:∀ i j,Conn (XT ps Js) i j↔Conn (XT ps Is) i j:=λi j=>TJ λy=>OA.mem_iff;have RC:XE ps.length (Js++Os)=XE ps.length (Is++Os):=Mv λz _=>by simp only [Xy,OA.mem_iff]
  have back:∀ c,PC n ps Js Os c->PC n ps Is Os c:=λc ⟨L,l1,l2,l3⟩=>⟨L,l1,λl=>(l2 l).trans ⟨λh=>⟨h.1,λz hz=>h.2.1 z (OA.mem_iff.mpr hz),h.2.2⟩,λh=>⟨h.1,λz hz=>h.2.1 z (OA.mem_iff.mp hz),h.2.2⟩⟩,l3⟩;refine⟨_,rfl,_,rfl,w,a,n,ps,Is,rfl,hW,hG,hA,Xt,λmA H1 s1 QH Tz=>?_⟩;have Vk:=Zw n.toNat (XT ps Is)
  have Wq:=ZH (ns:=Is) hG Xt;have hel:(XT ps Is).length=Is.length:=Yd ..
  refine nm ?_;refine⟨_,rfl,mA,_,rfl,SqL.of Tz,by grind,λF hF VQ fA hfA=>?_⟩;have s2:=XH (o:=.lst (IL F)) hfA
  have MS:(upd H1 fA (.lst (IL F))) fA=some (.lst (IL F)):=XS;have Wi:=s2 _ _ Tz
  have OC:=s1.trans s2;refine nm ?_;dsimp only;generalize upd H1 fA (.lst (IL F))=H2 at *;obtain⟨g,c6,mF,c5⟩:=CY Wq hF VQ;obtain⟨k1,kn,nk⟩:=Zb4 Wq (by lia) hF VQ;have Uc:=Ma OC hA
  have NC:=Ma OC hB;obtain⟨dx,tl,xs,h1,h2,h3⟩:=hW.same OC;have Nv:=h3.1
  refine⟨_,rfl,fA,_,rfl,.inl (SqL.of MS),_,rfl,a,_,rfl,.inr Uc,_,_,rfl,rfl,_,rfl,w,_,dx,_,_,rfl,h1,T.cl_Web,T.n_Web_places,JU _ _,_,_,rfl,rfl,_,rfl,?_⟩;rw[Xq,Xq];refine WT (λhc=>?_) (λhc=>?_)
  .exact q 0 H2 (back 0 (p8 hG hJ (λi j hi hj=>(c6 i j hi hj).trans (yt i j).symm) mF c5 k1 kn (by rw[OA.length_eq];lia))) OC
  refine⟨_,rfl,mA,rfl,⟨_,SqL.of Wi⟩,NU (K:=K) (a:=mA) (xs:=IL (Xx n.toNat (XT ps Is))) (λi zs H3=>H3=H2/\i<=n.toNat/\zs=IL (((Xx n.toNat (XT ps Is)).take i).map λz=>(Vl F z:Int))) ⟨rfl,Yn _,rfl⟩ (Zo (by rw[Xq,Vk];grind)) (λi zs H3 _ ⟨e,hi,ez⟩=>⟨e ▸ SqL.of Wi,by rw[ez,Xq,Yd,Yy];lia⟩) ?_ ?_⟩
  .rintro i v zs H3 hi ⟨rfl,hin3,rfl⟩ S Xc;obtain⟨z,rfl,hz⟩:=UL hi;have Hw:z∈F:=(VQ z).mpr (Xg hz)
   have Xi:=(Xp.mp hz).1;refine nm ?_;refine⟨_,rfl,.inl ⟨rfl,_,SqL.of MS⟩,_,rfl,fA,F,z,Vl F z,rfl,rfl,SqL.of MS,Jn Hw,λi hi e=>by have:=HL (JD hF) e (Jn Hw);lia,Xc _ _ ⟨rfl,by lia,?_⟩⟩;rw[WD,hz,YR];exact(ZY _ _).symm
  rintro zs H3 ⟨rfl,_,rfl⟩ nA hnA;rw[Xq,YM];have s3:=XH (o:=.lst (IL ((Xx n.toNat (XT ps Is)).map λz=>(Vl F z:Int)))) hnA
  have mR:(upd H3 nA (.lst (IL ((Xx n.toNat (XT ps Is)).map λz=>(Vl F z:Int))))) nA=some (.lst (IL ((Xx n.toNat (XT ps Is)).map λz=>(Vl F z:Int)))):=XS;have xT:=s3 _ _ MS
  have Lv:=Ma s3 Uc;have mE:=Ma s3 NC
  have Oz:=OC.trans s3;generalize upd H3 nA (.lst (IL ((Xx n.toNat (XT ps Is)).map λz=>(Vl F z:Int))))=H4 at *;have cZ:∀ x:Int,0<=x->x<n->((Xx n.toNat (XT ps Is)).map λz=>(Vl F z:Int))[x.toNat]?=some (Vl F (mk (Xx n.toNat (XT ps Is)) x.toNat):Int):=λx x0 x1=>by rw[Yp,Xr (by grind)];unfold mk;rw[WJ,Xr (by omega)];rfl
  refine nm ?_;dsimp only;refine⟨_,rfl,_,rfl,mH Lv mE (by lia) λgA H5 s5 hg5=>?_⟩;have Lu:=Oz.trans s5
  obtain⟨dx,tl,xs,h1,h2,h3⟩:=hW.same Lu;have Nv:=h3.1
  refine nm ?_;dsimp only;refine⟨_,rfl,w,_,dx,_,_,rfl,h1,T.cl_Web,T.n_Web_ties,ON _ _,tl,rfl,⟨_,SqL.of h2⟩,zd (K:=K) (a:=tl) (xs:=xs) (λj zs H6=>Same H5 H6/\j<=ps.length/\PairsV H6 zs ((XE j (Is++Os)).map λz=>ps.getD z.toNat (0,0))) ⟨Same.refl _,Yn _,PairsV.nil⟩ (Zo (by lia)) (λj zs H6 hj ⟨e,QL,ez⟩=>⟨e.seq (SqL.of h2),by rw[ez.1,Yd];refine Yr (YH ..) ?_;rw[ZJ];exact XM _⟩) ?_ ?_⟩
  .rintro j v zs H6 pt US hj ⟨s6,NO,hZ⟩ S Xc;obtain⟨p,hp,tt,rfl,ht⟩:=h3.at hj;have Wa:=(Xp.mp hp).1
   have s7:=XH (o:=.tup [.int j,.ref tt]) US;refine⟨pt,_,rfl,SqT.of XS,rfl,_,_,rfl,_,_,rfl,rfl,?_⟩;have BM:=hZ.same s7
   have Ls:=s6.trans s7;generalize upd H6 pt (.tup [.int j,.ref tt])=H7 at *;refine⟨_,rfl,_,rfl,gA,_,rfl,.inr (Ma Ls hg5),rfl,ZT _,_,rfl,?_⟩;rw[NP];refine WM (λIQ=>?_) (λIQ=>?_)
   .refine Xc _ _ ⟨Ls,Wa,?_⟩;rw[c7,if_pos IQ,YF];exact BM
   .refine⟨_,rfl,Xc _ _ ⟨Ls,Wa,?_⟩⟩;rw[c7,if_neg IQ,YR];refine BM.app ?_;show PairsV H7 [V.ref tt] [ps.getD ((j:Nat):Int).toNat (0,0)]
    rw[Yv,ZP hp];exact PairsV.nil.snoc ⟨tt,rfl,Ls _ _ ht⟩
  rintro zs H6 ⟨s6,_,hZ⟩ rA Na;rw[Nv]at hZ;have s7:=XH (o:=.lst zs) Na
  have MX:(upd H6 rA (.lst zs)) rA=some (.lst zs):=XS;have BM:=hZ.same s7
  have Ls:=s6.trans s7;generalize upd H6 rA (.lst zs)=H7 at *;have hf7:=Ls _ _ (s5 _ _ xT)
  have hn7:=Ls _ _ (s5 _ _ mR);have mD:=BM.1
  have RF:(XE ps.length (Is++Os)).length<=30:=by refine Yr (YH ..) ?_;rw[ZJ];lia
  rw[Yd]at mD;refine nm ?_;dsimp only;refine⟨_,rfl,fA,_,rfl,.inl (SqL.of hf7),_,rfl,rA,rfl,⟨_,SqL.of MX⟩,NU (K:=K) (a:=rA) (xs:=zs) (λi ws H8=>Same H7 H8/\i<=(XE ps.length (Is++Os)).length/\PairsV H8 ws (((XE ps.length (Is++Os)).take i).map λz=>((Vl F (mk (Xx n.toNat (XT ps Is)) (Zq ps z).1):Int),(Vl F (mk (Xx n.toNat (XT ps Is)) (Zq ps z).2):Int)))) ⟨Same.refl _,Yn _,PairsV.nil⟩ (Zo (by lia))
   (λi ws H8 hi ⟨e,VB,ew⟩=>⟨e.seq (SqL.of MX),by rw[ew.1,Yd,Yy];lia⟩) ?_ ?_⟩
  .rintro i v ws H8 hi ⟨s8,Vn,xS⟩ S Xc;obtain⟨p,hp,tt,rfl,ht⟩:=BM.at hi;rw[Yp]at hp;obtain⟨z,hz,ez⟩:∃ z,(XE ps.length (Is++Os))[i]?=some z/\ps.getD z.toNat (0,0)=p:=by
    cases hq:(XE ps.length (Is++Os))[i]? with
    | none=>rw[hq]at hp;cases hp
    | some z=>rw[hq]at hp;exact⟨z,rfl,Yi hp⟩
   have hz1:=(WX.mp (Xg hz)).1;obtain⟨p',IT⟩:∃ p,ps[z.toNat]?=some p:=⟨_,Xr (by lia)⟩;have epp:p'=p:=by rw[<- ez,ZP IT]
   rw[epp]at IT;obtain⟨e1,e2,e3,e4⟩:=g4 p (Xg IT);have ee:Zq ps z=(p.1.toNat,p.2.toNat):=by unfold Zq;rw[ZP IT]
   have cY:=s8 _ _ ht;have cX:=s8 _ _ hn7
   refine nm ?_;refine⟨_,rfl,_,rfl,tt,_,0,.int p.1,rfl,rfl,SqT.of cY,rfl,nA,_,_,_,rfl,rfl,SqL.of cX,ZK (n:=p.1.toNat) (by lia) (Ue (cZ p.1 e1 e2)),?_⟩;refine⟨_,rfl,_,rfl,tt,_,1,.int p.2,rfl,rfl,SqT.of cY,rfl,nA,_,_,_,rfl,rfl,SqL.of cX,ZK (n:=p.2.toNat) (by lia) (Ue (cZ p.2 e3 e4)),(by show 2<=sizeLine;decide),λpp cW=>?_⟩;refine Xc _ _ ⟨s8.trans (XH cW),by have:=(Xp.mp hz).1;lia,?_⟩;rw[WD,hz,YR];refine(xS.same (XH cW)).snoc ⟨pp,rfl,?_⟩;dsimp only;rw[ee];exact XS
  rintro ws H8 ⟨s8,_,xS⟩ la nB;rw[mD,YM]at xS;have s9:=XH (o:=.lst ws) nB
  have MQ:(upd H8 la (.lst ws)) la=some (.lst ws):=XS;have mC:=xS.same s9
  have xR:=s8.trans s9;generalize upd H8 la (.lst ws)=H9 at *;have cV:=fD (f:=λi=>Vl F (mk (Xx n.toNat (XT ps Is)) i)) hG (Is++Os) mF k1 kn
  intro x mB nx Pq SK;have t1:Same H9 (upd (upd H9 mB (.own x)) x (.ins t.A_Web mB [])):=Zy (XH Pq) (by rw[Zb (YW SK)];exact nx)
  refine⟨x,mB,(F.length:Int),la,false,ws,_,by rw[Xq];rfl,XS,λo=>?_,mC.same t1,cV,λOy hV k10=>⟨rfl,?_⟩⟩
  .exact SqL.of (by rw[Zb (Zc MQ nx),Zb (Zc MQ nx),Zb (Zc MQ Pq)];exact MQ)
  have BL:Same H9 Oy:=λb o e=>k10 b o (t1 b o e) (Zc e nx);refine⟨x,_,_,rfl,hV,cV,λc MP hc IP=>q c MP (back c (p9 hG hJ (λz hz=>Vm z (OA.mem_iff.mp hz)) (λi j hi hj=>(c6 i j hi hj).trans (yt i j).symm) mF c5 (by rw[OA.length_eq];grind) (by rw[RC];exact hc))) (Lu.trans (Ls.trans (xR.trans (BL.trans IP))))⟩
def mz(K:Ad)(C:Addr):Sp:=λvs H Q _=>∃(w a:Addr) (n:Int) (ps:Aa) (kd:Bool) (ns:Ac),vs=[.ref w,.ref a]/\WebAt C H w n ps/\Zv n ps/\SqK kd K H a (IL ns) /\
 ∀(b:Bool) (H':Hp),Same H H'->(b=true↔Ze n ps ns)->Q (.bl b) H'
theorem my:FnScope ["web","ties"] ["web","ties"] (XA sZl):=⟨rfl,rfl,rfl,by decide +kernel,rfl,by decide +kernel,by decide +kernel⟩
theorem BK (T:Txt K mg t):FnOk P w K mg base Xf 6 t.aZl t.dZl ["web","ties"] (mz K t.A_Web):=by
 refine T.fZl.ok my (λvs H Q E h=>?_) (λXz A outer s H vs Q E hr h=>?_)
 .obtain⟨w,a,n,ps,kd,ns,rfl,_⟩:=h;rfl
 .obtain⟨w,a,n,ps,kd,ns,rfl,hW,hG,hS,q⟩:=h;refine⟨_,(XF (Zk (wk (Za (BS T) (hr.mono (by decide)) rfl T.mZb T.fZb.kp T.bZb .nil Zt (XZ (pv 0) (XZ (pv 1) XY))) (wk (Kp Qq (Zd (Zn K) (by rfl) T.n_len Boot.«len» (XZ (pv 1) XY)) (Zl Uz (Zm K (pv 0) rfl) XQ) (Zu _)) (Gm (Za (mY T) (hr.mono (by decide)) rfl T.mZg T.fZg.kp T.bZg .nil Zt (XZ (pv 0) (XZ (pv 1) XY)))))))),?_⟩;refine⟨_,rfl,_,rfl,w,a,n,ps,kd,ns,rfl,hW,hS,λb hb=>⟨b,rfl,?_⟩⟩;refine tX (λe=>?_) (λe=>?_)
  .have hI:=hb.mp e;obtain⟨dx,tl,xs,h1,h2,h3⟩:=id hW;refine⟨_,rfl,a,_,rfl,hS.or,_,rfl,w,_,dx,_,_,rfl,h1,T.cl_Web,T.n_Web_places,JU _ _,_,_,rfl,rfl,rfl,_,rfl,?_⟩;rw[Xq,ZA];refine WT (λhl=>?_) (λhl=>?_)
   .refine⟨_,rfl,_,rfl,w,a,n,ps,kd,ns,rfl,hW,hG,hS,hI,λb2 H' s Je=>q b2 H' s ?_⟩;rw[Je,sI (by have:=hG.1;grind) (ZH hG hI.all)];exact⟨λz=>⟨hI,hl,z⟩,λz=>z.2.2⟩
   .exact q false H (Same.refl H) ⟨λz=>(nomatch z),λz=>absurd z.2.1 hl⟩
  .exact q false H (Same.refl H) ⟨λz=>(nomatch z),λz=>by rw[hb.mpr z.1]at e;cases e⟩
def mx(K:Ad)(C:Addr):Sp:=λvs H Q _=>∃(w a:Addr) (n:Int) (ps:Aa) (kd:Bool) (ns:Ac),vs=[.ref w,.ref a]/\WebAt C H w n ps/\Zv n ps/\SqK kd K H a (IL ns) /\
 (Ze n ps ns->∀ H':Hp,Same H H'->Q .non H')/\(¬ Ze n ps ns->∀ H':Hp,Same H H'->False)
theorem mw:FnScope ["web","tree"] ["web","tree"] (XA sZm):=⟨rfl,rfl,rfl,by decide +kernel,rfl,by decide +kernel,by decide +kernel⟩
theorem BJ (T:Txt K mg t):FnOk P w K mg base Xf 7 t.aZm t.dZm ["web","tree"] (mx K t.A_Web):=by
 refine T.fZm.ok mw (λvs H Q E h=>?_) (λXz A outer s H vs Q E hr h=>?_)
 .obtain⟨w,a,n,ps,kd,ns,rfl,_⟩:=h;rfl
 .obtain⟨w,a,n,ps,kd,ns,rfl,hW,hG,hS,q,qe⟩:=h;refine⟨_,(XF (Wx (Oh (OU (Za (BK T) (hr.mono (by decide)) rfl T.mZl T.fZl.kp T.bZl .nil Zt (XZ (pv 0) (XZ (pv 1) XY)))))
   (XF Kz)
   Zp)),?_⟩
  refine⟨_,rfl,_,rfl,w,a,n,ps,kd,ns,rfl,hW,hG,hS,λb H' s hb=>⟨_,rfl,?_⟩⟩;refine ER (λz=>?_) (λz=>?_)
  .exact q (hb.mp z) H' s
  .exact qe (λg=>by rw[hb.mpr g]at z;cases z) H' s
def mv(K:Ad)(C:Addr):Sp:=λvs H Q _=>∃(w a b:Addr) (n:Int) (ps:Aa) (ka kb:Bool) (ns os:Ac),vs=[.ref w,.ref a,.ref b]/\WebAt C H w n ps/\Zv n ps/\SqK ka K H a (IL ns)/\SqK kb K H b (IL os)/\ns.length<=1000/\os.length<=1000/\(∀ z∈ns++os,0<=z/\z<(ps.length:Int)) /\
 (((WS n.toNat ps (ns++os)).take ns.length≠ns\/((WS n.toNat ps (ns++os)).length:Int)<n - 1)->∀ H':Hp,Same H H'->Q .non H') /\
 ((WS n.toNat ps (ns++os)).take ns.length=ns->¬ ((WS n.toNat ps (ns++os)).length:Int)<n - 1->∀(r:Addr) (ms:Ac) (H':Hp),ms.Perm (WS n.toNat ps (ns++os))->ms.Pairwise (·<=·)->Same H H'->H r=none->H' r=some (.tup (IL ms))->Q (.ref r) H')
theorem Rh:FnScope ["web","inside","order","marks","grown","tie","ends"] ["web","inside","order"] (XA sZn):=⟨rfl,rfl,rfl,by decide +kernel,rfl,by decide +kernel,by decide +kernel⟩
theorem mr (T:Txt K mg t):FnOk P w K mg base Xf 3 t.aZn t.dZn ["web","inside","order"] (mv K t.A_Web):=by
 refine T.fZn.ok Rh (λvs H Q E h=>?_) (λXz A outer s H vs Q E hr h=>?_)
 .obtain⟨w,a,b,n,ps,ka,kb,ns,os,rfl,_⟩:=h;rfl
 .obtain⟨w,a,b,n,ps,ka,kb,ns,os,rfl,hW,hG,hS,Eg,Lr,QQ,hI,q0,q1⟩:=h;refine⟨_,(XN (Zh (i:=3) Rh.nd rfl (Or.inl rfl) (Za (Rk T) (hr.mono (by decide)) rfl T.mZe T.fZe.kp T.bZe .nil Zt (XZ (pv 0) (XZ (SO XY) XY))))
   (XN (Zh (i:=4) Rh.nd rfl (Or.inl rfl) (TX XY))
   (XN (SQ Ww rfl (Va K (Zl Fi (Zs (SM K) (by rfl) T.n_list Boot.«list» (XZ (pv 1) XY)) (Zs (SM K) (by rfl) T.n_list Boot.«list» (XZ (pv 2) XY)))) (Zf (i:=5) Rh.nd rfl (Or.inl rfl))
   (XN (Zh (i:=6) Rh.nd rfl (Or.inl rfl) (ZQ (Zi K) (Zm K (pv 0) rfl) (pv 5) (λ_ _=>rfl)))
   (XF (Wx (Zg QU (ZQ (Zi K) (pv 3) (ZQ (ZL K) (pv 6) XQ (λ_ _=>rfl)) (λ_ _=>rfl)) (ZQ (Zi K) (pv 3) (ZQ (ZL K) (pv 6) XQ (λ_ _=>rfl)) (λ_ _=>rfl)) (Zu _))
   (XN (Zh (i:=3) Rh.nd rfl (Or.inl rfl) (Za (BR T) (hr.mono (by decide)) rfl T.mZd T.fZd.kp T.bZd .nil Zt (XZ (pv 0) (XZ (pv 3) (XZ (SO (XZ (pv 5) XY)) XY)))))
   (XF (Wh (VH K YQ Hc Hd Fm (pv 4) (XZ (pv 5) XY)))))
   Zp))))
   (XN (Wx (PW.pt (KA (Zg (tT K (JX hr)) (Vf (Vb K) (pv 4) Oc (Qn (Zd (Zn K) (by rfl) T.n_len Boot.«len» (XZ (pv 1) XY)))) (Zs (SM K) (by rfl) T.n_list Boot.«list» (XZ (pv 1) XY)) (Zu _)) (SU (Zg RO (Zd (Zn K) (by rfl) T.n_len Boot.«len» (XZ (pv 4) XY)) (Zl Uz (Zm K (pv 0) rfl) XQ) (Zu _)))))
   (XF (Zk Gu))
   Zp)
   (XF (Zk (Zs (ZI K) (by rfl) T.n_tuple Boot.«tuple» (XZ (Zd (sU K) (by rfl) T.n_sorted Boot.«sorted» (XZ (pv 4) XY)) XY)))))))),?_⟩
  obtain⟨g1,g2,g3,g4⟩:=id hG;have one:1<=sizeLine:=by decide
  refine⟨_,rfl,Yn _,λr0 Vz=>?_⟩;have s0:=XH (o:=.tup []) Vz
  refine⟨w,r0,n,ps,[],rfl,hW.same s0,hG,SqT.of XS,λ_ e=>(nomatch e),λm H1 s1 QH Tz=>?_⟩;have cU:=s0.trans s1
  have hmf:=s0.free QH;refine⟨Yn _,λgl mq=>?_⟩;have s2:=XH (o:=.lst []) mq
  have OC:=cU.trans s2;have hgf:=cU.free mq
  refine⟨_,rfl,a,_,rfl,(hS.same OC).or,λl1 SG=>?_⟩;have s3:=XH (o:=.lst (IL ns)) SG
  have cT:=OC.trans s3;refine⟨_,rfl,b,_,rfl,(Eg.same cT).or,λl2 QT=>?_⟩;have s4:=XH (o:=.lst (IL os)) QT
  have Oz:=cT.trans s4;refine⟨l1,l2,_,_,rfl,rfl,s4 _ _ XS,XS,NV (by rw[Xq,Xq];lia),λcl Ud=>?_⟩;have s5:=XH (o:=.lst (IL ns++IL os)) Ud
  have Lu:=Oz.trans s5;have eI:IL ns++IL os=IL (ns++os):=(ET _ _).symm
  have BI:=s5 _ _ (s4 _ _ (s3 _ _ (XS (H:=H1) (a:=gl) (o:=.lst []))));have xQ:=s5 _ _ (s4 _ _ (s3 _ _ (s2 _ _ Tz)))
  have IM:=XS (H:=upd (upd (upd H1 gl (.lst [])) l1 (.lst (IL ns))) l2 (.lst (IL os))) (a:=cl) (o:=.lst (IL ns++IL os));have ncg:cl≠gl:=λe=>by rw[e]at Ud;exact absurd ((s4 _ _ (s3 _ _ (XS (H:=H1) (a:=gl) (o:=.lst [])))).symm.trans Ud) (by simp)
  have nmg:m≠gl:=λe=>by rw[e]at Tz;exact absurd (Tz.symm.trans mq) (by simp)
  rw[eI]at s5 Lu BI xQ IM ⊢;generalize upd (upd (upd (upd H1 gl (.lst [])) l1 (.lst (IL ns))) l2 (.lst (IL os))) cl (.lst (IL (ns++os)))=H5 at *;refine⟨cl,rfl,⟨_,SqL.of IM⟩,vV (K:=K) (a:=cl) (xs:=IL (ns++os)) (λi σ H2=>∃(mc:Addr) (v5 v6:Option V),σ=[some (.ref w),some (.ref a),some (.ref b),some (.ref mc),some (.ref gl),v5,v6]/\Same H H2/\mc≠gl /\
    H2 cl=some (.lst (IL (ns++os)))/\H2 mc=some (.lst (IL (Xx n.toNat (XT ps (WS n.toNat ps ((ns++os).take i))))))/\H2 gl=some (.lst (IL (WS n.toNat ps ((ns++os).take i)))))
   ⟨m,none,none,rfl,Lu,nmg,IM,xQ,BI⟩ (λi σ H2 _ ⟨_,_,_,_,_,_,e,_⟩=>SqL.of e) ?_ ?_⟩
  .rintro i x σ H2 hi ⟨mc,v5,v6,rfl,s2,XJ,VD,Wi,Nf⟩;obtain⟨z,rfl,hz⟩:=UL hi;obtain⟨z0,z1⟩:=hI z (Xg hz);have cS:∀ y∈(ns++os).take i,0<=y/\y<(ps.length:Int):=λy hy=>hI y (Ha hy)
   have est:(ns++os).take (i+1)=(ns++os).take i++[z]:=by rw[WD,hz];rfl
   have eG:WS n.toNat ps ((ns++os).take (i+1))=Ry n.toNat ps (WS n.toNat ps ((ns++os).take i)) z:=by rw[est,LO]
   have Wq:=Hx hG cS;have BH:=DT hG cS
   generalize WS n.toNat ps ((ns++os).take i)=G at *;obtain⟨dx,tl,xs,h1,h2,h3⟩:=hW.same s2;obtain⟨p,hp⟩:∃ p,ps[z.toNat]?=some p:=⟨_,Xr (by lia)⟩;obtain⟨v,hv,tt,rfl,Tp⟩:=h3.2 z.toNat p hp;obtain⟨e1,e2,e3,e4⟩:=g4 p (Xg hp);have ed:Zq ps z=(p.1.toNat,p.2.toNat):=by unfold Zq;rw[ZP hp]
   have hl:(Xx n.toNat (XT ps G)).length=n.toNat:=Zw _ _;have iA:Wg (IL (Xx n.toNat (XT ps G))) p.1=some (.int (mk (Xx n.toNat (XT ps G)) p.1.toNat)):=ZK (n:=p.1.toNat) (by lia) (Ue (OM (by grind)))
   have iB:Wg (IL (Xx n.toNat (XT ps G))) p.2=some (.int (mk (Xx n.toNat (XT ps G)) p.2.toNat)):=ZK (n:=p.2.toNat) (by lia) (Ue (OM (by grind)));have t0:Wg ([.int p.1,.int p.2]:List V) 0=some (.int p.1):=rfl
   have t1:Wg ([.int p.1,.int p.2]:List V) 1=some (.int p.2):=rfl;have key:mk (Xx n.toNat (XT ps G)) p.1.toNat=mk (Xx n.toNat (XT ps G)) p.2.toNat↔mk (WV n.toNat (XT ps G)) (Zq ps z).1=mk (WV n.toNat (XT ps G)) (Zq ps z).2:=by rw[ed,VS Wq (by grind) (by grind),ZO Wq (by grind) (by grind)]
   refine⟨_,rfl,w,_,dx,_,_,rfl,h1,T.cl_Web,T.n_Web_ties,ON _ _,_,rfl,tl,xs,z,.ref tt,rfl,rfl,SqL.of h2,ZK (n:=z.toNat) (by lia) hv,?_⟩;refine⟨_,rfl,_,rfl,tt,_,0,_,rfl,rfl,SqT.of Tp,t0,mc,_,p.1,_,rfl,rfl,SqL.of Wi,iA,_,rfl,_,rfl,tt,_,1,_,rfl,rfl,SqT.of Tp,t1,mc,_,p.2,_,rfl,rfl,SqL.of Wi,iB,rfl,_,rfl,?_⟩;rw[ZA];refine WM (λhe=>?_) (λhe=>?_)
   .refine⟨mc,_,_,rfl,s2,XJ,VD,?_,?_⟩
    .rw[eG];unfold Ry;rw[if_pos (key.mp he)];exact Wi
    .rw[eG];unfold Ry;rw[if_pos (key.mp he)];exact Nf
   .have cR:WS n.toNat ps ((ns++os).take (i+1))=G++[z]:=by rw[eG];unfold Ry;rw[if_neg (λe=>he (key.mpr e))]
    refine⟨_,rfl,_,rfl,_,rfl,one,λp2 Wj=>?_⟩;have s6:=XH (o:=.tup [.int z]) Wj
    refine⟨w,mc,p2,n,ps,_,true,[z],rfl,(hW.same s2).same s6,hG,s6 _ _ Wi,hl,SqT.of XS,λy hy=>by rw[XD.mp hy];exact⟨z0,z1⟩,λm' H7 s7 hf xP=>?_⟩;have ml:=s6.trans s7
    have cQ:=ml _ _ Nf;have hc7:=ml _ _ VD
    have cP:m'≠gl:=by
     rcases hf with rfl | hf
     .exact XJ
     .exact λe=>absurd ((s6 _ _ Nf).symm.trans (e ▸ hf)) (by simp)
    refine⟨_,rfl,.inl ⟨rfl,_,SqL.of cQ⟩,_,rfl,gl,_,_,rfl,rfl,cQ,Zo (by rw[Xq];lia),?_⟩;refine⟨m',_,_,rfl,ZE hgf (s2.trans ml),cP,?_,?_,?_⟩
    .rw[Zb ncg];exact hc7
    .rw[Zb cP,xP,cR,TH,ZO9];rfl
    .rw[XS,cR,ZY]
  .rintro σ H2 ⟨mc,v5,v6,rfl,s2,XJ,VD,Wi,Nf⟩;rw[Xq,YM]at Nf;have BH:=DT hG hI
   generalize WS n.toNat ps (ns++os)=G at *;refine⟨_,rfl,_,rfl,a,_,rfl,(hS.same s2).or,_,rfl,gl,_,rfl,SqL.of Nf,λr1 VP=>?_⟩;have ec:WU (IL G) none (some ((IL ns).length:Int))=IL (G.take ns.length):=by rw[gO (by lia),Yv,Xq,ES]
   rw[ec];have s3:=XH (o:=.lst (IL (G.take ns.length))) VP
   refine⟨_,rfl,a,_,rfl,(hS.same (s2.trans s3)).or,λr2 VM=>?_⟩;have s4:=XH (o:=.lst (IL ns)) VM
   refine⟨1,_,r1,r2,rfl,rfl,by decide,EI (SqL.of (s4 _ _ XS)) (SqL.of XS),_,rfl,?_⟩;have Lq:=s2.trans (s3.trans s4)
   refine WM (λhe=>?_) (λhe=>?_)
   .obtain⟨dx,tl,xs,h1,h2,h3⟩:=hW.same Lq;have cO:=s4 _ _ (s3 _ _ Nf)
    refine⟨_,rfl,gl,_,rfl,.inl (SqL.of cO),_,rfl,w,_,dx,_,_,rfl,h1,T.cl_Web,T.n_Web_places,JU _ _,_,_,rfl,rfl,_,_,rfl,rfl,_,rfl,?_⟩;rw[Xq];refine WT (λhc=>?_) (λhc=>?_)
    .exact q0 (.inr hc) _ Lq
    .refine⟨_,rfl,gl,G,rfl,SqL.of cO,by lia,λms Vj Wj l hl=>?_⟩;have s5:=XH (o:=.lst (IL ms)) hl
     refine⟨l,_,rfl,.inl ⟨SqL.of XS,λr hr=>?_⟩⟩;exact q1 he hc r ms _ Vj Wj ((Lq.trans s5).trans (XH hr)) ((Lq.trans s5).free hr) XS
   .refine Ve ?_;exact q0 (.inl he) _ Lq
def mj(K:Ad)(C:Addr):Sp:=λvs H Q _=>∃(w a:Addr) (n:Int) (ps:Aa) (kd:Bool) (ns:Ac) (z:Int),vs=[.ref w,.ref a,.int z]/\WebAt C H w n ps/\Zv n ps/\SqK kd K H a (IL ns)/\IsSet ps.length ns /\
 ∀(r:Addr) (H':Hp),Same H H'->H r=none->H' r=some (.tup (IL (unlike (WV n.toNat (XT ps (wo ns z))) ps ps.length)))->Q (.ref r) H'
theorem BG:FnScope ["web","tree","tie","marks"] ["web","tree","tie"] (XA sZo):=⟨rfl,rfl,rfl,by decide +kernel,rfl,by decide +kernel,by decide +kernel⟩
theorem mi (T:Txt K mg t):FnOk P w K mg base Xf 3 t.aZo t.dZo ["web","tree","tie"] (mj K t.A_Web):=by
 refine T.fZo.ok BG (λvs H Q E h=>?_) (λXz A outer s H vs Q E hr h=>?_)
 .obtain⟨w,a,n,ps,kd,ns,z,rfl,_⟩:=h;rfl
 .obtain⟨w,a,n,ps,kd,ns,z,rfl,hW,hG,hS,hI,q⟩:=h;refine⟨_,(XN (Zh (i:=3) BG.nd rfl (Or.inr rfl) (Za (Rk T) (hr.mono (by decide)) rfl T.mZe T.fZe.kp T.bZe .nil Zt (XZ (pv 0) (XZ (Za (BU T) (hr.mono (by decide)) rfl T.mZa T.fZa.kp T.bZa .nil Zt (XZ (pv 1) (XZ (pv 2) XY))) XY))))
   (XF (Zk (Zs (ZI K) (by rfl) T.n_tuple Boot.«tuple» (XZ (Sn rfl (sc0:=XA sZo) (N0:=["web","tree","tie","marks"]) (N':=["number","ends","marks"]) (o:=2) (fr:=[3]) ⟨rfl,by decide +kernel,by decide +kernel,by decide +kernel,rfl,by decide +kernel⟩ (LZ K rfl T.n_enumerate (XZ (Zm K (pv 0) rfl) XY)) (EX (Vc (by decide) (Vc (by decide) EY))) (λ_ _ _ _=>(QO (n:=2) K rfl (Zr (Zf (i:=0) (show List.Nodup (["number","ends","marks"]:List Str) by decide +kernel) rfl (Or.inl rfl)) (Zr (Zf (i:=1) (show List.Nodup (["number","ends","marks"]:List Str) by decide +kernel) rfl (Or.inl rfl)) QV)))) (λ_ _ _ _=>(Qk (Zg QU (ZQ (Zi K) (pv 2) (ZQ (ZL K) (pv 1) XQ (λ_ _=>rfl)) (λ_ _=>rfl)) (ZQ (Zi K) (pv 2) (ZQ (ZL K) (pv 1) XQ (λ_ _=>rfl)) (λ_ _=>rfl)) (Zu _)))) (λ_ _ _ _=>(pv 0))) XY))))),?_⟩
  obtain⟨g1,g2,g3,g4⟩:=id hG;have hln:=hI.len
  have hb:∀ y∈wo ns z,0<=y/\y<(ps.length:Int):=λy hy=>hI.all y (Xo.mp hy).1;refine⟨_,rfl,_,rfl,_,rfl,a,kd,ns,z,rfl,hS,by lia,λr1 H1 s1 Vz VP=>?_⟩;refine⟨w,r1,n,ps,wo ns z,rfl,hW.same s1,hG,SqT.of VP,hb,λm H2 s2 QH Wi=>?_⟩;have Wq:=ZH hG hb
  have e0:=Zl5 (M:=Xx n.toNat (XT ps (wo ns z))) hG (Zw _ _) (zx Wq);have hl:(Xx n.toNat (XT ps (wo ns z))).length=n.toNat:=Zw _ _
  rw[<- e0]at q;generalize Xx n.toNat (XT ps (wo ns z))=M at *;have Wz:=s1.trans s2
  obtain⟨dx,tl,xs,h1,h2,h3⟩:=hW.same Wz;have Nv:=h3.1
  refine⟨_,rfl,w,_,dx,_,_,rfl,h1,T.cl_Web,T.n_Web_ties,ON _ _,tl,rfl,⟨_,SqL.of h2⟩,zd (K:=K) (a:=tl) (xs:=xs) (λi ys H3=>Same H2 H3/\i<=xs.length/\ys=IL (unlike M ps i)) ⟨Same.refl _,Yn _,rfl⟩ (Zo (by lia))
   (λi ys H3 _ ⟨e,_,ey⟩=>⟨SqL.of (e _ _ h2),by rw[ey,Xq];exact ZO5 _ _ _⟩) ?_ ?_⟩
  .rintro i x ys H3 pt US hi ⟨s3,Vn,rfl⟩ S Xc;obtain⟨p,Qd,tt,rfl,Tp⟩:=h3.at hi;obtain⟨e1,e2,e3,e4⟩:=g4 p (Xg Qd);have Xl:i<xs.length:=(Xp.mp hi).1
   have s4:Same H3 (upd H3 pt (.tup [.int i,.ref tt])):=XH US;have Sb:=s3.trans s4
   have Pp:=Sb _ _ Tp;have BF:=Sb _ _ Wi
   have ed:ps.getD i (0,0)=p:=ZP Qd;have t0:Wg ([.int p.1,.int p.2]:List V) 0=some (.int p.1):=rfl
   have t1:Wg ([.int p.1,.int p.2]:List V) 1=some (.int p.2):=rfl;have iA:Wg (IL M) p.1=some (.int (mk M p.1.toNat)):=ZK (n:=p.1.toNat) (by lia) (Ue (OM (by grind)))
   have iB:Wg (IL M) p.2=some (.int (mk M p.2.toNat)):=ZK (n:=p.2.toNat) (by lia) (Ue (OM (by grind)));refine⟨pt,_,rfl,SqT.of XS,rfl,_,_,rfl,_,_,rfl,rfl,?_⟩;refine⟨_,rfl,_,rfl,tt,_,0,_,rfl,rfl,SqT.of Pp,t0,m,_,p.1,_,rfl,rfl,SqL.of BF,iA,_,rfl,_,rfl,tt,_,1,_,rfl,rfl,SqT.of Pp,t1,m,_,p.2,_,rfl,rfl,SqL.of BF,iB,rfl,_,rfl,?_⟩;rw[ZA];refine WM (λhe=>?_) (λhe=>?_)
   .refine Xc _ _ ⟨Sb,Xl,?_⟩;rw[g6,ed,if_neg (by simpa using he),YF]
   .refine⟨_,rfl,Xc _ _ ⟨Sb,Xl,?_⟩⟩;rw[g6,ed,if_pos he,ZY]
  .rintro ys H3 ⟨s3,_,rfl⟩ p hp;rw[Nv];refine⟨p,_,rfl,.inl ⟨SqL.of XS,λr hr=>?_⟩⟩;exact q r _ (Wz.trans (s3.trans (Zy (XH hp) hr))) ((Wz.trans (s3.trans (XH hp))).free hr) XS
def mh(K:Ad)(C:Addr):Sp:=λvs H Q _=>∃(w a:Addr) (n:Int) (ps:Aa) (kd:Bool) (ns:Ac) (z:Int),vs=[.ref w,.ref a,.int z]/\WebAt C H w n ps/\Zv n ps/\SqK kd K H a (IL ns)/\-(10 ^ 70)<z/\z<10 ^ 70 /\
 (Ze n ps ns->z∉ns->0<=z->z<(ps.length:Int)->∀(ms:Ac),ms.Perm (Uu n ps ns z ns++[z])->ms.Pairwise (·<=·)->∀(r:Addr) (H':Hp),Same H H'->H r=none->H' r=some (.tup (IL ms))->Q (.ref r) H') /\
 (Ze n ps ns->(z∈ns\/¬ (0<=z/\z<(ps.length:Int)))->∀ H':Hp,Same H H'->False)/\(¬ Ze n ps ns->∀ H':Hp,Same H H'->False)
theorem mf:FnScope ["web","tree","tie"] ["web","tree","tie"] (XA sZp):=⟨rfl,rfl,rfl,by decide +kernel,rfl,by decide +kernel,by decide +kernel⟩
theorem me (T:Txt K mg t):FnOk P w K mg base Xf 8 t.aZp t.dZp ["web","tree","tie"] (mh K t.A_Web):=by
 refine T.fZp.ok mf (λvs H Q E h=>?_) (λXz A outer s H vs Q E hr h=>?_)
 .obtain⟨w,a,n,ps,kd,ns,z,rfl,_⟩:=h;rfl
 .obtain⟨w,a,n,ps,kd,ns,z,rfl,hW,hG,hS,z0,z1,q,q1,q2⟩:=h;refine⟨_,(XN (Wh (Za (BJ T) (hr.mono (by decide)) rfl T.mZm T.fZm.kp T.bZm .nil Zt (XZ (pv 0) (XZ (pv 1) XY))))
   (XN (Wx (PW.pt (KA (Zg (tV K) (pv 2) (pv 1) rfl) (SU (Oh (OU (Za (BW T) (hr.mono (by decide)) rfl T.mZ6 T.fZ6.kp T.bZ6 .nil Zt (XZ (pv 0) (XZ (pv 2) XY))))))))
   (XF Kz)
   Zp)
   (XF (Zk (Zs (ZI K) (by rfl) T.n_tuple Boot.«tuple» (XZ (Zd (sU K) (by rfl) T.n_sorted Boot.«sorted» (XZ (Zl Fi (Sn rfl (sc0:=XA sZp) (N0:=["web","tree","tie"]) (N':=["out","tie","web","tree"]) (o:=1) (fr:=[2,0,1]) ⟨rfl,by decide +kernel,by decide +kernel,by decide +kernel,rfl,by decide +kernel⟩ (TL K (pv 1)) (Zz (by decide)) (λ_ _ _ _=>(Zf (i:=0) (show List.Nodup (["out","tie","web","tree"]:List Str) by decide +kernel) rfl (Or.inl rfl))) (λ_ _ _ _=>(Qk (Zg (tV K) (pv 1) (Za (mi T) (hr.mono (by decide)) rfl T.mZo T.fZo.kp T.bZo .nil Zt (XZ (pv 2) (XZ (pv 3) (XZ (pv 0) XY)))) rfl))) (λ_ _ _ _=>(pv 0))) (TX (XZ (pv 2) XY))) XY)) XY)))))),?_⟩
  refine⟨_,rfl,_,rfl,w,a,n,ps,kd,ns,rfl,hW,hG,hS,λhT H1 s1=>?_,q2⟩;have one:1<=sizeLine:=by decide
  have tl:ns.length<=20:=by have:=hT.2.1;have:=hG.2.1;lia
  refine⟨_,rfl,_,rfl,a,_,rfl,(hS.same s1).or,rfl,ZT _,_,rfl,?_⟩;rw[NP];refine WT (λhc=>?_) (λhc=>?_)
  .exact Ve (q1 hT (.inl hc) H1 s1)
  .refine⟨_,rfl,_,rfl,w,n,ps,z,rfl,hW.same s1,_,rfl,?_⟩;refine WM (λht=>?_) (λht=>?_)
   .refine⟨_,rfl,a,rfl,NT (k:=kd) (K:=K) (xs:=IL ns) (λi ys H2=>Same H1 H2/\i<=ns.length/\ys=IL (Uu n ps ns z (ns.take i))) ⟨Same.refl _,Yn _,rfl⟩ (Zo (by rw[Xq];lia))
     (λi ys H2 hi ⟨e,VB,ey⟩=>⟨(hS.same s1).same e,by rw[ey,Xq];exact Yr (HE ..) (by rw[Yy];lia)⟩) ?_ ?_⟩
    .rintro i x ys H2 hi ⟨s2,Vn,rfl⟩ S Xc;obtain⟨y,rfl,hy⟩:=UL hi;have Xl:i<ns.length:=(Xp.mp hy).1
     have Wz:=s1.trans s2;refine nm ?_;refine⟨_,rfl,_,rfl,_,rfl,_,rfl,w,a,n,ps,kd,ns,y,rfl,hW.same Wz,hG,hS.same Wz,hT.1,λr H3 s3 Vz Um=>?_⟩;refine⟨r,_,rfl,.inr (SqT.of Um),rfl,ZT _,_,rfl,?_⟩;rw[NP];refine WT (λhe=>?_) (λhe=>?_)
     .refine⟨_,rfl,Xc _ _ ⟨s2.trans s3,Xl,?_⟩⟩;rw[gY hy,if_pos he,ZY]
     .refine Xc _ _ ⟨s2.trans s3,Xl,?_⟩;rw[gY hy,if_neg he,YF]
    .rintro ys H2 ⟨s2,_,rfl⟩ p hp;rw[Xq,YM];have rl:=HE n ps ns z ns
     refine⟨_,rfl,one,λp2 Wj=>?_⟩;refine sV (l2:=[z]) (by rw[Zb (Zc XS Wj)];exact XS) XS (by simp only [YB,Ib];lia) λp3 Ng=>?_;refine⟨p3,_,rfl,SqL.of XS,by simp only [Xs,YB,Ib];lia,λms Us Nz p4 Lx=>?_⟩;refine⟨p4,IL ms,rfl,.inl ⟨SqL.of XS,λr hr=>?_⟩⟩;have s6:=(s1.trans s2).trans (Zy (Zy (XH (o:=.lst (IL (Uu n ps ns z ns))) hp) (o:=.lst (IL [z])) Wj) (o:=.lst (IL (Uu n ps ns z ns++[z]))) Ng)
     exact q hT hc ht.1 ht.2 ms Us Nz r _ (s6.trans (Zy (XH Lx) hr)) ((s6.trans (XH Lx)).free hr) XS
   .exact q1 hT (.inr ht) H1 s1
def md(K:Ad)(C:Addr):Sp:=λvs H Q _=>∃(w a b:Addr) (n:Int) (ps:Aa) (I O:Ac),vs=[.ref w,.ref a,.ref b]/\WebAt C H w n ps/\Zv n ps/\SqT K H a (IL I)/\SqT K H b (IL O)/\I.Nodup/\(∀ z∈I,0<=z/\z<(ps.length:Int))/\(∀ z∈I,z∉O) /\
 (∀ H':Hp,Same H H'->(∀ U,¬ With n ps I O U)->Q .non H') /\
 (∀(r:Addr) (F:Ac) (H':Hp),Same H H'->H' r=some (.tup (IL F))->With n ps I O F->(∀ U,With n ps I O U->HT.lexLt U F=false)->Q (.ref r) H')
theorem ma:FnScope ["web","inside","outside"] ["web","inside","outside"] (XA sZq):=⟨rfl,rfl,rfl,by decide +kernel,rfl,by decide +kernel,by decide +kernel⟩
theorem BE (T:Txt K mg t):FnOk P w K mg base Xf 4 t.aZq t.dZq ["web","inside","outside"] (md K t.A_Web):=by
 refine T.fZq.ok ma (λvs H Q E h=>?_) (λXz A outer s H vs Q E hr h=>?_)
 .obtain⟨w,a,b,n,ps,I,O,rfl,_⟩:=h;rfl
 .obtain⟨w,a,b,n,ps,I,O,rfl,hW,hG,hA,hB,hIn,Xt,hd,q0,q1⟩:=h;refine⟨_,(XF (Zk (Za (mr T) (hr.mono (by decide)) rfl T.mZn T.fZn.kp T.bZn .nil Zt (XZ (pv 0) (XZ (pv 1) (XZ (Za (nE T) (hr.mono (by decide)) rfl T.mZ9 T.fZ9.kp T.bZ9 .nil Zt (XZ (pv 0) (XZ (pv 2) XY))) XY)))))),?_⟩;have g3:=hG.2.2.1
  refine⟨_,rfl,_,rfl,_,rfl,_,rfl,w,b,n,ps,true,O,rfl,hW,by lia,hB,λD cN hD dA H1 s1 l9=>?_⟩;have hDs:IsSet ps.length D:=XX.mpr ⟨λz hz=>((hD z).mp hz).1,cN⟩
  have hb:∀ z∈I++D,0<=z/\z<(ps.length:Int):=λz hz=>(Xy.mp hz).elim (Xt z) λh=>((hD z).mp h).1;have il:I.length<=ps.length:=by
   have:=Jy (m:=We ps.length) hIn λz hz=>XB.mpr (Xt z hz)
   rw[ZJ]at this;exact this
  have dl:=hDs.len;refine⟨w,a,dA,n,ps,true,true,I,D,rfl,hW.same s1,hG,Ma s1 hA,SqT.of l9,by lia,by lia,hb,λh H2 s2=>q0 H2 (s1.trans s2) λU hU=>?_,λht hl r ms H2 Us Nz s2 Vz hr=>?_⟩
  .have:=rV hG hU.1 hIn hU.2.1 (hU.sub hD) hb
   rcases h with h | h
   .exact h this.1
   .exact this.2 h
  .have hF:With n ps I O ms:=⟨Yz5 hG hb hl Us Nz,λz hz=>Us.mem_iff.mpr (Ha (ht ▸ hz)),λz hz h=>(Xy.mp ((yV _ _ _).subset (Us.mem_iff.mp h))).elim (λh=>hd z h hz) λh=>((hD z).mp h).2 hz⟩;exact q1 r ms H2 (s1.trans s2) hr hF λU hU=>ZP6 hG hU.1 hU.2.1 (hU.sub hD) hb cN hF.1 Us hF.2.1
def l8(K:Ad)(C:Addr):Sp:=λvs H Q _=>∃(w m:Addr) (n:Int) (ps:Aa) (M:Ac) (z:Int),vs=[.ref w,.ref m,.int z]/\WebAt C H w n ps/\Zv n ps/\H m=some (.lst (IL M))/\M.length=n.toNat/\0<=z/\z<(ps.length:Int) /\
 ∀(r:Addr) (l:Ac) (H':Hp),l.Perm [mk M (ps.getD z.toNat (0,0)).1.toNat,mk M (ps.getD z.toNat (0,0)).2.toNat]->l.Pairwise (·<=·)->Same H H'->H' r=some (.lst (IL l))->Q (.ref r) H'
theorem BD:FnScope ["web","marks","tie","ends"] ["web","marks","tie"] (XA sZr):=⟨rfl,rfl,rfl,by decide +kernel,rfl,by decide +kernel,by decide +kernel⟩
theorem BC (T:Txt K mg t):FnOk P w K mg base Xf 1 t.aZr t.dZr ["web","marks","tie"] (l8 K t.A_Web):=by
 refine T.fZr.ok BD (λvs H Q E h=>?_) (λXz A outer s H vs Q E hr h=>?_)
 .obtain⟨w,m,n,ps,M,z,rfl,_⟩:=h;rfl
 .obtain⟨w,m,n,ps,M,z,rfl,hW,hG,hM,Sa,z0,z1,q⟩:=h;refine⟨_,(XN (Zh (i:=3) BD.nd rfl (Or.inl rfl) (ZQ (Zi K) (Zm K (pv 0) rfl) (pv 2) (λ_ _=>rfl)))
   (XF (Zk (Zd (sU K) (by rfl) T.n_sorted Boot.«sorted» (XZ (TX (XZ (ZQ (Zi K) (pv 1) (ZQ (ZL K) (pv 3) XQ (λ_ _=>rfl)) (λ_ _=>rfl)) (XZ (ZQ (Zi K) (pv 1) (ZQ (ZL K) (pv 3) XQ (λ_ _=>rfl)) (λ_ _=>rfl)) XY))) XY))))),?_⟩
  obtain⟨g1,g2,g3,g4⟩:=id hG;obtain⟨dx,tl,xs,h1,h2,h3⟩:=id hW;obtain⟨p,hp⟩:∃ p,ps[z.toNat]?=some p:=⟨_,Xr (by lia)⟩;have ep:ps.getD z.toNat (0,0)=p:=ZP hp
  rw[ep]at q;obtain⟨v,hv,tt,rfl,Tp⟩:=h3.2 _ p hp;obtain⟨e1,e2,e3,e4⟩:=g4 p (Xg hp);have t0:Wg ([.int p.1,.int p.2]:List V) 0=some (.int p.1):=rfl
  have t1:Wg ([.int p.1,.int p.2]:List V) 1=some (.int p.2):=rfl;have iA:Wg (IL M) p.1=some (.int (mk M p.1.toNat)):=ZK (n:=p.1.toNat) (by lia) (Ue (OM (by grind)))
  have iB:Wg (IL M) p.2=some (.int (mk M p.2.toNat)):=ZK (n:=p.2.toNat) (by lia) (Ue (OM (by grind)));refine⟨_,rfl,w,_,dx,_,_,rfl,h1,T.cl_Web,T.n_Web_ties,ON _ _,_,rfl,tl,_,_,.ref tt,rfl,rfl,SqL.of h2,ZK (n:=z.toNat) (by lia) hv,?_⟩;refine nm ?_;refine⟨_,rfl,_,rfl,tt,_,0,_,rfl,rfl,SqT.of Tp,t0,m,_,p.1,_,rfl,rfl,SqL.of hM,iA,_,rfl,_,rfl,tt,_,1,_,rfl,rfl,SqT.of Tp,t1,m,_,p.2,_,rfl,rfl,SqL.of hM,iB,(by show 2<=sizeLine;decide),λa ha=>?_⟩;have s1:=XH (o:=.lst (IL [mk M p.1.toNat,mk M p.2.toNat])) ha
  refine⟨a,[mk M p.1.toNat,mk M p.2.toNat],rfl,SqL.of XS,(by show 2<64;decide),λl hl hs r hr=>?_⟩;exact q r l _ hl hs (s1.trans (XH hr)) XS
def l7(K:Ad)(C:Addr):Sp:=λvs H Q _=>∃(w m a:Addr) (n:Int) (ps:Aa) (M g:Ac),vs=[.ref w,.ref m,.ref a]/\WebAt C H w n ps/\Zv n ps/\H m=some (.lst (IL M))/\M.length=n.toNat/\SqT K H a (IL g) /\
 ∀(r:Addr) (H':Hp),Same H H'->H r=none->H' r=some (.lst (IL (Nd M ps g ps.length)))->Q (.ref r) H'
theorem l6:FnScope ["web","marks","gone"] ["web","marks","gone"] (XA sZs):=⟨rfl,rfl,rfl,by decide +kernel,rfl,by decide +kernel,by decide +kernel⟩
theorem BB (T:Txt K mg t):FnOk P w K mg base Xf 1 t.aZs t.dZs ["web","marks","gone"] (l7 K t.A_Web):=by
 refine T.fZs.ok l6 (λvs H Q E h=>?_) (λXz A outer s H vs Q E hr h=>?_)
 .obtain⟨w,m,a,n,ps,M,g,rfl,_⟩:=h;rfl
 .obtain⟨w,m,a,n,ps,M,g,rfl,hW,hG,hM,Sa,hA,q⟩:=h;refine⟨_,(XF (Zk (Sn rfl (sc0:=XA sZs) (N0:=["web","marks","gone"]) (N':=["tie","ends","gone","marks"]) (o:=2) (fr:=[2,1]) ⟨rfl,by decide +kernel,by decide +kernel,by decide +kernel,rfl,by decide +kernel⟩ (LZ K rfl T.n_enumerate (XZ (Zm K (pv 0) rfl) XY)) (EX (Vc (by decide) (Vc (by decide) EY))) (λ_ _ _ _=>(QO (n:=2) K rfl (Zr (Zf (i:=0) (show List.Nodup (["tie","ends","gone","marks"]:List Str) by decide +kernel) rfl (Or.inl rfl)) (Zr (Zf (i:=1) (show List.Nodup (["tie","ends","gone","marks"]:List Str) by decide +kernel) rfl (Or.inl rfl)) QV)))) (λ_ _ _ _=>(Qk (PW.pt (Gq (Zg (HK K) (pv 0) (pv 2) rfl) (jj (Zg QU (ZQ (Zi K) (pv 3) (ZQ (ZL K) (pv 1) XQ (λ_ _=>rfl)) (λ_ _=>rfl)) (ZQ (Zi K) (pv 3) (ZQ (ZL K) (pv 1) XQ (λ_ _=>rfl)) (λ_ _=>rfl)) (Zu _))))))) (λ_ _ _ _=>(pv 0))))),?_⟩;obtain⟨g1,g2,g3,g4⟩:=id hG;obtain⟨dx,tl,xs,h1,h2,h3⟩:=id hW;have Nv:=h3.1
  refine⟨_,rfl,w,_,dx,_,_,rfl,h1,T.cl_Web,T.n_Web_ties,ON _ _,tl,rfl,⟨_,SqL.of h2⟩,zd (K:=K) (a:=tl) (xs:=xs) (λi ys H3=>Same H H3/\i<=xs.length/\ys=IL (Nd M ps g i)) ⟨Same.refl _,Yn _,rfl⟩ (Zo (by lia))
   (λi ys H3 _ h=>by obtain⟨e,_,ey⟩:=h;exact⟨SqL.of (e _ _ h2),by rw[ey,Xq];exact o8 _ _ _ _⟩) ?_ ?_⟩
  .rintro i x ys H3 pt US hi ⟨s3,Vn,rfl⟩ S Xc;obtain⟨p,Qd,tt,rfl,Tp⟩:=h3.at hi;obtain⟨e1,e2,e3,e4⟩:=g4 p (Xg Qd);have Xl:i<xs.length:=(Xp.mp hi).1
   have s4:Same H3 (upd H3 pt (.tup [.int i,.ref tt])):=XH US;have Sb:=s3.trans s4
   have Pp:=Sb _ _ Tp;have BF:=Sb _ _ hM
   have Lv:=SqK.same (k:=true) Sb hA;have ed:ps.getD i (0,0)=p:=ZP Qd
   have t0:Wg ([.int p.1,.int p.2]:List V) 0=some (.int p.1):=rfl;have t1:Wg ([.int p.1,.int p.2]:List V) 1=some (.int p.2):=rfl
   have iA:Wg (IL M) p.1=some (.int (mk M p.1.toNat)):=ZK (n:=p.1.toNat) (by lia) (Ue (OM (by grind)));have iB:Wg (IL M) p.2=some (.int (mk M p.2.toNat)):=ZK (n:=p.2.toNat) (by lia) (Ue (OM (by grind)))
   have hs:=ZW9 M ps g i;rw[ed]at hs;refine⟨pt,_,rfl,SqT.of XS,rfl,_,_,rfl,_,_,rfl,rfl,?_⟩;refine⟨_,rfl,_,rfl,a,_,rfl,.inr Lv,rfl,ZT _,_,rfl,?_⟩;rw[NP];refine WM (λhe=>?_) (λhe=>?_)
   .refine Xc _ _ ⟨Sb,Xl,?_⟩;rw[hs,if_neg (λh=>h.1 he),YF]
   refine⟨_,rfl,_,rfl,tt,_,0,_,rfl,rfl,SqT.of Pp,t0,m,_,p.1,_,rfl,rfl,SqL.of BF,iA,_,rfl,_,rfl,tt,_,1,_,rfl,rfl,SqT.of Pp,t1,m,_,p.2,_,rfl,rfl,SqL.of BF,iB,rfl,_,rfl,?_⟩;rw[ZA];refine WM (λhx=>?_) (λhx=>?_)
   .refine Xc _ _ ⟨Sb,Xl,?_⟩;rw[hs,if_neg (λh=>h.2 hx),YF]
   .refine⟨_,rfl,Xc _ _ ⟨Sb,Xl,?_⟩⟩;rw[hs,if_pos ⟨he,hx⟩,ZY]
  .rintro ys H3 ⟨s3,_,rfl⟩ p hp;rw[Nv];exact q p _ (s3.trans (XH hp)) (s3.free hp) XS
def BA(st:Stmt):Pos:=match (Ql st).getD 9 (.Pass ⟨0,0,0,0⟩) with
 | .Assign _ (.Call _ _ [k] _) _=>(match k.value with
  | .Lambda _ _ _ p=>p
  | _=>⟨0,0,0,0⟩)
 | _=>⟨0,0,0,0⟩
def l5:Str:=Str.ofString "Part.__init__"++Str.ofString ".<locals>."++Str.ofString "<lambda>"
abbrev Xk(H:Hp)(Pt:Addr):Prop:=TabH H Pt (BA sZt) l5
def cM(K:Ad)(CP C Pt:Addr):Sp:=λvs H Q _=>∃(x dx w a b:Addr) (n:Int) (ps:Aa) (I O:Ac) (ld:Option Int),vs=[.ref x,.ref w,.ref a,.ref b,Xe ld]/\H x=some (.ins CP dx [])/\WebAt C H w n ps/\Zv n ps/\Xk H Pt /\
 SqT K H a (IL I)/\SqT K H b (IL O)/\I.Nodup/\(∀ z∈I,0<=z/\z<(ps.length:Int))/\(∀ z∈I,z∉O)/\O.length<=30/\(∃ U,With n ps I O U)/\(∀ y,ld=some y->0<=y/\y<(ps.length:Int))/\(ld=none->∀ F,With n ps I O F->(∀ U,With n ps I O U->HT.lexLt U F=false)->WW n ps I O F=[]) /\
 ∀(F inc:Ac) (fu:Option Int) (l i:Addr) (H':Hp),With n ps I O F->(∀ U,With n ps I O U->HT.lexLt U F=false)->Sh (λz=>PyProof.Rows.b2i (decide (ld=some z))) (Tt n ps I O F ld) inc->(fu=none↔Wc n ps I O F ld=[])->(∀ y,fu=some y->y∈Wc n ps I O F ld/\∀ z∈Wc n ps I O F ld,y<=z) ->
  H' x=some (.ins CP dx (yp (.ref w) (.ref a) (.ref b) (Xe ld) (.ref l) (.ref i) (Xe fu)))->H' l=some (.tup (IL F))->H' i=some (.lst (IL inc))->(∀ b o,b≠x->b≠Pt->H b=some o->H' b=some o)->Xk H' Pt->Q .non H'
theorem Po:FnScope ["self","web","kept","shut","lead","marks","opened","alike","unlike"] ["self","web","kept","shut","lead"] (XA sZt):=⟨rfl,rfl,rfl,by decide +kernel,rfl,by decide +kernel,by decide +kernel⟩
theorem IK {Pt:Addr} (T:Txt K mg t) (hB:QJ K mg base t.dZt Pt):FnOk P w K mg base Xf 8 t.aZt t.dZt ["self","web","kept","shut","lead"] (cM K t.A_Part t.A_Web Pt):=by
 obtain⟨cA,UJ,hC,hBa,CO⟩:=hB;refine T.fZt.okL UJ Po (λvs H Q E h=>?_) (λA outer s H vs Q E hr h=>?_)
 .obtain⟨x,dx,w,a,b,n,ps,I,O,ld,rfl,_⟩:=h;rfl
 .obtain⟨x,dx,w,a,b,n,ps,I,O,ld,rfl,hx,hW,hG,hT,hA,RZ,hIn,Xt,Vm,RY,⟨U0,MO⟩,Cd,Sm,q⟩:=h;refine⟨_,(XN (Uy (pv 0) (pv 1) rfl)
   (XN (Uy (pv 0) (pv 2) rfl)
   (XN (Uy (pv 0) (pv 3) rfl)
   (XN (Uy (pv 0) (pv 4) rfl)
   (XN (Uy (pv 0) (Za (BE T) (hr.mono (by decide)) rfl T.mZq T.fZq.kp T.bZq .nil Zt (XZ (pv 1) (XZ (pv 2) (XZ (pv 3) XY)))) rfl)
   (XN (Zh (i:=5) Po.nd rfl (Or.inr rfl) (Za (Rk T) (hr.mono (by decide)) rfl T.mZe T.fZe.kp T.bZe .nil Zt (XZ (pv 1) (XZ (pv 2) XY))))
   (XN (Zh (i:=6) Po.nd rfl (Or.inl rfl) (Za (BB T) (hr.mono (by decide)) rfl T.mZs T.fZs.kp T.bZs .nil Zt (XZ (pv 1) (XZ (pv 5) (XZ (Zl (HD K) (Zl (HD K) (pv 2) (pv 3)) (Zm K (pv 0) rfl)) XY)))))
   (XN (Zh (i:=7) Po.nd rfl (Or.inr rfl) (Sn rfl (sc0:=XA sZt) (N0:=["self","web","kept","shut","lead","marks","opened","alike","unlike"]) (N':=["tie","web","marks","lead"]) (o:=1) (fr:=[1,5,4]) ⟨rfl,by decide +kernel,by decide +kernel,by decide +kernel,rfl,by decide +kernel⟩ (Va K (pv 6)) (Zz (by decide)) (λ_ _ _ _=>(Zf (i:=0) (show List.Nodup (["tie","web","marks","lead"]:List Str) by decide +kernel) rfl (Or.inl rfl))) (λ_ _ _ _=>(Qk (Zg (tU K (JX hr)) (Za (BC T) (hr.mono (by decide)) rfl T.mZr T.fZr.kp T.bZr .nil Zt (XZ (pv 1) (XZ (pv 2) (XZ (pv 0) XY)))) (Za (BC T) (hr.mono (by decide)) rfl T.mZr T.fZr.kp T.bZr .nil Zt (XZ (pv 1) (XZ (pv 2) (XZ (pv 3) XY)))) (Zu _)))) (λ_ _ _ _=>(pv 0))))
   (XN (NX (i:=8) rfl Po.nd rfl rfl (sc0:=XA sZt) (N0:=["self","web","kept","shut","lead","marks","opened","alike","unlike"]) (N':=["tie","alike"]) (o:=1) (fr:=[7]) ⟨rfl,by decide +kernel,by decide +kernel,by decide +kernel,rfl,by decide +kernel⟩ (Va K (pv 6)) (Zz (by decide)) (λ_ _ _ _=>(Zf (i:=0) (show List.Nodup (["tie","alike"]:List Str) by decide +kernel) rfl (Or.inl rfl))) (λ_ _ _ _=>(Qk (Zg (HK K) (pv 0) (pv 1) rfl))) (λ_ _ _ _=>(pv 0)))
   (XN (Uy (pv 0) (Zs5 (k:=0) (i:=4) (v:="tie") (x:="lead") (pv 7) (by rfl) T.n_sorted (hr.mono (by decide)) rfl rfl hC hBa CO (LamScope.of rfl rfl rfl (by first | exact .inl rfl | exact .inr rfl) (by decide)) rfl rfl (λ_ _ _ _=>rfl) rfl rfl rfl (λ_ _ _ _ _ _ hr=>(Kp Qq (pv 0) (pv 1) (Zu _)))) rfl)
   (XF (Uy (pv 0) (eh rfl (by rfl) T.n_min (pv 8)) rfl)))))))))))),?_⟩
  obtain⟨g1,g2,g3,g4⟩:=id hG;refine⟨_,rfl,_,rfl,x,_,dx,[],rfl,hx,T.cl_Part,T.n_Part_web,(by show 0<1000;decide),?_⟩;refine⟨_,rfl,_,rfl,x,_,dx,_,rfl,XS,T.cl_Part,T.n_Part_kept,(by show 1<1000;decide),?_⟩;refine⟨_,rfl,_,rfl,x,_,dx,_,rfl,XS,T.cl_Part,T.n_Part_shut,(by show 2<1000;decide),?_⟩;refine⟨_,rfl,_,rfl,x,_,dx,_,rfl,XS,T.cl_Part,T.n_Part_lead,(by show 3<1000;decide),?_⟩;change Vg _ _ _ [some (.ref x),some (.ref w),some (.ref a),some (.ref b),some (Xe ld),none,none,none,none] (upd (upd (upd (upd H x (.ins t.A_Part dx (XO "web" (.ref w) []))) x (.ins t.A_Part dx (XO "kept" (.ref a) (XO "web" (.ref w) [])))) x (.ins t.A_Part dx (XO "shut" (.ref b) (XO "kept" (.ref a) (XO "web" (.ref w) []))))) x (.ins t.A_Part dx (XO "lead" (Xe ld) (XO "shut" (.ref b) (XO "kept" (.ref a) (XO "web" (.ref w) []))))));have UG:SameX x H (upd (upd (upd (upd H x (.ins t.A_Part dx (XO "web" (.ref w) []))) x (.ins t.A_Part dx (XO "kept" (.ref a) (XO "web" (.ref w) [])))) x (.ins t.A_Part dx (XO "shut" (.ref b) (XO "kept" (.ref a) (XO "web" (.ref w) []))))) x (.ins t.A_Part dx (XO "lead" (Xe ld) (XO "shut" (.ref b) (XO "kept" (.ref a) (XO "web" (.ref w) [])))))):=((WL.trans WL).trans WL).trans WL
  have xU:(upd (upd (upd (upd H x (.ins t.A_Part dx (XO "web" (.ref w) []))) x (.ins t.A_Part dx (XO "kept" (.ref a) (XO "web" (.ref w) [])))) x (.ins t.A_Part dx (XO "shut" (.ref b) (XO "kept" (.ref a) (XO "web" (.ref w) []))))) x (.ins t.A_Part dx (XO "lead" (Xe ld) (XO "shut" (.ref b) (XO "kept" (.ref a) (XO "web" (.ref w) [])))))) x=some (.ins t.A_Part dx [("web",.ref w),("kept",.ref a),("shut",.ref b),("lead",Xe ld)]):=XS;generalize upd (upd (upd (upd H x (.ins t.A_Part dx (XO "web" (.ref w) []))) x (.ins t.A_Part dx (XO "kept" (.ref a) (XO "web" (.ref w) [])))) x (.ins t.A_Part dx (XO "shut" (.ref b) (XO "kept" (.ref a) (XO "web" (.ref w) []))))) x (.ins t.A_Part dx (XO "lead" (Xe ld) (XO "shut" (.ref b) (XO "kept" (.ref a) (XO "web" (.ref w) [])))))=H4 at *;have xO:=hW.but hx UG
  have Lv:=CA hA hx UG;have mE:=CA RZ hx UG
  have il:I.length<=ps.length:=by
   have:=Jy (m:=We ps.length) hIn λz hz=>XB.mpr (Xt z hz)
   rw[ZJ]at this;exact this
  refine⟨_,rfl,_,rfl,_,rfl,w,a,b,n,ps,I,O,rfl,xO,hG,Lv,mE,hIn,Xt,Vm,λH5 s5 h=>absurd MO (h U0),λl F H5 s5 hl hF VQ=>?_⟩;refine⟨_,rfl,x,_,dx,_,rfl,s5 _ _ xU,T.cl_Part,T.n_Part_least,(by show 4<1000;decide),?_⟩;have Rg:SameX x H H5:=UG.trans (SameX.same s5)
  have xN:SameX x H (upd H5 x (.ins t.A_Part dx (XO "least" (.ref l) [("web",.ref w),("kept",.ref a),("shut",.ref b),("lead",Xe ld)]))):=Rg.trans WL;have cL:(upd H5 x (.ins t.A_Part dx (XO "least" (.ref l) [("web",.ref w),("kept",.ref a),("shut",.ref b),("lead",Xe ld)]))) x=some (.ins t.A_Part dx [("web",.ref w),("kept",.ref a),("shut",.ref b),("lead",Xe ld),("least",.ref l)]):=XS
  have BP:(upd H5 x (.ins t.A_Part dx (XO "least" (.ref l) [("web",.ref w),("kept",.ref a),("shut",.ref b),("lead",Xe ld)]))) l=some (.tup (IL F)):=by rw[Zb (λe=>by rw[e,s5 _ _ xU]at hl;cases hl)];exact hl
  change Vg _ _ _ [some (.ref x),some (.ref w),some (.ref a),some (.ref b),some (Xe ld),none,none,none,none] (upd H5 x (.ins t.A_Part dx (XO "least" (.ref l) [("web",.ref w),("kept",.ref a),("shut",.ref b),("lead",Xe ld)])));generalize upd H5 x (.ins t.A_Part dx (XO "least" (.ref l) [("web",.ref w),("kept",.ref a),("shut",.ref b),("lead",Xe ld)]))=H6 at *;refine⟨_,rfl,_,rfl,w,a,n,ps,I,rfl,hW.but hx xN,hG,CA hA hx xN,Xt,λm H7 s7 QH xP=>?_⟩;refine nm ?_;dsimp only [List.set];have lZ:SameX x H H7:=xN.trans (SameX.same s7)
  have hF1:F.length<=ps.length:=hF.1.1.len;have Sa:(Xx n.toNat (XT ps I)).length=n.toNat:=Zw _ _
  refine⟨_,rfl,_,rfl,_,rfl,_,rfl,?_⟩;refine Cz (l:=I) (m:=O) (CA hA hx lZ) (CA RZ hx lZ) (by lia) λr1 H8 s8 VP=>?_;have Hh:SameX x H H8:=lZ.trans (SameX.same s8)
  have IJ:=s7.trans s8;refine⟨_,rfl,x,_,dx,_,.ref l,rfl,IJ _ _ cL,T.cl_Part,T.n_Part_least,rfl,?_⟩;refine Cz (l:=I++O) (m:=F) VP (SqT.of (IJ _ _ BP)) (by rw[Xs];lia) λr2 H9 s9 VM=>?_;have s69:=IJ.trans s9
  have II:SameX x H H9:=Hh.trans (SameX.same s9);have xR:=s8.trans s9
  refine⟨w,m,r2,n,ps,Xx n.toNat (XT ps I),I++O++F,rfl,hW.but hx II,hG,xR _ _ xP,Sa,VM,λpA Oy BL hp0 Pn=>?_⟩;have Pn:Oy pA=some (.lst (IL (WW n ps I O F))):=Pn
  refine nm ?_;dsimp only [List.set];have Hg:SameX x H Oy:=II.trans (SameX.same BL)
  have s6A:=s69.trans BL;have cK:=(xR.trans BL) _ _ xP
  have RE:∀ z∈WW n ps I O F,0<=z/\z<(ps.length:Int):=λz hz=>d8 hz;have QQ:(WW n ps I O F).length<=ps.length:=o8 _ _ _ _
  refine⟨_,rfl,pA,rfl,⟨_,SqL.of Pn⟩,NU (K:=K) (a:=pA) (xs:=IL (WW n ps I O F)) (λi ws MP=>Same Oy MP/\i<=(WW n ps I O F).length/\ws=IL (((WW n ps I O F).take i).filter λz=>decide (∃ y,ld=some y/\UH (Xx n.toNat (XT ps I)) ps z=UH (Xx n.toNat (XT ps I)) ps y))) ⟨Same.refl _,Yn _,rfl⟩ (Zo (by rw[Xq];lia))
   (λi ws MP hi h=>by obtain⟨e,VB,ew⟩:=h;exact⟨SqL.of (e _ _ Pn),by rw[ew,Xq];exact Yr (YH ..) (by rw[Yy];lia)⟩) ?_ ?_⟩
  .rintro i v ws MP hi ⟨IP,Vn,rfl⟩ S Xc;obtain⟨z,rfl,hz⟩:=UL hi;obtain⟨z0,z1⟩:=RE z (Xg hz);have Xl:i<(WW n ps I O F).length:=(Xp.mp hz).1
   obtain⟨y,rfl⟩:∃ y,ld=some y:=by
    cases ld with
    | some y=>exact⟨y,rfl⟩
    | none =>
     rw[Sm rfl F hF VQ]at Xl;exact absurd Xl (YY _)
   obtain⟨y0,y1⟩:=Cd y rfl;refine nm ?_;refine⟨_,rfl,_,rfl,_,rfl,w,m,n,ps,_,z,rfl,hW.but hx (Hg.trans (SameX.same IP)),hG,IP _ _ cK,Sa,z0,z1,λe1 l1 H12 SG hs1 Wz Ds=>?_⟩;have IG:=IP.trans Wz
   refine⟨_,rfl,_,rfl,_,rfl,w,m,n,ps,_,y,rfl,hW.but hx (Hg.trans (SameX.same IG)),hG,IG _ _ cK,Sa,y0,y1,λe2 l2 H13 QT RL cJ Qg=>?_⟩;refine⟨1,_,e1,e2,rfl,rfl,by decide,EI (SqL.of (cJ _ _ Ds)) (SqL.of Qg),_,rfl,?_⟩;have ed:decide (l1=l2)=decide (∃ cI,some y=some cI/\UH (Xx n.toNat (XT ps I)) ps z=UH (Xx n.toNat (XT ps I)) ps cI):=by
    rw[d9 SG hs1,d9 QT RL,xa];constructor
    .intro e;injection e with e1 e2
     injection e2 with e2 _;exact⟨y,rfl,Prod.ext e1 e2⟩
    .rintro⟨y',e,e'⟩;cases e;obtain⟨e1,e2⟩:=Prod.mk.inj e';rw[e1,e2]
   have Bz:=IG.trans cJ;show(if decide (l1=l2)=true then _ else _)
   rw[ed];refine WT (λhc=>?_) (λhc=>?_)
   .refine⟨_,rfl,Xc _ _ ⟨Bz,Xl,?_⟩⟩;rw[ZU hz,if_pos (Yx hc),ZY]
   .refine Xc _ _ ⟨Bz,Xl,?_⟩;rw[ZU hz,if_neg (by simpa using hc),YF]
  rintro ws MP ⟨IP,_,rfl⟩ kA By;rw[Xq,YM];have ea:((WW n ps I O F).filter λz=>decide (∃ y,ld=some y/\UH (Xx n.toNat (XT ps I)) ps z=UH (Xx n.toNat (XT ps I)) ps y))=Tt n ps I O F ld:=rfl
  rw[ea];have dt:(Tt n ps I O F ld).length<=ps.length:=Yr (YH ..) QQ
  have v1:=XH (o:=.lst (IL (Tt n ps I O F ld))) By;have kK:(upd MP kA (.lst (IL (Tt n ps I O F ld)))) kA=some (.lst (IL (Tt n ps I O F ld))):=XS
  refine nm ?_;dsimp only [List.set];have cH:=IP.trans v1
  change Vg _ _ _ _ (upd MP kA (.lst (IL (Tt n ps I O F ld))));generalize upd MP kA (.lst (IL (Tt n ps I O F ld)))=H14 at *;have cG:=cH _ _ Pn
  refine⟨_,rfl,pA,rfl,⟨_,SqL.of cG⟩,NU (K:=K) (a:=pA) (xs:=IL (WW n ps I O F)) (λi ws Lp=>Lp=H14/\i<=(WW n ps I O F).length/\ws=IL (((WW n ps I O F).take i).filter λz=>decide (z∉Tt n ps I O F ld))) ⟨rfl,Yn _,rfl⟩ (Zo (by rw[Xq];lia))
   (λi ws Lp hi h=>by obtain⟨e,VB,ew⟩:=h;exact⟨e ▸ SqL.of cG,by rw[ew,Xq];exact Yr (YH ..) (by rw[Yy];lia)⟩) ?_ ?_⟩
  .rintro i v ws Lp hi ⟨rfl,Vn,rfl⟩ S Xc;obtain⟨z,rfl,hz⟩:=UL hi;have Xl:i<(WW n ps I O F).length:=(Xp.mp hz).1
   refine nm ?_;refine⟨_,rfl,_,rfl,kA,_,rfl,.inl (SqL.of kK),rfl,ZT _,_,rfl,?_⟩;rw[NP];refine WM (λhe=>?_) (λhe=>?_)
   .refine Xc _ _ ⟨rfl,Xl,?_⟩;rw[ZU hz,if_neg (by simpa using he),YF]
   .refine⟨_,rfl,Xc _ _ ⟨rfl,Xl,?_⟩⟩;rw[ZU hz,if_pos (Yx he),ZY]
  rintro ws Lp ⟨rfl,_,rfl⟩ uA huA;rw[Xq,YM];have eu:((WW n ps I O F).filter λz=>decide (z∉Tt n ps I O F ld))=Wc n ps I O F ld:=rfl
  rw[eu];have v2:=XH (o:=.lst (IL (Wc n ps I O F ld))) huA
  have kU:(upd Lp uA (.lst (IL (Wc n ps I O F ld)))) uA=some (.lst (IL (Wc n ps I O F ld))):=XS;refine nm ?_;dsimp only [List.set];have lY:=(s6A.trans cH).trans v2
  have kKU:=v2 _ _ kK;have cF:SameX x H (upd Lp uA (.lst (IL (Wc n ps I O F ld)))):=xN.trans (SameX.same lY)
  have Jw:=lY _ _ cL;have cE:=lY _ _ BP
  change Vg _ _ _ _ (upd Lp uA (.lst (IL (Wc n ps I O F ld))));generalize upd Lp uA (.lst (IL (Wc n ps I O F ld)))=H16 at *;have MN:Xk H16 Pt:=o7 hT hx cF
  refine⟨_,rfl,kA,Tt n ps I O F ld,Xe ld,λz=>decide (ld=some z),rfl,SqL.of kKU,by lia,MN,rfl,λBx Pm z hz=>?_,λinc iA Bx WE Pm Bw lX=>?_⟩
  .refine⟨_,rfl,_,rfl,(by cases ld <;> rfl),?_,rfl⟩
   show V.bl (decide (V.int z=Xe ld))=V.bl (decide (ld=some z));cases ld with
   | none=>rfl
   | some y =>
    show V.bl (decide (V.int z=V.int y))=V.bl (decide (some y=some z));rw[ZA];congr 1;rw[xa];exact⟨λe=>by rw[e],λe=>(Yi e).symm⟩
  have hxP:x≠Pt:=MN.ne Jw (by simp);have v3:=XH (o:=.lst (IL inc)) lX
  have Bv:=v3 _ _ (Pm _ _ hxP Jw);have Bu:=v3 _ _ (Pm _ _ (MN.ne cE (by simp)) cE)
  have Bt:=v3 _ _ (Pm _ _ (MN.ne kU (by simp)) kU);have Bs:(upd Bx iA (.lst (IL inc))) iA=some (.lst (IL inc)):=XS
  have Br:Xk (upd Bx iA (.lst (IL inc))) Pt:=Bw.same v3;have IF:∀ b o,b≠x->b≠Pt->H b=some o->(upd Bx iA (.lst (IL inc))) b=some o:=λb o h1 h2 e=>v3 _ _ (Pm _ _ h2 (cF _ _ h1 e))
  change ∃ _,_;generalize upd Bx iA (.lst (IL inc))=Bq at *;refine⟨_,rfl,x,_,dx,_,rfl,Bv,T.cl_Part,T.n_Part_incoming,(by show 5<1000;decide),?_⟩;have Pl:∀(c:Addr) (o:HO),Bq c=some o->(∀ a b fs,o≠.ins a b fs)->c≠x:=λc o h ho e=>by rw[e,Bv]at h;exact ho _ _ _ (Yi h).symm
  have lW:(upd Bq x (.ins t.A_Part dx (XO "incoming" (.ref iA) [("web",.ref w),("kept",.ref a),("shut",.ref b),("lead",Xe ld),("least",.ref l)]))) uA=some (.lst (IL (Wc n ps I O F ld))):=by rw [Zb (Pl _ _ Bt (by simp))];exact Bt
  have fin:∀ fu:Option Int,(fu=none↔Wc n ps I O F ld=[])->(∀ y,fu=some y->y∈Wc n ps I O F ld/\∀ z∈Wc n ps I O F ld,y<=z)->Q .non (upd (upd Bq x (.ins t.A_Part dx (XO "incoming" (.ref iA) [("web",.ref w),("kept",.ref a),("shut",.ref b),("lead",Xe ld),("least",.ref l)]))) x (.ins t.A_Part dx (yp (.ref w) (.ref a) (.ref b) (Xe ld) (.ref l) (.ref iA) (Xe fu)))):=λfu h1 h2=>by
   have up:∀(c:Addr) (o:HO),c≠x->Bq c=some o->(upd (upd Bq x (.ins t.A_Part dx (XO "incoming" (.ref iA) [("web",.ref w),("kept",.ref a),("shut",.ref b),("lead",Xe ld),("least",.ref l)]))) x (.ins t.A_Part dx (yp (.ref w) (.ref a) (.ref b) (Xe ld) (.ref l) (.ref iA) (Xe fu)))) c=some o:=λc o h e=>by rw [Zb h,Zb h];exact e
   obtain⟨tp,t1,t2,t3⟩:=id Br;refine q F inc fu l iA _ hF VQ WE h1 h2 XS (up _ _ (Pl _ _ Bu (by simp)) Bu) (up _ _ (Pl _ _ Bs (by simp)) Bs) (λb o b1 b2 e=>up _ _ b1 (IF b o b1 b2 e)) ⟨tp,up _ _ (Pl _ _ t1 (by simp)) t1,t2,?_⟩;rcases t3 with h | ⟨c,h,h'⟩
   .exact .inl h
   .exact .inr ⟨c,h,up _ _ (Pl _ _ h' (by unfold Ho;simp)) h'⟩
  refine⟨_,rfl,uA,Wc n ps I O F ld,rfl,SqL.of lW,λe=>?_,λmn Tz Wi=>?_⟩
  .refine⟨_,rfl,x,_,dx,_,rfl,XS,T.cl_Part,T.n_Part_further,(by show 6<1000;decide),?_⟩;exact fin none ⟨λ_=>e,λ_=>rfl⟩ λy h=>by cases h
  .refine⟨_,rfl,x,_,dx,_,rfl,XS,T.cl_Part,T.n_Part_further,(by show 6<1000;decide),?_⟩;exact fin (some mn) ⟨λh=>(by cases h),λh=>(by rw[h]at Tz;cases Tz)⟩ λy h=>(by cases h;exact⟨Tz,Wi⟩)
def lV(K:Ad)(CP C Pt:Addr):Sp:=λvs H Q _=>∃(w:Addr) (n:Int) (ps:Aa),vs=[.ref w]/\WebAt C H w n ps/\Zv n ps/\Xk H Pt/\(∃ U,Ze n ps U) /\
 ∀(x:Addr) (F inc:Ac) (ld fu:Option Int) (H':Hp),PartOk n ps [] [] ld F inc fu->(ld=none↔WW n ps [] [] F=[])->(∀ y,ld=some y->y∈WW n ps [] [] F/\∀ z∈WW n ps [] [] F,y<=z)->PartAt K CP C H' x n ps [] [] F inc ld fu->SameX Pt H H'->Xk H' Pt->Q (.ref x) H'
theorem Bp:FnScope ["web","opened"] ["web"] (XA sZu):=⟨rfl,rfl,rfl,by decide +kernel,rfl,by decide +kernel,by decide +kernel⟩
theorem Bo {Pt:Addr} (T:Txt K mg t) (hB:QJ K mg base t.dZt Pt):FnOk P w K mg base Xf 10 t.aZu t.dZu ["web"] (lV K t.A_Part t.A_Web Pt):=by
 refine T.fZu.ok Bp (λvs H Q E h=>?_) (λXz A outer s H vs Q E hr h=>?_)
 .obtain⟨w,n,ps,rfl,_⟩:=h;rfl
 .obtain⟨w,n,ps,rfl,hW,hG,hT,⟨U0,MO⟩,q⟩:=h;refine⟨_,(XN (Zh (i:=1) Bp.nd rfl (Or.inl rfl) (Za (BB T) (hr.mono (by decide)) rfl T.mZs T.fZs.kp T.bZs .nil Zt (XZ (pv 0) (XZ (Za (Rk T) (hr.mono (by decide)) rfl T.mZe T.fZe.kp T.bZe .nil Zt (XZ (pv 0) (XZ (SO XY) XY))) (XZ (Za (BE T) (hr.mono (by decide)) rfl T.mZq T.fZq.kp T.bZq .nil Zt (XZ (pv 0) (XZ (SO XY) (XZ (SO XY) XY)))) XY)))))
   (XF (Zk (FC T.k_Part (IK T hB) (hr.mono (by decide)) rfl T.c_Part T.bZt .nil Zt (XZ (pv 0) (XZ (SO XY) (XZ (SO XY) (XZ (eh rfl (by rfl) T.n_min (pv 1)) XY)))))))),?_⟩
  have IE:With n ps [] [] U0:=⟨MO,λz h=>(by cases h),λz h=>(by cases h)⟩;refine⟨_,rfl,_,rfl,Yn _,λe1 Ds=>?_⟩;have s1:=XH (o:=.tup []) Ds
  refine⟨w,e1,n,ps,[],rfl,hW.same s1,hG,SqT.of XS,λz h=>(by cases h),λm H2 s2 QH Wi=>?_⟩;have Wz:=s1.trans s2
  refine⟨_,rfl,Yn _,λe2 Qg=>⟨Yn _,λe3 he3=>?_⟩⟩;have s3:=XH (o:=.tup []) Qg
  have s4:=XH (o:=.tup []) he3;have cD:=Wz.trans (s3.trans s4)
  refine⟨w,e2,e3,n,ps,[],[],rfl,hW.same cD,hG,SqT.of (s4 _ _ XS),SqT.of XS,.nil,λz h=>(by cases h),λz h=>(by cases h),λH5 s5 h=>absurd IE (h U0),λl F H5 s5 hl hF VQ=>?_⟩;have cC:=cD.trans s5
  have xQ:=((s3.trans s4).trans s5) _ _ Wi;have Sa:(Xx n.toNat (XT ps [])).length=n.toNat:=Zw _ _
  refine⟨w,m,l,n,ps,Xx n.toNat (XT ps []),F,rfl,hW.same cC,hG,xQ,Sa,SqT.of hl,λpA H6 s6 hp0 lT=>?_⟩;have lT:H6 pA=some (.lst (IL (WW n ps [] [] F))):=lT
  refine nm ?_;dsimp only [List.set];have s16:=cC.trans s6
  have RE:∀ z∈WW n ps [] [] F,0<=z/\z<(ps.length:Int):=λz hz=>d8 hz;refine⟨_,rfl,Yn _,λf1 xV=>⟨Yn _,λf2 MS=>?_⟩⟩;have s7:=XH (o:=.tup []) xV
  have s8:=XH (o:=.tup []) MS;have ID:(upd (upd H6 f1 (.tup [])) f2 (.tup [])) f1=some (.tup []):=s8 _ _ XS
  have IC:(upd (upd H6 f1 (.tup [])) f2 (.tup [])) f2=some (.tup []):=XS;have xM:=s16.trans (s7.trans s8)
  have hp8:=(s7.trans s8) _ _ lT;generalize upd (upd H6 f1 (.tup [])) f2 (.tup [])=H8 at *;have main:∀ ld:Option Int,(ld=none↔WW n ps [] [] F=[])->(∀ y,ld=some y->y∈WW n ps [] [] F/\∀ z∈WW n ps [] [] F,y<=z)->∀ x dx,H8 x=none->H8 dx=none->dx≠x->cM K t.A_Part t.A_Web Pt [.ref x,.ref w,.ref f1,.ref f2,Xe ld] (upd (upd H8 dx (.own x)) x (.ins t.A_Part dx [])) (λv H2=>v=.non/\Q (.ref x) H2) E0:=by
   intro ld hn hs x dx nx Pq SK;have s9:Same H8 (upd (upd H8 dx (.own x)) x (.ins t.A_Part dx [])):=Zy (XH Pq) (by rw[Zb (YW SK)];exact nx)
   have cB:=xM.trans s9;refine⟨x,dx,w,f1,f2,n,ps,[],[],ld,rfl,XS,hW.same cB,hG,hT.same cB,SqT.of (s9 _ _ ID),SqT.of (s9 _ _ IC),.nil,λz h=>(by cases h),λz h=>(by cases h),Yn _,⟨U0,IE⟩,λy hy=>RE y (hs y hy).1,λe F' Lo To=>?_,λF' inc fu l' i' H' Lo To WE h1 h2 Vd Sr Rz keep Pk=>⟨rfl,?_⟩⟩
   .have eF:F'=F:=Te (VQ F' Lo) (To F hF);rw[eF];exact hn.mp e
   .have eF:F'=F:=Te (VQ F' Lo) (To F hF);subst eF;have sx:SameX Pt H8 H':=λb o hb e=>keep b o (Zc e nx) hb (s9 _ _ e)
    have UR:Xk H8 Pt:=hT.same xM;refine q x F' inc ld fu H' ⟨Lo,To,WE,h1,h2⟩ hn hs ⟨dx,w,f1,f2,l',i',Vd,(hW.same xM).samex UR sx,SqT.of (sx _ _ (UR.ne ID (by simp)) ID),SqT.of (sx _ _ (UR.ne IC (by simp)) IC),Sr,Rz⟩ ((SameX.same xM).trans sx) Pk
  refine⟨_,rfl,pA,WW n ps [] [] F,rfl,SqL.of hp8,λe=>?_,λmn h1 h2=>?_⟩
  .exact main none ⟨λ_=>e,λ_=>rfl⟩ λy h=>by cases h
  .exact main (some mn) ⟨λh=>(by cases h),λh=>(by rw[h]at h1;cases h1)⟩ λy h=>(by cases h;exact⟨h1,h2⟩)
def lS(K:Ad)(CP C Pt:Addr):Sp:=λvs H Q _=>∃(x:Addr) (n:Int) (ps:Aa) (I O F inc:Ac) (z y:Int),vs=[.ref x]/\PartAt K CP C H x n ps I O F inc (some z) (some y)/\Zv n ps/\Xk H Pt/\(I).Nodup/\(∀ v∈I,0<=v/\v<(ps.length:Int))/\(∀ v∈I,v∉O++[z])/\(O++[z]).length<=30/\(∃ U,With n ps (I) (O++[z]) U)/\0<=y/\y<(ps.length:Int) /\
 ∀(x':Addr) (F' WA:Ac) (fu:Option Int) (H':Hp),PartOk n ps (I) (O++[z]) (some y) F' WA fu->PartAt K CP C H' x' n ps (I) (O++[z]) F' WA (some y) fu->SameX Pt H H'->Xk H' Pt->Q (.ref x') H'
theorem lR:FnScope ["part"] ["part"] (XA sZv):=⟨rfl,rfl,rfl,by decide +kernel,rfl,by decide +kernel,by decide +kernel⟩
theorem Bn {Pt:Addr} (T:Txt K mg t) (hB:QJ K mg base t.dZt Pt):FnOk P w K mg base Xf 10 t.aZv t.dZv ["part"] (lS K t.A_Part t.A_Web Pt):=by
 refine T.fZv.ok lR (λvs H Q E h=>?_) (λXz A outer s H vs Q E hr h=>?_)
 .obtain⟨x,n,ps,I,O,F,inc,z,y,rfl,_⟩:=h;rfl
 .obtain⟨x,n,ps,I,O,F,inc,z,y,rfl,⟨dx,w,a,b,l,i,hx,hW,hA,RZ,hl,hi⟩,hG,hT,hIn,Xt,Vm,RY,hex,y0,y1,q⟩:=h;refine⟨_,(XF (Zk (FC T.k_Part (IK T hB) (hr.mono (by decide)) rfl T.c_Part T.bZt .nil Zt (XZ (Zm K (pv 0) rfl) (XZ (Zm K (pv 0) rfl) (XZ (Zl (HD K) (Zm K (pv 0) rfl) (SO (XZ (Zm K (pv 0) rfl) XY))) (XZ (Zm K (pv 0) rfl) XY))))))),?_⟩;have lQ:I.length<=30:=by
   have:=Jy (m:=We ps.length) hIn λv hv=>XB.mpr (Xt v hv)
   have e:=hG.2.2.1;rw[ZJ]at this
   try simp only [Xs,Yj]at this
   lia
  have SF:O.length<=30:=by
   have:=RY
   try simp only [Xs,Yj]at this
   lia
  refine⟨_,rfl,x,_,dx,_,.ref w,rfl,hx,T.cl_Part,T.n_Part_web,rfl,_,rfl,x,_,dx,_,.ref a,rfl,hx,T.cl_Part,T.n_Part_kept,rfl,_,rfl,x,_,dx,_,.ref b,rfl,hx,T.cl_Part,T.n_Part_shut,rfl,_,rfl,x,_,dx,_,.int z,rfl,hx,T.cl_Part,T.n_Part_lead,rfl,(by show 1<=sizeLine;decide),λp hp=>?_⟩;have s1:=XH (o:=.tup (IL [z])) hp
  refine Cz (l:=O) (m:=[z]) (SqK.same (k:=true) s1 RZ) (SqT.of XS) (by rw[Yj];lia) λr1 H2 s2 VP=>?_;have Wz:=s1.trans s2
  refine⟨_,rfl,x,_,dx,_,.int y,rfl,Wz _ _ hx,T.cl_Part,T.n_Part_further,rfl,?_⟩;intro x' MM nx Pq SK;have s9:Same H2 (upd (upd H2 MM (.own x')) x' (.ins t.A_Part MM [])):=Zy (XH Pq) (by rw[Zb (YW SK)];exact nx)
  have Xj:Xk H2 Pt:=hT.same Wz;refine⟨x',MM,w,a,r1,n,ps,I,O++[z],some y,rfl,XS,hW.same (Wz.trans s9),hG,Xj.same s9,SqK.same (k:=true) (Wz.trans s9) hA,SqK.same (k:=true) s9 VP,hIn,Xt,Vm,RY,hex,λv e=>(by cases e;exact⟨y0,y1⟩),λe=>(by cases e),λF' WA fu l' i' H' Lo To WE h1 h2 Vd Sr Rz keep Pk=>⟨rfl,?_⟩⟩;have sx:SameX Pt H2 H':=λb o hb e=>keep b o (Zc e nx) hb (s9 _ _ e)
  exact q x' F' WA fu H' ⟨Lo,To,WE,h1,h2⟩ ⟨MM,w,a,r1,l',i',Vd,(hW.same Wz).samex Xj sx,SqK.samex (kd:=true) (SqK.same (k:=true) Wz hA) Xj sx,SqK.samex (kd:=true) (VP) Xj sx,Sr,Rz⟩ ((SameX.same Wz).trans sx) Pk
def lP(K:Ad)(CP C Pt:Addr):Sp:=λvs H Q _=>∃(x:Addr) (n:Int) (ps:Aa) (I O F inc:Ac) (z y:Int),vs=[.ref x]/\PartAt K CP C H x n ps I O F inc (some z) (some y)/\Zv n ps/\Xk H Pt/\(I++[z]).Nodup/\(∀ v∈I++[z],0<=v/\v<(ps.length:Int))/\(∀ v∈I++[z],v∉O)/\(O).length<=30/\(∃ U,With n ps (I++[z]) (O) U)/\0<=y/\y<(ps.length:Int) /\
 ∀(x':Addr) (F' WA:Ac) (fu:Option Int) (H':Hp),PartOk n ps (I++[z]) (O) (some y) F' WA fu->PartAt K CP C H' x' n ps (I++[z]) (O) F' WA (some y) fu->SameX Pt H H'->Xk H' Pt->Q (.ref x') H'
theorem lO:FnScope ["part"] ["part"] (XA sZw):=⟨rfl,rfl,rfl,by decide +kernel,rfl,by decide +kernel,by decide +kernel⟩
theorem Bm {Pt:Addr} (T:Txt K mg t) (hB:QJ K mg base t.dZt Pt):FnOk P w K mg base Xf 10 t.aZw t.dZw ["part"] (lP K t.A_Part t.A_Web Pt):=by
 refine T.fZw.ok lO (λvs H Q E h=>?_) (λXz A outer s H vs Q E hr h=>?_)
 .obtain⟨x,n,ps,I,O,F,inc,z,y,rfl,_⟩:=h;rfl
 .obtain⟨x,n,ps,I,O,F,inc,z,y,rfl,⟨dx,w,a,b,l,i,hx,hW,hA,RZ,hl,hi⟩,hG,hT,hIn,Xt,Vm,RY,hex,y0,y1,q⟩:=h;refine⟨_,(XF (Zk (FC T.k_Part (IK T hB) (hr.mono (by decide)) rfl T.c_Part T.bZt .nil Zt (XZ (Zm K (pv 0) rfl) (XZ (Zl (HD K) (Zm K (pv 0) rfl) (SO (XZ (Zm K (pv 0) rfl) XY))) (XZ (Zm K (pv 0) rfl) (XZ (Zm K (pv 0) rfl) XY))))))),?_⟩;have lQ:I.length<=30:=by
   have:=Jy (m:=We ps.length) hIn λv hv=>XB.mpr (Xt v hv)
   have e:=hG.2.2.1;rw[ZJ]at this
   try simp only [Xs,Yj]at this
   lia
  have SF:O.length<=30:=by
   have:=RY
   try simp only [Xs,Yj]at this
   lia
  refine⟨_,rfl,x,_,dx,_,.ref w,rfl,hx,T.cl_Part,T.n_Part_web,rfl,_,rfl,x,_,dx,_,.ref a,rfl,hx,T.cl_Part,T.n_Part_kept,rfl,_,rfl,x,_,dx,_,.int z,rfl,hx,T.cl_Part,T.n_Part_lead,rfl,(by show 1<=sizeLine;decide),λp hp=>?_⟩;have s1:=XH (o:=.tup (IL [z])) hp
  refine Cz (l:=I) (m:=[z]) (SqK.same (k:=true) s1 hA) (SqT.of XS) (by rw[Yj];lia) λr1 H2 s2 VP=>?_;have Wz:=s1.trans s2
  refine⟨_,rfl,x,_,dx,_,.ref b,rfl,Wz _ _ hx,T.cl_Part,T.n_Part_shut,rfl,_,rfl,x,_,dx,_,.int y,rfl,Wz _ _ hx,T.cl_Part,T.n_Part_further,rfl,?_⟩;intro x' MM nx Pq SK;have s9:Same H2 (upd (upd H2 MM (.own x')) x' (.ins t.A_Part MM [])):=Zy (XH Pq) (by rw[Zb (YW SK)];exact nx)
  have Xj:Xk H2 Pt:=hT.same Wz;refine⟨x',MM,w,r1,b,n,ps,I++[z],O,some y,rfl,XS,hW.same (Wz.trans s9),hG,Xj.same s9,SqK.same (k:=true) s9 VP,SqK.same (k:=true) (Wz.trans s9) RZ,hIn,Xt,Vm,RY,hex,λv e=>(by cases e;exact⟨y0,y1⟩),λe=>(by cases e),λF' WA fu l' i' H' Lo To WE h1 h2 Vd Sr Rz keep Pk=>⟨rfl,?_⟩⟩;have sx:SameX Pt H2 H':=λb o hb e=>keep b o (Zc e nx) hb (s9 _ _ e)
  exact q x' F' WA fu H' ⟨Lo,To,WE,h1,h2⟩ ⟨MM,w,r1,b,l',i',Vd,(hW.same Wz).samex Xj sx,SqK.samex (kd:=true) (VP) Xj sx,SqK.samex (kd:=true) (SqK.same (k:=true) Wz RZ) Xj sx,Sr,Rz⟩ ((SameX.same Wz).trans sx) Pk
def lN(K:Ad)(CP C:Addr):Sp:=λvs H Q _=>∃(x:Addr) (n:Int) (ps:Aa) (I O F inc:Ac) (ld fu:Option Int),vs=[.ref x]/\PartAt K CP C H x n ps I O F inc ld fu/\Zv n ps/\I.Nodup/\(∀ z∈I,0<=z/\z<(ps.length:Int))/\O.length<=30/\(∀ z∈I,z∉O)/\∀(c:Nat) (H':Hp),PC n ps I O c->Same H H'->Q (.int c) H'
theorem lM:FnScope ["part"] ["part"] (XA sZx):=⟨rfl,rfl,rfl,by decide +kernel,rfl,by decide +kernel,by decide +kernel⟩
theorem Bl (T:Txt K mg t):FnOk P w K mg base Xf 8 t.aZx t.dZx ["part"] (lN K t.A_Part t.A_Web):=by
 refine T.fZx.ok lM (λvs H Q E h=>?_) (λXz A outer s H vs Q E hr h=>?_)
 .obtain⟨x,n,ps,I,O,F,inc,ld,fu,rfl,_⟩:=h;rfl
 .obtain⟨x,n,ps,I,O,F,inc,ld,fu,rfl,⟨dx,w,a,b,l,i,hx,hW,hA,RZ,hl,hi⟩,hG,hI,Xt,hO,Vm,q⟩:=h;refine⟨_,(XF (Zk (Za (mG T) (hr.mono (by decide)) rfl T.mZk T.fZk.kp T.bZk .nil Zt (XZ (Zm K (pv 0) rfl) (XZ (Zm K (pv 0) rfl) (XZ (Zm K (pv 0) rfl) XY)))))),?_⟩;refine⟨_,rfl,x,_,dx,_,.ref w,rfl,hx,T.cl_Part,T.n_Part_web,rfl,_,rfl,x,_,dx,_,.ref a,rfl,hx,T.cl_Part,T.n_Part_kept,rfl,_,rfl,x,_,dx,_,.ref b,rfl,hx,T.cl_Part,T.n_Part_shut,rfl,?_⟩;exact⟨w,a,b,n,ps,I,O,rfl,hW,hG,hA,RZ,hI,Xt,hO,Vm,q⟩
theorem lL{n:Int}{ps:Aa}{I F ms:Ac}{z:Int}(hF:Ze n ps F)(hz:z∉F)(hp:ms.Perm (Uu n ps F z F++[z]))(hs:ms.Pairwise (·<=·)):(ms.filter λt=>decide (t≠z/\t∉I))=WN n ps I F z:=by
 refine zb ((hp.filter _).trans ?_) (hs.filter _) ?_
 .rw[QG,List.filter_cons_of_neg (by simp),KN,YF];refine List.Perm.of_eq (Mv λt ht=>?_)
  have:t≠z:=λe=>hz (e ▸ (VR.mp ht).1)
  simp[this]
 .exact((XX.mp hF.1).2.filter _).filter _ |>.imp λh=>by lia
def lK(K:Ad)(CP C:Addr):Sp:=λvs H Q _=>∃(x:Addr) (n:Int) (ps:Aa) (I O F inc:Ac) (ld fu:Option Int) (z:Int),vs=[.ref x,.int z]/\PartAt K CP C H x n ps I O F inc ld fu/\Zv n ps/\Ze n ps F/\z∉F/\0<=z/\z<(ps.length:Int) /\
 ∀(r:Addr) (xs:List V) (H':Hp),Same H H'->H r=none->H' r=some (.lst xs)->Bears (Xb H') xs ((WN n ps I F z).map λo=>xchT F o z)->Q (.ref r) H'
theorem Bk:FnScope ["part","into","leaving"] ["part","into"] (XA sZy):=⟨rfl,rfl,rfl,by decide +kernel,rfl,by decide +kernel,by decide +kernel⟩
theorem lJ (T:Txt K mg t):FnOk P w K mg base Xf 9 t.aZy t.dZy ["part","into"] (lK K t.A_Part t.A_Web):=by
 refine T.fZy.ok Bk (λvs H Q E h=>?_) (λXz A outer s H vs Q E hr h=>?_)
 .obtain⟨x,n,ps,I,O,F,inc,ld,fu,z,rfl,_⟩:=h;rfl
 .obtain⟨x,n,ps,I,O,F,inc,ld,fu,z,rfl,⟨dx,w,a,b,l,i,hx,hW,hA,RZ,hl,hi⟩,hG,hF,hz,z0,z1,q⟩:=h;refine⟨_,(XN (NX (i:=2) rfl Bk.nd rfl rfl (sc0:=XA sZy) (N0:=["part","into","leaving"]) (N':=["tie","into","part"]) (o:=1) (fr:=[1,0]) ⟨rfl,by decide +kernel,by decide +kernel,by decide +kernel,rfl,by decide +kernel⟩ (tS K (Za (me T) (hr.mono (by decide)) rfl T.mZp T.fZp.kp T.bZp .nil Zt (XZ (Zm K (pv 0) rfl) (XZ (Zm K (pv 0) rfl) (XZ (pv 1) XY))))) (Zz (by decide)) (λ_ _ _ _=>(Zf (i:=0) (show List.Nodup (["tie","into","part"]:List Str) by decide +kernel) rfl (Or.inl rfl))) (λ_ _ _ _=>(Qk (PW.pt (Gq (Zg QU (pv 0) (pv 1) (Zu _)) (jj (Zg (HK K) (pv 0) (Zm K (pv 2) rfl) rfl)))))) (λ_ _ _ _=>(pv 0)))
   (XF (Zk (Sn rfl (sc0:=XA sZy) (N0:=["part","into","leaving"]) (N':=["out","part","into"]) (o:=1) (fr:=[0,1]) ⟨rfl,by decide +kernel,by decide +kernel,by decide +kernel,rfl,by decide +kernel⟩ (Va K (pv 2)) (Zz (by decide)) (λ_ _ _ _=>(Zf (i:=0) (show List.Nodup (["out","part","into"]:List Str) by decide +kernel) rfl (Or.inl rfl))) (λ_ _ _ _=>QS) (λ_ _ _ _=>(Zs (ZI K) (by rfl) T.n_tuple Boot.«tuple» (XZ (Zd (Zi4 K) (by rfl) T.n_sorted Boot.«sorted» (XZ (Zl (HD K) (Za (BU T) (hr.mono (by decide)) rfl T.mZa T.fZa.kp T.bZa .nil Zt (XZ (Zm K (pv 1) rfl) (XZ (pv 0) XY))) (SO (XZ (pv 2) XY))) XY)) XY))))))),?_⟩
  have big:(30:Int)<10 ^ 70:=by decide
  have g3:=hG.2.2.1;refine⟨_,rfl,x,_,dx,_,.ref w,rfl,hx,T.cl_Part,T.n_Part_web,rfl,_,rfl,x,_,dx,_,.ref l,rfl,hx,T.cl_Part,T.n_Part_least,rfl,_,rfl,?_⟩;refine⟨w,l,n,ps,true,F,z,rfl,hW,hG,SqT.of hl,by omega,by lia,λ_ _ _ _ ms Tz Wi rA H1 s1 Vz Na=>?_,λ_ h=>absurd h (λh=>h.elim hz λh=>h ⟨z0,z1⟩),λh=>absurd hF h⟩;have hm30:ms.length<=40:=by
   rw[Tz.length_eq,Xs,Yj]
   have:=HE n ps F z F
   have:=hF.1.len
   lia
  refine⟨rA,rfl,⟨_,SqT.of Na⟩,JT (K:=K) (a:=rA) (xs:=IL ms) (λj ws H2=>H2=H1/\j<=ms.length/\ws=IL ((ms.take j).filter λt=>decide (t≠z/\t∉I))) ⟨rfl,Yn _,rfl⟩ (Zo (by rw[Xq];lia))
   (λj ws H2 hj h=>by obtain⟨e,QL,ew⟩:=h;exact⟨e ▸ SqT.of Na,by rw[ew,Xq];exact Yr (YH ..) (by rw[Yy];lia)⟩) ?_ ?_⟩
  .rintro j v ws H2 hj ⟨rfl,NO,rfl⟩ S Xc;obtain⟨y,rfl,hy⟩:=UL hj;have Wa:j<ms.length:=(Xp.mp hy).1
   refine nm ?_;refine⟨_,rfl,_,rfl,rfl,_,rfl,?_⟩;rw[ZA];refine WM (λhe=>?_) (λhe=>?_)
   .refine Xc _ _ ⟨rfl,Wa,?_⟩;rw[ZU hy,if_neg (by simp[he]),YF]
   refine⟨_,rfl,_,rfl,x,_,dx,_,.ref a,rfl,s1 _ _ hx,T.cl_Part,T.n_Part_kept,rfl,a,_,rfl,.inr (SqK.same (k:=true) s1 hA),rfl,ZT _,_,rfl,?_⟩;rw[NP];refine WM (λhc=>?_) (λhc=>?_)
   .refine Xc _ _ ⟨rfl,Wa,?_⟩;rw[ZU hy,if_neg (by simp[hc]),YF]
   .refine⟨_,rfl,Xc _ _ ⟨rfl,Wa,?_⟩⟩;rw[ZU hy,if_pos (Yx ⟨he,hc⟩),ZY]
  rintro ws H2 ⟨rfl,_,rfl⟩ lA hlA;rw[Xq,YM,lL hF hz Tz Wi];have u1:=XH (o:=.lst (IL (WN n ps I F z))) hlA
  have kL:(upd H2 lA (.lst (IL (WN n ps I F z)))) lA=some (.lst (IL (WN n ps I F z))):=XS;refine nm ?_;dsimp only [List.set];have s2:=s1.trans u1
  change Gi _ _ _ (upd H2 lA (.lst (IL (WN n ps I F z))));generalize upd H2 lA (.lst (IL (WN n ps I F z)))=H3 at *;have lvl:(WN n ps I F z).length<=30:=Yr (YH ..) (by have:=HE n ps F z F;have:=hF.1.len;lia)
  have hFl:F.length<=30:=by have:=hF.1.len;lia
  refine⟨_,rfl,lA,rfl,⟨_,SqL.of kL⟩,NU (K:=K) (a:=lA) (xs:=IL (WN n ps I F z)) (λj ys H4=>Same H3 H4/\j<=(WN n ps I F z).length/\Bears (Xb H4) ys (((WN n ps I F z).take j).map λo=>xchT F o z)) ⟨Same.refl _,Yn _,⟨rfl,λi l e=>by simp at e⟩⟩ (Zo (by rw[Xq];lia))
   (λj ys H4 hj h=>by obtain⟨e,QL,ey⟩:=h;exact⟨SqL.of (e _ _ kL),by rw[ey.1,Yd,Yy];lia⟩) ?_ ?_⟩
  .rintro j v ys H4 hj ⟨s4,NO,hY⟩ S Xc;obtain⟨o,rfl,ho⟩:=UL hj;have Wa:j<(WN n ps I F z).length:=(Xp.mp ho).1
   have Lq:=s2.trans s4;refine nm ?_;refine⟨_,rfl,x,_,dx,_,.ref l,rfl,Lq _ _ hx,T.cl_Part,T.n_Part_least,rfl,_,rfl,l,true,F,o,rfl,SqT.of (Lq _ _ hl),by lia,λr1 H5 s5 hr10 VP=>?_⟩;have wl:=LQ F o
   refine⟨_,rfl,(by show 1<=sizeLine;decide),λp2 Wj=>?_⟩;have s6:=XH (o:=.tup (IL [z])) Wj
   refine Cz (l:=wo F o) (m:=[z]) (SqT.of (s6 _ _ VP)) (SqT.of XS) (by rw[Yj];lia) λr3 H7 s7 Um=>?_;refine⟨r3,wo F o++[z],rfl,Um,by rw[Xs,Yj];lia,λns mT Oe p4 Lx=>?_⟩;have en:ns=xchT F o z:=zb (mT.trans (LD F o z).symm) Oe (Rn F o z)
   subst en;have s8:=XH (o:=.lst (IL (xchT F o z))) Lx
   refine⟨p4,_,rfl,.inl ⟨SqL.of XS,λp5 x8=>?_⟩⟩;have s9:=XH (o:=.tup (IL (xchT F o z))) x8
   have sA:=(s5.trans s6).trans (s7.trans (s8.trans s9));refine Xc _ _ ⟨s4.trans sA,Wa,?_⟩;rw[WD,ho,YR];exact(hY.imp λ_ _ h=>by obtain⟨q,e,hq⟩:=h;exact⟨q,e,sA _ _ hq⟩).snoc ⟨p5,rfl,XS⟩
  .rintro ys H4 ⟨s4,_,hY⟩ d hd;rw[Xq,YM]at hY;have s5:=XH (o:=.lst ys) hd
   exact q d ys _ (s2.trans (s4.trans s5)) ((s2.trans s4).free hd) XS (hY.imp λ_ _ h=>by obtain⟨q,e,hq⟩:=h;exact⟨q,e,s5 _ _ hq⟩)
theorem lI{α:Type}{R:V->α->Prop}{xs ys:List V}{l m:List α}(h1:Bears R xs l)(h2:Bears R ys m):Bears R (xs++ys) (l++m):=by
 refine⟨by rw[Xs,Xs,h1.1,h2.1],λi a e=>?_⟩;by_cases c:i<l.length
 .rw[Ys c]at e;obtain⟨v,hv,r⟩:=h1.2 i a e;exact⟨v,by rw[Ys (by rw[h1.1];exact c)];exact hv,r⟩
 .rw[Yq (by lia)]at e;obtain⟨v,hv,r⟩:=h2.2 _ a e;exact⟨v,by rw[Yq (by rw[h1.1];omega),h1.1];exact hv,r⟩
theorem cz{α:Type}{R:V->α->Prop}{xs:List V}{l:List α}(h:Bears R xs l):Bears R xs.reverse l.reverse:=by
 refine⟨by rw[YK,YK,h.1],λi a e=>?_⟩;have hi:i<l.length:=by have:=(Xp.mp e).1;rw[YK]at this;exact this
 rw[Lk hi]at e;obtain⟨v,hv,r⟩:=h.2 _ a e;exact⟨v,by rw[Lk (by rw[h.1];exact hi),h.1];exact hv,r⟩
def lH(K:Ad)(CP C:Addr):Sp:=λvs H Q _=>∃(x:Addr) (n:Int) (ps:Aa) (I O F inc:Ac) (ld fu:Option Int),vs=[.ref x]/\PartAt K CP C H x n ps I O F inc ld fu/\Zv n ps/\Ze n ps F/\inc.length<=30/\(∀ z∈inc,z∉F/\0<=z/\z<(ps.length:Int)) /\
 ∀(r:Addr) (xs:List V) (H':Hp),Same H H'->H r=none->H' r=some (.lst xs)->Bears (Xb H') xs (Cu n ps I F inc)->Q (.ref r) H'
theorem Rf:FnScope ["part","row","ascending","into","trees"] ["part"] (XA sZz):=⟨rfl,rfl,rfl,by decide +kernel,rfl,by decide +kernel,by decide +kernel⟩
theorem Bj (T:Txt K mg t):FnOk P w K mg base Xf 10 t.aZz t.dZz ["part"] (lH K t.A_Part t.A_Web):=by
 refine T.fZz.ok Rf (λvs H Q E h=>?_) (λXz A outer s H vs Q E hr h=>?_)
 .obtain⟨x,n,ps,I,O,F,inc,ld,fu,rfl,_⟩:=h;rfl
 .obtain⟨x,n,ps,I,O,F,inc,ld,fu,rfl,SA,hG,hF,Vn,Ts,q⟩:=h;refine⟨_,(XN (Zh (i:=1) Rf.nd rfl (Or.inl rfl) (TX (XZ (Zm K (pv 0) rfl) XY)))
   (XN (Zh (i:=2) Rf.nd rfl (Or.inl rfl) (Kp Qq (Zl ZF (Zd (Zn K) (by rfl) T.n_len Boot.«len» (XZ (Zm K (pv 0) rfl) XY)) XQ) XQ (Zu _)))
   (XN (SQ Ww rfl (Va K (Zm K (pv 0) rfl)) (Zf (i:=3) Rf.nd rfl (Or.inl rfl))
   (XN (Zh (i:=4) Rf.nd rfl (Or.inl rfl) (Za (lJ T) (hr.mono (by decide)) rfl T.mZy T.fZy.kp T.bZy .nil Zt (XZ (pv 0) (XZ (pv 3) XY))))
   (XN (Wh (VH K YQ jG jH iL (pv 1) (XZ (ji (OU (pv 2)) (pv 4) (g8 K rfl rfl T.n_list rfl T.n_reversed (XZ (pv 4) XY))) XY)))
   (XF (Zh (i:=2) Rf.nd rfl (Or.inl rfl) (wj (pv 2)))))))
   (XF (Zk (pv 1)))))),?_⟩
  obtain⟨dx,w,a,b,l,i,hx,hW,hA,RZ,hl,hi⟩:=id SA;refine⟨_,rfl,x,_,dx,_,.ref l,rfl,hx,T.cl_Part,T.n_Part_least,rfl,(by show 1<=sizeLine;decide),λr hr=>?_⟩;have s1:=XH (o:=.lst [.ref l]) hr
  refine nm ?_;dsimp only [List.set];refine⟨_,rfl,x,_,dx,_,.ref i,rfl,s1 _ _ hx,T.cl_Part,T.n_Part_incoming,rfl,i,_,rfl,.inl (SqL.of (s1 _ _ hi)),_,_,rfl,rfl,(by show(0:Int)<2;decide),rfl,?_⟩;refine nm ?_;dsimp only [List.set];have ea:decide (V.int ((IL inc).length % 2:Int)=V.int 1)=(inc.length % 2 == 1):=by rw[ZA,Xq,OX,YV,SW];omega
  change Vg _ _ _ [some (.ref x),some (.ref r),some (.bl (decide (V.int ((IL inc).length % 2:Int)=V.int 1))),none,none] (upd H r (.lst [.ref l]));rw[ea];generalize SH:(inc.length % 2 == 1)=asc at *;have kr:(upd H r (.lst [.ref l])) r=some (.lst [.ref l]):=XS
  generalize upd H r (.lst [.ref l])=H1 at *;have rM:=s1 _ _ hi
  have fresh:∀ b o,H b=some o->b≠r:=λb o e=>Zc e hr;refine⟨_,rfl,x,_,dx,_,.ref i,rfl,s1 _ _ hx,T.cl_Part,T.n_Part_incoming,rfl,i,rfl,⟨_,SqL.of rM⟩,vV (K:=K) (a:=i) (xs:=IL inc) (λj σ H2=>∃(xs:List V) (v3 v4:Option V),σ=[some (.ref x),some (.ref r),some (.bl (asc != (j % 2 == 1))),v3,v4]/\Same H H2/\H2 r=some (.lst xs)/\Bears (Xb H2) xs (F :: VF n ps I F (inc.take j) asc)) ⟨[.ref l],none,none,by cases asc <;> rfl,s1,kr,⟨rfl,λj m e=>by
   match j,e with
   | 0,e=>exact⟨_,rfl,l,rfl,by rw[<- Yi e];exact s1 _ _ hl⟩⟩⟩ (λj σ H2 _ h=>by obtain⟨_,_,_,_,e,_⟩:=h;exact SqL.of (e _ _ hi)) ?_ ?_⟩
  rotate_left
  .rintro σ H2 ⟨xs,v3,v4,rfl,s2,VM,hX⟩;rw[Xq,YM]at hX;refine OJ ?_;refine⟨_,rfl,?_⟩;rw[<- SH]at hX;exact q r xs H2 s2 hr VM hX
  rintro j v σ H2 hj ⟨xs,v3,v4,rfl,s2,VM,hX⟩;obtain⟨z,rfl,hz⟩:=UL hj;obtain⟨zF,z0,z1⟩:=Ts z (Xg hz);have sR:j<inc.length:=(Xp.mp hz).1
  refine nm ?_;dsimp only [List.set];refine⟨_,rfl,_,rfl,x,n,ps,I,O,F,inc,ld,fu,z,rfl,⟨dx,w,a,b,l,i,s2 _ _ hx,hW.same s2,SqK.same (k:=true) s2 hA,SqK.same (k:=true) s2 RZ,s2 _ _ hl,s2 _ _ hi⟩,hG,hF,zF,z0,z1,λtA ys H3 s3 ht0 Pu hY=>?_⟩;refine nm ?_;dsimp only [List.set];have Um:=s3 _ _ VM
  have Bi:F.length<=30:=by have:=hF.1.len;have:=hG.2.2.1;lia
  have xl:xs.length<=1000:=by
   rw[hX.1,YB];have h1:=d5 n ps I F (inc.take j) asc
   have h2:(inc.take j).length * F.length<=30 * 30:=Ld (by rw[Yy];grind) Bi;lia
  have yl:ys.length<=30:=by rw[hY.1,Yd];exact Yr (YH ..) (Yr (HE n ps F z F) Bi)
  have lG:VF n ps I F (inc.take (j+1)) asc=VF n ps I F (inc.take j) asc++VZ n ps I F (asc != (j % 2 == 1)) z:=by
   have e:inc.take (j+1)=inc.take j++[z]:=by rw[WD,hz];rfl
   have el:(inc.take j).length=j:=by rw[Yy];lia
   rw[e,o3,el]
  have flip:(!(asc != (j % 2 == 1)))=(asc != ((j+1) % 2 == 1)):=by rcases(by grind:j % 2=0/\(j+1) % 2=1\/j % 2=1/\(j+1) % 2=0) with ⟨a,b⟩ | ⟨a,b⟩ <;> rw[a,b] <;> cases asc <;> rfl
  have fin:∀(zs:List V) (H4:Hp),Same H3 H4->zs.length=ys.length->Bears (Xb H4) zs (VZ n ps I F (asc != (j % 2 == 1)) z)->Same H (upd H4 r (.lst (xs++zs)))/\Bears (Xb (upd H4 r (.lst (xs++zs)))) (xs++zs) (F :: VF n ps I F (inc.take (j+1)) asc):=λzs H4 s4 mD hZ=>by
   have Pw:=s4 _ _ Um;refine⟨ZE hr ((s2.trans s3).trans s4),?_⟩;rw[lG];have hX4:Bears (Xb H4) xs (F :: VF n ps I F (inc.take j) asc):=hX.imp λ_ _ h=>by obtain⟨c,e,hc⟩:=h;exact⟨c,e,(s3.trans s4) _ _ hc⟩
   exact(lI hX4 hZ).imp λ_ _ h=>by obtain⟨c,e,hc⟩:=h;exact⟨c,e,by rw[Zb (Qw hc Pw (by simp))];exact hc⟩
  refine⟨_,rfl,.inl ⟨rfl,_,SqL.of Um⟩,?_⟩;cases hb:(asc != (j % 2 == 1)) with
  | true =>
   rw[hb]at fin flip;refine⟨_,rfl,_,rfl,?_⟩;refine Ve ?_;refine⟨_,rfl,?_⟩;obtain⟨f1,f2⟩:=fin ys H3 (Same.refl _) rfl hY;refine⟨r,tA,xs,ys,rfl,rfl,Um,Pu,NV (by lia),?_⟩;refine⟨_,rfl,_,rfl,?_⟩;exact⟨xs++ys,_,_,by rw[<- flip];rfl,f1,XS,f2⟩
  | false =>
   rw[hb]at fin flip;refine⟨_,rfl,_,rfl,?_⟩;refine VJ ?_;refine⟨_,rfl,tA,ys,rfl,SqL.of Pu,λd hd=>?_⟩;have s4:=XH (o:=.lst ys.reverse) hd
   obtain⟨f1,f2⟩:=fin ys.reverse _ s4 (YK) (cz (hY.imp λ_ _ h=>by obtain⟨c,e,hc⟩:=h;exact⟨c,e,s4 _ _ hc⟩));refine⟨r,d,xs,ys.reverse,rfl,rfl,s4 _ _ Um,XS,NV (by rw[YK];omega),?_⟩;refine⟨_,rfl,_,rfl,?_⟩;exact⟨xs++ys.reverse,_,_,by rw[<- flip];rfl,f1,XS,f2⟩
def IB(K:Ad)(CP C Pt:Addr)(d:Nat):Sp:=λvs H Q _=>∃(x:Addr) (n:Int) (ps:Aa) (I O F inc:Ac) (ld fu:Option Int) (R:Ab) (size start stop:Int),vs=[.ref x,.int size,.int start,.int stop]/\PartAt K CP C H x n ps I O F inc ld fu/\PartOk n ps I O ld F inc fu/\Zv n ps/\Xk H Pt/\RowR n ps d I O ld R/\size=R.length/\0<=start/\stop<=size/\stop - start<=100000 /\
 ∀(r:Addr) (xs:List V) (H':Hp),SameX Pt H H'->Xk H' Pt->H r=none->H' r=some (.lst xs)->Bears (Xb H') xs ((R.drop start.toNat).take (stop - start).toNat)->Q (.ref r) H'
theorem lF(xs:List V){a b:Nat}(h2:b<=xs.length):WU xs (some (a:Int)) (some (b:Int))=(xs.drop a).take (b - a):=by
 have e1:HT.VC xs.length 0 (some (a:Int))=min a xs.length:=rfl;have e2:HT.VC xs.length xs.length (some (b:Int))=min b xs.length:=rfl
 unfold WU;rw[e1,e2,GO h2];rcases Nat.le_total a xs.length with c | c
 .rw[GO c]
 .rw[w9 c,xu (XM _),xu c,Al,Al]
theorem Zv8{α:Type}{R:V->α->Prop}{xs:List V}{l:List α}(h:Bears R xs l)(a b:Nat):Bears R ((xs.drop a).take b) ((l.drop a).take b):=by
 refine⟨by rw[Yy,Yy,VX,VX,h.1],λi x e=>?_⟩;rw[Ox]at e;by_cases c:i<b
 .rw[if_pos c,Lg]at e;obtain⟨v,hv,r⟩:=h.2 _ x e;exact⟨v,by rw[Ox,if_pos c,Lg];exact hv,r⟩
 .rw[if_neg c]at e;cases e
theorem lE{α:Type}(A B:List α){a b:Nat}(h:b<=A.length):((A++B).drop a).take (b - a)=(A.drop a).take (b - a):=by
 rcases Nat.le_total a A.length with c | c
 .rw[xD c,xE (by rw[VX];exact Nat.sub_le_sub_right h a)]
 .rw[Nat.sub_eq_zero_of_le (Yr h c),wU,wU]
theorem cy{α:Type}(B:List α){i k:Nat}(h:i+k<=B.length):((B.reverse).drop i).take k=((B.drop (B.length - i - k)).take k).reverse:=by rw[List.drop_reverse,List.take_reverse,Yy,GO (Nat.sub_le _ _),List.drop_take,Nat.sub_sub_self (Nat.le_sub_of_add_le' h)]
theorem lD{α:Type}(A B:List α){a b c:Nat}(hc:(a<=A.length/\c=A.length)\/(A.length<=a/\c=a))(lC:c<=b)(hb:b<=A.length+B.length):((A++B.reverse).drop a).take (b - a)=A.drop a++((B.drop (A.length+B.length - b)).take (b - c)).reverse:=by
 rcases hc with ⟨h,rfl⟩ | ⟨h,rfl⟩
 .rw[xD h,List.take_append,UE (by rw[VX];exact Nat.sub_le_sub_right lC a),VX,Nat.sub_sub_sub_cancel_right h]
  have:=cy B (i:=0) (k:=b - A.length) (by grind)
  rw[List.drop_zero]at this;rw[this,show B.length - 0 - (b - A.length)=A.length+B.length - b by grind]
 .rw[List.drop_append,xu h,Mp,Mp,cy B (by grind),show B.length - (c - A.length) - (b - c)=A.length+B.length - b by grind]
theorem lB{x y:Int}:∃ m,(if x<y then x else y)=m/\m<=x/\m<=y/\(x<y->m=x)/\(¬ x<y->m=y):=by
 by_cases c:x<y
 .exact⟨x,if_pos c,Mh _,La c,λ_=>rfl,λh=>absurd c h⟩
 .exact⟨y,if_neg c,GF.mp c,Mh _,λh=>absurd h c,λ_=>rfl⟩
theorem cx{H H2:Hp}{Pt r:Addr}{pos:Pos}{qual:Str}(t:TabH H2 Pt pos qual)(s:SameX Pt H H2)(h:H2 r=none):H r=none:=by
 cases e:H r with
 | none=>rfl
 | some o =>
  have XJ:r≠Pt:=λe'=>by obtain⟨p,h1,_⟩:=t;rw[<- e',h]at h1;cases h1
  rw[s _ _ XJ e]at h;cases h
theorem Pj:FnScope ["part","size","start","stop","first","middle","trees","turned"] ["part","size","start","stop"] (XA sZA):=⟨rfl,rfl,rfl,by decide +kernel,rfl,by decide +kernel,by decide +kernel⟩
theorem lz {Pt:Addr} (T:Txt K mg t) (hB:QJ K mg base t.dZt Pt) (d:Nat):FnOk P w K mg base Xf (11+d) t.aZA t.dZA ["part","size","start","stop"] (IB K t.A_Part t.A_Web Pt d):=by
 have key:∀(d k:Nat) (sp:Sp),FnOk P w K mg base Xf k t.aZA t.dZA ["part","size","start","stop"] sp->k<=10+d->(∀ e,d=e+1->sp=IB K t.A_Part t.A_Web Pt e)->FnOk P w K mg base Xf (11+d) t.aZA t.dZA ["part","size","start","stop"] (IB K t.A_Part t.A_Web Pt d):=by
  intro d k sp ih hk Ti;rw[show 11+d=10+d+1 by lia];refine T.fZA.ok Pj (λvs H Q E h=>?_) (λXz A outer s H vs Q E hr h=>?_)
  .obtain⟨x,n,ps,I,O,F,inc,ld,fu,R,size,start,stop,rfl,_⟩:=h;rfl
  .obtain⟨x,n,ps,I,O,F,inc,ld,fu,R,size,start,stop,rfl,SA,UU,hG,hT,hR,hsz,HH,JY,Og,q⟩:=h;refine⟨_,(XN (Wx (Zg FO (pv 2) (pv 3) (Zu _))
   (XF (Zk (TX XY)))
   Zp)
   (XN (Wx (Zg vR (Zm K (pv 0) rfl) Gu (Zu _))
   (XF (Zk (Vf (Vb K) (Za (Bj T) (hr.mono (by omega)) rfl T.mZz T.fZz.kp T.bZz .nil Zt (XZ (pv 0) XY)) (Qn (pv 2)) (Qn (pv 3)))))
   Zp)
   (XN (Zh (i:=4) Pj.nd rfl (Or.inl rfl) (Za (Bn T hB) (hr.mono (by omega)) rfl T.mZv T.fZv.kp T.bZv .nil Zt (XZ (pv 0) XY)))
   (XN (Zh (i:=5) Pj.nd rfl (Or.inl rfl) (Za (Bl T) (hr.mono (by omega)) rfl T.mZx T.fZx.kp T.bZx .nil Zt (XZ (pv 4) XY)))
   (XN (Zh (i:=6) Pj.nd rfl (Or.inl rfl) (Za ih (hr.mono (by omega)) rfl T.mZA T.fZA.kp T.bZA .nil Zt (XZ (pv 4) (XZ (pv 5) (XZ (pv 2) (XZ (Zd (zP rfl) (by rfl) T.n_min Boot.«min» (XZ (pv 3) (XZ (pv 5) XY))) XY))))))
   (XN (Wx (Zg RN (pv 3) (pv 5) (Zu _))
   (XN (Zh (i:=7) Pj.nd rfl (Or.inl rfl) (Za ih (hr.mono (by omega)) rfl T.mZA T.fZA.kp T.bZA .nil Zt (XZ (Za (Bm T hB) (hr.mono (by omega)) rfl T.mZw T.fZw.kp T.bZw .nil Zt (XZ (pv 0) XY)) (XZ (Zl Uz (pv 1) (pv 5)) (XZ (Zl Uz (pv 1) (pv 3)) (XZ (Zl Uz (pv 1) (Zd (zQ rfl) (by rfl) T.n_max Boot.«max» (XZ (pv 2) (XZ (pv 5) XY)))) XY))))))
   (XF (Wh (VH K YQ jG jH iL (pv 6) (XZ (g8 K rfl rfl T.n_list rfl T.n_reversed (XZ (pv 7) XY)) XY)))))
   Zp)
   (XF (Zk (pv 6))))))))),?_⟩
   obtain⟨dx,w0,a,b,l,i,hx,hW,hA,RZ,hl,hi⟩:=id SA;refine⟨_,rfl,_,rfl,_,_,rfl,rfl,_,rfl,?_⟩;refine WT (λPF=>?_) (λXi=>?_)
   .refine⟨Yn _,λr hr=>?_⟩;have s1:=XH (o:=.lst []) hr
    refine q r [] _ (SameX.same s1) (hT.same s1) hr XS ?_;rw[show(stop - start).toNat=0 by lia,wU];exact⟨rfl,λi l e=>by simp at e⟩
   show(_:Prop);refine OJ ?_;obtain⟨a0,rfl⟩:=QA HH;obtain⟨b0,rfl⟩:=QA (show 0<=stop by lia);have VN:a0<=b0:=by lia
   have ly:b0<=R.length:=by rw[hsz]at JY;exact Int.ofNat_le.mp JY
   have e0:((b0:Int) - (a0:Int)).toNat=b0 - a0:=Int.toNat_sub _ _;rw[Yv,e0]at q;subst hsz;refine⟨_,rfl,x,_,dx,_,Xe fu,rfl,hx,T.cl_Part,T.n_Part_further,rfl,rfl,_,rfl,?_⟩;cases hR with
   | und Wn Vn lx =>
    obtain⟨rfl,rfl,rfl⟩:=UU.uniq Wn;refine Ve ?_;refine⟨_,rfl,x,n,ps,I,O,F,inc,ld,none,rfl,SA,hG,UU.tr.1,Vn,lx,λr xs H1 s1 Vz VP hX=>?_⟩;have IZ:=hX.1
    refine⟨_,rfl,_,rfl,_,rfl,_,rfl,r,xs,rfl,SqL.of VP,λq1 cu=>?_⟩;rw[lF xs (by rw[IZ];exact ly)];have s2:=XH (o:=.lst ((xs.drop a0).take (b0 - a0))) cu
    have Wz:=s1.trans s2;refine q q1 _ _ (SameX.same Wz) (hT.same Wz) (s1.free cu) XS ?_;exact(Zv8 hX _ _).imp λ_ _ h=>by obtain⟨c,e,hc⟩:=h;exact⟨c,e,s2 _ _ hc⟩
   | div Wn hIn Xt Vm RY IA Iz y0 y1 lu xK xJ =>
    rename_i e F' WA z y A' B;obtain⟨rfl,rfl,rfl⟩:=UU.uniq Wn;have lr:=Ti e rfl
    subst lr;refine VJ ?_;show(_:Prop)
    refine OJ ?_;have Tx:=YT.mp hIn
    have Ph:I.Nodup:=Tx.1;have Pg:∀ v∈I,0<=v/\v<(ps.length:Int):=λv hv=>Xt v (Yb _ hv)
    have Pf:∀ v∈I,v∉O++[z]:=λv hv h=>(Xy.mp h).elim (Vm v (Yb _ hv)) λh=>Tx.2.2 v hv z (by simp) (XD.mp h);have SF:O.length<=30:=by rw[Xs,Yj]at RY;lia
    rw[Xs,YK]at ly;have QI:(((A'++B.reverse).length:Nat):Int)=(A'.length:Int)+B.length:=by rw[Xs,YK,Int.natCast_add]
    obtain⟨m,em,m1,m2,m3,m4⟩:=lB (x:=(A'.length:Int)) (y:=(b0:Int));refine⟨_,rfl,x,n,ps,I,O,F,inc,z,y,rfl,SA,hG,hT,Ph,Pg,Pf,RY,Iz,y0,y1,λx1 F1 SE Ja H1 Nn SI Hf Wm=>?_⟩;refine nm ?_;dsimp only [List.set];refine⟨_,rfl,x1,n,ps,I,O++[z],F1,SE,some y,Ja,rfl,SI,hG,Ph,Pg,RY,Pf,λc H2 hc s2=>?_⟩;have ec:=hc.uniq lu
    subst ec;refine nm ?_;dsimp only [List.set];have Tb:SameX Pt H H2:=Hf.trans (SameX.same s2)
    have Xj:=Wm.same s2;refine⟨_,rfl,_,rfl,_,rfl,_,rfl,_,rfl,_,_,rfl,?_⟩;refine⟨x1,n,ps,I,O++[z],F1,SE,some y,Ja,A',_,_,_,rfl,SI.samex Wm (SameX.same s2),Nn,hG,Xj,xK,rfl,HH,(by rw[em];exact m1),(by rw[em];exact RS (Int.sub_le_sub_right m2 _) Og),λr xs H3 Ta Wy Vz Um hX=>?_⟩;refine nm ?_;dsimp only [List.set];have Rc:=Tb.trans Ta
    have lq:H r=none:=cx Xj Tb Vz;rw[Yv,em]at hX;refine⟨_,rfl,_,rfl,_,_,rfl,rfl,_,rfl,?_⟩;refine WT (λcq=>?_) (λhle=>?_);rotate_left
    .show(_:Prop);refine OJ ?_;refine⟨_,rfl,?_⟩;have lp:¬ (A'.length:Int)<(b0:Int):=hle
     rw[m4 lp,e0]at hX;rw[lE A' B.reverse (by lia)]at q;exact q r xs H3 Rc Wy lq Um hX
    have Bh:(A'.length:Int)<(b0:Int):=cq;rw[m3 Bh,Int.toNat_sub,UE (by rw[VX];exact XM _)]at hX;clear m1 m2 m3 m4 em m;refine⟨_,rfl,x,n,ps,I,O,F,inc,z,y,rfl,SA.samex hT Rc,hG,Wy,hIn,Xt,Vm,SF,IA,y0,y1,λx2 F2 Px Ck H4 SD Uc UG Wl=>?_⟩;refine⟨_,rfl,_,rfl,_,_,rfl,rfl,_,rfl,_,rfl,_,_,rfl,rfl,_,rfl,_,rfl,_,rfl,_,_,rfl,_,_,rfl,rfl,?_⟩;obtain⟨c0,ec,BY,lC⟩:∃ c0:Nat,(if (A'.length:Int) > (a0:Int) then (A'.length:Int) else (a0:Int))=(c0:Int)/\((a0<=A'.length/\c0=A'.length)\/(A'.length<=a0/\c0=a0))/\c0<=b0:=by
     by_cases c:(A'.length:Int) > (a0:Int)
     .exact⟨A'.length,if_pos c,.inl ⟨Oq (Int.ofNat_lt.mp c),rfl⟩,Oq (Int.ofNat_lt.mp Bh)⟩
     .exact⟨a0,if_neg c,.inr ⟨Int.ofNat_le.mp (GF.mp c),rfl⟩,VN⟩
    rw[lD A' B BY lC ly]at q;have hAc:A'.length<=c0:=by rcases BY with h | h <;> lia
    have hac:a0<=c0:=by rcases BY with h | h <;> lia
    clear BY;refine⟨x2,n,ps,I++[z],O,F2,Px,some y,Ck,B,_,_,_,rfl,Uc,SD,hG,Wl,xJ,(by rw[QI];lia),(by rw[QI];lia),(by rw[ec,QI];lia),(by rw[ec,QI];lia),λr2 ys H5 Rg Pe hr20 lj hY=>?_⟩;refine nm ?_;dsimp only [List.set];have Pw:=UG _ _ (Wy.ne Um (by simp)) Um
    have Bg:=Rg _ _ (Wl.ne Pw (by simp)) Pw;have lh:=(Rc.trans UG).trans Rg
    have e2:((A'.length:Int)+B.length - (b0:Int)).toNat=A'.length+B.length - b0:=by grind
    have e3:((A'.length:Int)+B.length - (c0:Int) - ((A'.length:Int)+B.length - (b0:Int))).toNat=b0 - c0:=by grind
    rw[ec,QI,e2,e3]at hY;have IZ:xs.length<=100000:=by rw[hX.1,VX];lia
    have ye:ys.length<=100000:=by rw[hY.1,Yy];lia
    refine⟨_,rfl,.inl ⟨rfl,_,SqL.of Bg⟩,_,rfl,r2,ys,rfl,SqL.of lj,λdA hd=>?_⟩;have s6:=XH (o:=.lst ys.reverse) hd
    have OD:=s6 _ _ Bg;have z1:1000000<=sizeLine:=by decide
    refine⟨r,dA,xs,ys.reverse,rfl,rfl,OD,XS,(by rw[YK];lia),?_⟩;refine⟨_,rfl,?_⟩;refine q r (xs++ys.reverse) _ (λb o hb e=>?_) ((Pe.same s6).put OD) lq XS ?_
    .rw[Zb (Zc e lq)];exact s6 _ _ (lh _ _ hb e)
    .have f1:Bears (Xb (upd H5 dA (.lst ys.reverse))) xs (A'.drop a0):=hX.imp λ_ _ h=>by
      obtain⟨c,e,hc⟩:=h;have cn:=UG _ _ (Wy.ne hc (by simp)) hc
      exact⟨c,e,s6 _ _ (Rg _ _ (Wl.ne cn (by simp)) cn)⟩
     have f2:Bears (Xb (upd H5 dA (.lst ys.reverse))) ys.reverse ((B.drop (A'.length+B.length - b0)).take (b0 - c0)).reverse:=cz (hY.imp λ_ _ h=>by obtain⟨c,e,hc⟩:=h;exact⟨c,e,s6 _ _ hc⟩)
     exact(lI f1 f2).imp λ_ _ h=>by obtain⟨c,e,hc⟩:=h;exact⟨c,e,by rw[Zb (Qw hc OD (by simp))];exact hc⟩
 induction d with
 | zero=>exact key 0 0 _ dS (by lia) λe h=>(by cases h)
 | succ d ih=>exact key (d+1) (11+d) _ ih (by lia) λe h=>(by cases h;rfl)
def lg(N:Addr):Sp:=λvs H Q E=>∃ z:Int,vs=[.int z]/\-(10 ^ 70)<z/\z<10 ^ 70/\(0<=z->Q .non H)/\(z<0->E (.ref N) none H)
theorem k4:FnScope ["number"] ["number"] (XA sZB):=⟨rfl,rfl,rfl,by decide +kernel,rfl,by decide +kernel,by decide +kernel⟩
theorem kZ (T:Txt K mg t):FnOk P w K mg base (UX P w) 1 t.aZB t.dZB ["number"] (lg t.A_NoSuch):=by
 refine T.fZB.okX k4 (λvs H Q E h=>?_) (λXz A outer s H vs Q E hr h=>?_)
 .obtain⟨z,rfl,_⟩:=h;rfl
 .obtain⟨z,rfl,z0,z1,q,qe⟩:=h;refine⟨_,(XF (Wx (Zg RO (pv 0) XQ (Zu _))
   (XF (h8 T.x_NoSuch T.c_NoSuch (XZ (g9 (Em (pv 0) (En Eo))) XY)))
   Zp)),?_⟩
  refine⟨_,rfl,_,_,rfl,rfl,_,rfl,?_⟩;refine WT (λh=>?_) (λh=>?_)
  .exact⟨_,rfl,z,rfl,z0,z1,λx=>⟨by show 1<=sizeLine;decide,qe h⟩⟩
  .exact q (by omega)
def kY(K:Ad)(CP C Pt N:Addr):Sp:=λvs H Q E=>∃(w:Addr) (n:Int) (ps:Aa) (num most:Int) (R:Ab),vs=[.ref w,.int num,.int most]/\WebAt C H w n ps/\Zv n ps/\Xk H Pt/\-(10 ^ 70)<num/\num<10 ^ 70/\0<=most/\most<=100000/\((∃ U,Ze n ps U)->RowW n ps R)/\((∀ U,¬ Ze n ps U)->R=[]) /\
 (0<=num->∀(r:Addr) (xs:List V) (H':Hp),SameX Pt H H'->Xk H' Pt->H r=none->H' r=some (.lst xs)->Bears (Xb H') xs ((R.drop num.toNat).take most.toNat)->Q (.ref r) H')/\(num<0->E (.ref N) none H)
theorem Bf:FnScope ["web","number","most","size"] ["web","number","most"] (XA sZC):=⟨rfl,rfl,rfl,by decide +kernel,rfl,by decide +kernel,by decide +kernel⟩
theorem Rb {Pt:Addr} (T:Txt K mg t) (hB:QJ K mg base t.dZt Pt):FnOk P w K mg base (UX P w) 44 t.aZC t.dZC ["web","number","most"] (kY K t.A_Part t.A_Web Pt t.A_NoSuch):=by
 refine T.fZC.okX Bf (λvs H Q E h=>?_) (λXz A outer s H vs Q E hr h=>?_)
 .obtain⟨w,n,ps,num,most,R,rfl,_⟩:=h;rfl
 .obtain⟨w,n,ps,num,most,R,rfl,hW,hG,hT,n0,n1,m0,m1,cm,kX,q,qe⟩:=h;refine⟨_,(XN (Wh (Za (kZ T) (hr.mono (by decide)) rfl T.mZB T.fZB.kp T.bZB .nil ic (XZ (pv 1) XY)))
   (XN (Zh (i:=3) Bf.nd rfl (Or.inl rfl) (Za (MR T) (hr.mono (by decide)) rfl T.mZj T.fZj.kp T.bZj .nil Zt (XZ (pv 0) XY)))
   (XN (Wx (Zg FO (pv 1) (pv 3) (Zu _))
   (XF (Zk (TX XY)))
   Zp)
   (XF (Zk (Za (lz T hB 31) (hr.mono (by decide)) rfl T.mZA T.fZA.kp T.bZA .nil Zt (XZ (Za (Bo T hB) (hr.mono (by decide)) rfl T.mZu T.fZu.kp T.bZu .nil Zt (XZ (pv 0) XY)) (XZ (pv 3) (XZ (pv 1) (XZ (Zd (zP rfl) (by rfl) T.n_min Boot.«min» (XZ (Zl ZW (pv 1) (pv 2)) (XZ (pv 3) XY))) XY)))))))))),?_⟩
  refine⟨_,rfl,num,rfl,n0,n1,λnp=>?_,qe⟩;have q:=q np
  refine⟨_,rfl,w,n,ps,rfl,hW,hG,λc H1 hc s1=>?_⟩;refine nm ?_;dsimp only [List.set];have QI:R.length=c:=by
   by_cases hex:∃ U,Ze n ps U
   .obtain⟨_,_,_,_,_,_,_,_,h⟩:=cm hex;exact h.uniq hc
   .have Sm:∀ U,¬ Ze n ps U:=λU hU=>hex ⟨U,hU⟩;rw[kX Sm,(eN hc).mpr Sm];rfl
  refine⟨_,rfl,_,rfl,_,_,rfl,rfl,_,rfl,?_⟩;refine WT (λPF=>?_) (λXi=>?_)
  .refine⟨Yn _,λr hr=>?_⟩;have s2:=XH (o:=.lst []) hr
   have Wz:=s1.trans s2;refine q r [] _ (SameX.same Wz) (hT.same Wz) (s1.free hr) XS ?_;rw[Ll (by omega),Al];exact⟨rfl,λi l e=>by simp at e⟩
  show(_:Prop);refine OJ ?_;obtain⟨U0,MO⟩:∃ U,Ze n ps U:=Yz λno=>by
   have:=(eN hc).mpr λU hU=>no ⟨U,hU⟩
   omega
  obtain⟨ld,F,inc,fu,UU,hn,hs,Ly,_⟩:=cm ⟨U0,MO⟩;have Wm:=hT.same s1
  refine⟨_,rfl,w,n,ps,rfl,hW.same s1,hG,Wm,⟨U0,MO⟩,λx F' WA Lz LB H2 Wn TY OQ SA Tb Xj=>?_⟩;have eF:F'=F:=Te (UU.least F' Wn.tr) (Wn.least F UU.tr)
  subst eF;have el:=dI TY OQ hn hs
  subst el;refine⟨_,rfl,_,rfl,_,rfl,_,rfl,_,_,rfl,rfl,_,rfl,_,_,rfl,?_⟩;refine⟨x,n,ps,[],[],F',WA,Lz,LB,R,_,_,_,rfl,SA,Wn,hG,Xj,Ly,by omega,np,(by split <;> omega),(by split <;> omega),λr xs H3 Ta Wy Vz Um hX=>?_⟩
  have e1:((R.drop num.toNat).take ((if (c:Int)<num+most then (c:Int) else num+most) - num).toNat)=(R.drop num.toNat).take most.toNat:=by rw[List.take_eq_take_iff,VX];split <;> omega
  rw[e1]at hX;exact q r xs H3 ((SameX.same s1).trans (Tb.trans Ta)) Wy (cx Xj ((SameX.same s1).trans Tb) Vz) Um hX
def kW(K:Ad)(CP C Pt N:Addr):Sp:=λvs H Q E=>∃(w:Addr) (n:Int) (ps:Aa) (num:Int) (R:Ab),vs=[.ref w,.int num]/\WebAt C H w n ps/\Zv n ps/\Xk H Pt/\-(10 ^ 70)<num/\num<10 ^ 70/\RowW n ps R /\
 (0<=num->num<R.length->∀(r:Addr) (T:Ac) (H':Hp),R[num.toNat]?=some T->SameX Pt H H'->Xk H' Pt->H' r=some (.tup (IL T))->Q (.ref r) H')/\((num<0\/(R.length:Int)<=num)->∀ H':Hp,SameX Pt H H'->Xk H' Pt->E (.ref N) none H')
theorem Be{R:Ab}{j:Nat}{T:Ac}(h:R[j]?=some T):(R.drop j).take 1=[T]:=by have hj:=(Xp.mp h);rw[jJ hj.1,hj.2];rfl
theorem Bc:FnScope ["web","number","trees"] ["web","number"] (XA sZD):=⟨rfl,rfl,rfl,by decide +kernel,rfl,by decide +kernel,by decide +kernel⟩
theorem kT {Pt:Addr} (T:Txt K mg t) (hB:QJ K mg base t.dZt Pt):FnOk P w K mg base (UX P w) 45 t.aZD t.dZD ["web","number"] (kW K t.A_Part t.A_Web Pt t.A_NoSuch):=by
 refine T.fZD.okX Bc (λvs H Q E h=>?_) (λXz A outer s H vs Q E hr h=>?_)
 .obtain⟨w,n,ps,num,R,rfl,_⟩:=h;rfl
 .obtain⟨w,n,ps,num,R,rfl,hW,hG,hT,n0,n1,hR,q,qe⟩:=h;refine⟨_,(XN (Zh (i:=2) Bc.nd rfl (Or.inl rfl) (Za (Rb T hB) (hr.mono (by decide)) rfl T.mZC T.fZC.kp T.bZC .nil ic (XZ (pv 0) (XZ (pv 1) (XZ XQ XY)))))
   (XN (Wx (Zg Qq (Zd (Zn K) (by rfl) T.n_len Boot.«len» (XZ (pv 2) XY)) XQ (Zu _))
   (XF (h8 T.x_NoSuch T.c_NoSuch (XZ (g9 (En (Em (pv 1) Eo))) XY)))
   Zp)
   (XF (Zk (ZQ (Zi K) (pv 2) XQ (λ_ _=>rfl)))))),?_⟩
  obtain⟨ld,F,inc,fu,UU,_,_,_,He⟩:=id hR;refine⟨_,rfl,_,rfl,w,n,ps,num,1,R,rfl,hW,hG,hT,n0,n1,by decide,by decide,λ_=>hR,λno=>absurd UU.tr.1 (no F),λnp r xs H1 Hf Wm Vz VP hX=>?_,λh=>qe (.inl h) H (SameX.same (Same.refl _)) hT⟩;refine nm ?_;dsimp only [List.set];refine⟨_,rfl,r,xs,rfl,.inl (SqL.of VP),rfl,_,rfl,?_⟩;rw[ZA];by_cases Xi:num<R.length
  .obtain⟨U,hU⟩:∃ U,R[num.toNat]?=some U:=⟨_,Xr (by omega)⟩;rw[show(1:Int).toNat=1 from rfl,Be hU]at hX;obtain⟨v,hv,c,rfl,hc⟩:=hX.2 0 U rfl;have hl:xs.length=1:=hX.1
   refine WT (λh0=>by omega) (λ_=>?_);show(_:Prop)
   refine OJ ?_;exact⟨_,rfl,r,xs,0,.ref c,rfl,rfl,SqL.of VP,ZK (n:=0) rfl hv,q np Xi c U H1 hU Hf Wm hc⟩
  .rw[Ll (by omega),Al]at hX;have hl:xs.length=0:=hX.1
   refine WT (λ_=>?_) (λh0=>by omega);exact⟨_,rfl,num,rfl,n0,n1,λx=>⟨by show 1<=sizeLine;decide,qe (.inr (by omega)) H1 Hf Wm⟩⟩
def Iy(K:Ad)(CP C Pt:Addr)(d:Nat):Sp:=λvs H Q _=>∃(x a:Addr) (n:Int) (ps:Aa) (I O F inc T:Ac) (ld fu:Option Int) (R:Ab) (size:Int),vs=[.ref x,.int size,.ref a]/\PartAt K CP C H x n ps I O F inc ld fu/\PartOk n ps I O ld F inc fu/\Zv n ps/\Xk H Pt/\RowR n ps d I O ld R/\size=R.length/\SqT K H a (IL T)/\T∈R /\
 ∀(j:Nat) (H':Hp),R[j]?=some T->SameX Pt H H'->Xk H' Pt->Q (.int j) H'
theorem Iw:FnScope ["part","size","tree","first","middle"] ["part","size","tree"] (XA sZE):=⟨rfl,rfl,rfl,by decide +kernel,rfl,by decide +kernel,by decide +kernel⟩
theorem kR {Pt:Addr} (T:Txt K mg t) (hB:QJ K mg base t.dZt Pt) (d:Nat):FnOk P w K mg base Xf (11+d) t.aZE t.dZE ["part","size","tree"] (Iy K t.A_Part t.A_Web Pt d):=by
 have key:∀(d k:Nat) (sp:Sp),FnOk P w K mg base Xf k t.aZE t.dZE ["part","size","tree"] sp->k<=10+d->(∀ e,d=e+1->sp=Iy K t.A_Part t.A_Web Pt e)->FnOk P w K mg base Xf (11+d) t.aZE t.dZE ["part","size","tree"] (Iy K t.A_Part t.A_Web Pt d):=by
  intro d k sp ih hk Ti;rw[show 11+d=10+d+1 by lia];refine T.fZE.ok Iw (λvs H Q E h=>?_) (λXz A outer s H vs Q E hr h=>?_)
  .obtain⟨x,a,n,ps,I,O,F,inc,U,ld,fu,R,size,rfl,_⟩:=h;rfl
  .obtain⟨x,ta,n,ps,I,O,F,inc,U,ld,fu,R,size,rfl,SA,UU,hG,hT,hR,hsz,yg,hU,q⟩:=h;refine⟨_,(XN (Wx (Zg vR (Zm K (pv 0) rfl) Gu (Zu _))
   (XF (Zk (VH K YQ jC jD (ZT7 K (JX hr)) (Za (Bj T) (hr.mono (by omega)) rfl T.mZz T.fZz.kp T.bZz .nil Zt (XZ (pv 0) XY)) (XZ (pv 2) XY))))
   Zp)
   (XN (Zh (i:=3) Iw.nd rfl (Or.inl rfl) (Za (Bn T hB) (hr.mono (by omega)) rfl T.mZv T.fZv.kp T.bZv .nil Zt (XZ (pv 0) XY)))
   (XN (Zh (i:=4) Iw.nd rfl (Or.inl rfl) (Za (Bl T) (hr.mono (by omega)) rfl T.mZx T.fZx.kp T.bZx .nil Zt (XZ (pv 3) XY)))
   (XN (Wx (Zg (tV K) (Zm K (pv 0) rfl) (pv 2) rfl)
   (XF (Zk (Zl Uz (Zl Uz (pv 1) XQ) (Za ih (hr.mono (by omega)) rfl T.mZE T.fZE.kp T.bZE .nil Zt (XZ (Za (Bm T hB) (hr.mono (by omega)) rfl T.mZw T.fZw.kp T.bZw .nil Zt (XZ (pv 0) XY)) (XZ (Zl Uz (pv 1) (pv 4)) (XZ (pv 2) XY)))))))
   Zp)
   (XF (Zk (Za ih (hr.mono (by omega)) rfl T.mZE T.fZE.kp T.bZE .nil Zt (XZ (pv 3) (XZ (pv 4) (XZ (pv 2) XY)))))))))),?_⟩
   obtain⟨dx,w0,a,b,l,i,hx,hW,hA,RZ,hl,hi⟩:=id SA;refine⟨_,rfl,x,_,dx,_,Xe fu,rfl,hx,T.cl_Part,T.n_Part_further,rfl,rfl,_,rfl,?_⟩;have cg:=Ci hG hR
   cases hR with
   | und Wn Vn lx =>
    obtain⟨rfl,rfl,rfl⟩:=UU.uniq Wn;refine Ve ?_;refine⟨_,rfl,x,n,ps,I,O,F,inc,ld,none,rfl,SA,hG,UU.tr.1,Vn,lx,λr xs H1 s1 Vz VP hX=>?_⟩;obtain⟨e,j,c,h1,h2,h3,h4,h5⟩:=ZD7 (K:=K) hX (SqK.same (k:=true) s1 yg) hU;refine⟨.inl ⟨rfl,_,SqL.of VP⟩,_,rfl,1,r,xs,.ref ta,e,j,c,rfl,rfl,VP,by decide,h1,h2,h3,h4,?_⟩;exact q j H1 h5 (SameX.same s1) (hT.same s1)
   | div Wn hIn Xt Vm RY IA Iz y0 y1 lu xK xJ =>
    rename_i e F' WA z y A' B;obtain⟨rfl,rfl,rfl⟩:=UU.uniq Wn;have lr:=Ti e rfl
    subst lr;refine VJ ?_;show(_:Prop)
    refine OJ ?_;have Tx:=YT.mp hIn
    have Ph:I.Nodup:=Tx.1;have Pg:∀ v∈I,0<=v/\v<(ps.length:Int):=λv hv=>Xt v (Yb _ hv)
    have Pf:∀ v∈I,v∉O++[z]:=λv hv h=>(Xy.mp h).elim (Vm v (Yb _ hv)) λh=>Tx.2.2 v hv z (by simp) (XD.mp h);have SF:O.length<=30:=by rw[Xs,Yj]at RY;lia
    have QI:size=(A'.length:Int)+B.length:=by rw[hsz,Xs,YK];lia
    refine⟨_,rfl,x,n,ps,I,O,F,inc,z,y,rfl,SA,hG,hT,Ph,Pg,Pf,RY,Iz,y0,y1,λx1 F1 SE Ja H1 Nn SI Hf Wm=>?_⟩;refine nm ?_;dsimp only [List.set];refine⟨_,rfl,x1,n,ps,I,O++[z],F1,SE,some y,Ja,rfl,SI,hG,Ph,Pg,RY,Pf,λc H2 hc s2=>?_⟩;have ec:=hc.uniq lu
    subst ec;refine nm ?_;dsimp only [List.set];have Tb:SameX Pt H H2:=Hf.trans (SameX.same s2)
    have Xj:=Wm.same s2;have Er:=Tb _ _ (hT.ne hx (by simp)) hx
    have Iv:SqT K H2 ta (IL U):=SqK.samex (kd:=true) yg hT Tb;refine⟨_,rfl,x,_,dx,_,.int z,rfl,Er,T.cl_Part,T.n_Part_lead,rfl,_,rfl,ta,_,rfl,.inr Iv,rfl,ZT _,_,rfl,?_⟩;rw[NP];refine WT (λhz=>?_) (λhz=>?_)
    .have hUB:U∈B:=by
      rcases Xy.mp hU with h | h
      .exact absurd hz ((Ci hG xK U h).2.2 z (by simp))
      .exact Ie.mp h
     refine⟨_,rfl,_,_,rfl,rfl,_,rfl,x,n,ps,I,O,F,inc,z,y,rfl,SA.samex hT Tb,hG,Xj,hIn,Xt,Vm,SF,IA,y0,y1,λx2 F2 Px Ck H4 SD Uc UG Wl=>?_⟩;refine⟨_,rfl,_,rfl,_,_,rfl,rfl,_,rfl,?_⟩;refine⟨x2,ta,n,ps,I++[z],O,F2,Px,U,some y,Ck,B,_,rfl,Uc,SD,hG,Wl,xJ,by lia,SqK.samex (kd:=true) Iv Xj UG,hUB,λj H5 hj Rg Pe=>?_⟩;have NO:=(Xp.mp hj).1
     refine⟨_,_,rfl,rfl,?_⟩;have e:size - 1 - (j:Int)=((A'.length+(B.length - 1 - j):Nat):Int):=by grind
     show Q (.int (size - 1 - (j:Int))) H5;rw[e];refine q _ H5 ?_ ((Tb.trans UG).trans Rg) Pe;rw[Yq (by lia),Lk (by lia),show B.length - 1 - (A'.length+(B.length - 1 - j) - A'.length)=j by lia];exact hj
    .have hUA:U∈A':=by
      rcases Xy.mp hU with h | h
      .exact h
      .exact absurd ((Ci hG xJ U (Ie.mp h)).2.1 z (by simp)) hz
     show(_:Prop);refine OJ ?_;refine⟨_,rfl,_,rfl,_,rfl,?_⟩;refine⟨x1,ta,n,ps,I,O++[z],F1,SE,U,some y,Ja,A',_,rfl,SI.samex Wm (SameX.same s2),Nn,hG,Xj,xK,rfl,Iv,hUA,λj H3 hj Ta Wy=>?_⟩;refine q j H3 ?_ (Tb.trans Ta) Wy;rw[Ys (Xp.mp hj).1];exact hj
 induction d with
 | zero=>exact key 0 0 _ dS (by lia) λe h=>(by cases h)
 | succ d ih=>exact key (d+1) (11+d) _ ih (by lia) λe h=>(by cases h;rfl)
def kQ(K:Ad)(CP C Pt:Addr):Sp:=λvs H Q _=>∃(w a:Addr) (n:Int) (ps:Aa) (U:Ac) (R:Ab),vs=[.ref w,.ref a]/\WebAt C H w n ps/\Zv n ps/\Xk H Pt/\SqT K H a (IL U)/\Ze n ps U/\RowW n ps R/\U∈R /\
 ∀(j:Nat) (H':Hp),R[j]?=some U->SameX Pt H H'->Xk H' Pt->Q (.int j) H'
theorem kP:FnScope ["web","tree"] ["web","tree"] (XA sZF):=⟨rfl,rfl,rfl,by decide +kernel,rfl,by decide +kernel,by decide +kernel⟩
theorem kO {Pt:Addr} (T:Txt K mg t) (hB:QJ K mg base t.dZt Pt):FnOk P w K mg base Xf 44 t.aZF t.dZF ["web","tree"] (kQ K t.A_Part t.A_Web Pt):=by
 refine T.fZF.ok kP (λvs H Q E h=>?_) (λXz A outer s H vs Q E hr h=>?_)
 .obtain⟨w,a,n,ps,U,R,rfl,_⟩:=h;rfl
 .obtain⟨w,a,n,ps,U,R,rfl,hW,hG,hT,hA,hU,⟨ld,F,inc,fu,UU,hn,hs,Ly,He⟩,hUR,q⟩:=h;refine⟨_,(XN (Wh (Za (BJ T) (hr.mono (by decide)) rfl T.mZm T.fZm.kp T.bZm .nil Zt (XZ (pv 0) (XZ (pv 1) XY))))
   (XF (Zk (Za (kR T hB 31) (hr.mono (by decide)) rfl T.mZE T.fZE.kp T.bZE .nil Zt (XZ (Za (Bo T hB) (hr.mono (by decide)) rfl T.mZu T.fZu.kp T.bZu .nil Zt (XZ (pv 0) XY)) (XZ (Za (MR T) (hr.mono (by decide)) rfl T.mZj T.fZj.kp T.bZj .nil Zt (XZ (pv 0) XY)) (XZ (Zs (ZI K) (by rfl) T.n_tuple Boot.«tuple» (XZ (pv 1) XY)) XY))))))),?_⟩
  refine⟨_,rfl,_,rfl,w,a,n,ps,true,U,rfl,hW,hG,hA,λ_ H1 s1=>?_,λh=>absurd hU h⟩;have Wm:=hT.same s1
  refine⟨_,rfl,w,n,ps,rfl,hW.same s1,hG,Wm,⟨U,hU⟩,λx F' WA Lz LB H2 Wn TY OQ SA Tb Xj=>?_⟩;have eF:F'=F:=Te (UU.least F' Wn.tr) (Wn.least F UU.tr)
  subst eF;have el:=dI TY OQ hn hs
  subst el;have ML:SameX Pt H H2:=(SameX.same s1).trans Tb
  refine⟨_,rfl,w,n,ps,rfl,hW.samex hT ML,hG,λc H3 hc s3=>?_⟩;have ec:=hc.uniq He
  have Rc:=ML.trans (SameX.same s3);have Wy:=Xj.same s3
  have ND:SqT K H3 a (IL U):=SqK.samex (kd:=true) hA hT Rc;refine⟨_,rfl,a,_,rfl,.inr ⟨ND,?_⟩⟩;exact⟨x,a,n,ps,[],[],F',WA,U,Lz,LB,R,_,rfl,SA.samex Xj (SameX.same s3),Wn,hG,Wy,Ly,by rw[ec],ND,hUR,λj H4 hj UG Wl=>q j H4 hj (Rc.trans UG) Wl⟩
def kN(K:Ad):Sp:=λvs H Q _=>∃(a:Addr) (ns:Ac) (k:Int),vs=[.ref a,.int k]/\SqL K H a (IL ns)/\0<=k/\∀ r:Int,Q (.int r) H
theorem kM:FnScope ["script","k"] ["script","k"] (XA sZG):=⟨rfl,rfl,rfl,by decide +kernel,rfl,by decide +kernel,by decide +kernel⟩
theorem Ul (T:Txt K mg t):FnOk P w K mg base Xf 1 t.aZG t.dZG ["script","k"] (kN K):=by
 refine T.fZG.ok kM (λvs H Q E h=>?_) (λXz A outer s H vs Q E hr h=>?_)
 .obtain⟨a,ns,k,rfl,_⟩:=h;rfl
 .obtain⟨a,ns,k,rfl,hS,hk,q⟩:=h;refine⟨_,(XN (Wx (Zg RO (pv 1) (Zd (Zn K) (by rfl) T.n_len Boot.«len» (XZ (pv 0) XY)) (Zu _))
   (XF (Zk (ZQ (Zi K) (pv 0) (pv 1) (λ_ _=>rfl))))
   Zp)
   (XF (Zk XQ))),?_⟩
  refine⟨_,rfl,_,rfl,a,_,rfl,.inl hS,_,_,rfl,rfl,_,rfl,?_⟩;refine Fc (λhc=>?_) (λ_=>?_)
  .have hc:=Yu hc;rw[Xq]at hc;obtain⟨z,hz⟩:∃ z,ns[k.toNat]?=some z:=⟨_,Xr (by lia)⟩;exact⟨_,rfl,_,rfl,a,_,k,.int z,rfl,rfl,hS,ZK (n:=k.toNat) (by lia) (by rw[Yp,hz];rfl),q z⟩
  .exact q 0
def kJ:Sp:=λvs H Q _=>∃(c k:Int),vs=[.int c,.int k]/\0<=k/\k<1000000000/\∀ r:Int,0<=r->Q (.int r) H
theorem Iu:FnScope ["cell","k","big"] ["cell","k"] (XA sZH):=⟨rfl,rfl,rfl,by decide +kernel,rfl,by decide +kernel,by decide +kernel⟩
theorem Sz (T:Txt K mg t):FnOk P w K mg base Xf 1 t.aZH t.dZH ["cell","k"] kJ:=by
 refine T.fZH.ok Iu (λvs H Q E h=>?_) (λXz A outer s H vs Q E hr h=>?_)
 .obtain⟨c,k,rfl,_⟩:=h;rfl
 .obtain⟨c,k,rfl,k0,k1,q⟩:=h;refine⟨_,(XN (Zh (i:=2) Iu.nd rfl (Or.inl rfl) (Zl DR (Zl ZW (Zl ZF (pv 0) (Zl VL XQ XQ)) XQ) (Zl ZW XQ (Zl DR (Zl DR XQ (pv 1)) (pv 1)))))
   (XN (Zh (i:=2) Iu.nd rfl (Or.inl rfl) (Zl ZW (pv 2) (Zl DR XQ (pv 1))))
   (XF (Zk (Zl ZF (Zl DR (pv 2) (pv 2)) (Zl ZW (Zl VL XQ XQ) XQ)))))),?_⟩
  have a0:0<=c % 10 ^ (60:Int).toNat:=YL _ (by decide);have a1:c % 10 ^ (60:Int).toNat<10 ^ 60:=YJ _ (by decide)
  have b:=gF (M:=10 ^ 20) (N:=10 ^ 20) (a:=2 * k) (b:=k) (by lia) (by lia) k0 (by lia);have d:=gF (M:=10 ^ 70) (N:=10 ^ 70) (a:=c % 10 ^ (60:Int).toNat+3) (b:=16180339887498948482045868343656381177203+2 * k * k) (by lia) (by lia) (by grind) (by omega)
  refine⟨_,rfl,_,_,rfl,rfl,⟨by decide,by decide,by decide⟩,_,_,rfl,rfl,(by show(0:Int)<10 ^ 60;decide),_,_,rfl,rfl,_,rfl,_,_,rfl,rfl,⟨⟨by decide,by decide⟩,by lia,by lia⟩,_,rfl,_,_,rfl,rfl,⟨⟨by lia,by lia⟩,by omega,by omega⟩,_,_,rfl,rfl,_,_,rfl,rfl,⟨⟨by lia,by lia⟩,by omega,by omega⟩,?_⟩;refine⟨_,rfl,_,rfl,_,_,rfl,rfl,⟨⟨by decide,by decide⟩,by omega,by omega⟩,_,_,rfl,rfl,?_⟩;refine⟨_,rfl,_,rfl,_,_,rfl,rfl,⟨⟨by omega,by omega⟩,by omega,by omega⟩,_,_,rfl,rfl,⟨by decide,by decide,by decide⟩,_,_,rfl,rfl,_,_,rfl,rfl,(by show(0:Int)<10 ^ 60+33;decide),?_⟩;exact q _ (YL _ (by decide))
def kI(K:Ad):Sp:=λvs H Q _=>∃(a:Addr) (ns:Ac) (size:Int),vs=[.ref a,.int size]/\SqL K H a (IL ns)/\0<=size/\size<=200 /\
 ∀(l:Addr) (L:Ac) (H':Hp),Same H H'->H' l=some (.lst (IL L))->(L.length:Int)=size->(∀ z∈L,0<=z)->Q (.ref l) H'
theorem Sy:FnScope ["script","size","rest","told","k"] ["script","size"] (XA sZI):=⟨rfl,rfl,rfl,by decide +kernel,rfl,by decide +kernel,by decide +kernel⟩
theorem kH (T:Txt K mg t):FnOk P w K mg base Xf 2 t.aZI t.dZI ["script","size"] (kI K):=by
 refine T.fZI.ok Sy (λvs H Q E h=>?_) (λXz A outer s H vs Q E hr h=>?_)
 .obtain⟨a,ns,size,rfl,_⟩:=h;rfl
 .obtain⟨a,ns,size,rfl,hS,s0,s2,q⟩:=h;refine⟨_,(XN (Zh (i:=2) Sy.nd rfl (Or.inl rfl) (Zl ZF (Za (Ul T) (hr.mono (by decide)) rfl T.mZG T.fZG.kp T.bZG .nil Zt (XZ (pv 0) (XZ XQ XY))) (Zl VL XQ XQ)))
   (XN (Zh (i:=3) Sy.nd rfl (Or.inl rfl) (TX XY))
   (XN (SQ Ww rfl (HR rfl T.n_range (XZ (pv 1) XY)) (Zf (i:=4) Sy.nd rfl (Or.inl rfl))
   (XN (Wx (Zg Qq (pv 4) XQ (Zu _))
   (XF (Zh (i:=2) Sy.nd rfl (Or.inl rfl) (Zl ZF (Za (Ul T) (hr.mono (by decide)) rfl T.mZG T.fZG.kp T.bZG .nil Zt (XZ (pv 0) (XZ XQ XY))) (Zl VL XQ XQ))))
   Zp)
   (XN (Wx (Zg Qq (pv 2) XQ (Zu _))
   (XF (Zh (i:=2) Sy.nd rfl (Or.inl rfl) (Za (Sz T) (hr.mono (by decide)) rfl T.mZH T.fZH.kp T.bZH .nil Zt (XZ (Za (Ul T) (hr.mono (by decide)) rfl T.mZG T.fZG.kp T.bZG .nil Zt (XZ (pv 0) (XZ XQ XY))) (XZ XQ XY)))))
   Zp)
   (XN (Wh (VH K YQ Hc Hd Fm (pv 3) (XZ (Zl ZF (pv 2) XQ) XY)))
   (XF (Zh (i:=2) Sy.nd rfl (Or.inl rfl) (Zl OT (pv 2) XQ)))))))
   (XF (Zk (pv 3)))))),?_⟩
  refine⟨_,rfl,a,ns,2,rfl,hS,by decide,λc1=>⟨_,_,rfl,rfl,⟨by decide,by decide,by decide⟩,_,_,rfl,rfl,(by show(0:Int)<10 ^ 60;decide),?_⟩⟩;refine nm ?_;dsimp only;refine⟨Yn _,λtd MK=>?_⟩;have u0:=XH (o:=.lst []) MK
  have k0:=XS (H:=H) (a:=td) (o:=.lst []);generalize upd H td (.lst [])=H0 at *;refine nm ?_;dsimp only;refine⟨_,rfl,_,rfl,by lia,by omega,i9 (lo:=0) (n:=size.toNat) (λi σ H2=>∃(L:Ac) (rs:Int) (v4:Option V),σ=[some (.ref a),some (.int size),some (.int rs),some (.ref td),v4]/\Same H H2/\H2 td=some (.lst (IL L))/\L.length=i/\∀ z∈L,0<=z) ⟨[],_,_,rfl,u0,k0,rfl,λz h=>(by cases h)⟩ ?_ ?_⟩
  .rintro i σ H2 hi ⟨L,rs,v4,rfl,s2,h2,hl,hp⟩;refine nm ?_;dsimp only;refine PD (λσ H3=>∃ Ir:Int,H3=H2/\σ=[some (.ref a),some (.int size),some (.int Ir),some (.ref td),some (.int (0+(i:Int)))]) ?_ ?_
   .rintro σ H3 ⟨Ir,rfl,rfl⟩;refine PD (λσ H4=>∃ Ir:Int,H4=H3/\σ=[some (.ref a),some (.int size),some (.int Ir),some (.ref td),some (.int (0+(i:Int)))]) ?_ ?_
    .rintro σ H4 ⟨Ir,rfl,rfl⟩;refine⟨_,rfl,.inl ⟨rfl,_,SqL.of h2⟩,_,rfl,_,_,rfl,rfl,(by show(0:Int)<12;decide),td,_,_,rfl,rfl,h2,Zo (by rw[Xq];lia),?_⟩;refine⟨_,rfl,_,_,rfl,rfl,⟨by decide,by decide⟩,?_⟩;refine⟨L++[Ir % 12],_,_,rfl,ZE MK s2,by rw[XS,ZY],by rw[Xs,Yj,hl],λz hz=>?_⟩;rcases Xy.mp hz with e | e
     .exact hp z e
     .rw[XD.mp e];exact YL _ (by decide)
    .intro Kn hK;refine⟨_,rfl,rfl,_,rfl,?_⟩;rw[ZA];refine WT (λ_=>?_) (λ_=>hK _ _ ⟨Ir,rfl,rfl⟩);exact⟨_,rfl,a,ns,2,rfl,s2.seq hS,by decide,λc3=>⟨c3,38,rfl,by decide,by decide,λr3 _=>hK _ _ ⟨r3,rfl,rfl⟩⟩⟩
   .intro Kn hK;refine⟨_,rfl,rfl,_,rfl,?_⟩;rw[ZA];refine WT (λ_=>?_) (λ_=>hK _ _ ⟨rs,rfl,rfl⟩);exact⟨_,rfl,a,ns,3,rfl,s2.seq hS,by decide,λc3=>⟨_,_,rfl,rfl,⟨by decide,by decide,by decide⟩,_,_,rfl,rfl,(by show(0:Int)<10 ^ 60;decide),hK _ _ ⟨_,rfl,rfl⟩⟩⟩
  .rintro σ H2 ⟨L,rs,v4,rfl,s2,h2,hl,hp⟩;exact⟨_,rfl,q td L H2 s2 h2 (by lia) hp⟩
def kG(K:Ad):Sp:=λvs H Q _=>∃(a:Addr) (ns:Ac) (size:Int),vs=[.ref a,.int size]/\SqL K H a (IL ns)/\ns.length<=63/\1<=size/\size<=200 /\
 ∀(l:Addr) (L:Ac) (H':Hp),Same H H'->H' l=some (.lst (IL L))->(L.length:Int)=size->(∀ z∈L,0<=z)->Q (.ref l) H'
theorem Pd:FnScope ["script","size","told","k","cell","at"] ["script","size"] (XA sZJ):=⟨rfl,rfl,rfl,by decide +kernel,rfl,by decide +kernel,by decide +kernel⟩
theorem kF (T:Txt K mg t):FnOk P w K mg base Xf 2 t.aZJ t.dZJ ["script","size"] (kG K):=by
 refine T.fZJ.ok Pd (λvs H Q E h=>?_) (λXz A outer s H vs Q E hr h=>?_)
 .obtain⟨a,ns,size,rfl,_⟩:=h;rfl
 .obtain⟨a,ns,size,rfl,hS,hn,s0,s2,q⟩:=h;refine⟨_,(XN (NX (i:=2) rfl Pd.nd rfl rfl (sc0:=XA sZJ) (N0:=["script","size","told","k","cell","at"]) (N':=["k","script"]) (o:=1) (fr:=[0]) ⟨rfl,by decide +kernel,by decide +kernel,by decide +kernel,rfl,by decide +kernel⟩ (HR rfl T.n_range (XZ (pv 1) XY)) (Zz (by decide)) (λ_ _ _ _=>(Zf (i:=0) (show List.Nodup (["k","script"]:List Str) by decide +kernel) rfl (Or.inl rfl))) (λ_ _ _ _=>QS) (λ_ _ _ _=>(Za (Sz T) (hr.mono (by decide)) rfl T.mZH T.fZH.kp T.bZH .nil Zt (XZ (Zl ZW (pv 0) (Zl FQ XQ (Zd (Zn K) (by rfl) T.n_len Boot.«len» (XZ (pv 1) XY)))) (XZ XQ XY)))))
   (XN (SQ Ww rfl (LZ K rfl T.n_enumerate (XZ (Vf (Vb K) (pv 0) (Qn XQ) Oc) XY)) (QO (n:=2) K rfl (Zr (Zf (i:=3) Pd.nd rfl (Or.inl rfl)) (Zr (Zf (i:=4) Pd.nd rfl (Or.inl rfl)) QV)))
   (XN (Zh (i:=5) Pd.nd rfl (Or.inl rfl) (Zl ZF (pv 3) (pv 1)))
   (XF (Gd (Za (Sz T) (hr.mono (by decide)) rfl T.mZH T.fZH.kp T.bZH .nil Zt (XZ (Zl ZW (ZQ (Zi K) (pv 2) (pv 5) (λ_ _=>rfl)) (Zl ZF (pv 4) (Zl VL XQ XQ))) (XZ (Zl ZF (pv 3) XQ) XY))) (wa (pv 2) (pv 5) Fu)))))
   (XF (Zk (Sn rfl (sc0:=XA sZJ) (N0:=["script","size","told","k","cell","at"]) (N':=["m"]) (o:=1) (fr:=[]) ⟨rfl,by decide +kernel,by decide +kernel,by decide +kernel,rfl,by decide +kernel⟩ (Va K (pv 2)) (Zz (by decide)) (λ_ _ _ _=>(Zf (i:=0) (show List.Nodup (["m"]:List Str) by decide +kernel) rfl (Or.inl rfl))) (λ_ _ _ _=>QS) (λ_ _ _ _=>(Zl ZF (Zl OT (pv 0) XQ) XQ))))))),?_⟩
  refine⟨_,rfl,_,rfl,by lia,by lia,NS (lo:=0) (n:=size.toNat) (λi ys H3=>H3=H/\∃ L:Ac,ys=IL L/\L.length=i) ⟨rfl,[],rfl,rfl⟩ (Zo (by lia)) (λi ys H3 _ ⟨_,L,e,l⟩=>by rw[e,Xq,l];exact XM _) ?_ ?_⟩
  .rintro i ys H3 hi ⟨rfl,L,rfl,hl⟩ S Xc;refine⟨_,rfl,_,rfl,a,_,rfl,.inl hS,_,_,rfl,rfl,.inl ⟨by decide,by decide⟩,_,_,rfl,rfl,_,40,rfl,by decide,by decide,λm m0=>?_⟩;exact Xc _ _ ⟨rfl,L++[m],by rw[ZY],by rw[Xs,Yj,hl]⟩
  .rintro ys H3 ⟨rfl,L,rfl,hl⟩ td MK;have u0:=XH (o:=.lst (IL L)) MK
   have k0:=XS (H:=H3) (a:=td) (o:=.lst (IL L));generalize hH0:upd H3 td (.lst (IL L))=H0 at *;clear hH0;refine nm ?_;dsimp only;refine⟨_,rfl,_,rfl,a,_,rfl,u0.seq hS,λp1 Vj=>?_⟩;rw[NI];have cl:(RA ns (some 3) none).length<=63:=by
    have:=Fz (IL ns) (some 3) none
    rw[NI,Xq,Xq]at this;lia
   generalize RA ns (some 3) none=cs at *;have u1:=XH (o:=.lst (IL cs)) Vj
   have US:p1≠td:=λe=>by rw[e,k0]at Vj;cases Vj
   refine⟨p1,rfl,⟨_,SqL.of XS⟩,zB (K:=K) (a:=p1) (xs:=IL cs) (λi σ H2=>∃(L:Ac) (v3 v4 v5:Option V),σ=[some (.ref a),some (.int size),some (.ref td),v3,v4,v5]/\Same H3 H2/\H2 p1=some (.lst (IL cs))/\H2 td=some (.lst (IL L))/\(L.length:Int)=size) ⟨L,none,none,none,rfl,u0.trans u1,XS,u1 _ _ k0,by grind⟩ (λi σ H2 _ ⟨_,_,_,_,_,_,e,_⟩=>SqL.of e) ?_ ?_⟩
   .rintro i v σ H2 pt kE hi ⟨L,v3,v4,v5,rfl,kD,Wj,h2,Sr⟩;obtain⟨c,rfl,hc⟩:=UL hi;have hi63:=(Xp.mp hc).1
    have u2:=XH (o:=.tup [.int i,.int c]) kE;refine⟨pt,_,rfl,SqT.of XS,rfl,_,_,rfl,_,_,rfl,rfl,?_⟩;have Ng:=u2 _ _ Wj
    have h3:=u2 _ _ h2;have s3:=kD.trans u2
    generalize upd H2 pt (.tup [.int i,.int c])=H4 at *;have at0:0<=(i:Int) % size:=YL _ (by lia)
    have DY:(i:Int) % size<size:=YJ _ (by grind);obtain⟨z,hz⟩:∃ z,L[((i:Int) % size).toNat]?=some z:=⟨_,Xr (by lia)⟩;refine⟨_,rfl,_,rfl,_,_,rfl,rfl,(by show(0:Int)<size;omega),?_⟩;refine⟨_,rfl,_,rfl,td,_,(i:Int) % size,.int z,rfl,rfl,SqL.of h3,ZK (n:=((i:Int) % size).toNat) (by lia) (Ue hz),_,rfl,_,_,rfl,rfl,⟨by decide,by decide,by decide⟩,_,_,rfl,rfl,(by show(0:Int)<10 ^ 60;decide),_,_,rfl,rfl,_,rfl,_,_,rfl,rfl,(by show(0:Int)<37;decide),_,_,rfl,YL _ (by decide),Int.lt_trans (YJ _ (by decide)) (by decide),λm' m0'=>?_⟩;refine⟨_,rfl,_,rfl,td,_,_,((i:Int) % size).toNat,rfl,rfl,h3,?_,?_⟩
    .unfold OS;rw[Xq,if_pos (by lia),if_pos (by grind)]
    .refine⟨L.set ((i:Int) % size).toNat m',_,_,_,rfl,ZE MK s3,by rw[Zb US];exact Ng,by rw[XS,t4],by rw[SV];exact Sr⟩
   .rintro σ H2 ⟨L,v3,v4,v5,rfl,kD,Wj,h2,Sr⟩;refine⟨_,rfl,td,rfl,⟨_,SqL.of h2⟩,NU (K:=K) (a:=td) (xs:=IL L) (λi ys H4=>H4=H2/\∃ M:Ac,ys=IL M/\M.length=i/\∀ z∈M,0<=z) ⟨rfl,[],rfl,rfl,λz h=>(by cases h)⟩ (Zo (by rw[Xq];lia)) (λi ys H4 _ ⟨e,M,ey,l,_⟩=>⟨e ▸ SqL.of h2,by rw[ey,Xq,l];exact XM _⟩) ?_ ?_⟩
    .rintro i v ys H4 hi ⟨rfl,M,rfl,hm,hp⟩ S Xc;obtain⟨c,rfl,hc⟩:=UL hi;refine⟨_,rfl,_,_,rfl,rfl,⟨by decide,by decide⟩,_,_,rfl,rfl,(by show(0:Int)<1000;decide),?_⟩;refine Xc _ _ ⟨rfl,M++[c / 8 % 1000],by rw[ZY],by rw[Xs,Yj,hm],λz hz=>?_⟩;rcases Xy.mp hz with e | e
     .exact hp z e
     .rw[XD.mp e];exact YL _ (by decide)
    .rintro ys H4 ⟨rfl,M,rfl,hm,hp⟩ p Lx;exact q p M _ (kD.trans (XH Lx)) XS (by rw[Xq]at hm;lia) hp
def kC(K:Ad):Sp:=λvs H Q _=>∃(a:Addr) (ns:Ac),vs=[.ref a]/\SqL K H a (IL ns)/\∀ b:Bool,Q (.bl b) H
theorem kB:FnScope ["script"] ["script"] (XA sZK):=⟨rfl,rfl,rfl,by decide +kernel,rfl,by decide +kernel,by decide +kernel⟩
theorem Bb (T:Txt K mg t):FnOk P w K mg base Xf 2 t.aZK t.dZK ["script"] (kC K):=by
 refine T.fZK.ok kB (λvs H Q E h=>?_) (λXz A outer s H vs Q E hr h=>?_)
 .obtain⟨a,ns,rfl,_⟩:=h;rfl
 .obtain⟨a,ns,rfl,hS,q⟩:=h;refine⟨_,(XF (Zk (Kp Qq (Zl ZF (Zl OT (Zl ZF (Za (Ul T) (hr.mono (by decide)) rfl T.mZG T.fZG.kp T.bZG .nil Zt (XZ (pv 0) (XZ XQ XY))) (Zl VL XQ XQ)) (Zl VL XQ XQ)) XQ) XQ (Zu _)))),?_⟩;refine⟨_,rfl,a,ns,0,rfl,hS,by decide,λc=>⟨_,_,rfl,rfl,⟨by decide,by decide,by decide⟩,_,_,rfl,rfl,(by show(0:Int)<10 ^ 30;decide),_,_,rfl,rfl,⟨by decide,by decide,by decide⟩,_,_,rfl,rfl,⟨by decide,by decide⟩,_,_,rfl,rfl,(by show(0:Int)<8;decide),rfl,q _⟩⟩
def ky(K:Ad):Sp:=λvs H Q _=>∃(a:Addr) (ns:Ac) (most:Int),vs=[.ref a,.int most]/\SqL K H a (IL ns)/\ns.length<=63 /\
 ∀(r:Addr) (cs:Ac) (H':Hp),Same H H'->H' r=some (.lst (IL cs))->cs.length<=64->Q (.ref r) H'
theorem kx:FnScope ["script","most"] ["script","most"] (XA sZL):=⟨rfl,rfl,rfl,by decide +kernel,rfl,by decide +kernel,by decide +kernel⟩
theorem ku (T:Txt K mg t):FnOk P w K mg base Xf 3 t.aZL t.dZL ["script","most"] (ky K):=by
 refine T.fZL.ok kx (λvs H Q E h=>?_) (λXz A outer s H vs Q E hr h=>?_)
 .obtain⟨a,ns,most,rfl,_⟩:=h;rfl
 .obtain⟨a,ns,most,rfl,hS,hn,q⟩:=h;refine⟨_,(XN (Wx (OU (Za (Bb T) (hr.mono (by decide)) rfl T.mZK T.fZK.kp T.bZK .nil Zt (XZ (pv 0) XY)))
   (XF (Zk (TX (XZ (Za (Ul T) (hr.mono (by decide)) rfl T.mZG T.fZG.kp T.bZG .nil Zt (XZ (pv 0) (XZ XQ XY))) XY))))
   Zp)
   (XF (Zk (Zl Fi (TX (XZ XQ XY)) (Vf (Vb K) (pv 0) Oc (Qn (pv 1))))))),?_⟩
  refine⟨_,rfl,a,ns,rfl,hS,λb=>⟨_,rfl,?_⟩⟩;have one:1<=sizeLine:=by decide
  refine tX (λ_=>?_) (λ_=>?_)
  .refine⟨_,rfl,a,ns,2,rfl,hS,by decide,λc=>⟨one,λr hr=>?_⟩⟩;exact q r [c] _ (XH hr) XS (by show 1<=64;decide)
  .refine⟨one,λp1 Vj=>?_⟩;have u1:=XH (o:=.lst (IL [0])) Vj
   refine⟨_,rfl,_,rfl,_,rfl,a,_,rfl,u1.seq hS,λp2 Wj=>?_⟩;rw[NI];have cl:(RA ns none (some most)).length<=63:=by
    have:=Fz (IL ns) none (some most)
    rw[NI,Xq,Xq]at this;lia
   generalize RA ns none (some most)=cs at *;have u2:=XH (o:=.lst (IL cs)) Wj
   refine⟨p1,p2,_,_,rfl,rfl,u2 _ _ XS,XS,NV (by rw[Xq];show 1+_<=_;lia),λp3 Ng=>?_⟩;have u3:=XH (o:=.lst (IL [0]++IL cs)) Ng
   refine q p3 ([0]++cs) _ (u1.trans (u2.trans u3)) ?_ (by rw[Xs];show 1+_<=_;lia);rw[XS,ET];rfl
def kq(K:Ad):Sp:=λvs H Q _=>∃(a:Addr) (ns:Ac),vs=[.ref a]/\SqL K H a (IL ns)/\ns.length<=63 /\
 ∀(r l:Addr) (n:Int) (xs:List V) (ps:Aa) (H':Hp),Same H H'->H' r=some (.tup [.int n,.ref l])->H l=none->H' l=some (.lst xs)->PairsV H' xs ps->Zv n ps->2<=n->DU n ps->Q (.ref r) H'
def Iq(n:Int)(p:Int × Int):Prop:=0<=p.1/\p.1<n/\0<=p.2/\p.2<n
def xH(n:Int)(P:Int × Int->Prop):Prop:=∀ j:Nat,(j:Int)+1<n->∃ p,P p/\p.2=(j:Int)+1/\0<=p.1/\p.1<(j:Int)+1
theorem ko{n:Int}{ps:Aa}(h:xH n λp=>p∈ps):DU n ps:=by
 have key:∀(m i:Nat),i<=m->i<n.toNat->Conn (CV ps) i 0:=by
  intro m
  induction m with
  | zero=>intro i hi _;rw[show i=0 by lia];exact .refl _
  | succ m ih =>
   intro i hi hn;by_cases c:i=0
   .rw[c];exact .refl _
   obtain⟨p,hp,e,p0,p1⟩:=h (i - 1) (by grind);have c2:=ih p.1.toNat (by lia) (by grind)
   have ed:Conn (CV ps) p.1.toNat p.2.toNat:=.edge (YC.mpr ⟨p,hp,rfl⟩);rw[show i=p.2.toNat by grind];exact ed.symm.trans c2
 exact Rq.mpr λi j hi hj=>(key i i (XM _) hi).trans (key j j (XM _) hj).symm
theorem km{rs:Aa}{i:Nat}{g p:Int × Int}(h:rs[i]?=some g)(hp:p∈rs):p∈rs.eraseIdx i\/p=g:=by
 obtain⟨hi,e⟩:=Xp.mp h;rw[List.eraseIdx_eq_take_drop_succ];rw[<- List.take_append_drop i rs,jJ hi,e,Xy,Yg]at hp;rw[Xy];rcases hp with q | q | q
 .exact .inl (.inl q)
 .exact .inr q
 .exact .inl (.inr q)
theorem kj{n:Int}{ps:Aa}{g:Int × Int}(h:∀ p∈ps,Iq n p)(hg:Iq n g):∀ p∈ps++[g],Iq n p:=λp hp=>by
 rcases Xy.mp hp with e | e
 .exact h p e
 .rw[XD.mp e];exact hg
theorem VO:FnScope ["script","head","count","more","numbers","ties","k","told","m"] ["script"] (XA sZM):=⟨rfl,rfl,rfl,by decide +kernel,rfl,by decide +kernel,by decide +kernel⟩
theorem ki (T:Txt K mg t):FnOk P w K mg base Xf 4 t.aZM t.dZM ["script"] (kq K):=by
 refine T.fZM.ok VO (λvs H Q E h=>?_) (λXz A outer s H vs Q E hr h=>?_)
 .obtain⟨a,ns,rfl,_⟩:=h;rfl
 .obtain⟨a,ns,rfl,hS,MJ,q⟩:=h;refine⟨_,(XN (Zh (i:=1) VO.nd rfl (Or.inl rfl) (Zl ZF (Za (Ul T) (hr.mono (by decide)) rfl T.mZG T.fZG.kp T.bZG .nil Zt (XZ (pv 0) (XZ XQ XY))) (Zl VL XQ XQ)))
   (XN (Zh (i:=2) VO.nd rfl (Or.inl rfl) (Zl ZW XQ (Zl ZF (pv 1) XQ)))
   (XN (Zh (i:=3) VO.nd rfl (Or.inl rfl) (Zl ZF (Zl OT (pv 1) XQ) XQ))
   (XN (Wx (OU (Za (Bb T) (hr.mono (by decide)) rfl T.mZK T.fZK.kp T.bZK .nil Zt (XZ (pv 0) XY)))
   (XN (Zh (i:=2) VO.nd rfl (Or.inl rfl) (Zl ZW XQ (Zl ZF (pv 1) XQ)))
   (XF (Zh (i:=3) VO.nd rfl (Or.inl rfl) (Zl ZF (Zl OT (pv 1) XQ) (Zl Uz XQ (pv 2))))))
   Zp)
   (XN (Zh (i:=4) VO.nd rfl (Or.inr rfl) (Za (kF T) (hr.mono (by decide)) rfl T.mZJ T.fZJ.kp T.bZJ .nil Zt (XZ (pv 0) (XZ (Zl FQ XQ (Zl ZW (pv 2) (pv 3))) XY))))
   (XN (Wx (Zg Qq (Zl ZF (Za (Ul T) (hr.mono (by decide)) rfl T.mZG T.fZG.kp T.bZG .nil Zt (XZ (pv 0) (XZ XQ XY))) XQ) XQ (Zu _))
   (XF (Zh (i:=4) VO.nd rfl (Or.inr rfl) (Za (kH T) (hr.mono (by decide)) rfl T.mZI T.fZI.kp T.bZI .nil Zt (XZ (pv 0) (XZ (Zl FQ XQ (Zl ZW (pv 2) (pv 3))) XY)))))
   Zp)
   (XN (NX (i:=5) rfl VO.nd rfl rfl (sc0:=XA sZM) (N0:=["script","head","count","more","numbers","ties","k","told","m"]) (N':=["k","numbers"]) (o:=1) (fr:=[4]) ⟨rfl,by decide +kernel,by decide +kernel,by decide +kernel,rfl,by decide +kernel⟩ (HR rfl T.n_range (XZ (Zl Uz (pv 2) XQ) XY)) (Zz (by decide)) (λ_ _ _ _=>(Zf (i:=0) (show List.Nodup (["k","numbers"]:List Str) by decide +kernel) rfl (Or.inl rfl))) (λ_ _ _ _=>QS) (λ_ _ _ _=>(SO (XZ (Zl ZF (ZQ (Zi K) (pv 1) (pv 0) (λ_ _=>rfl)) (Zl ZW (pv 0) XQ)) (XZ (Zl ZW (pv 0) XQ) XY)))))
   (XN (SQ Ww rfl (HR rfl T.n_range (XZ (pv 3) XY)) (Zf (i:=6) VO.nd rfl (Or.inl rfl))
   (XF (Wh (VH K YQ Hc Hd Fm (pv 5) (XZ (SO (XZ (Zl ZF (ZQ (Zi K) (pv 4) (Zl ZW (pv 2) (Zl FQ XQ (pv 6))) (λ_ _=>rfl)) (pv 2)) (XZ (Zl ZF (ZQ (Zi K) (pv 4) (Zl ZW (Zl ZW (pv 2) (Zl FQ XQ (pv 6))) XQ) (λ_ _=>rfl)) (pv 2)) XY))) XY)))))
   (XN (Zh (i:=7) VO.nd rfl (Or.inl rfl) (TX XY))
   (XN (Zh (i:=8) VO.nd rfl (Or.inl rfl) (Za (Sz T) (hr.mono (by decide)) rfl T.mZH T.fZH.kp T.bZH .nil Zt (XZ (Zl ZF (Za (Ul T) (hr.mono (by decide)) rfl T.mZG T.fZG.kp T.bZG .nil Zt (XZ (pv 0) (XZ XQ XY))) (Zl VL XQ XQ)) (XZ XQ XY))))
   (XN (jg Ww (Zg RN (Zd (Zn K) (by rfl) T.n_len Boot.«len» (XZ (pv 5) XY)) XQ (Zu _))
   (XN (Zh (i:=8) VO.nd rfl (Or.inl rfl) (Za (Sz T) (hr.mono (by decide)) rfl T.mZH T.fZH.kp T.bZH .nil Zt (XZ (pv 8) (XZ XQ XY))))
   (XF (Wh (VH K YQ Hc Hd Fm (pv 7) (XZ (VH K YQ jv jw iK (pv 5) (XZ (Zl ZF (Zl OT (pv 8) XQ) (Zd (Zn K) (by rfl) T.n_len Boot.«len» (XZ (pv 5) XY))) XY)) XY))))))
   (XF (Zk (SO (XZ (pv 2) (XZ (pv 7) XY)))))))))))))))),?_⟩
  have two:2<=sizeLine:=by decide
  refine⟨_,rfl,a,ns,0,rfl,hS,by decide,λc1=>⟨_,_,rfl,rfl,⟨by decide,by decide,by decide⟩,_,_,rfl,rfl,(by show(0:Int)<10 ^ 30;decide),?_⟩⟩;refine nm ?_;dsimp only;obtain⟨hd,ehd⟩:∃ hd,hd=c1 % 10 ^ (30:Int).toNat:=⟨_,rfl⟩;rw[<- ehd];refine⟨_,rfl,_,_,rfl,rfl,(by show(0:Int)<7;decide),_,_,rfl,rfl,?_⟩;refine⟨_,rfl,_,_,rfl,rfl,⟨by decide,by decide⟩,_,_,rfl,rfl,(by show(0:Int)<12;decide),?_⟩;refine nm ?_;dsimp only [List.set];refine PD (λσ H1=>∃ n mo:Int,H1=H/\2<=n/\n<=12/\0<=mo/\n - 1+mo<=30/\σ=[some (.ref a),some (.int hd),some (.int n),some (.int mo),none,none,none,none,none]) ?_ ?_;rotate_left
  .intro Kn hK;refine⟨_,rfl,a,ns,rfl,hS,λb=>⟨_,rfl,?_⟩⟩;have a0:=YL hd (show(7:Int)≠0 by decide)
   have a1:=YJ hd (show(0:Int)<7 by decide);have b0:=YL (hd / 11) (show(12:Int)≠0 by decide)
   have b1:=YJ (hd / 11) (show(0:Int)<12 by decide);have d0:=YL hd (show(11:Int)≠0 by decide)
   have d1:=YJ hd (show(0:Int)<11 by decide);have e0:=YL (hd / 11) (show 32 - (2+hd % 11)≠0 by lia)
   have e1:=YJ (hd / 11) (show 0<32 - (2+hd % 11) by grind);refine tX (λ_=>?_) (λ_=>hK _ _ ⟨_,_,rfl,by grind,by grind,b0,by lia,rfl⟩);refine⟨_,rfl,_,_,rfl,rfl,(by show(0:Int)<11;decide),_,_,rfl,rfl,?_⟩;refine⟨_,rfl,_,_,rfl,rfl,⟨by decide,by decide⟩,_,rfl,_,_,rfl,rfl,_,_,rfl,rfl,(by show(0:Int)<32 - (2+hd % 11);omega),?_⟩;exact hK _ _ ⟨_,_,rfl,by grind,by grind,e0,by grind,rfl⟩
  rintro σ H1 ⟨n,mo,rfl,n2,n12,m0,nm30,rfl⟩;refine⟨_,rfl,_,rfl,_,rfl,_,_,rfl,rfl,_,_,rfl,rfl,.inl ⟨by decide,by decide⟩,a,ns,_,rfl,hS,MJ,by lia,by lia,λnl L H2 s2 Lr Hk Ce=>?_⟩;refine nm ?_;dsimp only [List.set];refine PD (λσ H3=>∃(nl:Addr) (L:Ac),Same H1 H3/\H3 nl=some (.lst (IL L))/\(L.length:Int)=2 * (n+mo)/\(∀ z∈L,0<=z)/\σ=[some (.ref a),some (.int hd),some (.int n),some (.int mo),some (.ref nl),none,none,none,none]) ?_ ?_;rotate_left
  .intro Kn hK;refine⟨_,rfl,a,ns,1,rfl,s2.seq hS,by decide,λc2=>⟨_,_,rfl,rfl,(by show(0:Int)<2;decide),rfl,_,rfl,?_⟩⟩;rw[ZA];refine WT (λ_=>?_) (λ_=>hK _ _ ⟨nl,L,s2,Lr,Hk,Ce,rfl⟩);exact⟨_,rfl,_,rfl,_,rfl,_,_,rfl,rfl,_,_,rfl,rfl,.inl ⟨by decide,by decide⟩,a,ns,_,rfl,s2.seq hS,by lia,by lia,λdl M H3 s3 yC Sa hM0=>hK _ _ ⟨dl,M,s2.trans s3,yC,Sa,hM0,rfl⟩⟩
  clear Lr Hk Ce s2;rintro σ H3 ⟨nl,L,s3,Lr,Hk,Ce,rfl⟩;have at_:∀ i:Int,0<=i->i<2 * (n+mo)->∃ z,Wg (IL L) i=some (.int z):=λi i0 i1=>by obtain⟨z,hz⟩:∃ z,L[i.toNat]?=some z:=⟨_,Xr (by lia)⟩;exact⟨z,ZK (n:=i.toNat) (by lia) (Ue hz)⟩
  refine⟨_,rfl,_,_,rfl,rfl,_,rfl,by lia,by lia,NS (lo:=0) (n:=(n - 1).toNat) (λi ys H4=>Same H3 H4/\∃ ps:Aa,PairsV H4 ys ps/\ps.length=i/\(∀ p∈ps,Iq n p)/\xH ((i:Int)+1) λp=>p∈ps) ⟨Same.refl _,[],PairsV.nil,rfl,λp h=>(by cases h),λj h=>absurd h (by lia)⟩ (Zo (by lia)) (λi ys H4 _ ⟨_,ps,hP,l,_⟩=>by rw[hP.1,l];exact XM _) ?_ ?_⟩
  .rintro i ys H4 hi ⟨s4,ps,hP,hl,hok,MG⟩ S Xc;obtain⟨z,hz⟩:=at_ (0+(i:Int)) (by lia) (by grind);have z0:=YL z (show 0+(i:Int)+1≠0 by lia)
   have z1:=YJ z (show 0<0+(i:Int)+1 by lia);refine⟨_,rfl,_,rfl,nl,_,_,_,rfl,rfl,SqL.of (s4 _ _ Lr),hz,_,rfl,_,_,rfl,rfl,_,_,rfl,rfl,(by show 0<0+(i:Int)+1;omega),_,rfl,_,_,rfl,rfl,two,λtp JG=>?_⟩;have u5:=XH (o:=.tup [.int (z % (0+(i:Int)+1)),.int (0+(i:Int)+1)]) JG
   refine Xc _ _ ⟨s4.trans u5,ps++[(z % (0+(i:Int)+1),0+(i:Int)+1)],(hP.same u5).snoc ⟨tp,rfl,XS⟩,by rw[Xs,Yj,hl],kj hok ⟨z0,by show z % (0+(i:Int)+1)<n;grind,by show 0<=0+(i:Int)+1;lia,by show 0+(i:Int)+1<n;grind⟩,λj hj=>?_⟩;by_cases c:j=i
   .exact⟨_,Yc _ (XD.mpr rfl),by show 0+(i:Int)+1=_;lia,z0,by show z % (0+(i:Int)+1)<_;lia⟩
   .obtain⟨p,h1,h2⟩:=MG j (by lia);exact⟨p,Yb _ h1,h2⟩
  rintro xG H4 ⟨s4,ps0,yh,QK,kh,Ba⟩ tA Pu;have MT:H1 tA=none:=s3.free (s4.free Pu)
  have u5:=XH (o:=.lst xG) Pu;have k5:=XS (H:=H4) (a:=tA) (o:=.lst xG)
  have hP5:=yh.same u5;have s5:=s3.trans (s4.trans u5)
  have kg:=u5 _ _ (s4 _ _ Lr);have nt:nl≠tA:=λe=>by rw[e,s4.free Pu]at Lr;cases Lr
  generalize upd H4 tA (.lst xG)=H5 at *;refine nm ?_;dsimp only [List.set];have elk:((n - 1).toNat:Int)+1=n:=by grind
  rw[elk]at Ba;refine⟨_,rfl,_,rfl,by lia,by lia,i9 (lo:=0) (n:=mo.toNat) (λi σ H6=>∃(xs:List V) (ps:Aa) (v6:Option V),σ=[some (.ref a),some (.int hd),some (.int n),some (.int mo),some (.ref nl),some (.ref tA),v6,none,none]/\Same H1 H6/\H6 nl=some (.lst (IL L))/\H6 tA=some (.lst xs)/\PairsV H6 xs ps/\ps.length=(n - 1).toNat+i/\(∀ p∈ps,Iq n p)/\xH n λp=>p∈ps) ⟨xG,ps0,none,rfl,s5,kg,k5,hP5,by lia,kh,Ba⟩ ?_ ?_⟩
  .rintro i σ H6 hi ⟨xs,ps,v6,rfl,s6,MF,k6,hP,hl,hok,MG⟩;refine nm ?_;dsimp only [List.set];obtain⟨x,hx⟩:=at_ (n+2 * (0+(i:Int))) (by lia) (by lia);obtain⟨y,hy⟩:=at_ (n+2 * (0+(i:Int))+1) (by lia) (by lia);have np:(0:Int)<n:=by lia
   have x0:=YL x (show n≠0 by lia);have x1:=YJ x np
   have y0:=YL y (show n≠0 by lia);have y1:=YJ y np
   refine⟨_,rfl,.inl ⟨rfl,_,SqL.of k6⟩,_,rfl,_,rfl,_,rfl,_,_,rfl,rfl,.inl ⟨by decide,by decide⟩,_,_,rfl,rfl,nl,_,_,_,rfl,rfl,SqL.of MF,hx,_,rfl,_,_,rfl,rfl,np,_,rfl,_,rfl,_,rfl,_,_,rfl,rfl,.inl ⟨by decide,by decide⟩,_,_,rfl,rfl,_,_,rfl,rfl,nl,_,_,_,rfl,rfl,SqL.of MF,hy,_,rfl,_,_,rfl,rfl,np,two,λtp JG=>?_⟩;have u7:=XH (o:=.tup [.int (x % n),.int (y % n)]) JG
   have k7:=u7 _ _ k6;refine⟨tA,xs,_,rfl,rfl,k7,Zo (by rw[hP.1];lia),?_⟩;refine⟨_,ps++[(x % n,y % n)],_,rfl,ZE MT (s6.trans u7),by rw[Zb nt];exact u7 _ _ MF,XS,((hP.same u7).snoc ⟨tp,rfl,XS⟩).mut k7,by rw[Xs,Yj,hl];lia,kj hok ⟨x0,x1,y0,y1⟩,λj hj=>?_⟩;obtain⟨p,h1,h2⟩:=MG j hj;exact⟨p,Yb _ h1,h2⟩
  rintro σ H6 ⟨xs,ps,v6,rfl,s6,MF,k6,hP,hl,hok,MG⟩;refine⟨Yn _,λtd MK=>?_⟩;have u7:=XH (o:=.lst []) MK
  have k7:=XS (H:=H6) (a:=td) (o:=.lst []);have cf:=u7 _ _ k6
  have rt:tA≠td:=Zc k6 MK;have cb:=hP.same u7
  have s7:=s6.trans u7;have AZ:H1 td=none:=s6.free MK
  generalize upd H6 td (.lst [])=H7 at *;refine nm ?_;dsimp only [List.set];refine⟨_,rfl,a,ns,1,rfl,s7.seq hS,by decide,λc3=>⟨_,_,rfl,rfl,⟨by decide,by decide,by decide⟩,_,_,rfl,rfl,(by show(0:Int)<10 ^ 60;decide),_,44,rfl,by decide,by decide,λm m0'=>?_⟩⟩;refine nm ?_;dsimp only [List.set];refine⟨λk σ H8=>∃(xs ys:List V) (rs ts:Aa) (mm:Int),σ=[some (.ref a),some (.int hd),some (.int n),some (.int mo),some (.ref nl),some (.ref tA),v6,some (.ref td),some (.int mm)]/\Same H1 H8/\H8 tA=some (.lst xs)/\PairsV H8 xs rs/\H8 td=some (.lst ys)/\PairsV H8 ys ts/\rs.length=k/\ts.length+k<=30/\(∀ p∈rs,Iq n p)/\(∀ p∈ts,Iq n p)/\xH n λp=>p∈rs\/p∈ts,
   ⟨ps.length,xs,[],ps,[],m,rfl,s7,cf,cb,k7,PairsV.nil,rfl,by show 0+_<=30;lia,hok,λp h=>(by cases h),λj hj=>by obtain⟨p,h1,h2⟩:=MG j hj;exact⟨p,.inl h1,h2⟩⟩,?_⟩
  clear hP hl hok MG cb cf k6;rintro k σ H8 ⟨xs,ys,rs,ts,mm,rfl,s8,kr,hP,kt,hT,hrk,vG,b9,Ct,MG⟩;have xl:=hP.1
  have yl:=hT.1;refine⟨_,rfl,tA,xs,rfl,.inl (SqL.of kr),_,_,rfl,rfl,_,rfl,?_⟩;refine WT (λRB=>?_) (λRB=>?_)
  .refine⟨_,λσ' H' h=>h,?_⟩;refine⟨_,rfl,mm,45,rfl,by decide,by decide,λm2 m20=>?_⟩;refine nm ?_;dsimp only [List.set];have l0:(0:Int)<(xs.length:Int):=by lia
   have a0:=YL (m2 / 8) (show(xs.length:Int)≠0 by lia);have a1:=YJ (m2 / 8) l0
   obtain⟨at',b8⟩:∃ at',m2 / 8 % (xs.length:Int)=at':=⟨_,rfl⟩;rw[b8]at a0 a1;obtain⟨g,hg⟩:∃ g,rs[at'.toNat]?=some g:=⟨_,Xr (by grind)⟩;obtain⟨y1,hy1,tt,rfl,Tp⟩:=hP.2 _ _ hg;have gi:=b9 g (Xg hg)
   have ttA:tt≠tA:=Qw Tp kr (λz=>nomatch z);refine⟨_,rfl,.inl ⟨rfl,_,SqL.of kt⟩,_,rfl,.inl ⟨rfl,_,SqL.of kr⟩,_,rfl,_,_,rfl,rfl,⟨by decide,by decide⟩,_,rfl,tA,xs,rfl,.inl (SqL.of kr),_,_,rfl,rfl,l0,?_⟩;refine⟨tA,xs,at',at'.toNat,.ref tt,rfl,by rw[<- b8],kr,by lia,by lia,Ef a0 (by grind),hy1,?_⟩;have mC:PairsV (upd H8 tA (.lst (xs.eraseIdx at'.toNat))) (xs.eraseIdx at'.toNat) (rs.eraseIdx at'.toNat):=(show Bears (PairV _) _ _ from hP.mut (l:=tA) (zs:=xs.eraseIdx at'.toNat) kr).erase at'.toNat
   have mP:=hT.mut (l:=tA) (zs:=xs.eraseIdx at'.toNat) kr;have kr9:=XS (H:=H8) (a:=tA) (o:=.lst (xs.eraseIdx at'.toNat))
   have kf:(upd H8 tA (.lst (xs.eraseIdx at'.toNat))) td=some (.lst ys):=by rw[Zb (YW rt)];exact kt
   have ht9:(upd H8 tA (.lst (xs.eraseIdx at'.toNat))) tt=some (.tup [.int g.1,.int g.2]):=by rw[Zb ttA];exact Tp
   have s9:Same H1 (upd H8 tA (.lst (xs.eraseIdx at'.toNat))):=ZE MT s8;generalize upd H8 tA (.lst (xs.eraseIdx at'.toNat))=H9 at *;have elen:(rs.eraseIdx at'.toNat).length+1=rs.length:=by
    rw[Ax,if_pos (Xp.mp hg).1]
    have:=(Xp.mp hg).1
    lia
   refine⟨td,ys,_,rfl,rfl,kf,Zo (by lia),k - 1,by lia,?_⟩;refine⟨xs.eraseIdx at'.toNat,ys++[.ref tt],rs.eraseIdx at'.toNat,ts++[g],m2,rfl,ZE AZ s9,by rw[Zb rt];exact kr9,mC.mut (l:=td) (zs:=ys++[.ref tt]) kf,XS,(mP.snoc ⟨tt,rfl,ht9⟩).mut (l:=td) (zs:=ys++[.ref tt]) kf,by lia,by rw[Xs,Yj];lia,λp hp=>b9 p (xA hp),kj Ct gi,λj hj=>?_⟩;obtain⟨p,h1,h2⟩:=MG j hj;refine⟨p,?_,h2⟩;rcases h1 with h1 | h1
   .rcases km hg h1 with e | e
    .exact .inl e
    .exact .inr (Yc _ (XD.mpr e))
   .exact .inr (Yb _ h1)
  .have k00:k=0:=by lia
   subst k00;have r0:rs=[]:=YS.mp hrk
   subst r0;refine⟨_,rfl,_,rfl,two,λr hr'=>?_⟩;have u9:=XH (o:=.tup [.int n,.ref td]) hr'
   refine q r td n ys ts _ (s8.trans u9) XS AZ (u9 _ _ kt) (hT.same u9) ⟨by lia,by lia,by lia,λp hp=>Ct p hp⟩ n2 (ko λj hj=>?_);obtain⟨p,h1,h2⟩:=MG j hj;exact⟨p,h1.resolve_left (λe=>by cases e),h2⟩
def ke(K:Ad)(CP C Pt:Addr):Sp:=λvs H Q _=>∃(w:Addr) (n:Int) (ps:Aa) (num most:Int) (R:Ab),vs=[.ref w,.int num,.int most]/\WebAt C H w n ps/\Zv n ps/\Xk H Pt/\-(10 ^ 70)<num/\num<0/\0<=most/\most<=100000/\((∃ U,Ze n ps U)->RowW n ps R)/\((∀ U,¬ Ze n ps U)->R=[])/\∀ H':Hp,SameX Pt H H'->Xk H' Pt->Q (.bl true) H'
theorem ME:FnScope ["web","number","most","kinds","e"] ["web","number","most"] (XA sZN):=⟨rfl,rfl,rfl,by decide +kernel,rfl,by decide +kernel,by decide +kernel⟩
theorem AY {Pt:Addr} (T:Txt K mg t) (hB:QJ K mg base t.dZt Pt):FnOk P w K mg base Xf 46 t.aZN t.dZN ["web","number","most"] (ke K t.A_Part t.A_Web Pt):=by
 refine T.fZN.ok ME (λvs H Q E h=>?_) (λXz A outer s H vs Q E hr h=>?_)
 .obtain⟨w,n,ps,num,most,R,rfl,_⟩:=h;rfl
 .obtain⟨w,n,ps,num,most,R,rfl,hW,hG,hT,n0,n1,m0,m1,hR1,hR2,q⟩:=h;refine⟨_,(XN (Zh (i:=3) ME.nd rfl (Or.inl rfl) (TX XY))
   (XN (tu (i:=4) rfl rfl rfl ME.nd rfl rfl T.c_WebError rfl (λR _=>(XF (Wh (ZU9 (Rb T hB) (hr.mono (by decide)) rfl T.mZC T.fZC.kp T.bZC .nil pxT (XZ (pv 0) (XZ (pv 1) (XZ (pv 2) XY))))))) (λe C oe _ Tg=>(XF (Zh (i:=3) ME.nd rfl (Or.inl rfl) (TX (XZ (Zd (zk K (Yc _ (XD.mpr rfl)) Tg) (by rfl) T.n_isinstance Boot.«isinstance» (XZ (pv 4) (XZ (jk (v:=V.ty "ValueError") rfl T.n_ValueError Boot.«ValueError» rfl) XY))) (XZ (Zd (zk K (Yc _ (XD.mpr rfl)) Tg) (by rfl) T.n_isinstance Boot.«isinstance» (XZ (pv 4) (XZ (Gr (v:=V.ref t.A_NoSuch) rfl T.c_NoSuch rfl) XY))) (XZ (Zd (zk K (Yc _ (XD.mpr rfl)) Tg) (by rfl) T.n_isinstance Boot.«isinstance» (XZ (pv 4) (XZ (Gr (v:=V.ref t.A_NoTree) rfl T.c_NoTree rfl) XY))) (XZ (Zd (zk K (Yc _ (XD.mpr rfl)) Tg) (by rfl) T.n_isinstance Boot.«isinstance» (XZ (pv 4) (XZ (Gr (v:=V.ref t.A_Parted) rfl T.c_Parted rfl) XY))) XY)))))))))
   (XF (Zk (Kp (tU K (JX hr)) (pv 3) (TX (XZ RQ (XZ RQ (XZ RQ (XZ RQ XY))))) (Zu _)))))),?_⟩
  refine⟨Yn _,λkl pB=>?_⟩;have s0:=XH (o:=.lst []) pB
  have AX:=hT.same s0;refine⟨_,rfl,_,rfl,_,rfl,w,n,ps,num,most,R,rfl,hW.same s0,hG,AX,n0,by omega,m0,m1,hR1,hR2,λa=>absurd a (by omega),λ_=>⟨_,rfl,T.em_NoSuch,λe he=>?_⟩⟩;refine⟨_,rfl,_,_,_,rfl,λz h=>h,T.x_NoSuch,T.ki_NoSuch_ValueError,_,rfl,_,_,_,rfl,λz h=>h,T.x_NoSuch,ir,_,rfl,_,_,_,rfl,λz h=>h,T.x_NoSuch,T.ki_NoSuch_NoTree,_,rfl,_,_,_,rfl,λz h=>h,T.x_NoSuch,T.ki_NoSuch_Parted,(by show 4<=sizeLine;decide),λkk xX=>?_⟩;refine⟨_,rfl,(by show 4<=sizeLine;decide),λk2 j9=>⟨1,_,kk,k2,rfl,rfl,by decide,Zo8 (bs:=[true,true,false,false]) (cs:=[true,true,false,false]) (SqL.of (XH j9 _ _ XS)) (SqL.of XS),?_⟩⟩;exact q _ ((SameX.same s0).trans (SameX.same (Zy (XH xX) j9))) (AX.same (Zy (XH xX) j9))
def j8(K:Ad)(C:Addr):Sp:=λvs H Q _=>∃(w a:Addr) (n:Int) (ps:Aa) (xs:List V) (L:Ab),vs=[.ref w,.ref a]/\WebAt C H w n ps/\Zv n ps/\H a=some (.lst xs)/\Bears (Xb H) xs L/\L.length<=20/\(∀ T∈L,Ze n ps T)/\Adj Sd L/\∀ H':Hp,Same H H'->Q (.bl true) H'
theorem j7(xs:List V):WU xs none (some (-1))=xs.take (xs.length - 1):=by
 have e2:HT.VC xs.length xs.length (some (-1))=xs.length - 1:=by show(-1+(xs.length:Int)).toNat=_;omega
 unfold WU;rw[e2];rfl
theorem j6(xs:List V):WU xs (some 1) none=xs.drop 1:=si (by decide)
theorem Ip:FnScope ["web","trees","one","other"] ["web","trees"] (XA sZO):=⟨rfl,rfl,rfl,by decide +kernel,rfl,by decide +kernel,by decide +kernel⟩
theorem j5 (T:Txt K mg t):FnOk P w K mg base Xf 7 t.aZO t.dZO ["web","trees"] (j8 K t.A_Web):=by
 refine T.fZO.ok Ip (λvs H Q E h=>?_) (λXz A outer s H vs Q E hr h=>?_)
 .obtain⟨w,a,n,ps,xs,L,rfl,_⟩:=h;rfl
 .obtain⟨w,a,n,ps,xs,L,rfl,hW,hG,hA,hX,hL,b7,AW,q⟩:=h;refine⟨_,(XN (SQ Ww rfl (rN K rfl T.n_zip (XZ (Vf (Vb K) (pv 1) Oc (Qn (RP HQ XQ))) (XZ (Vf (Vb K) (pv 1) (Qn XQ) Oc) XY))) (QO (n:=2) K rfl (Zr (Zf (i:=2) Ip.nd rfl (Or.inl rfl)) (Zr (Zf (i:=3) Ip.nd rfl (Or.inr rfl)) QV)))
   (XF (Wx (PW.pt (KA (Zg pW (Za (BK T) (hr.mono (by decide)) rfl T.mZl T.fZl.kp T.bZl .nil Zt (XZ (pv 0) (XZ (pv 3) XY))) RQ (Zu _)) (SU (Zg QU (Zd (Zn K) (by rfl) T.n_len Boot.«len» (XZ (Sn rfl (sc0:=XA sZO) (N0:=["web","trees","one","other"]) (N':=["tie","other"]) (o:=1) (fr:=[3]) ⟨rfl,by decide +kernel,by decide +kernel,by decide +kernel,rfl,by decide +kernel⟩ (tS K (pv 2)) (Zz (by decide)) (λ_ _ _ _=>(Zf (i:=0) (show List.Nodup (["tie","other"]:List Str) by decide +kernel) rfl (Or.inl rfl))) (λ_ _ _ _=>(Qk (Zg (HK K) (pv 0) (pv 1) rfl))) (λ_ _ _ _=>(pv 0))) XY)) XQ (Zu _)))))
   (XF (Zk RQ))
   Zp)))
   (XF (Zk RQ))),?_⟩
  have xl:=hX.1;refine⟨_,rfl,_,rfl,_,rfl,a,_,rfl,SqL.of hA,λp1 Vj=>?_⟩;rw[j7];have u1:=XH (o:=.lst (xs.take (xs.length - 1))) Vj
  refine⟨_,rfl,_,rfl,a,_,rfl,SqL.of (u1 _ _ hA),λp2 Wj=>?_⟩;rw[j6];have u2:=XH (o:=.lst (xs.drop 1)) Wj
  have bZ:=u1.trans u2;have k1:=u2 _ _ (XS (H:=H) (a:=p1) (o:=.lst (xs.take (xs.length - 1))))
  have k2:=XS (H:=upd H p1 (.lst (xs.take (xs.length - 1)))) (a:=p2) (o:=.lst (xs.drop 1));generalize upd (upd H p1 (.lst (xs.take (xs.length - 1)))) p2 (.lst (xs.drop 1))=H2 at *;refine⟨p1,p2,rfl,⟨_,_,SqL.of k1,SqL.of k2⟩,Dt (K:=K) (a:=p1) (b:=p2) (xs:=xs.take (xs.length - 1)) (ys:=xs.drop 1) (by rw[Yy,VX];omega) (λi σ H3=>∃(v2 v3:Option V),σ=[some (.ref w),some (.ref a),v2,v3]/\Same H2 H3) ⟨none,none,rfl,Same.refl _⟩ (λi σ H3 _ ⟨_,_,_,e⟩=>⟨SqL.of (e _ _ k1),SqL.of (e _ _ k2)⟩) ?_ ?_⟩;rotate_left
  .rintro σ H3 ⟨v2,v3,rfl,s3⟩;exact q H3 (bZ.trans s3)
  rintro i v v' σ H3 pt US hi Rz ⟨v2,v3,rfl,s3⟩;have il:i<xs.length - 1:=by
   have:=(Xp.mp hi).1
   rw[Yy]at this;omega
  rw[Ox,if_pos il]at hi;rw[Lg]at Rz;obtain⟨A,SI⟩:∃ A,L[i]?=some A:=⟨_,Xr (by omega)⟩;obtain⟨B,HF⟩:∃ B,L[i+1]?=some B:=⟨_,Xr (by omega)⟩;obtain⟨x1,h1,c1,rfl,hc1⟩:=hX.2 i A SI;obtain⟨x2,h2,c2,rfl,VD⟩:=hX.2 (i+1) B HF;rw[h1]at hi;obtain rfl:=Yi hi;rw[show 1+i=i+1 by omega,h2]at Rz;obtain rfl:=Yi Rz;have st:Sd A B:=AW i A B SI HF
  have tA:=b7 A (Xg SI);have tB:=b7 B (Xg HF)
  have u4:=XH (o:=.tup [.ref c1,.ref c2]) US;refine⟨pt,_,rfl,SqT.of XS,rfl,_,_,rfl,_,_,rfl,rfl,?_⟩;have s4:=s3.trans u4
  generalize upd H3 pt (.tup [.ref c1,.ref c2])=H4 at *;have Oz:=bZ.trans s4
  refine⟨_,rfl,_,rfl,w,c2,n,ps,true,B,rfl,hW.same Oz,hG,SqT.of (Oz _ _ VD),λb H5 s5 hb=>?_⟩;refine⟨_,_,rfl,rfl,_,rfl,?_⟩;rw[hb.mpr tB];refine VJ ?_;have Lu:=Oz.trans s5
  have bY:=Lu _ _ hc1;have k2':=Lu _ _ VD
  have lU:A.length<=20:=by have:=tA.2.1;have:=hG.2.1;omega
  refine⟨_,rfl,c1,rfl,⟨_,SqT.of bY⟩,JT (K:=K) (a:=c1) (xs:=IL A) (λi ws Oy=>Oy=H5/\i<=A.length/\ws=IL ((A.take i).filter λy=>decide (y∉B))) ⟨rfl,Yn _,rfl⟩ (Zo (by rw[Xq];omega)) (λi ws Oy hi h=>by obtain⟨e,VB,ew⟩:=h;exact⟨e ▸ SqT.of bY,by rw[ew,Xq];exact Yr (YH ..) (by rw[Yy];omega)⟩) ?_ ?_⟩
  .rintro i y ws Oy hi ⟨rfl,Vn,rfl⟩ S Xc;obtain⟨y,rfl,hy⟩:=UL hi;have Xl:i<A.length:=(Xp.mp hy).1
   refine⟨_,rfl,_,rfl,c2,_,rfl,.inr (SqT.of k2'),rfl,ZT _,_,rfl,?_⟩;rw[NP];refine WM (λhc=>?_) (λhc=>?_)
   .refine Xc _ _ ⟨rfl,Xl,?_⟩;rw[ZU hy,if_neg (by simpa using hc),YF]
   .refine⟨_,rfl,Xc _ _ ⟨rfl,Xl,?_⟩⟩;rw[ZU hy,if_pos (Yx hc),ZY]
  rintro ws Oy ⟨rfl,_,rfl⟩ dA l9;rw[Xq,YM];have e1:(A.filter λy=>decide (y∉B)).length=1:=st
  refine⟨dA,_,rfl,.inl (SqL.of XS),rfl,_,rfl,?_⟩;rw[ZA,Xq,e1];refine VJ ?_;exact⟨_,_,rfl,s4.trans (s5.trans (XH l9))⟩
def j4(K:Ad)(CP C Pt:Addr):Sp:=λvs H Q _=>∃(w:Addr) (n:Int) (ps:Aa) (m:Int) (R:Ab),vs=[.ref w,.int R.length,.int m]/\WebAt C H w n ps/\Zv n ps/\Xk H Pt/\RowW n ps R/\R.Nodup/\(∀ T,T∈R↔Ze n ps T)/\Adj Sd R/\0<R.length/\∀ H':Hp,SameX Pt H H'->Xk H' Pt->Q (.bl true) H'
theorem j3{α:Type}{P:α->α->Prop}{R:List α}(h:Adj P R)(a b:Nat):Adj P ((R.drop a).take b):=λi x y hx hy=>by
 rw[Ox]at hx hy;split at hx
 .split at hy
  .rw[Lg]at hx hy;exact h (a+i) x y hx hy
  .cases hy
 .cases hx
theorem UQ:FnScope ["web","total","m","drawn","few","number","most","found","at","ahead","later","kept"] ["web","total","m"] (XA sZP):=⟨rfl,rfl,rfl,by decide +kernel,rfl,by decide +kernel,by decide +kernel⟩
theorem j0 {Pt:Addr} (T:Txt K mg t) (hB:QJ K mg base t.dZt Pt):FnOk P w K mg base Xf 46 t.aZP t.dZP ["web","total","m"] (j4 K t.A_Part t.A_Web Pt):=by
 refine T.fZP.ok UQ (λvs H Q E h=>?_) (λXz A outer s H vs Q E hr h=>?_)
 .obtain⟨w,n,ps,m,R,rfl,_⟩:=h;rfl
 .obtain⟨w,n,ps,m,R,rfl,hW,hG,hT,hR,hN,AV,AW,c0,q⟩:=h;refine⟨_,(XN (Zh (i:=3) UQ.nd rfl (Or.inl rfl) (Zl ZF (Zl OT (pv 2) XQ) (pv 1)))
   (XN (Zh (i:=4) UQ.nd rfl (Or.inl rfl) (Zl ZF (Zl OT (pv 2) XQ) XQ))
   (XN (Zh (i:=5) UQ.nd rfl (Or.inl rfl) (ZQ (Zi K) (TX (XZ XQ (XZ (Zd (zQ rfl) (by rfl) T.n_max Boot.«max» (XZ XQ (XZ (Zl Uz (Zl Uz (pv 1) XQ) (pv 4)) XY))) (XZ (Zl OT (pv 1) XQ) (XZ (pv 3) (XZ (pv 3) (XZ (Zl ZW (pv 1) (pv 4)) XY))))))) (Zl ZF (pv 2) XQ) (λ_ _=>rfl)))
   (XN (Zh (i:=6) UQ.nd rfl (Or.inl rfl) (Zl ZF (Zl Jq (pv 2) (Zl VL XQ XQ)) XQ))
   (XN (Zh (i:=7) UQ.nd rfl (Or.inl rfl) (Za (Rb T hB) (hr.mono (by decide)) rfl T.mZC T.fZC.kp T.bZC .nil PZ (XZ (pv 0) (XZ (pv 5) (XZ (pv 6) XY)))))
   (XN (Wx (PW.pt (KA (Oh (OU (Zd (Zu8 K (T:="list")) (by rfl) T.n_isinstance Boot.«isinstance» (XZ (pv 7) (XZ (jk (v:=V.ty "list") rfl T.n_list Boot.«list» rfl) XY))))) (SU (Zg QU (Zd (Zn K) (by rfl) T.n_len Boot.«len» (XZ (pv 7) XY)) (Zd (zQ rfl) (by rfl) T.n_max Boot.«max» (XZ XQ (XZ (Zd (zP rfl) (by rfl) T.n_min Boot.«min» (XZ (pv 6) (XZ (Zl Uz (pv 1) (pv 5)) XY))) XY))) (Zu _)))))
   (XF (Zk RQ))
   Zp)
   (XN (Wx (Zg RN (Zd (Zn K) (by rfl) T.n_len Boot.«len» (XZ (pv 7) XY)) XQ (Zu _))
   (XF (Wx (PW.pt (KA (Zg (tT K (JX hr)) (Za (kT T hB) (hr.mono (by decide)) rfl T.mZD T.fZD.kp T.bZD .nil PZ (XZ (pv 0) (XZ (pv 5) XY))) (ZQ (Zi K) (pv 7) XQ (λ_ _=>rfl)) (Zu _)) (SU (Zg QU (Za (kO T hB) (hr.mono (by decide)) rfl T.mZF T.fZF.kp T.bZF .nil Zt (XZ (pv 0) (XZ (ZQ (Zi K) (pv 7) (RP HQ XQ) (λ_ _=>rfl)) XY))) (Zl Uz (Zl ZW (pv 5) (Zd (Zn K) (by rfl) T.n_len Boot.«len» (XZ (pv 7) XY))) XQ) (Zu _)))))
   (XF (Zk RQ))
   Zp))
   Zp)
   (XN (Zh (i:=8) UQ.nd rfl (Or.inl rfl) (Zl ZF (Zl Jq (pv 2) (Zl VL XQ XQ)) (Zl ZW (pv 6) XQ)))
   (XN (Zh (i:=9) UQ.nd rfl (Or.inl rfl) (Za (Rb T hB) (hr.mono (by decide)) rfl T.mZC T.fZC.kp T.bZC .nil PZ (XZ (pv 0) (XZ (pv 5) (XZ (pv 8) XY)))))
   (XN (Zh (i:=10) UQ.nd rfl (Or.inl rfl) (Za (Rb T hB) (hr.mono (by decide)) rfl T.mZC T.fZC.kp T.bZC .nil PZ (XZ (pv 0) (XZ (Zl ZW (pv 5) (pv 8)) (XZ (Zl Uz (pv 6) (pv 8)) XY)))))
   (XN (Wx (PW.pt (KA (Zg (tT K (JX hr)) (Zl Fi (pv 9) (pv 10)) (pv 7) (Zu _)) (SU (Oh (OU (Za (j5 T) (hr.mono (by decide)) rfl T.mZO T.fZO.kp T.bZO .nil Zt (XZ (pv 0) (XZ (pv 7) XY))))))))
   (XF (Zk RQ))
   Zp)
   (XN (Zh (i:=11) UQ.nd rfl (Or.inl rfl) (Zs (SM K) (by rfl) T.n_list Boot.«list» (XZ (pv 7) XY)))
   (XN (Wh (iw K YQ PySem.F.slot_list_clear PySem.F.type_list_clear Fl (pv 7)))
   (XF (Zk (Kp (tU K (JX hr)) (Za (Rb T hB) (hr.mono (by decide)) rfl T.mZC T.fZC.kp T.bZC .nil PZ (XZ (pv 0) (XZ (pv 5) (XZ (pv 6) XY)))) (pv 11) (Zu _))))))))))))))))),?_⟩
  obtain⟨_,F0,_,_,UU,_,_,_,He⟩:=id hR;have c20:=fB hG He
  have cp:(0:Int)<(R.length:Int):=by omega
  have b0:=YL (m / 8) (show(R.length:Int)≠0 by omega);have b1:=YJ (m / 8) cp
  have d0:=YL (m / 8) (show(9:Int)≠0 by decide);have d1:=YJ (m / 8) (show(0:Int)<9 by decide)
  have e0:=YL m (show(6:Int)≠0 by decide);have e1:=YJ m (show(0:Int)<6 by decide)
  refine⟨_,rfl,_,_,rfl,rfl,⟨by decide,by decide⟩,_,rfl,_,_,rfl,rfl,cp,?_⟩;refine nm ?_;dsimp only [List.set];refine⟨_,rfl,_,_,rfl,rfl,⟨by decide,by decide⟩,_,_,rfl,rfl,(by show(0:Int)<9;decide),?_⟩;refine nm ?_;dsimp only [List.set];refine⟨_,rfl,_,_,rfl,rfl,_,rfl,_,_,rfl,rfl,_,_,rfl,_,rfl,_,_,rfl,rfl,⟨by decide,by decide⟩,_,rfl,_,rfl,_,rfl,_,rfl,_,_,rfl,rfl,(by show 6<=sizeLine;decide),λqA bX=>?_⟩;obtain⟨num,AU,n0,n1⟩:∃ num:Int,[0,if (R.length:Int) - 1 - m / 8 % 9 > 0 then (R.length:Int) - 1 - m / 8 % 9 else 0,(R.length:Int) / 2,m / 8 % (R.length:Int),m / 8 % (R.length:Int),(R.length:Int)+m / 8 % 9][(m % 6).toNat]?=some num/\0<=num/\num<(R.length:Int)+9:=by
   rcases(show m % 6=0\/m % 6=1\/m % 6=2\/m % 6=3\/m % 6=4\/m % 6=5 by omega) with e | e | e | e | e | e <;> rw[e]
   .exact⟨_,rfl,by omega,by omega⟩
   .refine⟨_,rfl,?_,?_⟩ <;> split <;> omega
   .exact⟨_,rfl,by omega,by omega⟩
   .exact⟨_,rfl,b0,by omega⟩
   .exact⟨_,rfl,b0,by omega⟩
   .exact⟨_,rfl,by omega,by omega⟩
  have u1:=XH (o:=.lst (IL [0,if (R.length:Int) - 1 - m / 8 % 9 > 0 then (R.length:Int) - 1 - m / 8 % 9 else 0,(R.length:Int) / 2,m / 8 % (R.length:Int),m / 8 % (R.length:Int),(R.length:Int)+m / 8 % 9])) bX;refine⟨_,rfl,_,_,rfl,rfl,(by show(0:Int)<6;decide),qA,_,_,.int num,rfl,rfl,SqL.of XS,ZK (n:=(m % 6).toNat) (by omega) (Ue AU),?_⟩;refine nm ?_;dsimp only [List.set];have Wm:=hT.same u1
  have bW:=hW.same u1;change Vg _ _ _ _ (upd H qA (.lst (IL [0,if (R.length:Int) - 1 - m / 8 % 9 > 0 then (R.length:Int) - 1 - m / 8 % 9 else 0,(R.length:Int) / 2,m / 8 % (R.length:Int),m / 8 % (R.length:Int),(R.length:Int)+m / 8 % 9])));generalize upd H qA (.lst (IL [0,if (R.length:Int) - 1 - m / 8 % 9 > 0 then (R.length:Int) - 1 - m / 8 % 9 else 0,(R.length:Int) / 2,m / 8 % (R.length:Int),m / 8 % (R.length:Int),(R.length:Int)+m / 8 % 9]))=H1 at *;clear AU e0 e1 bX;obtain⟨nn,rfl⟩:=QA n0;have big:∀ k:Nat,k<=40->((10:Int) ^ k).natAbs<2 ^ 9000:=λk hk=>by rw[Int.natAbs_pow];exact GV (Hb (by decide) hk) (Ym (show 10 ^ 40<2 ^ 200 by decide) (Hb (by decide) (by decide)))
  refine⟨_,rfl,_,_,rfl,rfl,⟨by decide,by decide,by decide⟩,_,_,rfl,rfl,⟨by decide,big 30 (by decide)⟩,_,_,rfl,rfl,(by show(0:Int)<13;decide),?_⟩;refine nm ?_;dsimp only [List.set];have f0:=YL (Int.fdiv m (10 ^ (30:Int).toNat)) (show(13:Int)≠0 by decide)
  have f1:=YJ (Int.fdiv m (10 ^ (30:Int).toNat)) (show(0:Int)<13 by decide);obtain⟨mo,emo⟩:=QA f0;rw[emo]at f1 ⊢;have mo12:mo<=12:=by omega
  clear f0 f1 b0 b1 d0 d1;have Io:(∀ U,¬ Ze n ps U)->R=[]:=λno=>absurd UU.tr.1 (no F0)
  refine⟨_,rfl,_,rfl,_,rfl,w,n,ps,_,_,R,rfl,bW,hG,Wm,by omega,by omega,by omega,by omega,λ_=>hR,Io,λ_ r xs H2 Tb Xj Vz VM hX=>?_,λh=>absurd h (by omega)⟩;rw[Yv,Yv]at hX;refine nm ?_;dsimp only [List.set];have jZ:=bW.samex Wm Tb
  have xl:=hX.1;rw[Yy,VX]at xl;refine⟨_,rfl,_,_,_,rfl,TyOf.lst VM,ir,_,rfl,?_⟩;refine VJ ?_;refine⟨_,rfl,r,xs,rfl,.inl (SqL.of VM),_,rfl,_,rfl,_,rfl,_,_,rfl,rfl,_,_,rfl,_,_,rfl,rfl,_,rfl,?_⟩;rw[ZA];refine WM (λ_=>?_) (λh=>absurd ?_ h);rotate_left
  .show(xs.length:Int)=_;split <;> split <;> omega
  show(_:Prop);refine OJ ?_;have ML:SameX Pt H H2:=(SameX.same u1).trans Tb
  have jY:H r=none:=u1.free Vz;have hx20:xs.length<=12:=by omega
  refine PD (λσ H3=>SameX Pt H2 H3/\Xk H3 Pt/\σ=[some (.ref w),some (.int R.length),some (.int m),some (.int (m / 8 % (R.length:Int))),some (.int (m / 8 % 9)),some (.int (nn:Int)),some (.int (mo:Int)),some (.ref r),none,none,none,none]) ?_ ?_;rotate_left
  .intro Kn hK;refine⟨_,rfl,r,xs,rfl,.inl (SqL.of VM),_,_,rfl,rfl,_,rfl,?_⟩;refine WT (λcq=>?_) (λ_=>hK _ _ ⟨SameX.same (Same.refl _),Xj,rfl⟩);have hnR:nn<R.length:=by omega
   obtain⟨U0,MO⟩:∃ U,R[nn]?=some U:=⟨_,Xr hnR⟩;have m0:((R.drop nn).take mo)[0]?=some U0:=by rw[Ox,if_pos (by omega),Lg];exact MO
   obtain⟨v0,hv0,a0,rfl,bV⟩:=hX.2 0 U0 m0;obtain⟨U1,IE⟩:∃ U,R[nn+(xs.length - 1)]?=some U:=⟨_,Xr (by omega)⟩;have m1:((R.drop nn).take mo)[xs.length - 1]?=some U1:=by rw[Ox,if_pos (by omega),Lg];exact IE
   obtain⟨v1,hv1,a1,rfl,bU⟩:=hX.2 _ U1 m1;refine⟨_,rfl,_,rfl,w,n,ps,_,R,rfl,jZ,hG,Xj,by omega,by omega,hR,λ_ _ r3 U3 H3 bT Ta Wy Um=>?_,λh=>absurd h (by omega)⟩;rw[Yv,MO]at bT;obtain rfl:=Yi bT;have MD:=Ta _ _ (Xj.ne VM (by simp)) VM
   refine⟨_,rfl,r,xs,0,.ref a0,rfl,rfl,SqL.of MD,ZK (n:=0) rfl hv0,?_⟩;refine⟨1,_,r3,a0,rfl,rfl,by decide,tI (SqT.of Um) (SqT.of (Ta _ _ (Xj.ne bV (by simp)) bV)),_,rfl,?_⟩;rw[Yx rfl];refine VJ ?_;have jX:=Ta _ _ (Xj.ne bU (by simp)) bU
   have DY:Wg xs (-1)=some (.ref a1):=by
    unfold Wg OS;rw[if_neg (by decide),if_pos (by omega)];show xs[(-1+(xs.length:Int)).toNat]?=_
    rw[show(-1+(xs.length:Int)).toNat=xs.length - 1 by omega];exact hv1
   refine⟨_,rfl,_,rfl,_,rfl,r,xs,-1,.ref a1,rfl,rfl,SqL.of MD,DY,w,a1,n,ps,U1,R,rfl,jZ.samex Xj Ta,hG,Wy,SqT.of jX,(AV U1).mp (Xg IE),hR,Xg IE,λi H4 hi UG Wl=>?_⟩;obtain rfl:=(xf (Xp.mp hi).1 hN).mp (hi.trans IE.symm);have jW:=UG _ _ (Wy.ne MD (by simp)) MD
   refine⟨_,rfl,_,rfl,r,xs,rfl,.inl (SqL.of jW),_,_,rfl,rfl,_,_,rfl,rfl,rfl,_,rfl,?_⟩;rw[ZA];refine WM (λ_=>hK _ _ ⟨Ta.trans UG,Wl,rfl⟩) (λh=>absurd (by omega) h)
  rintro σ H3 ⟨Ta,Wy,rfl⟩;have mp:(0:Int)<(mo:Int)+1:=by omega
  refine⟨_,rfl,_,_,rfl,rfl,⟨by decide,by decide,by decide⟩,_,_,rfl,rfl,⟨by decide,big 33 (by decide)⟩,_,rfl,_,_,rfl,rfl,_,_,rfl,rfl,mp,?_⟩;refine nm ?_;dsimp only [List.set];have f0:=YL (Int.fdiv m (10 ^ (33:Int).toNat)) (show(mo:Int)+1≠0 by omega)
  have f1:=YJ (Int.fdiv m (10 ^ (33:Int).toNat)) mp;obtain⟨at',eat⟩:=QA f0;rw[eat]at f1 ⊢;have atm:at'<=mo:=by omega
  clear f0 f1;have bS:=jZ.samex Xj Ta
  have Um:=Ta _ _ (Xj.ne VM (by simp)) VM;have hX3:Bears (Xb H3) xs ((R.drop nn).take mo):=hX.imp λ_ _ h=>by obtain⟨c,e,hc⟩:=h;exact⟨c,e,Ta _ _ (Xj.ne hc (by simp)) hc⟩
  refine⟨_,rfl,_,rfl,_,rfl,w,n,ps,_,_,R,rfl,bS,hG,Wy,by omega,by omega,by omega,by omega,λ_=>hR,Io,λ_ ra ya H4 UG Wl hra0 bR bQ=>?_,λh=>absurd h (by omega)⟩;rw[Yv,Yv]at bQ;refine nm ?_;dsimp only [List.set];have xO:=bS.samex Wy UG
  have Pw:=UG _ _ (Wy.ne Um (by simp)) Um;refine⟨_,rfl,_,rfl,_,rfl,_,_,rfl,rfl,_,rfl,_,rfl,_,_,rfl,rfl,w,n,ps,_,_,R,rfl,xO,hG,Wl,(by show -(10 ^ 70)<(nn:Int)+at';omega),(by show(nn:Int)+at'<10 ^ 70;omega),(by show(0:Int)<=(mo:Int) - at';omega),(by show(mo:Int) - at'<=100000;omega),λ_=>hR,Io,λ_ rl yl H5 Rg Pe hrl0 hrl jV=>?_,λh=>absurd (show(nn:Int)+at'<0 from h) (by omega)⟩;rw[show((nn:Int)+(at':Int)).toNat=nn+at' from rfl,show((mo:Int) - (at':Int)).toNat=mo - at' by omega]at jV;refine nm ?_;dsimp only [List.set];have jU:=Rg _ _ (Wl.ne bR (by simp)) bR
  have lj:=Rg _ _ (Wl.ne Pw (by simp)) Pw;have AS:=UG.trans Rg
  have bP:Bears (Xb H5) xs ((R.drop nn).take mo):=hX3.imp λ_ _ h=>by obtain⟨c,e,hc⟩:=h;exact⟨c,e,AS _ _ (Wy.ne hc (by simp)) hc⟩
  have AR:Bears (Xb H5) ya ((R.drop nn).take at'):=bQ.imp λ_ _ h=>by obtain⟨c,e,hc⟩:=h;exact⟨c,e,Rg _ _ (Wl.ne hc (by simp)) hc⟩
  have both:=lI AR jV;have eM:(R.drop nn).take at'++(R.drop (nn+at')).take (mo - at')=(R.drop nn).take mo:=by rw[<- List.drop_drop,<- List.take_add,Nat.add_sub_of_le atm]
  rw[eM]at both;have al:=AR.1
  have ll:=jV.1;rw[Yy]at al ll;refine⟨_,rfl,_,rfl,ra,rl,ya,yl,rfl,rfl,jU,hrl,NV (by omega),λcA MW=>?_⟩;have u6:=XH (o:=.lst (ya++yl)) MW
  have kc:=XS (H:=H5) (a:=cA) (o:=.lst (ya++yl));have Im:∀ {xs:List V} {L:Ab},Bears (Xb H5) xs L->Nx (upd H5 cA (.lst (ya++yl))) xs L:=λh=>h.imp λ_ _ h=>by obtain⟨c,e,hc⟩:=h;exact⟨c,e,u6 _ _ hc⟩
  have OD:=u6 _ _ lj;refine⟨_,rfl,2,_,cA,r,rfl,rfl,by decide,gP (SqL.of kc) (SqL.of OD) (Im both) (Im bP),_,rfl,?_⟩;rw[Yx rfl];refine VJ ?_;have jT:Bears (Xb (upd H5 cA (.lst (ya++yl)))) xs ((R.drop nn).take mo):=Im bP
  have MC:=Pe.same u6;have jS:=(xO.samex Wl Rg).same u6
  have jR:SameX Pt H (upd H5 cA (.lst (ya++yl))):=((ML.trans Ta).trans AS).trans (SameX.same u6);generalize upd H5 cA (.lst (ya++yl))=H6 at *;refine⟨_,rfl,_,rfl,w,r,n,ps,xs,_,rfl,jS,hG,OD,jT,(by rw[<- jT.1];omega),λV hV=>(AV V).mp (List.mem_of_mem_drop (Ha hV)),j3 AW _ _,λH7 s7=>⟨_,rfl,?_⟩⟩;refine VJ ?_;show(_:Prop)
  refine OJ ?_;have MX:=s7 _ _ OD
  have Ra:=MC.same s7;refine⟨_,rfl,r,xs,rfl,.inl (SqL.of MX),λkA By=>?_⟩;have u8:=XH (o:=.lst xs) By
  have k8:=XS (H:=H7) (a:=kA) (o:=.lst xs);have xF:=u8 _ _ MX
  have kr:kA≠r:=λe=>by rw[e,MX]at By;cases By
  have IJ:=s7.trans u8;change Vg _ _ _ _ (upd H7 kA (.lst xs));generalize upd H7 kA (.lst xs)=H8 at *;refine nm ?_;dsimp only [List.set];refine⟨_,rfl,.inl ⟨rfl,_,SqL.of xF⟩,r,xs,rfl,rfl,xF,?_⟩;have UR:=MC.same IJ
  have Sx:Xk (upd H8 r (.lst [])) Pt:=UR.put xF;have AQ:SameX Pt H (upd H8 r (.lst [])):=λb o hb e=>by rw[Zb (Zc e jY)];exact IJ _ _ (jR _ _ hb e)
  have k9:(upd H8 r (.lst [])) kA=some (.lst xs):=by rw[Zb kr];exact k8
  have hX9:Bears (Xb (upd H8 r (.lst []))) xs ((R.drop nn).take mo):=jT.imp λ_ _ h=>by
   obtain⟨c,e,hc⟩:=h;have bO:=IJ _ _ hc
   exact⟨c,e,by rw[Zb (Qw bO xF (by simp))];exact bO⟩
  have hW9:=hW.samex hT AQ;generalize upd H8 r (.lst [])=H9 at *;refine⟨_,rfl,_,rfl,_,rfl,w,n,ps,_,_,R,rfl,hW9,hG,Sx,by omega,by omega,by omega,by omega,λ_=>hR,Io,λ_ rf zf HA Hg jQ hrf0 hrf hZ=>?_,λh=>absurd h (by omega)⟩;rw[Yv,Yv]at hZ;have kA9:=Hg _ _ (Sx.ne k9 (by simp)) k9
  have hXA:Nx HA xs ((R.drop nn).take mo):=hX9.imp λ_ _ h=>by obtain⟨c,e,hc⟩:=h;exact⟨c,e,Hg _ _ (Sx.ne hc (by simp)) hc⟩
  refine⟨_,rfl,2,_,rf,kA,rfl,rfl,by decide,gP (SqL.of hrf) (SqL.of kA9) hZ hXA,?_⟩;show Q (.bl (decide (((R.drop nn).take mo)=((R.drop nn).take mo)))) HA
  rw[Yx rfl];exact q HA (AQ.trans Hg) jQ
def AO(K:Ad)(Pt:Addr):Sp:=λvs H Q _=>∃(a:Addr) (ns:Ac),vs=[.ref a]/\SqL K H a (IL ns)/\ns.length<=63/\Xk H Pt/\∀ H',Q (.bl true) H'
theorem Tn:FnScope ["script","count","ties","web","total","k","cell","m"] ["script"] (XA sZQ):=⟨rfl,rfl,rfl,by decide +kernel,rfl,by decide +kernel,by decide +kernel⟩
theorem jP {Pt:Addr} (T:Txt K mg t) (hB:QJ K mg base t.dZt Pt):FnOk P w K mg base Xf 47 t.aZQ t.dZQ ["script"] (AO K Pt):=by
 refine T.fZQ.ok Tn (λvs H Q E h=>?_) (λXz A outer s H vs Q E hr h=>?_)
 .obtain⟨a,ns,rfl,_⟩:=h;rfl
 .obtain⟨a,ns,rfl,hS,MJ,hT,k⟩:=h;refine⟨_,(XN (Gd (Za (ki T) (hr.mono (by decide)) rfl T.mZM T.fZM.kp T.bZM .nil Zt (XZ (pv 0) XY)) (QO (n:=2) K rfl (Zr (Zf (i:=1) Tn.nd rfl (Or.inl rfl)) (Zr (Zf (i:=2) Tn.nd rfl (Or.inl rfl)) QV))))
   (XN (Zh (i:=3) Tn.nd rfl (Or.inl rfl) (FC T.k_Web (BV T) (hr.mono (by decide)) rfl T.c_Web T.bZ8 .nil Zt (XZ (pv 1) (XZ (pv 2) XY))))
   (XN (Zh (i:=4) Tn.nd rfl (Or.inl rfl) (Za (MR T) (hr.mono (by decide)) rfl T.mZj T.fZj.kp T.bZj .nil Zt (XZ (pv 3) XY)))
   (XN (SQ Ww rfl (LZ K rfl T.n_enumerate (XZ (Za (ku T) (hr.mono (by decide)) rfl T.mZL T.fZL.kp T.bZL .nil Zt (XZ (pv 0) (XZ XQ XY))) XY)) (QO (n:=2) K rfl (Zr (Zf (i:=5) Tn.nd rfl (Or.inl rfl)) (Zr (Zf (i:=6) Tn.nd rfl (Or.inl rfl)) QV)))
   (XF (Wx (Oh (OU (Za (j0 T hB) (hr.mono (by decide)) rfl T.mZP T.fZP.kp T.bZP .nil Zt (XZ (pv 3) (XZ (pv 4) (XZ (Za (Sz T) (hr.mono (by decide)) rfl T.mZH T.fZH.kp T.bZH .nil Zt (XZ (pv 6) (XZ (Zl ZW XQ (pv 5)) XY))) XY))))))
   (XF (Zk RQ))
   Zp)))
   (XN (Zh (i:=7) Tn.nd rfl (Or.inl rfl) (Za (Sz T) (hr.mono (by decide)) rfl T.mZH T.fZH.kp T.bZH .nil Zt (XZ (Za (Ul T) (hr.mono (by decide)) rfl T.mZG T.fZG.kp T.bZG .nil Zt (XZ (pv 0) (XZ XQ XY))) (XZ XQ XY))))
   (XF (Zk (wk (Za (AY T hB) (hr.mono (by decide)) rfl T.mZN T.fZN.kp T.bZN .nil Zt (XZ (pv 3) (XZ (Zl Uz (RP HQ XQ) (Zl ZF (Zl OT (pv 7) XQ) XQ)) (XZ (Zl ZF (pv 7) XQ) XY)))) (Gm (Za (AY T hB) (hr.mono (by decide)) rfl T.mZN T.fZN.kp T.bZN .nil Zt (XZ (pv 3) (XZ (Zl Uz (RP HQ (pv 4)) (Zl ZF (pv 7) (Zl VL XQ XQ))) (XZ XQ XY))))))))))))),?_⟩
  refine⟨_,rfl,a,ns,rfl,hS,MJ,λr l n xs ps H1 s1 VP QK SG hP hG Oe hJ=>?_⟩;refine⟨r,_,rfl,SqT.of VP,rfl,_,_,rfl,_,_,rfl,rfl,?_⟩;refine nm ?_;dsimp only [List.set];refine⟨_,rfl,_,rfl,?_⟩;intro x dx nx Pq SK;have t1:Same H1 (upd (upd H1 dx (.own x)) x (.ins t.A_Web dx [])):=Zy (XH Pq) (by rw[Zb (YW SK)];exact nx)
  refine⟨x,dx,n,l,false,xs,ps,rfl,XS,λo=>?_,hP.same t1,hG,λH3 hW k3=>⟨rfl,?_⟩⟩
  .exact SqL.of (by rw[Zb (Zc SG nx),Zb (Zc SG nx),Zb (Zc SG Pq)];exact SG)
  have t03:Same H1 H3:=λb o e=>k3 b o (t1 b o e) (Zc e nx);have s3:=s1.trans t03
  refine nm ?_;dsimp only [List.set];have hg:=(ZR6 hG).mp hJ
  have hF:=gR hG hg;have VQ:∀ U,Ze n ps U->HT.lexLt U (WO n.toNat ps ps.length)=false:=λU hU=>Zi8 hG hU
  obtain⟨R,hR,kX,nY⟩:=oP hG ⟨_,hF⟩;obtain⟨_,_,_,_,_,_,_,_,He⟩:=id hR;refine⟨_,rfl,x,n,ps,rfl,hW,hG,λc H4 hc s4=>?_⟩;obtain rfl:=hc.uniq He;refine nm ?_;dsimp only [List.set];have Oz:=s3.trans s4
  have MC:=hT.same Oz;have c20:=fB hG hc
  have c0:0<R.length:=Qy ((nY _).mpr hF);have jS:=hW.same s4
  have AW:=(oy (L:=[]) hG hR hF VQ).2.1;have bM:=Oz.seq hS
  refine⟨_,rfl,a,ns,2,rfl,bM,MJ,λcA cs H7 s7 MW hcl'=>?_⟩;have Ra:=MC.same s7
  have bL:=jS.same s7;have hS7:=s7.seq bM
  refine⟨cA,rfl,⟨_,SqL.of MW⟩,zB (K:=K) (a:=cA) (xs:=IL cs) (λi σ H8=>∃(v5 v6:Option V),σ=[some (.ref a),some (.int n),some (.ref l),some (.ref x),some (.int R.length),v5,v6,none]/\SameX Pt H7 H8/\Xk H8 Pt) ⟨none,none,rfl,SameX.same (Same.refl _),Ra⟩ (λi σ H8 _ h=>by obtain⟨_,_,_,e,_⟩:=h;exact SqL.of (e _ _ (Ra.ne MW (by simp)) MW)) ?_ ?_⟩
  .rintro i v σ H8 pt US hi ⟨v5,v6,rfl,Hh,UR⟩;obtain⟨c,rfl,WI⟩:=UL hi;have Vn:=(Xp.mp WI).1
   have u9:=XH (o:=.tup [.int i,.int c]) US;refine⟨pt,_,rfl,SqT.of XS,rfl,_,_,rfl,_,_,rfl,rfl,?_⟩;have II:=Hh.trans (SameX.same u9)
   have Sx:=UR.same u9;generalize upd H8 pt (.tup [.int i,.int c])=H9 at *;refine⟨_,rfl,_,rfl,_,rfl,_,rfl,_,_,rfl,rfl,c,_,rfl,by omega,by omega,λm m0=>?_⟩;refine⟨x,n,ps,m,R,rfl,bL.samex Ra II,hG,Sx,hR,kX,nY,AW,c0,λHB bK AN=>⟨_,rfl,?_⟩⟩;refine VJ ?_;exact⟨_,_,rfl,II.trans bK,AN⟩
  .rintro σ H8 ⟨v5,v6,rfl,Hh,UR⟩;have hS8:SqL K H8 a (IL ns):=SqK.samex (kd:=false) hS7 Ra Hh
   have bJ:=bL.samex Ra Hh;refine⟨_,rfl,a,ns,4,rfl,hS8,by decide,λc4=>⟨c4,75,rfl,by decide,by decide,λm m0=>?_⟩⟩;refine nm ?_;dsimp only [List.set];have e0:=YL (m / 8) (show(9:Int)≠0 by decide)
   have e1:=YJ (m / 8) (show(0:Int)<9 by decide);have g0:=YL m (show(3:Int)≠0 by decide)
   have g1:=YJ m (show(0:Int)<3 by decide);have f0:0<=m % 10 ^ (59:Int).toNat:=YL _ (by decide)
   have f1:m % 10 ^ (59:Int).toNat<10 ^ 59:=YJ _ (by decide);have Io:(∀ U,¬ Ze n ps U)->R=[]:=λno=>absurd hF (no _)
   refine⟨_,rfl,_,rfl,_,rfl,_,_,rfl,rfl,⟨by decide,by decide⟩,_,_,rfl,rfl,(by show(0:Int)<9;decide),_,_,rfl,rfl,_,rfl,_,_,rfl,rfl,(by show(0:Int)<3;decide),x,n,ps,_,_,R,rfl,bJ,hG,UR,(by show -(10 ^ 70) < -1 - m / 8 % 9;omega),(by show -1 - m / 8 % 9<0;omega),(by show 0<=m % 3;omega),(by show m % 3<=100000;omega),λ_=>hR,Io,λH9 II Sx=>⟨_,rfl,?_⟩⟩;refine Ve ?_;exact⟨_,rfl,_,rfl,_,rfl,_,rfl,_,_,rfl,rfl,⟨by decide,by decide,by decide⟩,_,_,rfl,rfl,(by show(0:Int)<10 ^ 59;decide),_,_,rfl,rfl,x,n,ps,_,_,R,rfl,bJ.samex UR II,hG,Sx,(by show -(10 ^ 70) < -(R.length:Int) - m % 10 ^ (59:Int).toNat;omega),(by show -(R.length:Int) - m % 10 ^ (59:Int).toNat<0;omega),by decide,by decide,λ_=>hR,Io,λHB bK AN=>k _⟩
end
end My
namespace My
open PySem L2
theorem QZ {K:Ad} {f:Addr} {fd:FuncData} (F:Fun K "law" "law" sZQ f fd) (s:Shared) (u:Value):BindsTo s fd ⟨[u],[]⟩ [("script",u)]:=by obtain⟨oc,od,kV,doc,pm,an,Xz,ct,Ux,rfl,lk,Ui⟩:=F.ex;exact .of_eq rfl
end My
open PySem PySem.W PyProof.Rows
set_option maxRecDepth 100000 in
set_option maxHeartbeats 0 in
theorem PySem.Challenge.cw_spanrow_k41_pieces_of_the_row_holds : PySem.Challenge.rw_spanrow_k41_pieces_of_the_row.Holds := by
 w_on;o_law;k_head;(case hw=>w_witness2)
 k_fill
 refine L2.Pz (l:=PySem.Challenge.rw_spanrow_k41_pieces_of_the_row) (n:=63) (k:=47) (x:="script") (CX:=L2.Xf) (sp:=λK=>My.AO K 320) (c:=322) (Pt:=320) rfl (by decide) rfl ⟨rfl,by decide,by decide⟩ (λw h Y=>⟨PySem.W.km_in_of Y,PySem.W.km_tabs_of Y 320 (XD.mpr rfl)⟩) ?C ?P ?F (λ_ H a ns hl hO hS=>⟨a,ns,rfl,hS,hl,⟨#[],hO.1,trivial,.inl rfl⟩,λ_=>rfl⟩) (λ_ _ _ _ z=>z)
 case C=>intro w;kernel_rfl
 case P=>intro w;kernel_rfl
 case F =>
  intro w mg fa h KX G Fd;obtain⟨aZ0,dZ0,mZ0,fZ0⟩:My.FX (L2.XG KX) mg "refuse_not_square" "refuse_not_square" My.sZ0:=by dsimp only [L2.XG];refine' My.XR KX G ?a ?l ?c ?k;case a | l | c | k=>k_is
  obtain⟨aZ1,dZ1,mZ1,fZ1⟩:My.FX (L2.XG KX) mg "row_taken_off" "row_taken_off" My.sZ1:=by dsimp only [L2.XG];refine' My.XR KX G ?a ?l ?c ?k;case a | l | c | k=>k_is
  obtain⟨aZ2,dZ2,mZ2,fZ2⟩:My.FX (L2.XG KX) mg "first_with_some" "first_with_some" My.sZ2:=by dsimp only [L2.XG];refine' My.XR KX G ?a ?l ?c ?k;case a | l | c | k=>k_is
  obtain⟨aZ3,dZ3,mZ3,fZ3⟩:My.FX (L2.XG KX) mg "determinant" "determinant" My.sZ3:=by dsimp only [L2.XG];refine' My.XR KX G ?a ?l ?c ?k;case a | l | c | k=>k_is
  obtain⟨aZ4,dZ4,mZ4,fZ4⟩:My.FX (L2.XG KX) mg "row_without" "row_without" My.sZ4:=by dsimp only [L2.XG];refine' My.XR KX G ?a ?l ?c ?k;case a | l | c | k=>k_is
  obtain⟨aZ5,dZ5,mZ5,fZ5⟩:My.FX (L2.XG KX) mg "table_without" "table_without" My.sZ5:=by dsimp only [L2.XG];refine' My.XR KX G ?a ?l ?c ?k;case a | l | c | k=>k_is
  obtain⟨aZ6,dZ6,mZ6,fZ6⟩:My.FX (L2.XG KX) mg "is_tie" "is_tie" My.sZ6:=by dsimp only [L2.XG];refine' My.XR KX G ?a ?l ?c ?k;case a | l | c | k=>k_is
  obtain⟨aZ7,dZ7,mZ7,fZ7⟩:My.FX (L2.XG KX) mg "refuse_bad_web" "refuse_bad_web" My.sZ7:=by dsimp only [L2.XG];refine' My.XR KX G ?a ?l ?c ?k;case a | l | c | k=>k_is
  obtain⟨aZ9,dZ9,mZ9,fZ9⟩:My.FX (L2.XG KX) mg "ties_beside" "ties_beside" My.sZ9:=by dsimp only [L2.XG];refine' My.XR KX G ?a ?l ?c ?k;case a | l | c | k=>k_is
  obtain⟨aZa,dZa,mZa,fZa⟩:My.FX (L2.XG KX) mg "ties_without" "ties_without" My.sZa:=by dsimp only [L2.XG];refine' My.XR KX G ?a ?l ?c ?k;case a | l | c | k=>k_is
  obtain⟨aZb,dZb,mZb,fZb⟩:My.FX (L2.XG KX) mg "is_set" "is_set" My.sZb:=by dsimp only [L2.XG];refine' My.XR KX G ?a ?l ?c ?k;case a | l | c | k=>k_is
  obtain⟨aZc,dZc,mZc,fZc⟩:My.FX (L2.XG KX) mg "made_set" "made_set" My.sZc:=by dsimp only [L2.XG];refine' My.XR KX G ?a ?l ?c ?k;case a | l | c | k=>k_is
  obtain⟨aZd,dZd,mZd,fZd⟩:My.FX (L2.XG KX) mg "merged_marks" "merged_marks" My.sZd:=by dsimp only [L2.XG];refine' My.XR KX G ?a ?l ?c ?k;case a | l | c | k=>k_is
  obtain⟨aZe,dZe,mZe,fZe⟩:My.FX (L2.XG KX) mg "piece_marks" "piece_marks" My.sZe:=by dsimp only [L2.XG];refine' My.XR KX G ?a ?l ?c ?k;case a | l | c | k=>k_is
  obtain⟨aZf,dZf,mZf,fZf⟩:My.FX (L2.XG KX) mg "pieces_of" "pieces_of" My.sZf:=by dsimp only [L2.XG];refine' My.XR KX G ?a ?l ?c ?k;case a | l | c | k=>k_is
  obtain⟨aZg,dZg,mZg,fZg⟩:My.FX (L2.XG KX) mg "is_joined" "is_joined" My.sZg:=by dsimp only [L2.XG];refine' My.XR KX G ?a ?l ?c ?k;case a | l | c | k=>k_is
  obtain⟨aZh,dZh,mZh,fZh⟩:My.FX (L2.XG KX) mg "weighted_table" "weighted_table" My.sZh:=by dsimp only [L2.XG];refine' My.XR KX G ?a ?l ?c ?k;case a | l | c | k=>k_is
  obtain⟨aZi,dZi,mZi,fZi⟩:My.FX (L2.XG KX) mg "pull_table" "pull_table" My.sZi:=by dsimp only [L2.XG];refine' My.XR KX G ?a ?l ?c ?k;case a | l | c | k=>k_is
  obtain⟨aZj,dZj,mZj,fZj⟩:My.FX (L2.XG KX) mg "tree_count" "tree_count" My.sZj:=by dsimp only [L2.XG];refine' My.XR KX G ?a ?l ?c ?k;case a | l | c | k=>k_is
  obtain⟨aZk,dZk,mZk,fZk⟩:My.FX (L2.XG KX) mg "part_count" "part_count" My.sZk:=by dsimp only [L2.XG];refine' My.XR KX G ?a ?l ?c ?k;case a | l | c | k=>k_is
  obtain⟨aZl,dZl,mZl,fZl⟩:My.FX (L2.XG KX) mg "is_tree" "is_tree" My.sZl:=by dsimp only [L2.XG];refine' My.XR KX G ?a ?l ?c ?k;case a | l | c | k=>k_is
  obtain⟨aZm,dZm,mZm,fZm⟩:My.FX (L2.XG KX) mg "refuse_no_tree" "refuse_no_tree" My.sZm:=by dsimp only [L2.XG];refine' My.XR KX G ?a ?l ?c ?k;case a | l | c | k=>k_is
  obtain⟨aZn,dZn,mZn,fZn⟩:My.FX (L2.XG KX) mg "grown_tree" "grown_tree" My.sZn:=by dsimp only [L2.XG];refine' My.XR KX G ?a ?l ?c ?k;case a | l | c | k=>k_is
  obtain⟨aZo,dZo,mZo,fZo⟩:My.FX (L2.XG KX) mg "tree_cut" "tree_cut" My.sZo:=by dsimp only [L2.XG];refine' My.XR KX G ?a ?l ?c ?k;case a | l | c | k=>k_is
  obtain⟨aZp,dZp,mZp,fZp⟩:My.FX (L2.XG KX) mg "ring_of" "ring_of" My.sZp:=by dsimp only [L2.XG];refine' My.XR KX G ?a ?l ?c ?k;case a | l | c | k=>k_is
  obtain⟨aZq,dZq,mZq,fZq⟩:My.FX (L2.XG KX) mg "least_in" "least_in" My.sZq:=by dsimp only [L2.XG];refine' My.XR KX G ?a ?l ?c ?k;case a | l | c | k=>k_is
  obtain⟨aZr,dZr,mZr,fZr⟩:My.FX (L2.XG KX) mg "end_pieces" "end_pieces" My.sZr:=by dsimp only [L2.XG];refine' My.XR KX G ?a ?l ?c ?k;case a | l | c | k=>k_is
  obtain⟨aZs,dZs,mZs,fZs⟩:My.FX (L2.XG KX) mg "open_ties" "open_ties" My.sZs:=by dsimp only [L2.XG];refine' My.XR KX G ?a ?l ?c ?k;case a | l | c | k=>k_is
  obtain⟨aZu,dZu,mZu,fZu⟩:My.FX (L2.XG KX) mg "whole_part" "whole_part" My.sZu:=by dsimp only [L2.XG];refine' My.XR KX G ?a ?l ?c ?k;case a | l | c | k=>k_is
  obtain⟨aZv,dZv,mZv,fZv⟩:My.FX (L2.XG KX) mg "half_without" "half_without" My.sZv:=by dsimp only [L2.XG];refine' My.XR KX G ?a ?l ?c ?k;case a | l | c | k=>k_is
  obtain⟨aZw,dZw,mZw,fZw⟩:My.FX (L2.XG KX) mg "half_with" "half_with" My.sZw:=by dsimp only [L2.XG];refine' My.XR KX G ?a ?l ?c ?k;case a | l | c | k=>k_is
  obtain⟨aZx,dZx,mZx,fZx⟩:My.FX (L2.XG KX) mg "part_size" "part_size" My.sZx:=by dsimp only [L2.XG];refine' My.XR KX G ?a ?l ?c ?k;case a | l | c | k=>k_is
  obtain⟨aZy,dZy,mZy,fZy⟩:My.FX (L2.XG KX) mg "trees_with_tie" "trees_with_tie" My.sZy:=by dsimp only [L2.XG];refine' My.XR KX G ?a ?l ?c ?k;case a | l | c | k=>k_is
  obtain⟨aZz,dZz,mZz,fZz⟩:My.FX (L2.XG KX) mg "undivided_row" "undivided_row" My.sZz:=by dsimp only [L2.XG];refine' My.XR KX G ?a ?l ?c ?k;case a | l | c | k=>k_is
  obtain⟨aZA,dZA,mZA,fZA⟩:My.FX (L2.XG KX) mg "trees_between" "trees_between" My.sZA:=by dsimp only [L2.XG];refine' My.XR KX G ?a ?l ?c ?k;case a | l | c | k=>k_is
  obtain⟨aZB,dZB,mZB,fZB⟩:My.FX (L2.XG KX) mg "refuse_below_nought" "refuse_below_nought" My.sZB:=by dsimp only [L2.XG];refine' My.XR KX G ?a ?l ?c ?k;case a | l | c | k=>k_is
  obtain⟨aZC,dZC,mZC,fZC⟩:My.FX (L2.XG KX) mg "row_from" "row_from" My.sZC:=by dsimp only [L2.XG];refine' My.XR KX G ?a ?l ?c ?k;case a | l | c | k=>k_is
  obtain⟨aZD,dZD,mZD,fZD⟩:My.FX (L2.XG KX) mg "row_at" "row_at" My.sZD:=by dsimp only [L2.XG];refine' My.XR KX G ?a ?l ?c ?k;case a | l | c | k=>k_is
  obtain⟨aZE,dZE,mZE,fZE⟩:My.FX (L2.XG KX) mg "number_in" "number_in" My.sZE:=by dsimp only [L2.XG];refine' My.XR KX G ?a ?l ?c ?k;case a | l | c | k=>k_is
  obtain⟨aZF,dZF,mZF,fZF⟩:My.FX (L2.XG KX) mg "row_number" "row_number" My.sZF:=by dsimp only [L2.XG];refine' My.XR KX G ?a ?l ?c ?k;case a | l | c | k=>k_is
  obtain⟨aZG,dZG,mZG,fZG⟩:My.FX (L2.XG KX) mg "_law_at" "_law_at" My.sZG:=by dsimp only [L2.XG];refine' My.XR KX G ?a ?l ?c ?k;case a | l | c | k=>k_is
  obtain⟨aZH,dZH,mZH,fZH⟩:My.FX (L2.XG KX) mg "_law_mixed" "_law_mixed" My.sZH:=by dsimp only [L2.XG];refine' My.XR KX G ?a ?l ?c ?k;case a | l | c | k=>k_is
  obtain⟨aZI,dZI,mZI,fZI⟩:My.FX (L2.XG KX) mg "_law_digits" "_law_digits" My.sZI:=by dsimp only [L2.XG];refine' My.XR KX G ?a ?l ?c ?k;case a | l | c | k=>k_is
  obtain⟨aZJ,dZJ,mZJ,fZJ⟩:My.FX (L2.XG KX) mg "_law_stirred" "_law_stirred" My.sZJ:=by dsimp only [L2.XG];refine' My.XR KX G ?a ?l ?c ?k;case a | l | c | k=>k_is
  obtain⟨aZK,dZK,mZK,fZK⟩:My.FX (L2.XG KX) mg "_law_large" "_law_large" My.sZK:=by dsimp only [L2.XG];refine' My.XR KX G ?a ?l ?c ?k;case a | l | c | k=>k_is
  obtain⟨aZL,dZL,mZL,fZL⟩:My.FX (L2.XG KX) mg "_law_cells" "_law_cells" My.sZL:=by dsimp only [L2.XG];refine' My.XR KX G ?a ?l ?c ?k;case a | l | c | k=>k_is
  obtain⟨aZM,dZM,mZM,fZM⟩:My.FX (L2.XG KX) mg "_law_far_web" "_law_far_web" My.sZM:=by dsimp only [L2.XG];refine' My.XR KX G ?a ?l ?c ?k;case a | l | c | k=>k_is
  obtain⟨aZN,dZN,mZN,fZN⟩:My.FX (L2.XG KX) mg "_law_refused" "_law_refused" My.sZN:=by dsimp only [L2.XG];refine' My.XR KX G ?a ?l ?c ?k;case a | l | c | k=>k_is
  obtain⟨aZO,dZO,mZO,fZO⟩:My.FX (L2.XG KX) mg "_law_chain" "_law_chain" My.sZO:=by dsimp only [L2.XG];refine' My.XR KX G ?a ?l ?c ?k;case a | l | c | k=>k_is
  obtain⟨aZP,dZP,mZP,fZP⟩:My.FX (L2.XG KX) mg "_law_good" "_law_good" My.sZP:=by dsimp only [L2.XG];refine' My.XR KX G ?a ?l ?c ?k;case a | l | c | k=>k_is
  obtain⟨aZQ,dZQ,oq,fZQ⟩:My.FX (L2.XG KX) mg "law" "law" My.sZQ:=by dsimp only [L2.XG];refine' My.XR KX G ?a ?l ?c ?k;case a | l | c | k=>k_is
  have AM:My.iz (L2.XG KX) mg "Web" "Web.__init__" My.sZ8 ["places","ties"]:=by
   dsimp only [L2.XG];refine' My.EN KX G ?aC ?a ?i ?l ?c ?k ?pg ?hd ?po ?sa ?mk ?kc ?na
   (case aC=>k_is);(case a=>k_is);(case i=>k_is);(case l=>k_is);(case c=>k_is);(case k=>k_is)
   (case pg=>k_is);(case hd=>k_is);(case po=>k_is);(case sa=>k_is);(case mk=>k_is);(case kc=>k_is)
   (case na=>(intro f hf;simp only [Yg,w6,or_false]at hf;rcases hf with rfl | rfl <;> k_is))
  have Il:My.CB (L2.XG KX) mg "Part" "Part.__init__" My.sZt ["web","kept","shut","lead","least","incoming","further"] 320:=by
   dsimp only [L2.XG];refine' My.Jb KX G ?aC ?a ?i ?l ?c ?k ?pg ?hd ?po ?sa ?mk ?kc ?na ?z
   (case aC=>k_is);(case a=>k_is);(case i=>k_is);(case l=>k_is);(case c=>k_is);(case k=>k_is)
   (case pg=>k_is);(case hd=>k_is);(case po=>k_is);(case sa=>k_is);(case mk=>k_is);(case kc=>k_is)
   (case na=>(intro f hf;simp only [Yg,w6,or_false]at hf;rcases hf with rfl | rfl | rfl | rfl | rfl | rfl | rfl <;> k_is))
   (case z=>kernel_rfl)
  have hX:∃ A_WebError A_NoTree A_NoSuch A_Parted:Addr,mg "WebError"=some (.ref A_WebError)/\mg "NoTree"=some (.ref A_NoTree)/\mg "NoSuch"=some (.ref A_NoSuch)/\mg "Parted"=some (.ref A_Parted)/\L2.XCls (L2.XG KX) (A_NoSuch)/\PySem.W.kitOne (L2.XG KX) (.ref (A_NoSuch)) (.type "ValueError")=some true/\PySem.W.kitOne (L2.XG KX) (.ref (A_NoSuch)) (.ref (A_NoTree))=some false/\PySem.W.kitOne (L2.XG KX) (.ref (A_NoSuch)) (.ref (A_Parted))=some false/\PySem.W.exmOne (L2.XG KX) (.ref (A_NoSuch)) (.ref (A_WebError))=some true:=by
   dsimp only [L2.XG];refine' My.xI (My.xI (My.xI (My.xI (⟨Mo KX G ?m_WebError,Mo KX G ?m_NoTree,Mo KX G ?m_NoSuch,Mo KX G ?m_Parted,⟨?x_NoSuch_ex,?x_NoSuch_ga,?x_NoSuch_gh,?x_NoSuch_cl,?x_NoSuch_ob,?x_NoSuch_bx⟩,?ki_NoSuch_ValueError,?ki_NoSuch_NoTree,?ki_NoSuch_Parted,?em_NoSuch⟩))))
   (case m_WebError=>k_is)
   (case m_NoTree=>k_is)
   (case m_NoSuch=>k_is)
   (case m_Parted=>k_is)
   (case x_NoSuch_ex=>k_exc);(case x_NoSuch_ga=>k_is);(case x_NoSuch_gh=>k_is);(case x_NoSuch_cl=>k_is);(case x_NoSuch_ob=>k_is);(case x_NoSuch_bx=>k_is)
   (case ki_NoSuch_ValueError=>kit_is)
   (case ki_NoSuch_NoTree=>kit_is)
   (case ki_NoSuch_Parted=>kit_is)
   (case em_NoSuch=>kts_exm)
  have h_MOST_PLACES:∃ tk,mg "MOST_PLACES"=some (.int 14 tk):=by
   refine' My.TM KX G ?a ?b
   (case a=>k_is);(case b=>exact⟨_,rfl⟩)
  have h_MOST_TIES:∃ tk,mg "MOST_TIES"=some (.int 30 tk):=by
   refine' My.TM KX G ?a ?b
   (case a=>k_is);(case b=>exact⟨_,rfl⟩)
  have h_ValueError:mg "ValueError"=none:=by refine' VY KX G ?a;case a=>k_is
  have h_enumerate:mg "enumerate"=none:=by refine' VY KX G ?a;case a=>k_is
  have h_isinstance:mg "isinstance"=none:=by refine' VY KX G ?a;case a=>k_is
  have AL:mg "len"=none:=by refine' VY KX G ?a;case a=>k_is
  have Ik:mg "list"=none:=by refine' VY KX G ?a;case a=>k_is
  have AK:mg "max"=none:=by refine' VY KX G ?a;case a=>k_is
  have AJ:mg "min"=none:=by refine' VY KX G ?a;case a=>k_is
  have MB:mg "range"=none:=by refine' VY KX G ?a;case a=>k_is
  have h_reversed:mg "reversed"=none:=by refine' VY KX G ?a;case a=>k_is
  have AI:mg "set"=none:=by refine' VY KX G ?a;case a=>k_is
  have Pc:mg "sorted"=none:=by refine' VY KX G ?a;case a=>k_is
  have MA:mg "tuple"=none:=by refine' VY KX G ?a;case a=>k_is
  have AH:mg "zip"=none:=by refine' VY KX G ?a;case a=>k_is
  obtain⟨A_Web,aZ8,dZ8,c_Web,fZ8,cl_Web,k_Web,Pb⟩:=AM;obtain⟨A_Part,aZt,dZt,AG,c_Part,fZt,cl_Part,k_Part,WG,AF,AE⟩:=Il;obtain⟨A_WebError,A_NoTree,A_NoSuch,A_Parted,c_WebError,c_NoTree,c_NoSuch,c_Parted,x_NoSuch,ki_NoSuch_ValueError,ki_NoSuch_NoTree,ki_NoSuch_Parted,em_NoSuch⟩:=hX;have T:My.Txt (L2.XG KX) mg ⟨aZ0,dZ0,aZ1,dZ1,aZ2,dZ2,aZ3,dZ3,aZ4,dZ4,aZ5,dZ5,aZ6,dZ6,aZ7,dZ7,aZ8,dZ8,aZ9,dZ9,aZa,dZa,aZb,dZb,aZc,dZc,aZd,dZd,aZe,dZe,aZf,dZf,aZg,dZg,aZh,dZh,aZi,dZi,aZj,dZj,aZk,dZk,aZl,dZl,aZm,dZm,aZn,dZn,aZo,dZo,aZp,dZp,aZq,dZq,aZr,dZr,aZs,dZs,aZt,dZt,aZu,dZu,aZv,dZv,aZw,dZw,aZx,dZx,aZy,dZy,aZz,dZz,aZA,dZA,aZB,dZB,aZC,dZC,aZD,dZD,aZE,dZE,aZF,dZF,aZG,dZG,aZH,dZH,aZI,dZI,aZJ,dZJ,aZK,dZK,aZL,dZL,aZM,dZM,aZN,dZN,aZO,dZO,aZP,dZP,aZQ,dZQ,A_Web,A_Part,A_WebError,A_NoTree,A_NoSuch,A_Parted⟩:=⟨fZ0,fZ0.binds (λ_ _ _ _ _ _=>My.Sg λ_=>rfl),mZ0,fZ1,fZ1.binds (λ_ _ _ _ _ _=>My.Sf λ_ _ _=>rfl),mZ1,fZ2,fZ2.binds (λ_ _ _ _ _ _=>My.Sg λ_=>rfl),mZ2,fZ3,fZ3.binds (λ_ _ _ _ _ _=>My.Sg λ_=>rfl),mZ3,fZ4,fZ4.binds (λ_ _ _ _ _ _=>My.VI λ_ _=>rfl),mZ4,fZ5,fZ5.binds (λ_ _ _ _ _ _=>My.VI λ_ _=>rfl),mZ5,fZ6,fZ6.binds (λ_ _ _ _ _ _=>My.VI λ_ _=>rfl),mZ6,fZ7,fZ7.binds (λ_ _ _ _ _ _=>My.VI λ_ _=>rfl),mZ7,fZ8,fZ8.binds (λ_ _ _ _ _ _=>My.Sf λ_ _ _=>rfl),fZ9,fZ9.binds (λ_ _ _ _ _ _=>My.VI λ_ _=>rfl),mZ9,fZa,fZa.binds (λ_ _ _ _ _ _=>My.VI λ_ _=>rfl),mZa,fZb,fZb.binds (λ_ _ _ _ _ _=>My.VI λ_ _=>rfl),mZb,fZc,fZc.binds (λ_ _ _ _ _ _=>My.VI λ_ _=>rfl),mZc,fZd,fZd.binds (λ_ _ _ _ _ _=>My.Sf λ_ _ _=>rfl),mZd,fZe,fZe.binds (λ_ _ _ _ _ _=>My.VI λ_ _=>rfl),mZe,fZf,fZf.binds (λ_ _ _ _ _ _=>My.VI λ_ _=>rfl),mZf,fZg,fZg.binds (λ_ _ _ _ _ _=>My.VI λ_ _=>rfl),mZg,fZh,fZh.binds (λ_ _ _ _ _ _=>My.VI λ_ _=>rfl),mZh,fZi,fZi.binds (λ_ _ _ _ _ _=>My.Sg λ_=>rfl),mZi,fZj,fZj.binds (λ_ _ _ _ _ _=>My.Sg λ_=>rfl),mZj,fZk,fZk.binds (λ_ _ _ _ _ _=>My.Sf λ_ _ _=>rfl),mZk,fZl,fZl.binds (λ_ _ _ _ _ _=>My.VI λ_ _=>rfl),mZl,fZm,fZm.binds (λ_ _ _ _ _ _=>My.VI λ_ _=>rfl),mZm,fZn,fZn.binds (λ_ _ _ _ _ _=>My.Sf λ_ _ _=>rfl),mZn,fZo,fZo.binds (λ_ _ _ _ _ _=>My.Sf λ_ _ _=>rfl),mZo,fZp,fZp.binds (λ_ _ _ _ _ _=>My.Sf λ_ _ _=>rfl),mZp,fZq,fZq.binds (λ_ _ _ _ _ _=>My.Sf λ_ _ _=>rfl),mZq,fZr,fZr.binds (λ_ _ _ _ _ _=>My.Sf λ_ _ _=>rfl),mZr,fZs,fZs.binds (λ_ _ _ _ _ _=>My.Sf λ_ _ _=>rfl),mZs,fZt,fZt.binds (λ_ _ _ _ _ _=>My.un5 λ_ _ _ _ _=>rfl),fZu,fZu.binds (λ_ _ _ _ _ _=>My.Sg λ_=>rfl),mZu,fZv,fZv.binds (λ_ _ _ _ _ _=>My.Sg λ_=>rfl),mZv,fZw,fZw.binds (λ_ _ _ _ _ _=>My.Sg λ_=>rfl),mZw,fZx,fZx.binds (λ_ _ _ _ _ _=>My.Sg λ_=>rfl),mZx,fZy,fZy.binds (λ_ _ _ _ _ _=>My.VI λ_ _=>rfl),mZy,fZz,fZz.binds (λ_ _ _ _ _ _=>My.Sg λ_=>rfl),mZz,fZA,fZA.binds (λ_ _ _ _ _ _=>My.un4 λ_ _ _ _=>rfl),mZA,fZB,fZB.binds (λ_ _ _ _ _ _=>My.Sg λ_=>rfl),mZB,fZC,fZC.binds (λ_ _ _ _ _ _=>My.Sf λ_ _ _=>rfl),mZC,fZD,fZD.binds (λ_ _ _ _ _ _=>My.VI λ_ _=>rfl),mZD,fZE,fZE.binds (λ_ _ _ _ _ _=>My.Sf λ_ _ _=>rfl),mZE,fZF,fZF.binds (λ_ _ _ _ _ _=>My.VI λ_ _=>rfl),mZF,fZG,fZG.binds (λ_ _ _ _ _ _=>My.VI λ_ _=>rfl),mZG,fZH,fZH.binds (λ_ _ _ _ _ _=>My.VI λ_ _=>rfl),mZH,fZI,fZI.binds (λ_ _ _ _ _ _=>My.VI λ_ _=>rfl),mZI,fZJ,fZJ.binds (λ_ _ _ _ _ _=>My.VI λ_ _=>rfl),mZJ,fZK,fZK.binds (λ_ _ _ _ _ _=>My.Sg λ_=>rfl),mZK,fZL,fZL.binds (λ_ _ _ _ _ _=>My.VI λ_ _=>rfl),mZL,fZM,fZM.binds (λ_ _ _ _ _ _=>My.Sg λ_=>rfl),mZM,fZN,fZN.binds (λ_ _ _ _ _ _=>My.Sf λ_ _ _=>rfl),mZN,fZO,fZO.binds (λ_ _ _ _ _ _=>My.VI λ_ _=>rfl),mZO,fZP,fZP.binds (λ_ _ _ _ _ _=>My.Sf λ_ _ _=>rfl),mZP,fZQ,fZQ.binds (λ_ _ _ _ _ _=>My.Sg λ_=>rfl),oq,c_Web,cl_Web,k_Web,Pb _ (by simp),Pb _ (by simp),c_Part,cl_Part,k_Part,WG _ (by simp),WG _ (by simp),WG _ (by simp),WG _ (by simp),WG _ (by simp),WG _ (by simp),WG _ (by simp),c_WebError,c_NoTree,c_NoSuch,c_Parted,x_NoSuch,ki_NoSuch_ValueError,ki_NoSuch_NoTree,ki_NoSuch_Parted,em_NoSuch,h_MOST_PLACES,h_MOST_TIES,h_ValueError,h_enumerate,h_isinstance,AL,Ik,AK,AJ,MB,h_reversed,AI,Pc,MA,AH⟩
  have e0:=Fd.symm.trans oq;cases e0;exact⟨dZQ,λs u=>My.QZ fZQ s u,λbase _ _ HB=>My.jP T ⟨AG,AF,AE,HB,by decide⟩⟩
#print axioms PySem.Challenge.cw_spanrow_k41_pieces_of_the_row_holds
