import PyProof.Rows.All
import Wide.All
import OpenK.AllK
import Wide.FinOn
import Lean
import PyProof.EqAt
import PyProof.EqKinds
import PyProof.TupleCall
import PySem.Challenge.RW_spanrow_k45_whole_the_row_closes
set_option Elab.async false
set_option linter.all false
set_option maxRecDepth 100000
namespace PySem.W.Fast
def tw6880191531241070070:=0
def tw13889492180937913005:=0
def tw4826181696390019039:=0
def tw8118050383835774241:=0
def tw13275310317127808040:=0
def tw2606345230885217927:=0
def tw17434256568841682795:=0
def tw646350792944997386:=0
def tw15454761040188995864:=0
def tw15412351438458852951:=0
def tw7486800784145885075:=0
def tw2941706606928758461:=0
def tw5908434529492991232:=0
def tw14661886721391232528:=0
def tw9555650960676544355:=0
def tw15827169882570668107:=0
def tw7980639303074648003:=0
def tw9533853074550242307:=0
def tw10668332511484442538:=0
def tw1635333214710978118:=0
def tw9936170476777363659:=0
def tw340582160932534214:=0
def tw14445317199598605218:=0
def tw328206070644922871:=0
def tw11457825144788507771:=0
def tw15564413698228230092:=0
def tw10121251536763879719:=0
def tw15836185019348846831:=0
def tw10493008984746934757:=0
def tw11974240193825392856:=0
def tw9403189577959794921:=0
def tw15708186002678573600:=0
def tw447832885910151716:=0
def tw15965836504514824371:=0
def tw12402401048647357111:=0
def tw9758150393426690111:=0
def tw4517332533113583937:=0
def tw5732166580448388555:=0
def tw16126187306795079029:=0
def tw13812854840648977637:=0
def tw11130365817203626845:=0
def tw7352580838116026421:=0
def tw7084874009798062691:=0
def tw14639811523947081963:=0
def tw9551932418266064689:=0
def tw2123607617718215746:=0
def tw14187867646646960920:=0
def tw17683738990746194605:=0
def tw17747082462304078400:=0
def tw8986886032548291951:=0
def tw11067147899114966541:=0
def tw236761348568536240:=0
def tw7206945892632861093:=0
def tw2300892896234631304:=0
def tw5671825492378835320:=0
def tw4562454540088956977:=0
def tw12602172788717779916:=0
def tw12162403120899326027:=0
def tw12788257562689013435:=0
def tw186241566709305382:=0
def tw9575022157847657253:=0
def tw15034448885202825273:=0
def tw2260657290709836861:=0
def tw3779098358362139265:=0
def tw11325646046454899096:=0
def tw457824810212275848:=0
def tw3699580140289051102:=0
def tw15173368441083976220:=0
def tw10637092819022782516:=0
def tw17235399884828478046:=0
def tw8597134176697982919:=0
def tw11555670641365413581:=0
def tw6584726869345109191:=0
def tw12691231778553114638:=0
def tw1260444931584863759:=0
def tw2247449438101905086:=0
def tw14167256732633295823:=0
def tw6331546919744172543:=0
def tw2841804299496956448:=0
def tw8876463014380813805:=0
def tw2848564410576843303:=0
def tw9483167246890834302:=0
def tw3671040668650548554:=0
def tw6312851851968103213:=0
def tw13784454067569540780:=0
def tw10798723388800846313:=0
def tw7661524515641972634:=0
def tw2757970212428736333:=0
def tw15664277186832834792:=0
def tw17641482041203313392:=0
def tw2669735151327496352:=0
def tw10938791291480029157:=0
def tw12050570084527400103:=0
def tw6467187522470758796:=0
def tw8169524599701077126:=0
def tw7278907475632241303:=0
def tw15003330585152182049:=0
def tw12480039092895497165:=0
def tw13259727057545942458:=0
def tw14646011775136973062:=0
def tw17159134366901061655:=0
def tw13664596898614043206:=0
def tw18327434561969149992:=0
def tw8686016813537625752:=0
def tw7728015511700761446:=0
def tw11771644653505750556:=0
def tw57654947314776595:=0
def tw15476173418240001585:=0
def tw230906471858490865:=0
def tw12114754107218539622:=0
def tw10423023660275000052:=0
def tw3418145442045709083:=0
def tw6604845797204334635:=0
def tw13516188948568680929:=0
def tw11333670309734908303:=0
def tw6759544517644362400:=0
def tw7613853757870257452:=0
def tw13811310071128069318:=0
def tw11468010452685791685:=0
def tw5682141792892508827:=0
def tw5555377821068278117:=0
def tw3176951029768549702:=0
def tw2459365938982894363:=0
def tw5920791501176017357:=0
def tw5679133485081851319:=0
def tw6763191791621355820:=0
def tw17304372405304370006:=0
def tw7770572115156820126:=0
def tw17948521682441066412:=0
def tw3603772045450861945:=0
def tw10647698535082356581:=0
def tw17912580641709912208:=0
def tw12050323857114199319:=0
def tw12602911133342541427:=0
def tw9902774767562014671:=0
def tw6522079891123529637:=0
def tw2832439755242384518:=0
def tw437621285175807341:=0
def tw13180267548798710956:=0
def tw15135836692681770370:=0
def tw10952346010238439430:=0
def tw1333194787794367504:=0
def tw7053727615274386360:=0
def tw16364997591784446884:=0
def tw8348362311741151081:=0
def tw10139219047165216519:=0
def tw12359813929212727169:=0
def tw18388620790944517737:=0
def tw8723088111966508001:=0
def tw2852900896189708034:=0
def tw5950775030175219021:=0
def tw1631918057020348223:=0
def tw15026480995968737149:=0
def tw8209520215047920778:=0
def tw3269310902406780030:=0
def tw10102960796472698710:=0
def tw17888028055419648665:=0
def tw6434952689241582964:=0
def tw1555716357374052149:=0
def tw17329163154569822102:=0
def tw11580945596839610396:=0
def tw12151733063702978893:=0
def tw12546700322479282993:=0
def tw3320147974672253124:=0
def tw13087734375356827868:=0
def tw12071888188878628400:=0
def tw8661954576581792832:=0
def tw7216071677868912001:=0
def tw16851157122131191530:=0
def tw5586194405990387141:=0
def tw4023541577198040849:=0
def tw17958958728632327283:=0
def tw7973303221902061291:=0
def tw14002677597921155325:=0
def tw16994025964553540866:=0
def tw5002510187106806688:=0
def tw9395825085828524989:=0
def tw8115286911029703449:=0
def tw7001386649530950617:=0
def tw16043143780554809222:=0
def tw13988816689155923398:=0
def tw12050084754068710375:=0
def tw11018196016388664760:=0
def tw10724702034699331978:=0
def tw759476450463410304:=0
def tw16656529730568497650:=0
def tw10510222736405471878:=0
def tw9594523280425897227:=0
def tw12113057297434796008:=0
def tw7055619895557274692:=0
def tw16045264751710017972:=0
def tw4820222114784270376:=0
def tw1854085698357014493:=0
def tw15911868240022033689:=0
def tw15209256922659946440:=0
def tw14740415287847443740:=0
def tw5421016144019893368:=0
def tw8408663061530099414:=0
def tw15713330708221136568:=0
def tw13398317609833104970:=0
def tw10689827564314937452:=0
def tw12413923106483218617:=0
def tw5862742201638981740:=0
def tw4603371640107326123:=0
def tw4231412471287893865:=0
def tw548854422359255404:=0
def tw16330583672254052670:=0
def tw94839829898302446:=0
def tw9498727595049899415:=0
def tw5560632980978710194:=0
def tw7339487274659451851:=0
def tw11105371902791906357:=0
def tw16274982610564783978:=0
def tw7296845443376458045:=0
def tw7059019153369286243:=0
def tw12423833587848560813:=0
def tw17260566066088812592:=0
def tw17704311868445464063:=0
def tw950913136744992813:=0
def tw5736483202596602586:=0
def tw17214505505448992792:=0
def tw1072688641269140248:=0
def tw6758744069002412167:=0
def tw5223875948359730246:=0
def tw18106633765635543198:=0
def tw14491607689176454186:=0
def tw6228447353438053894:=0
def tw3814618769548591286:=0
def tw17626192897768552876:=0
def tw14352615313099551377:=0
def tw12579827951771837418:=0
def tw11219565452796126641:=0
def tw1781620018539124104:=0
def tw15712568487213753531:=0
def tw9650728611881351138:=0
def tw17937362645970027980:=0
def tw8165452746001091704:=0
def tw7424688832239276819:=0
def tw16450691367683439773:=0
def tw162691989514678835:=0
def tw13884878342576507042:=0
def tw12314845272806716920:=0
def tw8980865770092006803:=0
def tw8873289094912705338:=0
def tw14274821566906618830:=0
def tw7906858106542665101:=0
def tw14580363130583671182:=0
def tw8182963069861617037:=0
def tw10359268390030866000:=0
def tw17017341086562425260:=0
def tw14914029901199417491:=0
def tw7341106950680097144:=0
def tw728483704485591665:=0
def tw5184538884472958929:=0
def tw3238977355446463305:=0
def tw11319626717775682155:=0
def tw16832909638607924702:=0
def tw5603669304654492615:=0
def tw14353170433922888344:=0
def tw17849858274183718758:=0
def tw10938488949513378405:=0
def tw4977793218682822987:=0
def tw13021077197644083103:=0
def tw16334040699980726912:=0
def tw13331813324966040199:=0
def tw622220677744426742:=0
def tw17870895123331700257:=0
def tw8252787977887316266:=0
def tw17639880237409221799:=0
def tw5234674073534397738:=0
def tw7915518810802943139:=0
def tw15728131660796897722:=0
def tw5992369976455830702:=0
def tw12758830851699854474:=0
def tw7740253791048861952:=0
def tw3615104832981487417:=0
def tw13436905020384564629:=0
def tw362781006365142109:=0
def tw12897145041852789993:=0
def tw12786356060573729784:=0
def tw7532641819329250036:=0
def tw9279169939282553607:=0
def tw17932687906728223289:=0
def tw183195191910729319:=0
def tw9940448056166247049:=0
def tw12304049648713906672:=0
def tw433266310006686732:=0
def tw14280911692441551987:=0
def tw14658045285493439552:=0
def tw3604799092020005877:=0
def tw15467111459146554748:=0
def tw7645704338132426926:=0
def tw17207683906688533222:=0
def tw12914970088838118196:=0
def tw13869990664031615613:=0
def tw10173971189060771936:=0
def tw2839888955150855895:=0
def tw18385620071766675344:=0
def tw11033048034188932805:=0
def tw7805819917331658331:=0
def tw4841984216033409746:=0
def tw8279674016328530966:=0
def tw7474232015633155499:=0
def tw17533120952136604438:=0
def tw758809066064419923:=0
def tw11351409293251065362:=0
def tw9774674410508295815:=0
def tw8899603890436906605:=0
def tw7480981806866660504:=0
def tw5911709706446267872:=0
def tw5750025383062237339:=0
def tw4967216204772137978:=0
def tw4451033379563841801:=0
def tw16102176074282655363:=0
def tw14583331909938882904:=0
def tw13641813246893631045:=0
def tw11368847567153064815:=0
def tw10041424775220183710:=0
def tw13047386943212688959:=0
def tw8263157061022963929:=0
def tw2374449386097735687:=0
def tw14997297399920170424:=0
def tw14087653226459921562:=0
def tw5986753713515167458:=0
def tw2468975207506301997:=0
def tw3540414513007967095:=0
def tw5489637383361506477:=0
def tw12554724231301646839:=0
def tw6868789641128607936:=0
def tw11232070063308896828:=0
def tw8502683540719280883:=0
def tw3889059515951345073:=0
def tw13300665651850468452:=0
def tw11265962020647923567:=0
def tw9711327177454686945:=0
def tw9597156305351657840:=0
def tw7125809978169403795:=0
def tw5437743919098272146:=0
def tw2772790408740708382:=0
def tw1984591201652952330:=0
def tw9485684302992935182:=0
def tw7472531430917157537:=0
def tw5807053724621207035:=0
def tw5140865257441063771:=0
def tw4329975072031664387:=0
def tw3446952316187370258:=0
def tw183430362213369160:=0
def tw13419688623877360847:=0
def tw13024756482858889985:=0
def tw10451679748017012236:=0
end PySem.W.Fast
abbrev Aa:=List (Int × Int)
abbrev Ab:=List (List Int)
abbrev Ac:=List Int
abbrev Ad:=PySem.W.Frag
abbrev Ae:=PySem.Value->PySem.Shared->Prop
abbrev Af:=PySem.Str->Option PySem.Value
abbrev Ag:=List PySem.Value
def Xs:=@List.getElem?_eq_some_iff
def Xn:=@List.getElem?_eq_getElem
def XD:=@List.mem_singleton
def Xt:=@List.length_append
def XU:=@PySem.wpAny_bind
def Xg:=@List.mem_of_getElem?
def WZ:=@PySem.Heap.get?_push_of_some
def Xx:=@List.mem_append
def XN:=@Nat.le_refl
def WG:=@List.getD_eq_getElem?_getD
def Ya:=@List.size_toArray
def Yb:=@List.mem_append_left
def Yc:=@List.mem_filter
def Yd:=@List.length_map
def Ye:=@List.mem_cons_self
def Yf:=@List.mem_append_right
def Yg:=@Option.some.inj
def Yh:=@List.length_singleton
def Yi:=@List.mem_cons_of_mem
def Yj:=@List.mem_cons
def Yk:=@PySem.wpAny_pure
def Yl:=@Nat.zero_le
def Ym:=@PySem.Heap.get?_push_size
def Yn:=@decide_eq_true
def Yo:=@PySem.Heap.lt_size
def Yp:=@List.getElem?_append_right
def Yq:=@List.getElem?_map
def Yr:=@Nat.lt_of_lt_of_le
def Ys:=@List.getElem?_append_left
def Yt:=@Classical.byContradiction
def Yu:=@of_decide_eq_true
def Yv:=@Nat.le_trans
def Yw:=@Bool.false_ne_true
def Yx:=@Nat.ne_of_lt
def Yy:=@List.length_take
def Yz:=@Array.getD_eq_getD_getElem?
def YA:=@List.length_cons
def YB:=@List.length_filter_le
def YC:=@Int.toNat_natCast
def YD:=@List.mem_map
def YE:=@Array.length_toList
def YF:=@List.append_nil
def YG:=@Array.getElem?_eq_getElem
def YH:=@List.length_replicate
def YI:=@List.take_length
def YJ:=@List.mem_range
def YK:=@List.length_reverse
def YL:=@List.map_append
def YM:=@List.filter_cons
def YN:=@PySem.Heap.get?_update_other
def YO:=@List.pairwise_cons
def QP:=@List.nodup_append
def YQ:=@List.length_eq_zero_iff
def YR:=@Array.getElem?_toList
def YS:=@decide_eq_true_iff
def YT:=@List.map_congr_left
def YU:=@PySem.F.plainAttrs_list
def YV:=@List.map_cons
def YW:=@List.getElem?_eq_none
def YX:=@PySem.W.mg_none_of
def YY:=@Int.emod_lt_of_pos
def YZ:=@Ne.symm
def Wy:=@Nat.not_lt_zero
def VF:=@List.getElem?_of_mem
def Wx:=@Int.emod_nonneg
def Xw:=@congrArg
def Ww:=@PySem.PassesOwn.never
def WB:=@List.take_succ
def Vw:=@PySem.Heap.get?_update_self
def Uk:=@List.perm_ext_iff_of_nodup
def UN:=@List.take_of_length_le
def Vh:=@List.pairwise_append
def SF:=@decide_eq_false
def QH:=@List.filter_append
def Le:=@PyProof.Rows.callWith_type1
def SE:=@PySem.codeAny_builtin
def QG:=@List.append_assoc
def QZ:=@List.nodup_cons
def OZ:=@PySem.wpAny_Call_Name_kw
def OY:=@PySem.Obj.data_mapFields
def QF:=@List.length_drop
def QE:=@List.all_eq_true
def Us:=@Nat.le_succ
def OX:=@List.length_range
def SD:=@Int.mul_assoc
def SA:=@PySem.wpAny_holding
def QD:=@PySem.W.kia_one
def OW:=@Nat.lt_succ_self
def Ld:=@List.drop_eq_nil_of_le
def Uj:=@PySem.sizeLine_eq
def Ic:=@List.pairwise_iff_getElem
def Sz:=@Int.mul_zero
def Lc:=@List.getElem?_reverse
def QY:=@Nat.lt_irrefl
def OV:=@List.nil_append
def Mn:=@PySem.Heap.SameBut.update
def OU:=@Bool.eq_iff_iff
def Oo:=@PySem.wpAny_truthy_bool
def Om:=@PySem.wpAny_newObj_type
def To:=@Int.one_mul
def Sa:=@Nat.ne_of_gt
def RZ:=@Int.add_zero
def Ib:=@List.pairwise_singleton
def Mm:=@List.pairwise_map
def Ml:=@List.filter_congr
def Lb:=@PySem.mem_of_lookup
def La:=@List.replicate_succ
def Ol:=@PySem.F.plain_min_loop
def KZ:=@PySem.Around.under_plainId
def Ia:=@List.getElem?_zipWith
def TF:=@PySem.wpAny_mono
def Mj:=@List.lookup_cons
def Mi:=@List.getElem_mem
def GR:=@PySem.F.type_list_append
def GQ:=@PySem.F.slot_list_append
def QC:=@Int.mul_comm
def HZ:=@PySem.builtinLookup_eq_fast
def Mh:=@PySem.wpAny_call_entry
def KY:=@decide_eq_true_eq
def Ai:=@List.eq_nil_iff_forall_not_mem
def Mg:=@List.length_nil
def Oj:=@PySem.Heap.size_push
def RY:=@beq_iff_eq
def GP:=@List.pairwise_lt_range
def QB:=@List.length_pos_of_mem
def Tn:=@Bool.and_eq_true
def UM:=@PySem.plainId_quiet
def Tj:=@Option.map_some
def Ti:=@List.length_set
def Oi:=@Array.perm_iff_toList_perm
def RX:=@Nat.lt_succ_of_lt
def RW:=@List.ext_getElem?
def UL:=@Nat.succ.inj
def UK:=@Nat.sub_self
def Oh:=@Nat.le_of_lt
def Ah:=@List.getElem?_eq_none_iff
def KW:=@PySem.wpAny_passesOwn
def GO:=@beq_eq_false_iff_ne
def z9:=@Option.isSome_iff_exists
def KU:=@Nat.mul_le_mul
def HY:=@List.mem_reverse
def GN:=@List.map_eq_nil_iff
def GL:=@List.length_zipWith
def z8:=@List.eq_of_mem_replicate
def HX:=@List.cons_append
def HW:=@PySem.wpAny_setState_of
def z7:=@List.getElem?_replicate
def Mf:=@Nat.zero_add
def GK:=@Nat.lt_of_le_of_lt
def Me:=@List.map_map
def GJ:=@List.getElem?_take
def Og:=@Int.mul_one
def Md:=@Int.le_of_lt
def GI:=@Bool.false_eq_true
def HV:=@List.range_succ
def HU:=@List.find?_cons
def GH:=@PySem.wpAny_setEntries_of
def KS:=@PySem.wpAny_seqItems
def HS:=@PySem.wpAny_askSetting
def z6:=@Array.getElem?_eq_none
def GG:=@List.getElem?_set
def GF:=@List.getElem?_inj
def GD:=@List.flatten_cons
def z5:=@PySem.wpAny_callSpecial?_slot
def Of:=@PySem.wpAny_of_eq
def Mc:=@PySem.codeAny_mono
def xr:=@List.take_append_of_le_length
def xq:=@List.drop_append_of_le_length
def Mb:=@PySem.F.called_set
def GC:=@PySem.Calls.spliced_cons
def HR:=@PySem.typeLookup_type
def Ma:=@Int.le_refl
def KR:=@PySem.wpAny_newList
def z4:=@List.mem_of_mem_take
def zZ:=@List.length_eraseIdx
def KQ:=@Int.pow_zero
def zY:=@PySem.Obj.isFreed_of_fields
def zX:=@List.filterMap_cons
def HQ:=@PySem.wpAny_setField
def GB:=@Nat.min_eq_left
def xp:=@List.drop_eq_getElem_cons
def KP:=@Int.mul_add
def KO:=@PyProof.Rows.listUpdate_at
def xn:=@PySem.F.args_tuple_add_2
def xm:=@List.mem_of_mem_eraseIdx
def xk:=@List.length_erase_of_mem
def RV:=@Int.zero_add
def RU:=@Int.le_trans
def Oe:=@List.foldl_append
def Od:=@Int.mul_left_comm
def KN:=@PySem.F.plainAttrs_dict
def KL:=@PySem.F.entry_tuple_add
def Oc:=@beq_self_eq_true
def KJ:=@PySem.F.slot_tuple_add
def Ob:=@Nat.le_of_not_lt
def QA:=@List.sum_cons
def xj:=@List.getElem?_eraseIdx
def xi:=@List.drop_of_length_le
def GA:=@List.any_cons
def zW:=@PySem.Code.quiet_builtin
def Gz:=@PySem.wpAny_tryCatch
def xh:=@PySem.F.slot_dict_get
def zV:=@List.foldl_cons
def zS:=@PySem.Calls.spliced_nil
def xg:=@Nat.pow_le_pow_right
def xf:=@List.mem_of_getLast?
def xc:=@List.mem_erase_of_ne
def Gy:=@Int.zero_mul
def Gx:=@Int.pow_succ
def zR:=@PySem.wpAny_isInstance
def Gw:=@PySem.wpAny_attempt
def KI:=@PySem.call_meets
def xb:=@List.getElem_of_mem
def xa:=@List.getElem?_range
def w9:=@List.filter_eq_self
def zQ:=@PySem.F.entry_min_loop
def w6:=@PySem.Calls.callWith_builtin
def HP:=@PySem.wpAny_letGo
def w5:=@Nat.add_sub_cancel
def w4:=@List.getElem?_drop
def zP:=@PySem.wpAny_updateSeq
def zN:=@PySem.wpAny_execs_nil
def OT:=@if_true
def zM:=@PySem.W.mg_of
def zL:=@List.take_nil
def Gv:=@PySem.wpAny_typeOf
def jv:=@PyProof.Rows.callWith_builtin1
def wZ:=@List.reverse_cons
def wY:=@Array.toList_push
def wX:=@PyProof.Rows.F.plain_set_update_loop
def zK:=@PySem.wpAny_runValue
def zJ:=@PySem.wpAny_fieldsOf
def zH:=@PySem.isSubtype_type
def KH:=@if_false
def wW:=@decide_eq_decide
def ju:=@PySem.F.slot_dict_setdefault
def zE:=@Nat.mul_comm
def wV:=@Nat.min_eq_right
def wU:=@List.not_mem_nil
def zD:=@List.map_nil
def jt:=@List.dropLast_concat_getLast
def wR:=@List.any_eq_true
def zC:=@Int.sub_zero
def Gu:=@Int.not_lt
def wQ:=@Int.min_eq_right
def wO:=@Int.max_eq_right
def wN:=@beq_false_of_ne
def wM:=@PySem.SeqAt.EqAt.of_refs
def KG:=@Nat.le_antisymm
def KD:=@List.of_mem_zip
def Gs:=@List.length_eraseIdx_of_lt
def KC:=@List.filter_nil
def KA:=@Int.min_eq_left
def Kz:=@Int.max_eq_left
def Ky:=@Bool.or_eq_true
def Gr:=@PySem.F.plain_extend_loop
def Oa:=@Int.neg_mul
def Gq:=@Int.eq_of_mul_eq_mul_left
def zB:=@Int.add_mul
def wL:=@PySem.wpAny_pyIter_list
def zz:=@PyProof.Rows.get?_update_seq
def js:=@PySem.F.type_list_extend
def jr:=@PySem.F.slot_list_extend
def jq:=@PySem.F.slot_dict_values
def wK:=@PySem.Obj.cls_mapFields
def wJ:=@List.take_zero
def jo:=@List.Pairwise.imp_of_mem
def wI:=@Int.natAbs_mul
def wH:=@PyProof.Rows.entry_proto_collect'
def jm:=@PySem.F.type_list_index
def jk:=@PySem.F.slot_list_index
def jj:=@PySem.F.args_dict_get_3
def ji:=@List.pairwise_mergeSort
def jh:=@Int.eq_ofNat_of_zero_le
def Gp:=@PySem.wpAny_rule
def Gn:=@PySem.wpAny_load
def Gm:=@PySem.wpAny_call
def wG:=@PySem.noFill_tuple_add
def zy:=@PySem.call_meetsIn
def jg:=@PySem.W.cellsFrom_some
def jf:=@PySem.F.entry_dict_get
def je:=@List.length_eq_one_iff
def jd:=@List.getElem?_set_self
def jc:=@PySem.F.type_list_pop
def jb:=@PySem.F.slot_list_pop
def ja:=@List.getElem?_toArray
def i9:=@List.Pairwise.sublist
/-! THE bh i8,for ints,bools,texts,own classes,i7 and tuples (index,wF,in,append,pop ..),calls,loops. i6 it whole ahead of wD own text;what wD proof bg not reach may be deleted. -/
namespace L2
open PySem PySem.Spec PyProof.Rows
abbrev Key:=Sum Int Str
def RT:Key->Value->Bool
 | .inl k,v=>Value.isInt k v
 | .inr x,v=>Value.isStrOf x v
def wC(w:World):Key->Int
 | .inl k=>hashInt k
 | .inr x=>hashStr w x
theorem ZG:∀ {k:Key} {v:Value},RT k v=true->(∃ i t,k=Sum.inl i/\v=Value.int i t)\/(∃ x t,k=Sum.inr x/\v=Value.str x t)
 | .inl i,v,h=>by obtain⟨t,e⟩:=Value.isInt_shape (k:=i) (v:=v) h;exact .inl ⟨i,t,rfl,e⟩
 | .inr x,v,h=>by obtain⟨t,e⟩:=Value.isStrOf_shape (x:=x) (v:=v) h;exact .inr ⟨x,t,rfl,e⟩
theorem bc(i:Int)(t:Tok):RT (.inl i) (.int i t)=true:=by simp[RT,Value.isInt]
theorem bb(x:Str)(t:Tok):RT (.inr x) (.str x t)=true:=by simp[RT,Value.isStrOf]
theorem wB(a b:Int):decide ((Sum.inl a:Key)=Sum.inl b)=(a == b):=by
 by_cases e:a=b
 .subst e;simp
 .have h:¬ (Sum.inl a:Key)=Sum.inl b:=λq=>e (Sum.inl.inj q);rw[SF h];exact(GO.mpr e).symm
theorem wz(a b:Str):decide ((Sum.inr a:Key)=Sum.inr b)=decide (a=b):=by
 by_cases e:a=b
 .subst e;simp
 .have h:¬ (Sum.inr a:Key)=Sum.inr b:=λq=>e (Sum.inr.inj q);rw[SF h,SF e]
theorem wy(a:Int)(b:Str):decide ((Sum.inl a:Key)=Sum.inr b)=false:=SF (λq=>nomatch q)
theorem wx(a:Str)(b:Int):decide ((Sum.inr a:Key)=Sum.inl b)=false:=SF (λq=>nomatch q)
def ZM(prog:Program)(w:World):PySem.KeyKind prog w Key where
 is:=RT
 hash:=wC w
 inj:=λv a b ha hb=>by
  rcases ZG ha with ⟨i,t,rfl,rfl⟩ | ⟨x,t,rfl,rfl⟩
  .rcases ZG hb with ⟨j,u,rfl,e⟩ | ⟨y,u,rfl,e⟩
   .injection e with e1 _;rw[e1]
   .exact nomatch e
  .rcases ZG hb with ⟨j,u,rfl,e⟩ | ⟨y,u,rfl,e⟩
   .exact nomatch e
   .injection e with e1 _;rw[e1]
 byValue:=λk v h=>by rcases ZG h with ⟨i,t,rfl,rfl⟩ | ⟨x,t,rfl,rfl⟩ <;> rfl
 pyHash:=λhv h=>by
  rcases ZG hv with ⟨i,t,rfl,rfl⟩ | ⟨x,t,rfl,rfl⟩
  .exact wpAny_pyHash_int h
  .exact wpAny_pyHash_str h
 eqBool:=λhu hv h=>by
  rcases ZG hu with ⟨i,t,rfl,rfl⟩ | ⟨x,t,rfl,rfl⟩
  .rcases ZG hv with ⟨j,u,rfl,rfl⟩ | ⟨y,u,rfl,rfl⟩
   .rw[wB]at h;exact wpAny_eqBool_int h
   .rw[wy]at h;exact SeqAt.EqAt.int_str i t y u _ _ _ _ h
  .rcases ZG hv with ⟨j,u,rfl,rfl⟩ | ⟨y,u,rfl,rfl⟩
   .rw[wx]at h;exact SeqAt.EqAt.str_int x t j u _ _ _ _ h
   .rw[wz]at h;exact wpAny_eqBool_str h
 «strs»:=λk x t v h=>by
  rcases ZG h with ⟨i,u,rfl,e⟩ | ⟨y,u,rfl,e⟩
  .exact nomatch e
  .injection e with e1 _;subst e1;cases v <;> rfl
theorem ba(prog:Program)(w:World)(i:Int)(t:Tok):(ZM prog w).is (.inl i) (.int i t)=true:=bc i t
theorem aZ(prog:Program)(w:World)(x:Str)(t:Tok):(ZM prog w).is (.inr x) (.str x t)=true:=bb x t
inductive V where
 | non | bl (b:Bool) | int (i:Int) | str (x:Str) | byt (b:Array UInt8) | flt (b:UInt64) | ref (a:Addr) | ty (n:String)
 deriving DecidableEq
def RelV:V->Value->Prop
 | .non,u=>u=Value.none
 | .bl b,u=>u=Value.bool b
 | .int i,u=>∃ t,u=Value.int i t
 | .str x,u=>∃ t,u=Value.str x t
 | .byt b,u=>∃ t,u=Value.bytes b t
 | .flt b,u=>∃ t,u=Value.float b t
 | .ref a,u=>u=Value.ref a
 | .ty n,u=>u=Value.type n
abbrev Vals:List V->List Value->Prop:=Paired RelV
theorem Vals.length{xs:List V}{us:Ag}(r:Vals xs us):xs.length=us.length:=Paired.length r
theorem Vals.get:∀ {xs:List V} {us:Ag} {i:Nat} {x:V},Vals xs us->xs[i]?=some x->∃ u,us[i]?=some u/\RelV x u
 | _,_,_,_,.nil,e=>by simp at e
 | _,_,0,_,.cons r _,e=>by simp at e;subst e;exact⟨_,rfl,r⟩
 | _,_,i+1,x,.cons _ t,e=>by obtain⟨u,h1,h2⟩:=Vals.get (i:=i) (x:=x) t (by simpa using e);exact⟨u,by simpa using h1,h2⟩
theorem Vals.set{x:V}{u:Value}(r:RelV x u):∀ {xs:List V} {us:Ag} (i:Nat),Vals xs us->Vals (xs.set i x) (us.set i u)
 | _,_,_,.nil=>.nil
 | _,_,0,.cons _ t=>.cons r t
 | _,_,i+1,.cons q t=>.cons q (Vals.set r i t)
theorem Vals.append:∀ {xs ys:List V} {us ws:Ag},Vals xs us->Vals ys ws->Vals (xs++ys) (us++ws)
 | _,_,_,_,.nil,s=>s
 | _,_,_,_,.cons r t,s=>.cons r (Vals.append t s)
theorem Vals.take:∀ {xs:List V} {us:Ag} (n:Nat),Vals xs us->Vals (xs.take n) (us.take n)
 | _,_,0,_=>.nil
 | _,_,_+1,.nil=>.nil
 | _,_,n+1,.cons r t=>.cons r (Vals.take n t)
theorem Vals.drop:∀ {xs:List V} {us:Ag} (n:Nat),Vals xs us->Vals (xs.drop n) (us.drop n)
 | _,_,0,r=>r
 | _,_,_+1,.nil=>.nil
 | _,_,n+1,.cons _ t=>Vals.drop n t
def RelO:Option V->Option Value->Prop
 | some v,some u=>RelV v u
 | none,none=>True
 | _,_=>False
def KV{κ:Type}:List (κ × V)->List (κ × Value)->Prop:=Paired λ(p:κ × V) (q:κ × Value)=>p.1=q.1/\RelV p.2 q.2
def kV:Key->V
 | .inl i=>.int i
 | .inr x=>.str x
inductive HO where
 | lst (xs:List V)
 | tup (xs:List V)
 | dK (kvs:List (Key × V)) | dT (kvs:List (List Key × V))
 | set (S:Int->Bool) (n:Nat)
 | ins (C dx:Addr) (fs:List (Str × V))
 | own (x:Addr)
 | xd (fs:List (Str × V))
 | met (f x:Addr)
 | rng (lo hi:Int)
 | frz (o:Obj) (u:HO)
 | tbl (ps:Array Value)
 | ext (φ:Heap->Prop)
abbrev Hp:=Addr->Option HO
def upd(H:Hp)(a:Addr)(o:HO):Hp:=λb=>if b=a then some o else H b
theorem XR{H:Hp}{a:Addr}{o:HO}:upd H a o a=some o:=by unfold upd;rw[if_pos rfl]
theorem Zb{H:Hp}{a b:Addr}{o:HO}(h:b≠a):upd H a o b=H b:=by unfold upd;rw[if_neg h]
theorem QX{H:Hp}{a b:Addr}{o u:HO}(h:H a=some o)(h':H b=some u)(d:o≠u):a≠b:=by intro e;subst e;rw[h]at h';exact d (Yg h')
theorem Zc{H:Hp}{a b:Addr}{o:HO}(h:H a=some o)(h':H b=none):a≠b:=by intro e;subst e;rw[h]at h';cases h'
section
variable(P:Program)(w:World)
def ObjOk(H:Hp)(h:Heap)(a:Addr):HO->Prop
 | .lst xs=>xs.length<=sizeLine/\∃(XW:Ag) (n:Nat),Vals xs XW/\h.get? a=some { cls:=.type "list",data:=.seq XW.toArray n }
 | .tup xs=>xs.length<=sizeLine/\∃ XW:Ag,Vals xs XW/\IsTup h a XW.toArray
 | .dK kvs=>kvs.length<=sizeLine/\(a == sysModules)=false/\∃ vs,KV kvs vs/\h.DictOf (ZM P w) a vs
 | .dT kvs=>kvs.length<=sizeLine/\(a == sysModules)=false/\∃ xs:List (List Key × Addr × Value),
   Paired (λ(p:List Key × V) (q:List Key × Addr × Value)=>p.1=q.1/\H q.2.1=some (.tup (p.1.map kV))/\RelV p.2 q.2.2) kvs xs /\
   ∃ o es ep,h.get? a=some o/\o.ExactDict/\o.data=.dict es ep/\es.toList=xs.map (entryOfKey (tupleKind (ZM P w)))/\(xs.map (·.1)).Nodup
 | .set S n=>h.SetOf (intKind P w) a S n
 | .ins C dx fs=>H dx=some (.own a)/\fs.length<=1000/\dx≠a/\h.get? a=some (PySem.W.instObj C dx) /\
   ∃ mA,h.Ns1 dx mA/\(∀ f,RelO (fs.lookup f) (mA f))/\PySem.Within mA (fs.map (·.1))
 | .own _=>∃ o,h.get? a=some o
 | .xd fs=>∃ mA,h.Ns1 a mA/\∀ f,RelO (fs.lookup f) (mA f)
 | .rng lo hi=>∃ t u v,h.get? a=some { cls:=.type "range",data:=.fields #[.int lo t,.int hi u,.int 1 v] }
 | .frz o u=>h.get? a=some o/\ObjOk H h a u
 | .tbl ps=>h.get? a=some { cls:=.none,data:=.fields ps }
 | .met f x=>h.get? a=some (PySem.W.methodObj (.ref f) (.ref x))
 | .ext φ=>φ h/\(∃ o,h.get? a=some o)/\∀ h1 h2:Heap,φ h1->(∀ o,h1.get? a=some o->h2.get? a=some o)->φ h2
def HOk(H:Hp)(h:Heap):Prop:=∀ a o,H a=some o->ObjOk P w H h a o
end
section
variable{P:Program}{w:World}{H H':Hp}{h h':Heap}{a:Addr}{o:HO}
theorem ObjOk.lt(x:ObjOk P w H h a o):a<h.objs.size:=by
 cases o with
 | lst xs=>obtain⟨_,_,_,_,e⟩:=x;exact Yo e
 | tup xs=>obtain⟨_,_,_,p⟩:=x;exact p.lt
 | dK kvs=>obtain⟨_,_,_,_,o,_,_,e,_⟩:=x;exact Yo e
 | dT kvs=>obtain⟨_,_,_,_,o,_,_,e,_⟩:=x;exact Yo e
 | set S n=>obtain⟨o,_,_,_,e,_⟩:=x;exact Yo e
 | ins C dx fs=>obtain⟨_,_,_,e,_⟩:=x;exact Yo e
 | own y=>obtain⟨_,e⟩:=x;exact Yo e
 | xd fs=>obtain⟨_,⟨_,_,_,e,_⟩,_⟩:=x;exact Yo e
 | rng lo hi=>obtain⟨_,_,_,e⟩:=x;exact Yo e
 | frz ob u=>obtain⟨e,_⟩:=x;exact Yo e
 | tbl ps=>exact Yo (show h.get? a=some _ from x)
 | met f y=>exact Yo (show h.get? a=some _ from x)
 | ext φ=>obtain⟨_,⟨_,e⟩,_⟩:=x;exact Yo e
theorem Paired.mapP{α β:Type}{F G:α->β->Prop}:∀ {l₁:List α} {l₂:List β},Paired F l₁ l₂->(∀ a b,F a b->G a b)->Paired G l₁ l₂
 | _,_,.nil,_=>.nil
 | _,_,.cons r t,f=>.cons (f _ _ r) (Paired.mapP t f)
theorem ObjOk.stay(x:ObjOk P w H h a o)(k:∀ b u,(b=a\/H b=some (.own a))->h.get? b=some u->h'.get? b=some u)
  (ho:∀ b,H b=some (.own a)->H' b=some (.own a)) (ht:∀ b xs,H b=some (.tup xs)->H' b=some (.tup xs)):ObjOk P w H' h' a o:=by
 induction o with
 | lst xs=>obtain⟨z,XW,n,r,e⟩:=x;exact⟨z,XW,n,r,k _ _ (.inl rfl) e⟩
 | tup xs=>obtain⟨z,XW,r,ob,e,c⟩:=x;exact⟨z,XW,r,ob,k _ _ (.inl rfl) e,c⟩
 | dK kvs=>obtain⟨z,y,vs,r,ob,es,ep,e,c⟩:=x;exact⟨z,y,vs,r,ob,es,ep,k _ _ (.inl rfl) e,c⟩
 | dT kvs =>
  obtain⟨z,y,xs,r,ob,es,ep,e,c⟩:=x;exact⟨z,y,xs,Paired.mapP r λp q z=>⟨z.1,ht _ _ z.2.1,z.2.2⟩,ob,es,ep,k _ _ (.inl rfl) e,c⟩
 | set S n=>obtain⟨ob,es,ep,t,e,c⟩:=x;exact⟨ob,es,ep,t,k _ _ (.inl rfl) e,c⟩
 | ins C dx fs =>
  obtain⟨d,z,ne,e,mA,⟨od,es,ep,e2,c⟩,r⟩:=x;exact⟨ho _ d,z,ne,k _ _ (.inl rfl) e,mA,⟨od,es,ep,k _ _ (.inr d) e2,c⟩,r⟩
 | own y=>obtain⟨ob,e⟩:=x;exact⟨ob,k _ _ (.inl rfl) e⟩
 | xd fs=>obtain⟨mA,⟨od,es,ep,e,c⟩,r⟩:=x;exact⟨mA,⟨od,es,ep,k _ _ (.inl rfl) e,c⟩,r⟩
 | rng lo hi=>obtain⟨t,u,v,e⟩:=x;exact⟨t,u,v,k _ _ (.inl rfl) e⟩
 | frz ob u ih=>obtain⟨e,q⟩:=x;exact⟨k _ _ (.inl rfl) e,ih q⟩
 | tbl ps =>
  have e:h.get? a=some { cls:=.none,data:=.fields ps }:=x;show h'.get? a=some { cls:=.none,data:=.fields ps }
  exact k a _ (.inl rfl) e
 | met f y =>
  have e:h.get? a=some (PySem.W.methodObj (.ref f) (.ref y)):=x;show h'.get? a=some (PySem.W.methodObj (.ref f) (.ref y))
  exact k a _ (.inl rfl) e
 | ext φ=>obtain⟨p,⟨o,e⟩,st⟩:=x;exact⟨st _ _ p λo q=>k _ _ (.inl rfl) q,⟨o,k _ _ (.inl rfl) e⟩,st⟩
theorem HOk.lt(x:HOk P w H h)(e:H a=some o):a<h.objs.size:=(x a o e).lt
theorem HOk.fresh(x:HOk P w H h)(e:h.objs.size<=a):H a=none:=by
 cases q:H a with
 | none=>rfl
 | some u=>exact absurd (Yr (x.lt q) e) (QY _)
theorem HOk.kept(x:HOk P w H h)(k:∀ b u,h.get? b=some u->h'.get? b=some u):HOk P w H h':=λa o e =>
 (x a o e).stay (λb u _ q=>k b u q) (λ_ q=>q) λ_ _ q=>q
theorem HOk.laid(x:HOk P w H h)(k:∀ b u,h.get? b=some u->h'.get? b=some u)(hp:h.objs.size<=a)(new:ObjOk P w (upd H a o) h' a o):HOk P w (upd H a o) h':=λb u e=>by
 have hn:=x.fresh hp;by_cases hb:b=a
 .subst hb;rw[XR]at e;cases e;exact new
 .rw[Zb hb]at e;exact(x b u e).stay (λc v _ q=>k c v q) (λc q=>by rw[Zb (Zc q hn)];exact q) λc xs q=>by rw[Zb (Zc q hn)];exact q
end
def Rd(H:Hp)(a:Addr)(u:HO):Prop:=H a=some u\/∃ o,H a=some (.frz o u)
theorem Rd.ok{P:Program}{w:World}{H:Hp}{h:Heap}{a:Addr}{u:HO}(r:Rd H a u)(x:HOk P w H h):ObjOk P w H h a u:=by
 rcases r with r | ⟨o,r⟩
 .exact x a u r
 .obtain⟨_,q⟩:=x a _ r;exact q
def Gk:Option HO->Prop
 | some (.lst _)=>True
 | some (.dK _)=>True
 | some (.dT _)=>True
 | some (.set _ _)=>True
 | some (.ins _ _ _)=>True
 | some (.ext _)=>True
 | _=>False
section
variable{P:Program}{w:World}{H:Hp}{h h':Heap}{x e:Addr}{o':HO}
theorem HOk.write(ok:HOk P w H h)(mu:Gk (H x))(he:e=x\/H e=some (.own x))(k:∀ b u,b≠e->h.get? b=some u->h'.get? b=some u)(HN:∃ u,h'.get? e=some u)
  (new:ObjOk P w (upd H x o') h' x o'):HOk P w (upd H x o') h':=λb u q=>by
 have Gj:∀ c y,H c=some (.own y)->c≠x:=λc y r z=>by subst z;rw[r]at mu;exact mu
 have wu:∀ c xs,H c=some (.tup xs)->c≠x:=λc xs r z=>by subst z;rw[r]at mu;exact mu
 by_cases hb:b=x
 .subst hb;rw[XR]at q;cases q;exact new
 .rw[Zb hb]at q;by_cases Kx:b=e
  .have q':H b=some (.own x):=by
    rcases he with z | z
    .exact absurd (Kx.trans z) hb
    .rw[Kx];exact z
   rw[q]at q';cases q';obtain⟨v,hv⟩:=HN;exact⟨v,by rw[Kx];exact hv⟩
  .refine(ok b u q).stay (λc v hc r=>k c v ?_ r) (λc r=>by rw[Zb (Gj c b r)];exact r) λc xs r=>by rw[Zb (wu c xs r)];exact r
   rcases hc with rfl | hc
   .exact Kx
   .rintro rfl;rcases he with z | z
    .exact Gj c b hc z
    .rw[hc]at z;cases z;exact hb rfl
end
structure Un (fs ex:List Addr) (H H':Hp) (h h':Heap):Prop where
 keep:∀ b o,h.get? b=some o->H b=none->b∉fs->b∉ex->h'.get? b=some o
 slot:∀ b o,h.get? b=some o->H b=none->b∈fs->b∉ex->∃ sl,h'.get? b=some { o with slots:=sl }
 free:∀ b o,h.get? b=some o->H b=none->b∉ex->H' b=none
 there:∀ b o,h.get? b=some o->b∉ex->∃ o',h'.get? b=some o'
 tups:∀ b xs,H b=some (.tup xs)->H' b=some (.tup xs)
 frzs:∀ b o u,H b=some (.frz o u)->H' b=some (.frz o u)
 tbls:∀ b ps,H b=some (.tbl ps)->∃ more,H' b=some (.tbl (ps++more))
section
variable{fs ex:List Addr}{H H1:Hp}{h h1 h':Heap}{a x e:Addr}{o:HO}
theorem Un.any(u:Un fs ex H H1 h h1){b:Addr}{ob:Obj}(q:h.get? b=some ob)(n:H b=none)(hx:b∉ex):∃ sl,h1.get? b=some { ob with slots:=sl }:=by
 by_cases hb:b∈fs
 .exact u.slot b ob q n hb hx
 .exact⟨ob.slots,u.keep b ob q n hb hx⟩
theorem Un.kept(k:∀ b u,h.get? b=some u->h'.get? b=some u):Un fs ex H H h h' :=
 ⟨λb ob q _ _ _=>k b ob q,λb ob q _ _ _=>⟨ob.slots,k b ob q⟩,λ_ _ _ n _=>n,λb ob q _=>⟨ob,k b ob q⟩,λ_ _ q=>q,λ_ _ _ q=>q,λ_ ps q=>⟨#[],by rw[q];simp⟩⟩
theorem Un.refl:Un fs ex H H h h:=Un.kept λ_ _ q=>q
theorem Un.laid(k:∀ b u,h.get? b=some u->h'.get? b=some u)(hp:h.objs.size<=a)(hn:H a=none):Un fs ex H (upd H a o) h h' where
 keep:=λb u q _ _ _=>k b u q
 slot:=λb u q _ _ _=>⟨u.slots,k b u q⟩
 free:=λb u q n _=>by rw[Zb (Yx (Yr (Yo q) hp))];exact n
 there:=λb u q _=>⟨u,k b u q⟩
 tups:=λb xs q=>by rw[Zb (Zc q hn)];exact q
 frzs:=λb u xs q=>by rw[Zb (Zc q hn)];exact q
 tbls:=λb ps q=>⟨#[],by rw[Zb (Zc q hn),q];simp⟩
theorem Un.write(mu:Gk (H x))(he:e=x\/H e=some (.own x))(k:∀ b u,b≠e->h.get? b=some u->h'.get? b=some u)(HN:∃ u,h'.get? e=some u):Un fs ex H (upd H x o) h h':=by
 have hx:∀ b,H b=none->b≠x:=λb n z=>by subst z;rw[n]at mu;exact mu
 have hb:∀ b,H b=none->b≠e:=λb n z=>by
  subst z;rcases he with r | r
  .exact hx b n r
  .rw[n]at r;cases r
 have hm:∀ b u,H b=some u->¬ Gk (some u)->b≠x:=λb u q nm z=>by subst z;rw[q]at mu;exact nm mu
 refine⟨λb u q n _ _=>k b u (hb b n) q,λb u q n _ _=>⟨u.slots,k b u (hb b n) q⟩,λb u q n _=>by rw[Zb (hx b n)];exact n,λb u q _=>?_,
  λb xs q=>by rw[Zb (hm b _ q λz=>z)];exact q,λb u xs q=>by rw[Zb (hm b _ q λz=>z)];exact q,λb ps q=>⟨#[],by rw[Zb (hm b _ q λz=>z),q];simp⟩⟩
 by_cases Kx:b=e
 .subst Kx;exact HN
 .exact⟨u,k b u Kx q⟩
end
def zx(h:Heap)(H:Hp):List Addr:=(List.range h.objs.size).filter λa=>(H a).isSome
def Vg(h:Heap)(H:Hp):Heap:=PySem.W.hideAll h (zx h H)
theorem aY(h:Heap)(H:Hp):(Vg h H).objs.size=h.objs.size:=PySem.W.hideAll_size _ _
theorem wq{h:Heap}{H:Hp}{b:Addr}{o:Obj}(e:h.get? b=some o)(n:H b=none):(Vg h H).get? b=some o :=
 PySem.W.hideAll_get _ e λhm=>by have q:(H b).isSome=true:=(Yc.mp hm).2;rw[n]at q;simp at q
theorem wm{h:Heap}{H:Hp}{b:Addr}{o:Obj}(e:(Vg h H).get? b=some o):h.get? b=some o/\H b=none:=by
 have e':h.get? b=some o:=PySem.W.of_hideAll (zx h H) e;refine⟨e',?_⟩;cases q:H b with
 | none=>rfl
 | some x =>
  have hm:b∈zx h H:=Yc.mpr ⟨YJ.mpr (Yo e'),by simp[q]⟩;have z:(Vg h H).get? b=none:=PySem.W.hideAll_none (zx h H) hm
  rw[z]at e;cases e
def wk(g h:Heap)(L:Addr):List (Addr × Obj):=(List.range h.objs.size).filterMap λa=>if a=L\/(g.get? a).isSome=true then none else (h.get? a).map λo=>(a,o)
def rest(g h:Heap)(L d:Addr):List (Addr × Obj):=(wk g h L).filter λp=>decide (p.1≠d)
structure Mod (K:Ad) (mg:Af) (base:Heap):Prop where
 kin:K.In base
 glob:base.Ns mainGlobals mg
 blt:∃ mb,base.Ns builtinsNs mb/\∀ x:Str,x≠"__name__"->mb x=bootBuiltins x
 nolimit:base.NoLimit
structure Cx where
 prog:Program
 w:World
 K:Ad
 mg:Af
 base:Heap
 A:Around
 N:List Str
 s₀:Shared
 H₀:Hp
 env:Env
 outer:List Env
 stack:List Env
 ex:List Addr
 fn:Str->Bool
 calm:Bool
 pn:List (Addr × Obj)
 xe:Ae
def UJ(l:List Env):List Addr:=l.filterMap (·.frame)
abbrev Cx.fs(X:Cx):List Addr:=UJ X.outer
def wj(sc:Scope)(x:Str):Prop:=sc.names.lookup x=some .local\/sc.names.lookup x=some .cell\/sc.names.lookup x=some .free
def Loc(sc:Scope)(x:Str):Prop:=sc.names.lookup x=some .local\/sc.names.lookup x=some .cell
def Look(env:Env)(h:Heap)(m:Af)(x:Str)(u:Value):Prop :=
 (env.kindOf x=some .local/\m x=some u)\/((env.kindOf x=some .cell\/env.kindOf x=some .free)/\∃ c,env.cells.lookup x=some c/\h.IsCell c (some u))
structure Cx.Ok (X:Cx):Prop where
 mod:Mod X.K X.mg X.base
 kind:X.env.scope.kind=.function
 glob:X.env.globals=mainGlobals
 blt:X.env.builtins=builtinsNs
 above:X.s₀.heap.objs.size<=X.env.locals
 inj:∀ x y c,X.env.cells.lookup x=some c->X.env.cells.lookup y=some c->x=y
 has:∀ x,(X.env.kindOf x=some .cell\/X.env.kindOf x=some .free)->∃ c,X.env.cells.lookup x=some c
 cab:∀ x c,X.fn x=true->X.env.cells.lookup x=some c->X.s₀.heap.objs.size<=c
 hd:X.calm=true->X.A.handled=none
 frames:X.A.frames=some X.stack
 stk:X.stack=X.outer\/(X.stack=X.env :: X.outer/\X.env.frame=some X.env.locals)
 exf:∀ b∈X.ex,b≠X.env.locals/\∀ x c,X.env.cells.lookup x=some c->c≠b
 bs:∀ b o,X.base.get? b=some o->X.s₀.heap.get? b=some o/\X.H₀ b=none
 bsz:X.base.objs.size<=X.s₀.heap.objs.size
 noex:∀ b o,X.base.get? b=some o->b∉X.ex
 exfs:∀ b∈X.ex,b∉X.fs
 funs:X.s₀.heap.FunFrames X.base X.outer
 frf:∀ b∈X.fs,X.H₀ b=none
structure Inv (X:Cx) (pins:List (Addr × Obj)) (σ:List (Option V)) (H:Hp) (s:Shared):Prop where
 ok:X.Ok
 os:s.os=X.s₀.os
 bare:AllBare s.gens
 base:Un X.fs X.ex X.H₀ H X.s₀.heap s.heap
 loc:∃ m,s.heap.Ns X.env.locals m/\∀(i:Nat) (x:Str) (v:V),X.N[i]?=some x->σ[i]?=some (some v)->wj X.env.scope x->∃ u,RelV v u/\Look X.env s.heap m x u
 cell:∀ x c,X.env.cells.lookup x=some c->∃ v,s.heap.IsCell c v
 free:H X.env.locals=none
 freeC:∀ x c,X.env.cells.lookup x=some c->H c=none
 pin:∀ p∈X.pn++pins,s.heap.get? p.1=some p.2/\H p.1=none/\p.1≠X.env.locals/\p.1∉X.fs/\∀ v,p.2.data≠.cell v
 hok:HOk X.prog X.w H s.heap
 len:σ.length=X.N.length
section
variable{X:Cx}{pins:List (Addr × Obj)}{σ:List (Option V)}{H H':Hp}{s:Shared}{h':Heap}
theorem Cx.Ok.nofr(ok:X.Ok){b:Addr}{o:Obj}(e:X.base.get? b=some o):b∉X.fs:=λhb=>by
 have:=(ok.funs.mem hb).1
 rw[e]at this;cases this
theorem Inv.bs(I:Inv X pins σ H s):∀ b o,X.base.get? b=some o->s.heap.get? b=some o/\H b=none:=λb o e =>
 ⟨I.base.keep b o (I.ok.bs b o e).1 (I.ok.bs b o e).2 (I.ok.nofr e) (I.ok.noex b o e),I.base.free b o (I.ok.bs b o e).1 (I.ok.bs b o e).2 (I.ok.noex b o e)⟩
theorem Inv.bk(I:Inv X pins σ H s):∀ b o,X.base.get? b=some o->s.heap.get? b=some o:=λb o e=>(I.bs b o e).1
theorem Inv.mod(I:Inv X pins σ H s):Mod X.K X.mg X.base:=I.ok.mod
theorem Inv.kIn(I:Inv X pins σ H s):X.K.In s.heap:=I.ok.mod.kin.keeps I.bk
theorem Inv.lt(I:Inv X pins σ H s):X.env.locals<s.heap.objs.size:=let ⟨_,hn,_⟩:=I.loc;hn.lt
theorem Inv.sz(I:Inv X pins σ H s):X.s₀.heap.objs.size<=s.heap.objs.size:=Yv I.ok.above (Oh I.lt)
theorem Inv.nofs(I:Inv X pins σ H s){a:Addr}(h:s.heap.objs.size<=a):a∉X.fs:=λhb=>by obtain⟨_,o,ho,_⟩:=I.ok.funs.mem hb;exact absurd (Yr (Yo ho) (Yv I.sz h)) (QY _)
theorem Inv.cne(I:Inv X pins σ H s):∀ x c,X.env.cells.lookup x=some c->c≠X.env.locals:=λx c e z=>by obtain⟨v,o,ho,hd⟩:=I.cell x c e;obtain⟨m,⟨o',es,ep,Vz,HM,_⟩,_⟩:=I.loc;rw[z,Vz]at ho;cases ho;rw[HM]at hd;cases hd
theorem Inv.funs(I:Inv X pins σ H s):s.heap.FunFrames X.base X.outer:=by
 have all:∀(l:List Env),(∀ b∈UJ l,b∈X.fs)->X.s₀.heap.FunFrames X.base l->s.heap.FunFrames X.base l:=by
  intro l
  induction l with
  | nil=>intro _ _;trivial
  | cons env r ih =>
   intro hs hl;obtain⟨hk,⟨L,o,hf,hn,ho,hd⟩,hr⟩:=hl;have hL:L∈X.fs:=hs L (by unfold UJ;rw[zX,hf];exact Ye)
   obtain⟨sl,e⟩:=I.base.slot L o ho (I.ok.frf L hL) hL λz=>I.ok.exfs L z hL;exact⟨hk,⟨L,_,hf,hn,e,hd⟩,ih (λb hb=>hs b (by unfold UJ;rw[zX,hf];exact Yi _ hb)) hr⟩
 exact all X.outer (λ_ hb=>hb) I.ok.funs
theorem Inv.stack(I:Inv X pins σ H s):s.heap.FunFrames X.base X.stack:=by
 rcases I.ok.stk with e | ⟨e,hf⟩
 .rw[e];exact I.funs
 .rw[e];obtain⟨m,hn,_⟩:=I.loc;refine .cons (by rw[I.ok.kind];decide) hf hn ?_ I.funs;exact Heap.get?_none_of_le (Yv I.ok.bsz I.ok.above)
theorem Inv.stkSub(I:Inv X pins σ H s):∀ b∈UJ X.stack,b∈X.env.locals :: X.fs:=λb hb=>by
 rcases I.ok.stk with e | ⟨e,hf⟩
 .rw[e]at hb;exact Yi _ hb
 .rw[e]at hb;unfold UJ at hb;rw[zX,hf]at hb;exact hb
theorem Inv.stkFree(I:Inv X pins σ H s):∀ b∈UJ X.stack,H b=none:=λb hb=>by
 rcases Yj.mp (I.stkSub b hb) with e | hb
 .rw[e];exact I.free
 .obtain⟨_,o,ho,_⟩:=I.ok.funs.mem hb;exact I.base.free b o ho (I.ok.frf b hb) λz=>I.ok.exfs b z hb
theorem Inv.step{g':Array GenState}{t':Nat}{d':Drawn}{ch:List Addr}(I:Inv X pins σ H s)
  (OS:∀ b∈ch,(b∈X.ex\/X.s₀.heap.objs.size<=b)/\b≠X.env.locals/\(∀ x c,X.env.cells.lookup x=some c->c≠b)/\∀ p∈X.pn++pins,p.1≠b)
  (keep:∀ b o,b≠X.env.locals->b∉X.fs->b∉ch->s.heap.get? b=some o->H b=none->h'.get? b=some o)
  (slot:∀ b o,b≠X.env.locals->b∈X.fs->b∉ch->s.heap.get? b=some o->H b=none->∃ sl,h'.get? b=some { o with slots:=sl }) (free:∀ b o,b∉ch->s.heap.get? b=some o->H b=none->H' b=none)
  (there:∀ b o,b∉ch->s.heap.get? b=some o->∃ o',h'.get? b=some o')
  (tups:∀ b xs,H b=some (.tup xs)->H' b=some (.tup xs)) (frzs:∀ b o u,H b=some (.frz o u)->H' b=some (.frz o u)) (tbls:∀ b ps,H b=some (.tbl ps)->∃ more,H' b=some (.tbl (ps++more)))
  (ns:∀ m,s.heap.Ns X.env.locals m->h'.Ns X.env.locals m) (hok:HOk X.prog X.w H' h') (hg:AllBare g') :
  Inv X pins σ H' { s with heap:=h',gens:=g',drawn:=d',toks:=t' }:=by
 have i5:∀ b o,X.s₀.heap.get? b=some o->b≠X.env.locals:=λb o e=>Yx (Yr (Yo e) I.ok.above);have zw:∀ b o,X.s₀.heap.get? b=some o->b∉X.ex->b∉ch:=λb o e hx hb=>by
  rcases(OS b hb).1 with z | z
  .exact hx z
  .exact absurd (Yr (Yo e) z) (QY _)
 have cellK:∀ x c,X.env.cells.lookup x=some c->∀ v,s.heap.IsCell c v->h'.IsCell c v:=λx c e v ⟨o,ho,hd⟩=>by
  have Gi:c∉ch:=λz=>(OS c z).2.2.1 x c e rfl;by_cases hc:c∈X.fs
  .obtain⟨sl,q⟩:=slot c o (I.cne x c e) hc Gi ho (I.freeC x c e);exact⟨_,q,hd⟩
  .exact⟨o,keep c o (I.cne x c e) hc Gi ho (I.freeC x c e),hd⟩
 refine⟨I.ok,I.os,hg,⟨λb o e n hb hx=>?_,λb o e n hb hx=>?_,λb o e n hx=>?_,λb o e hx=>?_,λb xs e=>tups b xs (I.base.tups b xs e),λb o xs e=>frzs b o xs (I.base.frzs b o xs e),λb ps e=>?_⟩,?_,λx c e=>?_,?_,λx c e=>?_,λp hp=>?_,hok,I.len⟩
 .exact keep b o (i5 b o e) hb (zw b o e hx) (I.base.keep b o e n hb hx) (I.base.free b o e n hx)
 .obtain⟨sl,e1⟩:=I.base.slot b o e n hb hx;obtain⟨aX,e2⟩:=slot b _ (i5 b o e) hb (zw b o e hx) e1 (I.base.free b o e n hx);exact⟨aX,e2⟩
 .obtain⟨o',e1⟩:=I.base.there b o e hx;exact free b o' (zw b o e hx) e1 (I.base.free b o e n hx)
 .obtain⟨o',e1⟩:=I.base.there b o e hx;exact there b o' (zw b o e hx) e1
 .obtain⟨m1,e1⟩:=I.base.tbls b ps e;obtain⟨m2,e2⟩:=tbls b _ e1;exact⟨m1++m2,by rw[e2,Array.append_assoc]⟩
 .obtain⟨m,hn,hl⟩:=I.loc;refine⟨m,ns m hn,λi x v e1 e2 e3=>?_⟩;obtain⟨u,r,l⟩:=hl i x v e1 e2 e3;refine⟨u,r,?_⟩;rcases l with l | ⟨k,c,e,z⟩
  .exact .inl l
  .exact .inr ⟨k,c,e,cellK x c e _ z⟩
 .obtain⟨v,z⟩:=I.cell x c e;exact⟨v,cellK x c e v z⟩
 .obtain⟨m,⟨o,_,_,ho,_⟩,_⟩:=I.loc;exact free _ o (λz=>(OS _ z).2.1 rfl) ho I.free
 .obtain⟨v,o,ho,hd⟩:=I.cell x c e;exact free c o (λz=>(OS c z).2.2.1 x c e rfl) ho (I.freeC x c e)
 .obtain⟨e,n,ne,nf,d⟩:=I.pin p hp;have Gi:p.1∉ch:=λz=>(OS p.1 z).2.2.2 p hp rfl
  exact⟨keep p.1 p.2 ne nf Gi e n,free p.1 p.2 Gi e n,ne,nf,d⟩
theorem Inv.un{t':Nat}(I:Inv X pins σ H s)(u:Un X.fs [] H H' s.heap h')(hok:HOk X.prog X.w H' h'):Inv X pins σ H' { s with heap:=h',toks:=t' }:=by
 obtain⟨m,⟨o,es,ep,ho,r⟩,_⟩:=id I.loc;obtain⟨sl,hL⟩:=u.any ho I.free (by simp);exact I.step (g':=s.gens) (d':=s.drawn) (ch:=[]) (λ_ z=>nomatch z) (λb o _ hb _ e n=>u.keep b o e n hb (by simp)) (λb o _ hb _ e n=>u.slot b o e n hb (by simp)) (λb o _ e n=>u.free b o e n (by simp)) (λb o _ e=>u.there b o e (by simp)) u.tups u.frzs u.tbls (λm' hm=>by obtain⟨o',wg,we,Vz,r'⟩:=hm;rw[ho]at Vz;cases Vz;exact⟨_,wg,we,hL,r'⟩) hok I.bare
theorem Inv.call{g':Array GenState}{t':Nat}{d':Drawn}{ch:List Addr}(I:Inv X pins σ H s)(u:Un (UJ X.stack) ch H H' s.heap h')(hok:HOk X.prog X.w H' h')(hg:AllBare g')
  (OS:∀ b∈ch,(b∈X.ex\/X.s₀.heap.objs.size<=b)/\b≠X.env.locals/\(∀ x c,X.env.cells.lookup x=some c->c≠b)/\∀ p∈X.pn++pins,p.1≠b) :
  Inv X pins σ H' { s with heap:=h',gens:=g',drawn:=d',toks:=t' }:=by
 obtain⟨m,⟨o,es,ep,ho,r⟩,_⟩:=id I.loc;obtain⟨sl,hL⟩:=u.any ho I.free λz=>(OS _ z).2.1 rfl;exact I.step (ch:=ch) OS (λb o hL hb hc e n=>u.keep b o e n (λz=>(Yj.mp (I.stkSub b z)).elim hL hb) hc) (λb o _ _ hc e n=>u.any e n hc) (λb o hc e n=>u.free b o e n hc) (λb o hc e=>u.there b o e hc) u.tups u.frzs u.tbls (λm' hm=>by obtain⟨o',wg,we,Vz,r'⟩:=hm;rw[ho]at Vz;cases Vz;exact⟨_,wg,we,hL,r'⟩) hok hg
theorem Inv.turned{t':Nat}{it:Addr}(I:Inv X pins σ H s)(k:∀ b o,b≠it->s.heap.get? b=some o->h'.get? b=some o)(hn:H it=none)(hL:it≠X.env.locals)
  (h1:it∈X.ex\/X.s₀.heap.objs.size<=it) (h2:∀ x c,X.env.cells.lookup x=some c->c≠it) (h3:∀ p∈X.pn++pins,p.1≠it):Inv X pins σ H { s with heap:=h',toks:=t' }:=by
 have i4:∀ b u,H b=some u->b≠it:=λb u e z=>by rw[z,hn]at e;cases e
 refine I.step (g':=s.gens) (d':=s.drawn) (ch:=[it]) (λb hb=>?_) (λb o _ _ hc e _=>k b o (λz=>hc (by simp[z])) e) (λb o _ _ hc e _=>⟨o.slots,k b o (λz=>hc (by simp[z])) e⟩) (λ_ _ _ _ n=>n)
  (λb o hc e=>⟨o,k b o (λz=>hc (by simp[z])) e⟩) (λ_ _ e=>e) (λ_ _ _ e=>e) (λb ps e=>⟨#[],by rw[e];simp⟩) (λm hm=>?_) (λb u e=>?_) I.bare
 .have e:b=it:=by simpa using hb
  subst e;exact⟨h1,hL,h2,h3⟩
 .obtain⟨o,es,ep,ho,r⟩:=hm;exact⟨o,es,ep,k _ o (YZ hL) ho,r⟩
 .refine(I.hok b u e).stay (λc v hc q=>k c v ?_ q) (λ_ q=>q) λ_ _ q=>q;rcases hc with z | z
  .rw[z];exact i4 b u e
  .exact i4 c _ z
theorem Inv.tok(I:Inv X pins σ H s)(t:Nat):Inv X pins σ H { s with toks:=t }:=I.un (h':=s.heap) (t':=t) Un.refl I.hok
theorem Inv.kept{t':Nat}(I:Inv X pins σ H s)(k:∀ b u,s.heap.get? b=some u->h'.get? b=some u):Inv X pins σ H { s with heap:=h',toks:=t' }:=I.un (Un.kept k) (I.hok.kept k)
theorem Inv.laid{a:Addr}{o:HO}{t':Nat}(I:Inv X pins σ H s)(k:∀ b u,s.heap.get? b=some u->h'.get? b=some u)(hp:s.heap.objs.size<=a)(new:ObjOk X.prog X.w (upd H a o) h' a o) :
  Inv X pins σ (upd H a o) { s with heap:=h',toks:=t' }:=I.un (Un.laid k hp (I.hok.fresh hp)) (I.hok.laid k hp new)
theorem Inv.write{x e:Addr}{o:HO}{t':Nat}(I:Inv X pins σ H s)(mu:Gk (H x))(he:e=x\/H e=some (.own x))(k:∀ b u,b≠e->s.heap.get? b=some u->h'.get? b=some u)(HN:∃ u,h'.get? e=some u)
  (new:ObjOk X.prog X.w (upd H x o) h' x o):Inv X pins σ (upd H x o) { s with heap:=h',toks:=t' }:=I.un (Un.write mu he k HN) (I.hok.write mu he k HN new)
theorem Inv.weak{σ':List (Option V)}(I:Inv X pins σ H s)(hl:σ'.length=σ.length)(w:∀(i:Nat) v,σ'[i]?=some (some v)->σ[i]?=some (some v)):Inv X pins σ' H s :=
 ⟨I.ok,I.os,I.bare,I.base,let ⟨m,hn,Sy⟩:=I.loc;⟨m,hn,λi x v e1 e2 e3=>Sy i x v e1 (w i v e2) e3⟩,I.cell,I.free,I.freeC,I.pin,I.hok,hl.trans I.len⟩
theorem Inv.pins_of{pins':List (Addr × Obj)}(I:Inv X pins σ H s)(h:∀ p∈pins',s.heap.get? p.1=some p.2/\H p.1=none/\p.1≠X.env.locals/\p.1∉X.fs/\∀ v,p.2.data≠.cell v):Inv X pins' σ H s :=
 ⟨I.ok,I.os,I.bare,I.base,I.loc,I.cell,I.free,I.freeC,λp hp=>(Xx.mp hp).elim (λz=>I.pin p (Yb _ z)) (h p),I.hok,I.len⟩
theorem i3{N:List Str}(hN:N.Nodup){i j:Nat}{x:Str}(a:N[i]?=some x)(b:N[j]?=some x):i=j:=by obtain⟨h1,e1⟩:=Xs.mp a;obtain⟨h2,e2⟩:=Xs.mp b;exact(List.getElem_inj hN).mp (e1.trans e2.symm)
theorem aW{M:Model}{A:Around}{E:Ae}{i:Nat}{x:Str}{v:V}{u:Value}{Q:Unit->Shared->Prop}(I:Inv X pins σ H s)(hN:X.N.Nodup)(hi:X.N[i]?=some x)(hx:Loc X.env.scope x)(r:RelV v u)
  (h:∀ s',Inv X pins (σ.set i (some v)) H s'->(∃ a,Heap.SameBut a s.heap s'.heap/\(a=X.env.locals\/X.env.cells.lookup x=some a))->Q () s') (hf:X.fn x=true\/X.env.scope.names.lookup x=some .local:=by first | exact .inl rfl | exact .inr rfl | assumption):wpAny M A (storeName X.env x u) Q E s:=by
 obtain⟨m,hn,hl⟩:=id I.loc;have wd:(X.env.scope.kind == .class || (X.env.scope.kind == .module && X.env.locals != X.env.globals))=false:=by rw[I.ok.kind];rfl
 have Gh:i<σ.length:=by rw[I.len];exact(Xs.mp hi).1
 have cne:=I.cne;have tracked:∀ {a:Addr} {h':Heap},(∃ o,s.heap.get? a=some o/\H a=none)->Heap.SameBut a s.heap h'->HOk X.prog X.w H h':=λ{a h'} ha hs b ob e=>by
  obtain⟨_,_,LZ⟩:=ha;refine(I.hok b ob e).stay (λc w' hc q=>(hs.2 c ?_).trans q) (λ_ q=>q) λ_ _ q=>q;rintro rfl;rcases hc with rfl | hc
  .rw[LZ]at e;cases e
  .rw[LZ]at hc;cases hc
 rcases hx with hk | hk
 .refine wpAny_storeName_local hk hn (λh' RS hs=>?_) wd;obtain⟨oL,_,_,Kw,_⟩:=id hn;refine h _ ⟨I.ok,I.os,I.bare,⟨λb o e n hb hx=>?_,λb o e n hb hx=>?_,I.base.free,λb o e hx=>?_,I.base.tups,I.base.frzs,I.base.tbls⟩,⟨_,RS,λj y v' e1 e2 e3=>?_⟩,λy c e=>?_,I.free,I.freeC,λp hp=>?_,tracked ⟨oL,Kw,I.free⟩ hs,by simpa using I.len⟩ ⟨_,hs,.inl rfl⟩
  .exact(hs.2 b (Yx (Yr (Yo e) I.ok.above))).trans (I.base.keep b o e n hb hx)
  .obtain⟨sl,e1⟩:=I.base.slot b o e n hb hx;exact⟨sl,(hs.2 b (Yx (Yr (Yo e) I.ok.above))).trans e1⟩
  .obtain⟨o',e1⟩:=I.base.there b o e hx;exact⟨o',(hs.2 b (Yx (Yr (Yo e) I.ok.above))).trans e1⟩
  .by_cases hj:j=i
   .subst hj;rw[hi]at e1;cases e1;rw[jd Gh]at e2;cases e2;exact⟨u,r,.inl ⟨hk,by simp⟩⟩
   .rw[List.getElem?_set_ne (YZ hj)]at e2;obtain⟨u',r',q⟩:=hl j y v' e1 e2 e3;refine⟨u',r',?_⟩;rcases q with ⟨k,e⟩ | ⟨k,c,e,z⟩
    .refine .inl ⟨k,?_⟩
     have:y≠x:=λe=>hj (i3 hN e1 (e ▸ hi))
     simp[this,e]
    .exact .inr ⟨k,c,e,z.sameBut hs (cne y c e)⟩
  .obtain⟨w',z⟩:=I.cell y c e;exact⟨w',z.sameBut hs (cne y c e)⟩
  .obtain⟨e,n,ne,nf,d⟩:=I.pin p hp;exact⟨(hs.2 p.1 ne).trans e,n,ne,nf,d⟩
 .have HL:X.fn x=true:=by
   rcases hf with z | z
   .exact z
   .rw[z]at hk;cases hk
  obtain⟨c,hc⟩:=I.ok.has x (.inl hk);obtain⟨w',z⟩:=I.cell x c hc;refine wpAny_storeName_cell I.ok.kind hk hc z (λh' WE hs=>?_);obtain⟨oc,zv,wc⟩:=id z;refine h { s with heap:=h' } ⟨I.ok,I.os,I.bare,⟨λb o e n hb hx=>?_,λb o e n hb hx=>?_,I.base.free,λb o e hx=>?_,I.base.tups,I.base.frzs,I.base.tbls⟩,⟨m,hn.sameBut hs (YZ (cne x c hc)),λj y v' e1 e2 e3=>?_⟩,λy c' e=>?_,I.free,I.freeC,λp hp=>?_,tracked ⟨oc,zv,I.freeC x c hc⟩ hs,by simpa using I.len⟩ ⟨c,hs,.inr hc⟩
  .exact(hs.2 b (Yx (Yr (Yo e) (I.ok.cab x c HL hc)))).trans (I.base.keep b o e n hb hx)
  .obtain⟨sl,e1⟩:=I.base.slot b o e n hb hx;exact⟨sl,(hs.2 b (Yx (Yr (Yo e) (I.ok.cab x c HL hc)))).trans e1⟩
  .obtain⟨o',e1⟩:=I.base.there b o e hx;exact⟨o',(hs.2 b (Yx (Yr (Yo e) (I.ok.cab x c HL hc)))).trans e1⟩
  .by_cases hj:j=i
   .subst hj;rw[hi]at e1;cases e1;rw[jd Gh]at e2;cases e2;exact⟨u,r,.inr ⟨.inl hk,c,hc,WE⟩⟩
   .rw[List.getElem?_set_ne (YZ hj)]at e2;obtain⟨u',r',q⟩:=hl j y v' e1 e2 e3;refine⟨u',r',?_⟩;rcases q with q | ⟨k,c',e,z'⟩
    .exact .inl q
    .refine .inr ⟨k,c',e,z'.sameBut hs ?_⟩;rintro rfl;exact hj (i3 hN e1 (I.ok.inj _ _ _ e hc ▸ hi))
  .by_cases iZ:c'=c
   .subst iZ;exact⟨_,WE⟩
   .obtain⟨w2,z2⟩:=I.cell y c' e;exact⟨w2,z2.sameBut hs iZ⟩
  .obtain⟨e,n,ne,nf,d⟩:=I.pin p hp;refine⟨(hs.2 p.1 ?_).trans e,n,ne,nf,d⟩;intro q;rw[q,zv]at e;have q':oc=p.2:=Yg e
   exact d w' (by rw[<- q'];exact wc)
theorem Kv{M:Model}{A:Around}{E:Ae}{i:Nat}{x:Str}{v:V}{u:Value}{Q:Unit->Shared->Prop}(I:Inv X pins σ H s)(hN:X.N.Nodup)(hi:X.N[i]?=some x)(hx:Loc X.env.scope x)(r:RelV v u)
  (h:∀ s',Inv X pins (σ.set i (some v)) H s'->Q () s') (hf:X.fn x=true\/X.env.scope.names.lookup x=some .local:=by first | exact .inl rfl | exact .inr rfl | assumption):wpAny M A (storeName X.env x u) Q E s :=
 aW I hN hi hx r (λs' I' _=>h s' I') hf
theorem Inv.call'{s':Shared}{ch:List Addr}(I:Inv X pins σ H s)(ho:s'.os=s.os)(u:Un (UJ X.stack) ch H H' s.heap s'.heap)(hok:HOk X.prog X.w H' s'.heap)(hg:AllBare s'.gens)
  (OS:∀ b∈ch,(b∈X.ex\/X.s₀.heap.objs.size<=b)/\b≠X.env.locals/\(∀ x c,X.env.cells.lookup x=some c->c≠b)/\∀ p∈X.pn++pins,p.1≠b):Inv X pins σ H' s':=by
 obtain⟨h',g',d',t',o'⟩:=s';have e:o'=s.os:=ho
 subst e;exact I.call (g':=g') (t':=t') (d':=d') u hok hg OS
end
abbrev XK:=Value->Option Addr->Hp->Prop
abbrev St:=List (Option V)
abbrev VK:=V->Hp->Prop
abbrev TE:=St->Hp->VK->Prop
abbrev TT:=St->Hp->(Bool->Hp->Prop)->Prop
abbrev TA:=St->Hp->(List V->Hp->Prop)->Prop
structure Ends where
 nx:St->Hp->Prop
 rt:VK
 bk:St->Hp->Prop:=λ_ _=>False
 ct:St->Hp->Prop:=λ_ _=>False
abbrev TS:=Ends->St->Hp->Prop
def EP(X:Cx)(pins:List (Addr × Obj))(σ:St)(Q:VK)(u:Value)(s':Shared):Prop:=∃ v H',Inv X pins σ H' s'/\RelV v u/\Q v H'
def TP(X:Cx)(pins:List (Addr × Obj))(σ:St)(Q:Bool->Hp->Prop)(b:Bool)(s':Shared):Prop:=∃ H',Inv X pins σ H' s'/\Q b H'
def AP(X:Cx)(pins:List (Addr × Obj))(σ:St)(Q:List V->Hp->Prop)(us:Ag)(s':Shared):Prop:=∃ vs H',Inv X pins σ H' s'/\Vals vs us/\Q vs H'
def SP(X:Cx)(pins:List (Addr × Obj))(D:Ends)(f:Flow)(s':Shared):Prop :=
 match f with
 | .next=>∃ σ' H',Inv X pins σ' H' s'/\D.nx σ' H'
 | .brk=>∃ σ' H',Inv X pins σ' H' s'/\D.bk σ' H'
 | .cont=>∃ σ' H',Inv X pins σ' H' s'/\D.ct σ' H'
 | .ret u=>∃ v σ' H',Inv X pins σ' H' s'/\RelV v u/\D.rt v H'
def PE(X:Cx)(e:Expr)(t:TE):Prop :=
 ∀(pins:List (Addr × Obj)) (s:Shared) (σ:St) (H:Hp) (Q:VK),Inv X pins σ H s->t σ H Q->wpAny (model X.prog X.w) X.A (eval e X.env) (EP X pins σ Q) X.xe s
def PT(X:Cx)(e:Expr)(t:TT):Prop :=
 ∀(pins:List (Addr × Obj)) (s:Shared) (σ:St) (H:Hp) (Q:Bool->Hp->Prop),Inv X pins σ H s->t σ H Q->wpAny (model X.prog X.w) X.A (isTrue e X.env (eval e X.env)) (TP X pins σ Q) X.xe s
def PW(X:Cx)(e:Expr)(t:TT):Prop :=
 ∀(whole:Sem Value) (pins:List (Addr × Obj)) (s:Shared) (σ:St) (H:Hp) (Q:Bool->Hp->Prop),Inv X pins σ H s->t σ H Q->wpAny (model X.prog X.w) X.A (isTrue e X.env whole) (TP X pins σ Q) X.xe s
theorem PW.pt{X:Cx}{e:Expr}{t:TT}(h:PW X e t):PT X e t:=h _
def PA(X:Cx)(es:List Expr)(t:TA):Prop :=
 ∀(pos:Pos) (pins:List (Addr × Obj)) (s:Shared) (σ:St) (H:Hp) (Q:List V->Hp->Prop),Inv X pins σ H s->t σ H Q->wpAny (model X.prog X.w) X.A (spliced (backTo pos (starEach es X.env))) (AP X pins σ Q) X.xe s
def PS(X:Cx)(st:Stmt)(t:TS):Prop :=
 ∀(pins:List (Addr × Obj)) (s:Shared) (σ:St) (H:Hp) (D:Ends),Inv X pins σ H s->t D σ H->wpAny (model X.prog X.w) X.A (exec st X.env) (SP X pins D) X.xe s
def PSs(X:Cx)(st:List Stmt)(t:TS):Prop :=
 ∀(pins:List (Addr × Obj)) (s:Shared) (σ:St) (H:Hp) (D:Ends),Inv X pins σ H s->t D σ H->wpAny (model X.prog X.w) X.A (execs st X.env) (SP X pins D) X.xe s
theorem thn{α:Type}{t:Sem α}{Q Q':α->Shared->Prop}{M:Model}{A:Around}{E:Ae}{s:Shared}(h:wpAny M A t Q E s)(hQ:∀ a s,Q a s->Q' a s):wpAny M A t Q' E s:=TF h hQ λ_ _ x=>x
section
variable{X:Cx}
def Gg(i:Nat):TE:=λσ H Q=>∃ v,σ[i]?=some (some v)/\Q v H
def tC(v:V):TE:=λ_ H Q=>Q v H
theorem Gf {i:Nat} {x:Str} {pos:Pos} (hN:X.N[i]?=some x) (hv:wj X.env.scope x) (hd:(x == ("__debug__":Str))=false:=by decide) (TB:(x == ("__classdict__":Str))=false:=by decide):PE X (.Name x pos) (Gg i):=by
 intro pins s σ H Q I h;obtain⟨v,e,h⟩:=h;obtain⟨m,hn,hl⟩:=I.loc;obtain⟨u,r,l⟩:=hl i x v hN e hv;have fin:EP X pins σ Q u s:=⟨v,H,I,r,h⟩
 rcases l with ⟨hk,hm⟩ | ⟨hk,c,hc,Sx⟩
 .exact wpAny_Name (wpAny_loadName_local I.ok.kind hk hn hm fin) hd
 .rcases hk with hk | hk
  .exact wpAny_Name (wpAny_loadName_cell I.ok.kind hk hc Sx fin) hd
  .exact wpAny_Name (wpAny_loadName_free I.ok.kind hk hc Sx fin TB) hd
theorem Za{i j pos}:PE X (.Constant (.int i) j pos) (tC (.int i)):=λ_ _ _ H _ I h=>wpAny_Constant_int ⟨.int i,H,I.tok _,⟨_,rfl⟩,h⟩
theorem UI{b j pos}:PE X (.Constant (.bool b) j pos) (tC (.bl b)):=λ_ _ _ H _ I h=>Constant_bool ⟨.bl b,H,I,rfl,h⟩
theorem VS{j pos}:PE X (.Constant .none j pos) (tC .non):=λ_ _ _ H _ I h=>Constant_none ⟨.non,H,I,rfl,h⟩
def Gl(X:Cx)(x:Str):Prop:=X.env.kindOf x=some .globalImplicit
theorem wb{E:Ae}{pins:List (Addr × Obj)}{s:Shared}{σ:St}{H:Hp}{x:Str}{u:Value}{pos:Pos}{Q:Ae}(I:Inv X pins σ H s)(hg:Gl X x)(hm:X.mg x=some u)(h:Q u s)
  (hd:(x == ("__debug__":Str))=false:=by decide):wpAny (model X.prog X.w) X.A (eval (.Name x pos) X.env) Q E s :=
 Calls.Name_function_global I.ok.kind hg (Calls.loadGlobal_global (by rw[I.ok.glob];exact I.mod.glob.keeps I.bk) hm h) hd
theorem QW{E:Ae}{pins:List (Addr × Obj)}{s:Shared}{σ:St}{H:Hp}{x:Str}{u:Value}{pos:Pos}{Q:Ae}(I:Inv X pins σ H s)(hg:Gl X x)(hm:X.mg x=none)(hv:bootBuiltins x=some u)(h:Q u s)
  (hn:x≠"__name__":=by decide) (hd:(x == ("__debug__":Str))=false:=by decide):wpAny (model X.prog X.w) X.A (eval (.Name x pos) X.env) Q E s:=by obtain⟨mb,h1,h2⟩:=I.mod.blt;exact Calls.Name_function_global I.ok.kind hg (Calls.loadGlobal_builtin (by rw[I.ok.glob];exact I.mod.glob.keeps I.bk) hm (by rw[I.ok.blt];exact h1.keeps I.bk) ((h2 x hn).trans hv) h) hd
theorem iY {x:Str} {v:V} {u:Value} {pos:Pos} (hg:Gl X x) (hm:X.mg x=some u) (r:RelV v u) (hd:(x == ("__debug__":Str))=false:=by decide):PE X (.Name x pos) (tC v) :=
 λ_ _ _ H _ I h=>wb I hg hm ⟨v,H,I,r,h⟩ hd
theorem wa {x:Str} {v:V} {u:Value} {pos:Pos} (hg:Gl X x) (hm:X.mg x=none) (hv:bootBuiltins x=some u) (r:RelV v u) (hn:x≠"__name__":=by decide) (hd:(x == ("__debug__":Str))=false:=by decide):PE X (.Name x pos) (tC v) :=
 λ_ _ _ H _ I h=>QW I hg hm hv ⟨v,H,I,r,h⟩ hn hd
variable{a b:Expr}{ta tb:TE}{pos:Pos}
def PC(X:Cx)(op:CmpOp)(a b:Expr)(t:TE):Prop :=
 ∀(pins:List (Addr × Obj)) (s:Shared) (σ:St) (H:Hp) (Q:VK),Inv X pins σ H s->t σ H Q ->
  wpAny (model X.prog X.w) X.A (eval a X.env) (λv s₁=>wpAny (model X.prog X.w) X.A (eval b X.env) (λu s₂=>wpAny (model X.prog X.w) X.A (compareOp op v u) (EP X pins σ Q) X.xe s₂) X.xe s₁) X.xe s
def tB(t:TE):TT:=λσ H Q=>t σ H λx H1=>∃ c,x=.bl c/\Q c H1
theorem Qz{e:Expr}{t:TE}(h:PE X e t)(he:∀ whole,isTrue e X.env whole=(do let v <- whole;standAt e.pos;holding [v] (truthy v)):=by intro _;rfl):PT X e (tB t):=by intro pins s σ H Q I hw;refine isTrue_plain (thn (h pins s σ H _ I hw) λv s1 ⟨x,H1,I1,r1,q1⟩=>?_) (he _);obtain⟨d,rfl,q⟩:=q1;cases r1;exact Oo ⟨H1,I1,q⟩
variable{tA zu:TT}{rest:List Expr}
def vZ(t u:TT):TT:=λσ H Q=>t σ H λc H1=>if c=true then u σ H1 Q else Q false H1
def aV(t u:TT):TT:=λσ H Q=>t σ H λc H1=>if c=true then Q true H1 else u σ H1 Q
def vY(t:TT):TT:=λσ H Q=>t σ H λc H1=>Q (!c) H1
theorem vX(ha:PT X a tA):PW X (.BoolOp .And [a] pos) tA:=by
 intro wh pins s σ H Q I h;refine isTrue_and (thn (ha pins s σ H Q I h) λc s1 e=>?_);cases c with
 | true=>exact isTrue_and_nil e
 | false=>exact e
theorem Ku(ha:PT X a tA):PW X (.BoolOp .Or [a] pos) tA:=by
 intro wh pins s σ H Q I h;refine isTrue_or (thn (ha pins s σ H Q I h) λc s1 e=>?_);cases c with
 | false=>exact isTrue_or_nil e
 | true=>exact e
theorem vW(ha:PT X a tA)(hb:PW X (.BoolOp .And (b :: rest) pos) zu):PW X (.BoolOp .And (a :: b :: rest) pos) (vZ tA zu):=by
 intro wh pins s σ H Q I h;refine isTrue_and (thn (ha pins s σ H _ I h) λc s1 Xv=>?_);obtain⟨H1,I1,q1⟩:=Xv;cases c with
 | true=>exact hb wh pins s1 σ H1 Q I1 q1
 | false=>exact⟨H1,I1,q1⟩
theorem QV(ha:PT X a tA)(hb:PW X (.BoolOp .Or (b :: rest) pos) zu):PW X (.BoolOp .Or (a :: b :: rest) pos) (aV tA zu):=by
 intro wh pins s σ H Q I h;refine isTrue_or (thn (ha pins s σ H _ I h) λc s1 Xv=>?_);obtain⟨H1,I1,q1⟩:=Xv;cases c with
 | true=>exact⟨H1,I1,q1⟩
 | false=>exact hb wh pins s1 σ H1 Q I1 q1
theorem OR(ha:PT X a tA):PT X (.UnaryOp .Not a pos) (vY tA):=by intro pins s σ H Q I h;exact isTrue_not (ha pins s σ H (λc H1=>Q (!c) H1) I h)
def vV(ta tb:TE):TE:=λσ H Q=>ta σ H λx H1=>∃ c,x=.bl c/\if c=true then tb σ H1 Q else Q (.bl false) H1
def vU(ta:TE):TE:=λσ H Q=>ta σ H λx H1=>∃ c,x=.bl c/\Q (.bl (!c)) H1
theorem vT{op}{t:TE}(h:PE X a t):PE X (.BoolOp op [a] pos) t:=λpins s σ H Q I hw=>BoolOp_one (h pins s σ H Q I hw)
theorem Ge(ha:PE X a ta)(hb:PE X (.BoolOp .And (b :: rest) pos) tb):PE X (.BoolOp .And (a :: b :: rest) pos) (vV ta tb):=by
 intro pins s σ H Q I h;refine BoolOp_and (thn (ha pins s σ H _ I h) λv s1 Xv=>?_);obtain⟨x,H1,I1,r1,q1⟩:=Xv;obtain⟨c,rfl,q1⟩:=q1;cases r1;refine Oo ?_;cases c with
 | true=>exact hb pins s1 σ H1 Q I1 q1
 | false=>exact⟨.bl false,H1,I1,rfl,q1⟩
theorem Gd(ha:PE X a ta):PE X (.UnaryOp .Not a pos) (vU ta):=by intro pins s σ H Q I h;refine UnaryOp_ (thn (ha pins s σ H _ I h) λv s1 Xv=>?_);obtain⟨x,H1,I1,r1,q1⟩:=Xv;obtain⟨c,rfl,q1⟩:=q1;cases r1;exact not_of (Oo ⟨.bl (!c),H1,I1,rfl,q1⟩)
def aT(t:TT)(ta tb:TE):TE:=λσ H Q=>t σ H λc H1=>if c=true then ta σ H1 Q else tb σ H1 Q
theorem zt{c:Expr}(hc:PT X c tA)(ha:PE X a ta)(hb:PE X b tb):PE X (.IfExp c a b pos) (aT tA ta tb):=by
 intro pins s σ H Q I h;refine wpAny_IfExp (thn (hc pins s σ H _ I h) λd s1 Xv=>?_);obtain⟨H1,I1,q1⟩:=Xv;cases d with
 | true=>exact ha pins s1 σ H1 Q I1 q1
 | false=>exact hb pins s1 σ H1 Q I1 q1
end
def SqL(K:Ad)(H:Hp)(a:Addr)(xs:List V):Prop :=
 Rd H a (.lst xs) \/
  ∃(o:Obj) (XW:Array Value) (n:Nat),K.lookup a=some o/\o.cls=.type "list"/\o.dict=none/\o.data=.seq XW n/\XW.size<=sizeLine/\Vals xs XW.toList
def SqT(K:Ad)(H:Hp)(a:Addr)(xs:List V):Prop :=
 Rd H a (.tup xs) \/
  ∃(o:Obj) (XW:Array Value) (n:Nat),K.lookup a=some o/\o.cls=.type "tuple"/\o.data=.seq XW n/\XW.size<=sizeLine/\Vals xs XW.toList
def vS:Value->Option V
 | .none=>some .non
 | .bool b=>some (.bl b)
 | .int i _=>some (.int i)
 | .str x _=>some (.str x)
 | .bytes b _=>some (.byt b)
 | .float b _=>some (.flt b)
 | .ref a=>some (.ref a)
 | .type n=>some (.ty n)
 | _=>none
theorem RelV.abs{x:V}{u:Value}(r:RelV x u):vS u=some x:=by
 cases x with
 | non=>cases r;rfl
 | bl _=>cases r;rfl
 | int _=>obtain⟨t,rfl⟩:=r;rfl
 | str _=>obtain⟨t,rfl⟩:=r;rfl
 | byt _=>obtain⟨t,rfl⟩:=r;rfl
 | flt _=>obtain⟨t,rfl⟩:=r;rfl
 | ref _=>cases r;rfl
 | ty _=>cases r;rfl
theorem RelV.inj{x y:V}{u:Value}(r:RelV x u)(q:RelV y u):x=y:=Yg (r.abs.symm.trans q.abs)
theorem Vals.inj:∀ {xs ys:List V} {us:Ag},Vals xs us->Vals ys us->xs=ys
 | _,_,_,.nil,.nil=>rfl
 | _,_,_,.cons r t,.cons r' t'=>by rw[r.inj r',Vals.inj t t']
section
variable{X:Cx}{pins:List (Addr × Obj)}{σ:St}{H:Hp}{s:Shared}{a:Addr}{xs ys:List V}
theorem SqL.of{K:Ad}(h:H a=some (.lst xs)):SqL K H a xs:=.inl (.inl h)
theorem SqT.of{K:Ad}(h:H a=some (.tup xs)):SqT K H a xs:=.inl (.inl h)
theorem Inv.list(I:Inv X pins σ H s)(h:SqL X.K H a xs):∃ XW:Ag,Vals xs XW/\PlainL s.heap a XW.toArray/\xs.length<=sizeLine:=by
 rcases h with h | ⟨o,XW,n,hk,hc,hd,hs,hz,r⟩
 .obtain⟨z,XW,n,r,e⟩:=h.ok I.hok;exact⟨XW,r,⟨_,n,e,rfl,rfl,rfl⟩,z⟩
 .refine⟨XW.toList,r,⟨o,n,I.kIn a o hk,hc,hd,by simpa using hs⟩,?_⟩;have e:=r.length
  simp only [YE]at e;omega
theorem Inv.tuple(I:Inv X pins σ H s)(h:SqT X.K H a xs):∃ XW:Ag,Vals xs XW/\IsTup s.heap a XW.toArray/\xs.length<=sizeLine:=by
 rcases h with h | ⟨o,XW,n,hk,hc,hs,hz,r⟩
 .obtain⟨z,XW,r,p⟩:=h.ok I.hok;exact⟨XW,r,p,z⟩
 .refine⟨XW.toList,r,⟨o,I.kIn a o hk,hc,n,by simpa using hs⟩,?_⟩;have e:=r.length
  simp only [YE]at e;omega
theorem Inv.list_inj(I:Inv X pins σ H s)(h:SqL X.K H a xs)(h':SqL X.K H a ys):xs=ys:=by
 obtain⟨XW,r,⟨o,n,e,_,_,d⟩,_⟩:=I.list h;obtain⟨its',r',⟨o',n',e',_,_,d'⟩,_⟩:=I.list h';rw[e]at e';cases e';rw[d]at d';injection d' with d1 _
 have:XW=its':=by simpa using Xw Array.toList d1
 subst this;exact r.inj r'
theorem Inv.tuple_inj(I:Inv X pins σ H s)(h:SqT X.K H a xs)(h':SqT X.K H a ys):xs=ys:=by
 obtain⟨XW,r,⟨o,e,_,n,d⟩,_⟩:=I.tuple h;obtain⟨its',r',⟨o',e',_,n',d'⟩,_⟩:=I.tuple h';rw[e]at e';cases e';rw[d]at d';injection d' with d1 _
 have:XW=its':=by simpa using Xw Array.toList d1
 subst this;exact r.inj r'
end
abbrev Cx.wish(X:Cx)(E:Ae):Cx:={ X with xe:=E }
abbrev Cx.nox(X:Cx):Cx:=X.wish λ_ _=>False
theorem Cx.Ok.wish{X:Cx}(ok:X.Ok)(E:Ae):(X.wish E).Ok :=
 ⟨ok.mod,ok.kind,ok.glob,ok.blt,ok.above,ok.inj,ok.has,ok.cab,ok.hd,ok.frames,ok.stk,ok.exf,ok.bs,ok.bsz,ok.noex,ok.exfs,ok.funs,ok.frf⟩
theorem Cx.Ok.unwish{X:Cx}{E:Ae}(ok:(X.wish E).Ok):X.Ok :=
 ⟨ok.mod,ok.kind,ok.glob,ok.blt,ok.above,ok.inj,ok.has,ok.cab,ok.hd,ok.frames,ok.stk,ok.exf,ok.bs,ok.bsz,ok.noex,ok.exfs,ok.funs,ok.frf⟩
section
variable{X:Cx}{pins:List (Addr × Obj)}{σ:St}{H:Hp}{s:Shared}{E:Ae}
theorem Inv.wish(I:Inv X pins σ H s)(E:Ae):Inv (X.wish E) pins σ H s:=⟨I.ok.wish E,I.os,I.bare,I.base,I.loc,I.cell,I.free,I.freeC,I.pin,I.hok,I.len⟩
theorem Inv.unwish(I:Inv (X.wish E) pins σ H s):Inv X pins σ H s:=⟨I.ok.unwish,I.os,I.bare,I.base,I.loc,I.cell,I.free,I.freeC,I.pin,I.hok,I.len⟩
theorem SP.unwish{D:Ends}{f:Flow}{s':Shared}(h:SP (X.wish E) pins D f s'):SP X pins D f s':=by
 cases f with
 | next=>obtain⟨σ',H',I,q⟩:=h;exact⟨σ',H',I.unwish,q⟩
 | brk=>obtain⟨σ',H',I,q⟩:=h;exact⟨σ',H',I.unwish,q⟩
 | cont=>obtain⟨σ',H',I,q⟩:=h;exact⟨σ',H',I.unwish,q⟩
 | ret u=>obtain⟨v,σ',H',I,r,q⟩:=h;exact⟨v,σ',H',I.unwish,r,q⟩
theorem PSs.nox{st:List Stmt}{t:TS}(h:PSs X.nox st t):PSs X st t:=λpins s σ H D I hw =>
 TF (h pins s σ H D (I.wish _) hw) (λ_ _ q=>q.unwish) λ_ _ z=>False.elim z
end
section
variable{X:Cx}{st:Stmt}{rest:List Stmt}{t u:TS}{e:Expr}{te:TE}{pos:Pos}
def vR:TS:=λD σ H=>D.nx σ H
def Vv(t u:TS):TS:=λD σ H=>t { D with nx:=u D } σ H
theorem Zo:PSs X [] vR:=λ_ _ σ H _ I h=>zN ⟨σ,H,I,h⟩
theorem XQ(h1:PS X st t)(h2:PSs X rest u):PSs X (st :: rest) (Vv t u):=by
 intro pins s σ H D I h;refine wpAny_execs_cons (thn (h1 pins s σ H { D with nx:=u D } I h) λf s1 q=>?_);cases f with
 | next =>
  obtain⟨σ',H',I',q⟩:=q;exact h2 pins s1 σ' H' D I' q
 | ret v=>exact q
 | brk=>exact q
 | cont=>exact q
theorem XI(h1:PS X st t):PSs X [st] t:=by
 intro pins s σ H D I h;refine wpAny_execs_cons (thn (h1 pins s σ H D I h) λf s1 q=>?_);cases f with
 | next=>exact zN q
 | ret v=>exact q
 | brk=>exact q
 | cont=>exact q
theorem Inv.quiet{pins:List (Addr × Obj)}{σ:St}{H:Hp}{s:Shared}(I:Inv X pins σ H s):interactive X.env=false:=by simp[interactive,I.ok.kind]
def vQ(te:TE):TS:=λD σ H=>te σ H λ_ H1=>D.nx σ H1
theorem Wl(he:PE X e te)(hs:swapsWith e none pos.line X.env=pure false:=by rfl):PS X (.Expr e pos) (vQ te):=by intro pins s σ H D I h;exact wpAny_Expr_any (thn (he pins s σ H _ I h) λv s1 ⟨x,H1,I1,r1,q1⟩=>⟨σ,H1,I1,q1⟩) I.quiet hs
def Gb(te:TE):TS:=λD σ H=>te σ H D.rt
theorem Zi(he:PE X e te):PS X (.Return (some e) pos) (Gb te):=by intro pins s σ H D I h;exact wpAny_Return_some (thn (he pins s σ H _ I h) λv s1 ⟨x,H1,I1,r1,q1⟩=>⟨x,σ,H1,I1,r1,q1⟩)
def vP(c:TT)(t u:TS):TS:=λD σ H=>c σ H λb H1=>if b=true then t D σ H1 else u D σ H1
theorem WL{c:Expr}{a b:List Stmt}{tc:TT}(hc:PT X c tc)(ha:PSs X a t)(hb:PSs X b u):PS X (.If c a b pos) (vP tc t u):=by
 intro pins s σ H D I h;refine wpAny_If (thn (hc pins s σ H _ I h) λd s1 Xv=>?_);obtain⟨H1,I1,q1⟩:=Xv;cases d with
 | true=>exact ha pins s1 σ H1 D I1 q1
 | false=>exact hb pins s1 σ H1 D I1 q1
def vN:TS:=λ_ _ _=>False
theorem Vu:PS X st vN:=λ_ _ _ _ _ _ h=>h.elim
end
abbrev TG:=V->St->Hp->(St->Hp->Prop)->Prop
abbrev Qy:=List V->St->Hp->(St->Hp->Prop)->Prop
def PG(X:Cx)(target:Expr)(t:TG):Prop :=
 ∀(pins:List (Addr × Obj)) (s:Shared) (σ:St) (H:Hp) (v:V) (u:Value) (Q:St->Hp->Prop),Inv X pins σ H s->RelV v u->t v σ H Q ->
  wpAny (model X.prog X.w) X.A (assign target X.env u) (λ_ s'=>∃ σ' H',Inv X pins σ' H' s'/\Q σ' H') X.xe s
def Ga(X:Cx)(ts:List Expr)(t:Qy):Prop :=
 ∀(pins:List (Addr × Obj)) (s:Shared) (σ:St) (H:Hp) (vs:List V) (us:Ag) (Q:St->Hp->Prop),Inv X pins σ H s->Vals vs us->t vs σ H Q ->
  wpAny (model X.prog X.w) X.A (assignInOrder ((assignEach ts X.env).map (·.2)) us) (λ_ s'=>∃ σ' H',Inv X pins σ' H' s'/\Q σ' H') X.xe s
abbrev Qx:=V->V->V->Hp->(Hp->Prop)->Prop
def Kt(X:Cx)(t:Qx):Prop :=
 ∀(pins:List (Addr × Obj)) (s:Shared) (σ:St) (H:Hp) (o i v:V) (ov iv u:Value) (Q:Hp->Prop),Inv X pins σ H s->RelV o ov->RelV i iv->RelV v u->t o i v H Q ->
  wpAny (model X.prog X.w) X.A (setItem ov iv u) (λ_ s'=>∃ H',Inv X pins σ H' s'/\Q H') X.xe s
abbrev zr:=V->V->Hp->VK->Prop
def vM(X:Cx)(op:Operator)(t:zr):Prop :=
 ∀(pins:List (Addr × Obj)) (s:Shared) (σ:St) (H:Hp) (x y:V) (v u:Value) (Q:VK),Inv X pins σ H s->RelV x v->RelV y u->t x y H Q ->
  wpAny (model X.prog X.w) X.A (inplaceOp op v u) (EP X pins σ Q) X.xe s
section
variable{X:Cx}{pos:Pos}
def Th(i:Nat):TG:=λv σ H Q=>Q (σ.set i (some v)) H
theorem Zg{i:Nat}{x:Str}(hN:X.N.Nodup)(hi:X.N[i]?=some x)(hx:Loc X.env.scope x)(hf:X.fn x=true\/X.env.scope.names.lookup x=some .local:=by first | exact .inl rfl | exact .inr rfl | assumption):PG X (.Name x pos) (Th i):=by intro pins s σ H v u Q I r h;exact wpAny_assign_Name (Kv I hN hi hx r (λs' I'=>⟨_,H,I',h⟩) hf)
def FZ:Qy:=λvs σ H Q=>vs=[]/\Q σ H
def FY(t:TG)(u:Qy):Qy:=λvs σ H Q=>∃ v r,vs=v :: r/\t v σ H λσ' H'=>u r σ' H' Q
theorem Qw:Ga X [] FZ:=by intro pins s σ H vs us Q I r h;obtain⟨e,h⟩:=h;subst e;cases r;exact assignInOrder_nil ⟨σ,H,I,h⟩
theorem Zw{e:Expr}{es:List Expr}{t:TG}{u:Qy}(h1:PG X e t)(h2:Ga X es u)
  (hs:(assignEach (e :: es) X.env).map (·.2)=assign e X.env :: (assignEach es X.env).map (·.2):=by rfl):Ga X (e :: es) (FY t u):=by
 intro pins s σ H vs us Q I r h;obtain⟨v,vr,e1,h⟩:=h;subst e1;cases r with
 | cons r rr =>
  rw[hs];refine assignInOrder_cons (thn (h1 pins s σ H _ _ _ I r h) λ_ s1 Xv=>?_);obtain⟨σ1,H1,I1,q1⟩:=Xv;exact h2 pins s1 σ1 H1 _ _ Q I1 rr q1
def Ks(K:Ad)(n:Nat)(t:Qy):TG:=λv σ H Q=>∃ a xs,v=.ref a/\SqT K H a xs/\xs.length=n/\t xs σ H Q
theorem FW{es:List Expr}{k:Nat}{t:Qy}{n:Nat}(hc:X.calm=true)(h:Ga X es t)
  (hn:(assignEach es X.env).length=n:=by rfl) (UZ:(assignEach es X.env).findIdx? (·.1)=none:=by rfl):PG X (.Tuple es k pos) (Ks X.K n t):=by
 intro pins s σ H v u Q I r hw;obtain⟨a,xs,e1,hq,hl,hw⟩:=hw;subst e1;cases r;obtain⟨XW,rv,ht,hz⟩:=I.tuple hq;refine assign_Tuple_tuple (I.ok.hd hc) ht (by simp[hn,<- hl,rv.length]) UZ λh' hx=>?_;have I1:Inv X pins σ H { s with heap:=h' }:=I.kept (t':=s.toks) λb o e=>hx b o (Yx (Yo e)) e
 exact h pins _ σ H xs _ Q I1 (by simpa using rv) hw
def vL(to ti:TE)(t:Qx):TG:=λv σ H Q=>to σ H λo H1=>ti σ H1 λi H2=>t o i v H2 λH3=>Q σ H3
theorem FV{o i:Expr}{to ti:TE}{t:Qx}(ho:PE X o to)(hi:PE X i ti)(hs:Kt X t)
  (ha:∀ v,assign (.Subscript o i pos) X.env v=(do
   let ov <- holding [v] (eval o X.env)
   let iv <- holding [v,ov] (eval i X.env)
   standAt pos
   holding [v,ov,iv] (setItem ov iv v)
   release [v,ov,iv] []):=by intro _;rfl):PG X (.Subscript o i pos) (vL to ti t):=by intro pins s σ H v u Q I r h;rw[ha];refine XU (SA (thn (ho pins s σ H _ I h) λov s1 Xv=>?_));obtain⟨x,H1,I1,r1,q1⟩:=Xv;refine XU (SA (thn (hi pins s1 σ H1 _ I1 q1) λiv s2 Xv=>?_));obtain⟨y,H2,I2,r2,q2⟩:=Xv;refine XU (wpAny_standAt (XU (SA (thn (hs pins s2 σ H2 x y v ov iv u _ I2 r1 r2 r q2) λ_ s3 Xv=>?_))));obtain⟨H3,I3,q3⟩:=Xv;exact wpAny_release ⟨σ,H3,I3,q3⟩
def Kr(te:TE)(g:TG):TS:=λD σ H=>te σ H λx H1=>g x σ H1 D.nx
theorem FU{tg e:Expr}{te:TE}{g:TG}(he:PE X e te)(hg:PG X tg g)(hs:swapsWithSole [tg] e pos.line X.env=pure false:=by rfl)(hw:swappedStores [tg] e X.env=pure none:=by rfl)
  (h1:(assignEach [tg] X.env).map (·.2)=[assign tg X.env]:=by rfl):PS X (.Assign [tg] e pos) (Kr te g):=by intro pins s σ H D I h;refine wpAny_Assign_stores (thn (he pins s σ H _ I h) λv s1 Xv=>?_) hs hw;obtain⟨x,H1,I1,r1,q1⟩:=Xv;rw[h1];exact thn (hg pins s1 σ H1 x v _ I1 r1 q1) λ_ s2 q=>q
theorem Zh{i:Nat}{x:Str}{e:Expr}{te:TE}{pos':Pos}(hN:X.N.Nodup)(hi:X.N[i]?=some x)(hx:Loc X.env.scope x)(he:PE X e te)(hs:swapsWith e (some (.Name x pos')) pos.line X.env=pure false:=by rfl)(hf:X.fn x=true\/X.env.scope.names.lookup x=some .local:=by first | exact .inl rfl | exact .inr rfl | assumption) :
  PS X (.Assign [.Name x pos'] e pos) (Kr te (Th i)):=by intro pins s σ H D I h;refine wpAny_Assign_Name (thn (he pins s σ H _ I h) λv s1 Xv=>?_) hs;obtain⟨y,H1,I1,r1,q1⟩:=Xv;exact Kv I1 hN hi hx r1 (λs2 I2=>⟨_,H1,I2,q1⟩) hf
def vK(to ti te:TE)(tget:V->V->Hp->VK->Prop)(zq:zr)(tset:Qx):TS:=λD σ H=>to σ H λo H1=>ti σ H1 λi H2=>tget o i H2 λx H3=>te σ H3 λy H4=>zq x y H4 λz H5=>tset o i z H5 λH6=>D.nx σ H6
def FT(X:Cx)(t:V->V->Hp->VK->Prop):Prop :=
 ∀(pins:List (Addr × Obj)) (s:Shared) (σ:St) (H:Hp) (o i:V) (ov iv:Value) (Q:VK),Inv X pins σ H s->RelV o ov->RelV i iv->t o i H Q ->
  wpAny (model X.prog X.w) X.A (getItem ov iv) (EP X pins σ Q) X.xe s
theorem zp{o i e:Expr}{to ti te:TE}{tget:V->V->Hp->VK->Prop}{zq:zr}{tset:Qx}{op:Operator}{Tg:Pos}(ho:PE X o to)(hi:PE X i ti)(hg:FT X tget)(he:PE X e te)(hp:vM X op zq)(hs:Kt X tset)
  (ha:∀ ov iv new,augStore i ov iv new=(do holding [new,ov,iv] (setItem ov iv new);release [new,ov,iv] [];pure .next):=by intros;rfl):PS X (.AugAssign (.Subscript o i Tg) op e pos) (vK to ti te tget zq tset):=by intro pins s σ H D I h;refine wpAny_AugAssign_SubscriptAny (thn (ho pins s σ H _ I h) λov s1 Xv=>?_) ha;obtain⟨x1,H1,I1,r1,q1⟩:=Xv;refine thn (hi pins s1 σ H1 _ I1 q1) λiv s2 Xv=>?_;obtain⟨x2,H2,I2,r2,q2⟩:=Xv;refine thn (hg pins s2 σ H2 x1 x2 ov iv _ I2 r1 r2 q2) λold s3 Xv=>?_;obtain⟨x3,H3,I3,r3,q3⟩:=Xv;refine thn (he pins s3 σ H3 _ I3 q3) λv s4 Xv=>?_;obtain⟨x4,H4,I4,r4,q4⟩:=Xv;refine thn (hp pins s4 σ H4 x3 x4 old v _ I4 r3 r4 q4) λnew s5 Xv=>?_;obtain⟨x5,H5,I5,r5,q5⟩:=Xv;exact thn (hs pins s5 σ H5 x1 x2 x5 ov iv new _ I5 r1 r2 r5 q5) λ_ s6 ⟨H6,I6,q6⟩=>⟨σ,H6,I6,q6⟩
def iX(f:Int->Int->Int):zr:=λx y H Q=>∃ i j,x=.int i/\y=.int j/\Q (.int (f i j)) H
theorem LY:vM X .Add (iX λi j=>i+j):=by intro pins s σ H x y v u Q I r1 r2 h;obtain⟨i,j,e1,e2,q⟩:=h;subst e1;subst e2;obtain⟨t,rfl⟩:=r1;obtain⟨t',rfl⟩:=r2;exact iadd_int ⟨.int _,H,I.tok _,⟨_,rfl⟩,q⟩
theorem LX:vM X .Sub (iX λi j=>i - j):=by intro pins s σ H x y v u Q I r1 r2 h;obtain⟨i,j,e1,e2,q⟩:=h;subst e1;subst e2;obtain⟨t,rfl⟩:=r1;obtain⟨t',rfl⟩:=r2;exact isub_int ⟨.int _,H,I.tok _,⟨_,rfl⟩,q⟩
def vJ(c:TT)(tb:TS):TS:=λD σ H=>∃ W:Nat->St->Hp->Prop,(∃ m,W m σ H)/\∀ m σ H,W m σ H ->
 c σ H λb H1=>if b=true then ∃ N:St->Hp->Prop,(∀ σ' H',N σ' H'->∃ m',m'<m/\W m' σ' H')/\tb { D with nx:=N,ct:=N,bk:=D.nx } σ H1 else D.nx σ H1
theorem iW{c:Expr}{body:List Stmt}{tc:TT}{tb:TS}(hp:PassesOwn (model X.prog X.w) X.A X.env X.xe)(hc:PT X c tc)(hb:PSs X body tb):PS X (.While c body [] pos) (vJ tc tb):=by
 intro pins s σ H D I h;obtain⟨W,⟨m0,w0⟩,turn⟩:=h;refine wpAny_While (codeAny_whileLoop (λn s'=>∃ σ' H',Inv X pins σ' H' s'/\W n σ' H') ?_ m0 ⟨σ,H,I,w0⟩);rintro n s1 ⟨σ1,H1,I1,w1⟩;refine KW hp (thn (hc pins s1 σ1 H1 _ I1 (turn n σ1 H1 w1)) λb s2 Xv=>?_);obtain⟨H2,I2,q2⟩:=Xv;cases b with
 | true =>
  obtain⟨N,hN,q2⟩:=q2;rw[if_pos rfl];refine KW hp (thn (hb pins s2 σ1 H2 _ I2 q2) λf s3 q3=>?_);cases f with
  | next =>
   obtain⟨σ3,H3,I3,n3⟩:=q3;obtain⟨m',hm,w3⟩:=hN σ3 H3 n3;exact⟨m',hm,σ3,H3,I3,w3⟩
  | cont =>
   obtain⟨σ3,H3,I3,n3⟩:=q3;obtain⟨m',hm,w3⟩:=hN σ3 H3 n3;exact⟨m',hm,σ3,H3,I3,w3⟩
  | brk=>exact q3
  | ret v=>exact q3
 | false =>
  rw[if_neg Yw];exact zN ⟨σ1,H2,I2,q2⟩
end
structure It where
 go:Nat->Hp->Prop
 yld:Nat->Hp->V->Hp->Prop
 stop:Nat->Hp->Prop
def FpOk(X:Cx)(pins:List (Addr × Obj))(H:Hp)(b:Addr):Prop :=
 H b=none/\b≠X.env.locals/\b∉X.fs/\(b∈X.ex\/X.s₀.heap.objs.size<=b)/\(∀ x c,X.env.cells.lookup x=some c->c≠b)/\∀ p∈X.pn++pins,p.1≠b
theorem Inv.fpOk{X:Cx}{pins:List (Addr × Obj)}{σ:St}{H H':Hp}{s:Shared}{b:Addr}(I:Inv X pins σ H s)(hb:s.heap.objs.size<=b)(hn:H' b=none):FpOk X pins H' b:=by
 refine⟨hn,Sa (Yr I.lt hb),I.nofs hb,.inr (Yv I.sz hb),λx c e z=>?_,λp hp z=>?_⟩
 .obtain⟨v,q⟩:=I.cell x c e;exact absurd (Yr q.lt (by rw[z];exact hb)) (QY _)
 .exact absurd (Yr (Yo (I.pin p hp).1) (by rw[z];exact hb)) (QY _)
structure Turn (P:Program) (w:World) (K:Ad) (tg:Expr) (J:It) (fp:List Addr) (it:Addr) (tn:Nat->Heap->Prop):Prop where
 mem:it∈fp
 obj:∀ i h,tn i h->∀ b∈fp,∃ o,h.get? b=some o/\∀ v,o.data≠.cell v
 keep:∀ i h h',tn i h->(∀ b∈fp,∀ o,h.get? b=some o->h'.get? b=some o)->tn i h'
 item:∀(X:Cx),X.prog=P->X.w=w->X.K=K->X.calm=true->∀(i:Nat) (pins:List (Addr × Obj)) (s:Shared) (σ:St) (H:Hp) (E:Ae),Inv X pins σ H s->(∀ b∈fp,FpOk X pins H b)->tn i s.heap->J.go i H ->
  wpAny (model P w) X.A (pyNext (.ref it)) (λr s1=>∃ u,r=some u /\
   wpAny (model P w) X.A (letOwnedTupleGo tg (.ref it) u) (λ_ s2=>∃ x H',Inv X pins σ H' s2/\RelV x u/\J.yld i H x H'/\tn (i+1) s2.heap/\∀ b∈fp,H' b=none) E s1) E s
 done:∀(X:Cx),X.prog=P->X.w=w->X.K=K->X.calm=true->∀(i:Nat) (pins:List (Addr × Obj)) (s:Shared) (σ:St) (H:Hp) (E:Ae),Inv X pins σ H s->(∀ b∈fp,FpOk X pins H b)->tn i s.heap->J.stop i H ->
  wpAny (model P w) X.A (pyNext (.ref it)) (λr s1=>r=none/\Inv X pins σ H s1) E s
 self:∀(A:Around) (i:Nat) (s:Shared) (Q:Ae) (E:Ae),tn i s.heap->Q (.ref it) s->wpAny (model P w) A (pyIter (.ref it)) Q E s
abbrev TI:=St->Hp->(It->Hp->Prop)->Prop
def iV(X:Cx)(pins:List (Addr × Obj))(σ:St)(tg:Expr)(R:It->Hp->Prop)(vH:Value)(s2:Shared):Prop :=
 ∃(it:Addr) (fp:List Addr) (tn:Nat->Heap->Prop) (J:It) (H':Hp),vH=.ref it/\Inv X pins σ H' s2/\Turn X.prog X.w X.K tg J fp it tn/\tn 0 s2.heap/\(∀ b∈fp,FpOk X pins H' b)/\R J H'
def PI(X:Cx)(tg iter:Expr)(wi:TI):Prop :=
 ∀(pins:List (Addr × Obj)) (s:Shared) (σ:St) (H:Hp) (R:It->Hp->Prop),Inv X pins σ H s->wi σ H R ->
  wpAny (model X.prog X.w) X.A (eval iter X.env) (λv s1=>wpAny (model X.prog X.w) X.A (pyIter v) (iV X pins σ tg R) X.xe s1) X.xe s
theorem Kq{M:Model}{A:Around}{E:Ae}{s:Shared}{tg:Expr}{it:Addr}{u:Value}{o:Obj}{n:String}{vs:Array Value}{Q:Unit->Shared->Prop}(ho:s.heap.get? it=some o)(hc:o.cls=.type n)(hd:o.data=.fields vs)
  (hn:["enumerate","zip","dict_itemiterator","dict_reverseitemiterator","odict_iterator","itertools.zip_longest","itertools.pairwise"].contains n=false) (hQ:Q () s):wpAny M A (letOwnedTupleGo tg (.ref it) u) Q E s:=by
 unfold letOwnedTupleGo;cases tg <;> first
  | exact Yk hQ
  | (cases u <;> first
    | exact Yk hQ
    | (refine XU (Gn ho ?_)
       rw[hc,hd];show wpAny M A (if (["enumerate","zip","dict_itemiterator","dict_reverseitemiterator","odict_iterator","itertools.zip_longest","itertools.pairwise"].contains n && vs[0]? == some (rawInt _))=true then _ else _) Q E s
       rw[if_neg (by intro h;rw[hn,Bool.false_and]at h;cases h)];exact Yk hQ))
def Qu(K:Ad)(a:Addr):It :=
 ⟨λi H=>∃ xs x,SqL K H a xs/\xs[i]?=some x,λi H x H'=>H'=H/\∀ xs,SqL K H a xs->xs[i]?=some x,λi H=>∃ xs,SqL K H a xs/\xs.length<=i⟩
def Qt(K:Ad)(a:Addr):It :=
 ⟨λi H=>∃ xs x,SqT K H a xs/\xs[i]?=some x,λi H x H'=>H'=H/\∀ xs,SqT K H a xs->xs[i]?=some x,λi H=>∃ xs,SqT K H a xs/\xs.length<=i⟩
def Kp(lo:Int)(n:Nat):It:=⟨λi _=>i<n,λi H x H'=>H'=H/\x=.int (lo+i),λi _=>n<=i⟩
theorem iU{P:Program}{w:World}{K:Ad}{tg:Expr}(a it:Addr):Turn P w K tg (Qu K a) [it] it (λi h=>h.IsListIter it a i) where
 mem:=by simp
 obj:=λi h st b hb=>by
  have e:b=it:=by simpa using hb
  subst e;obtain⟨o,e,c,d⟩:=st;exact⟨o,e,λv z=>by rw[d]at z;cases z⟩
 keep:=λi h h' st k=>st.at λo e=>k it (by simp) o e
 item:=by
  intro X hP hw hK hc i pins s σ H E I hf st hg;subst hP hw hK;obtain⟨xs,x,hq,hx⟩:=hg;obtain⟨XW,rv,p,hz⟩:=I.list hq;obtain⟨u,hu,ru⟩:=rv.get hx;obtain⟨f0,f1,f2,f3,f4,f5⟩:=hf it (by simp);refine wpAny_pyNext_list_item st p.isList (x:=u) (by simpa using hu) λh' Tz sb=>?_;have I1:Inv X pins σ H { s with heap:=h' }:=I.turned (t':=s.toks) (λb o hb e=>(sb.2 b hb).trans e) f0 f1 f3 f4 f5
  obtain⟨o,e,c,d⟩:=id Tz;exact⟨u,rfl,Kq (s:={ s with heap:=h' }) e c d (by decide) ⟨x,H,I1,ru,⟨rfl,λys hy=>by rw[I.list_inj hy hq];exact hx⟩,Tz,λb hb=>(hf b hb).1⟩⟩
 done:=by
  intro X hP hw hK hc i pins s σ H E I hf st hg;subst hP hw hK;obtain⟨xs,hq,hx⟩:=hg;obtain⟨XW,rv,p,hz⟩:=I.list hq;obtain⟨f0,f1,f2,f3,f4,f5⟩:=hf it (by simp);have hl:=rv.length
  exact wpAny_pyNext_list_end (I.ok.hd hc) st p.isList (by simp;omega) λh' eb=>⟨rfl,I.turned (t':=s.toks) (λb o hb e=>eb b o hb e) f0 f1 f3 f4 f5⟩
 self:=λ_ _ _ _ _ st h=>wpAny_pyIter_listiter st h
theorem iT{P:Program}{w:World}{K:Ad}{tg:Expr}(a it:Addr):Turn P w K tg (Qt K a) [it] it (λi h=>h.IsTupleIter it a i) where
 mem:=by simp
 obj:=λi h st b hb=>by
  have e:b=it:=by simpa using hb
  subst e;obtain⟨o,e,c,d⟩:=st;exact⟨o,e,λv z=>by rw[d]at z;cases z⟩
 keep:=λi h h' st k=>st.at λo e=>k it (by simp) o e
 item:=by
  intro X hP hw hK hc i pins s σ H E I hf st hg;subst hP hw hK;obtain⟨xs,x,hq,hx⟩:=hg;obtain⟨XW,rv,p,hz⟩:=I.tuple hq;obtain⟨u,hu,ru⟩:=rv.get hx;obtain⟨f0,f1,f2,f3,f4,f5⟩:=hf it (by simp);refine wpAny_pyNext_tuple_item st (show s.heap.IsTuple a XW.toArray from p) (x:=u) (by simpa using hu) λh' Tz sb=>?_;have I1:Inv X pins σ H { s with heap:=h' }:=I.turned (t':=s.toks) (λb o hb e=>(sb.2 b hb).trans e) f0 f1 f3 f4 f5
  obtain⟨o,e,c,d⟩:=id Tz;exact⟨u,rfl,Kq (s:={ s with heap:=h' }) e c d (by decide) ⟨x,H,I1,ru,⟨rfl,λys hy=>by rw[I.tuple_inj hy hq];exact hx⟩,Tz,λb hb=>(hf b hb).1⟩⟩
 done:=by
  intro X hP hw hK hc i pins s σ H E I hf st hg;subst hP hw hK;obtain⟨xs,hq,hx⟩:=hg;obtain⟨XW,rv,p,hz⟩:=I.tuple hq;obtain⟨f0,f1,f2,f3,f4,f5⟩:=hf it (by simp);have hl:=rv.length
  exact wpAny_pyNext_tuple_end (I.ok.hd hc) st (show s.heap.IsTuple a XW.toArray from p) (by simp;omega) λh' eb=>⟨rfl,I.turned (t':=s.toks) (λb o hb e=>eb b o hb e) f0 f1 f3 f4 f5⟩
 self:=λ_ _ _ _ _ st h=>wpAny_pyIter_tupleiter st h
theorem aS{P:Program}{w:World}{K:Ad}{tg:Expr}(it:Addr)(lo:Int)(n:Nat):Turn P w K tg (Kp lo n) [it] it (λi h=>IsRangeIter h it (lo+(i:Nat) * 1) ((n:Int) - (i:Nat)) 1) where
 mem:=by simp
 obj:=λi h st b hb=>by
  have e:b=it:=by simpa using hb
  subst e;exact⟨_,st,λv z=>by have z':Data.fields _=Data.cell v:=z;cases z'⟩
 keep:=λi h h' st k=>k it (by simp) _ st
 item:=by
  intro X hP hw hK hc i pins s σ H E I hf st hg;subst hP hw hK;obtain⟨f0,f1,f2,f3,f4,f5⟩:=hf it (by simp);have W:=Walks.range (prog:=X.prog) (w:=X.w) (I.ok.hd hc) it lo 1 n
  refine W.item i s _ _ hg st λv h' tk hv Tz kk=>?_;obtain⟨t,rfl⟩:=hv;have I1:Inv X pins σ H { s with heap:=h',toks:=tk }:=I.turned (λb o hb e=>kk b o (by simpa using hb) e) f0 f1 f3 f4 f5
  refine⟨_,rfl,Kq (s:={ s with heap:=h',toks:=tk }) (n:="range_iterator") Tz rfl rfl (by decide) ⟨.int (lo+i),H,I1,⟨t,?_⟩,⟨rfl,rfl⟩,Tz,λb hb=>(hf b hb).1⟩⟩;rw[Og]
 done:=by intro X hP hw hK hc i pins s σ H E I hf st hg;subst hP hw hK;obtain⟨f0,f1,f2,f3,f4,f5⟩:=hf it (by simp);exact wpAny_pyNext_range_end (I.ok.hd hc) st (by have:n<=i:=hg;omega) λh' eb=>⟨rfl,I.turned (t':=s.toks) (λb o hb e=>eb b o hb e) f0 f1 f3 f4 f5⟩
 self:=λ_ _ _ _ _ st h=>wpAny_pyIter_rangeiter st h
section
variable{X:Cx}{tg:Expr}
def FR(K:Ad)(tl:TE):TI:=λσ H R=>tl σ H λx H1=>∃ a,x=.ref a/\(∃ xs,SqL K H1 a xs)/\R (Qu K a) H1
def FQ(K:Ad)(tl:TE):TI:=λσ H R=>tl σ H λx H1=>∃ a,x=.ref a/\(∃ xs,SqT K H1 a xs)/\R (Qt K a) H1
theorem vG{l:Expr}{tl:TE}(hl:PE X l tl):PI X tg l (FR X.K tl):=by
 intro pins s σ H R I h;refine thn (hl pins s σ H _ I h) λv s1 Xv=>?_;obtain⟨x,H1,I1,r1,q1⟩:=Xv;obtain⟨a,e,⟨xs,hq⟩,q⟩:=q1;subst e;cases r1;obtain⟨XW,rv,p,hz⟩:=I1.list hq;refine wL p.isList ?_;refine⟨s1.heap.objs.size,[s1.heap.objs.size],_,_,H1,rfl,I1.kept (t':=s1.toks) λb o e=>WZ _ e,iU a _,⟨_,Ym _ rfl,rfl,rfl⟩,λb hb=>?_,q⟩;have e:b=s1.heap.objs.size:=by simpa using hb
 subst e;exact I1.fpOk (XN _) (I1.hok.fresh (XN _))
theorem FP{l:Expr}{tl:TE}(hl:PE X l tl):PI X tg l (FQ X.K tl):=by
 intro pins s σ H R I h;refine thn (hl pins s σ H _ I h) λv s1 Xv=>?_;obtain⟨x,H1,I1,r1,q1⟩:=Xv;obtain⟨a,e,⟨xs,hq⟩,q⟩:=q1;subst e;cases r1;obtain⟨XW,rv,p,hz⟩:=I1.tuple hq;refine wpAny_pyIter_tuple (show s1.heap.IsTuple a XW.toArray from p) ?_;refine⟨s1.heap.objs.size,[s1.heap.objs.size],_,_,H1,rfl,I1.kept (t':=s1.toks) λb o e=>WZ _ e,iT a _,⟨_,Ym _ rfl,rfl,rfl⟩,λb hb=>?_,q⟩;have e:b=s1.heap.objs.size:=by simpa using hb
 subst e;exact I1.fpOk (XN _) (I1.hok.fresh (XN _))
theorem aR{pins:List (Addr × Obj)}{σ:St}{H:Hp}{s:Shared}{R:It->Hp->Prop}{E:Ae}{lo hi:Int}{t u v:Tok}{tk:Nat}(I:Inv X pins σ H s)(h1:-(2 ^ 62)<=lo)(h2:lo<2 ^ 62)(h3:-(2 ^ 62)<=hi)(h4:hi<2 ^ 62)
  (q:R (Kp lo (hi - lo).toNat) H):wpAny (model X.prog X.w) X.A (pyIter (.ref s.heap.objs.size)) (iV X pins σ tg R) E { s with heap:=s.heap.push { cls:=.type "range",data:=.fields #[.int lo t,.int hi u,.int 1 v] },toks:=tk }:=by
 refine wpAny_pyIter_range (IsRange.new ..) (small_one h1 h2 h3 h4) ?_;have I1:Inv X pins σ H { s with heap:=s.heap.push { cls:=.type "range",data:=.fields #[.int lo t,.int hi u,.int 1 v] },toks:=tk }:=I.kept λb o e=>WZ _ e
 refine⟨(s.heap.push { cls:=.type "range",data:=.fields #[.int lo t,.int hi u,.int 1 v] }).objs.size,[(s.heap.push { cls:=.type "range",data:=.fields #[.int lo t,.int hi u,.int 1 v] }).objs.size],_,_,H,rfl,
  I1.kept (t':=tk) λb o e=>WZ _ e,aS _ lo (hi - lo).toNat,?_,λb hb=>?_,q⟩
 .have e1:lo+((0:Nat):Int) * 1=lo:=by simp
  have e2:(((hi - lo).toNat:Nat):Int) - ((0:Nat):Int)=Builtin.Range.rangeSize lo hi 1:=by rw[rangeSize_one];split <;> omega
  show IsRangeIter _ _ (lo+((0:Nat):Int) * 1) ((((hi - lo).toNat:Nat):Int) - ((0:Nat):Int)) 1;rw[e1,e2];exact Ym _ rfl
 .have e:b=(s.heap.push { cls:=.type "range",data:=.fields #[.int lo t,.int hi u,.int 1 v] }).objs.size:=by simpa using hb
  subst e;exact I1.fpOk (XN _) (I1.hok.fresh (XN _))
def FO(ta:TA):TI:=λσ H R=>ta σ H λvs H1=>∃ j:Int,vs=[.int j]/\-(2 ^ 62)<=j/\j<2 ^ 62/\R (Kp 0 j.toNat) H1
theorem Ui {a:Expr} {ta:TA} {p pos:Pos} (hg:Gl X "range") (hm:X.mg "range"=none) (ha:PA X [a] ta) (hs:starEach [a] X.env=[(false,eval a X.env)]:=by rfl):PI X tg (.Call (.Name "range" p) [a] [] pos) (FO ta):=by
 intro pins s σ H R I h;refine Call_ (QW I hg hm boot_range (Le (thn (ha pos pins s σ H _ I h) λus s1 Xv=>?_) hs rfl));obtain⟨vs,H1,I1,r1,q1⟩:=Xv;obtain⟨j,e,q1,q2,q⟩:=q1;subst e;cases r1 with
 | cons r rr =>
  cases rr;obtain⟨t,rfl⟩:=r;exact call_range_1 (aR I1 (by omega) (by omega) q1 q2 (by simpa using q))
def vE(wi:TI)(g:TG)(tb:TS):TS:=λD σ H=>wi σ H λJ H1=>∃ W:Nat->Nat->St->Hp->Prop,(∃ m,W 0 m σ H1)/\∀ i m σ H,W i m σ H ->
 (J.stop i H/\D.nx σ H)\/(J.go i H/\∃ N:St->Hp->Prop,(∀ σ' H',N σ' H'->∃ m',m'<m/\W (i+1) m' σ' H')/\∀ x H',J.yld i H x H'->g x σ H' λσ2 H2=>tb { D with nx:=N,ct:=N,bk:=D.nx } σ2 H2)
def NZ(fp:List Addr)(h:Heap):List (Addr × Obj):=fp.filterMap λb=>(h.get? b).map λo=>(b,o)
theorem NY{fp:List Addr}{h:Heap}{b:Addr}{o:Obj}(hb:b∈fp)(e:h.get? b=some o):(b,o)∈NZ fp h:=List.mem_filterMap.mpr ⟨b,hb,by rw[e];rfl⟩
theorem iS{fp:List Addr}{h:Heap}{p:Addr × Obj}(hp:p∈NZ fp h):p.1∈fp/\h.get? p.1=some p.2:=by
 obtain⟨b,hb,e⟩:=List.mem_filterMap.mp hp;cases q:h.get? b with
 | none=>rw[q]at e;cases e
 | some o =>
  rw[q]at e;have e':(b,o)=p:=Yg e
  subst e';exact⟨hb,q⟩
theorem Inv.pinned{pins:List (Addr × Obj)}{σ:St}{H:Hp}{s:Shared}{fp:List Addr}(I:Inv X pins σ H s)(hf:∀ b∈fp,FpOk X pins H b)(ho:∀ b∈fp,∃ o,s.heap.get? b=some o/\∀ v,o.data≠.cell v):Inv X (pins++NZ fp s.heap) σ H s :=
 I.pins_of λp hp=>(Xx.mp hp).elim (λz=>I.pin p (Yf _ z)) λz=>by obtain⟨hb,e⟩:=iS z;obtain⟨f0,f1,f2,_⟩:=hf p.1 hb;obtain⟨o,e',d⟩:=ho p.1 hb;rw[e]at e';cases e';exact⟨e,f0,f1,f2,d⟩
theorem Inv.unpinned{pins pl:List (Addr × Obj)}{σ:St}{H:Hp}{s:Shared}(I:Inv X (pins++pl) σ H s):Inv X pins σ H s:=I.pins_of λp hp=>I.pin p (Yf _ (Yb _ hp))
theorem Tf{iter:Expr}{body:List Stmt}{wi:TI}{g:TG}{tb:TS}{pos:Pos}(hp:PassesOwn (model X.prog X.w) X.A X.env X.xe)(hc:X.calm=true)(hi:PI X tg iter wi)(hg:PG X tg g)(hb:PSs X body tb)
  (hs:∀ x,foldedSetIterable iter X.env x=pure x:=by intro _;rfl):PS X (.For tg iter body [] pos) (vE wi g tb):=by
 intro pins s σ H D I h;refine wpAny_For (thn (hi pins s σ H _ I h) λv s1 h1=>thn h1 λvH s2 h2=>?_) hs;obtain⟨it,fp,tn,J,H2,e,I2,T,NX,f2,W,⟨m0,w0⟩,turn⟩:=h2;subst e;have Ko:∀ {H':Hp},(∀ b∈fp,H' b=none)->∀ b∈fp,FpOk X pins H' b:=λhn b hb=>⟨hn b hb,(f2 b hb).2⟩
 refine codeAny_forLoop_any (λn s'=>∃ i σ' H',Inv X pins σ' H' s'/\tn i s'.heap/\(∀ b∈fp,H' b=none)/\W i n σ' H') ?_ m0 ⟨0,σ,H2,I2,NX,λb hb=>(f2 b hb).1,w0⟩;rintro n s3 ⟨i,σ3,H3,I3,iR,iQ,w3⟩;rcases turn i n σ3 H3 w3 with ⟨stop,qn⟩ | ⟨go,N,hN,step⟩
 .refine KW hp (thn (T.done X rfl rfl rfl hc i pins s3 σ3 H3 X.xe I3 (Ko iQ) iR stop) λr s4 ⟨hr,I4⟩=>?_);subst hr;exact zN ⟨σ3,H3,I4,qn⟩
 .refine KW hp (thn (T.item X rfl rfl rfl hc i pins s3 σ3 H3 X.xe I3 (Ko iQ) iR go) λr s4 Xv=>?_);obtain⟨u,hr,h4⟩:=Xv;subst hr;refine KW hp (thn h4 λ_ s5 Xv=>?_);obtain⟨x,H5,I5,r5,y5,Km,vD⟩:=Xv;have vC:=I5.pinned (Ko vD) (T.obj _ _ Km)
  refine KW hp (thn (hg _ s5 σ3 H5 x u _ vC r5 (step x H5 y5)) λ_ s6 Xv=>?_);obtain⟨σ6,H6,I6,q6⟩:=Xv;refine KW hp (thn (hb _ s6 σ6 H6 _ I6 q6) λf s7 q7=>?_);have again:∀ {σ7:St} {H7:Hp},Inv X (pins++NZ fp s5.heap) σ7 H7 s7->N σ7 H7->∃ m,m<n/\∃ i σ' H',Inv X pins σ' H' s7/\tn i s7.heap/\(∀ b∈fp,H' b=none)/\W i m σ' H':=λ{σ7 H7} I7 n7=>by obtain⟨m',hm,w7⟩:=hN σ7 H7 n7;refine⟨m',hm,i+1,σ7,H7,I7.unpinned,T.keep _ _ _ Km λb hb o e=>(I7.pin (b,o) (Yf _ (Yf _ (NY hb e)))).1,λb hb=>?_,w7⟩;obtain⟨o,e,d⟩:=T.obj _ _ Km b hb;exact(I7.pin (b,o) (Yf _ (Yf _ (NY hb e)))).2.1
  cases f with
  | next=>obtain⟨σ7,H7,I7,n7⟩:=q7;exact again I7 n7
  | cont=>obtain⟨σ7,H7,I7,n7⟩:=q7;exact again I7 n7
  | brk=>obtain⟨σ7,H7,I7,q7⟩:=q7;exact⟨σ7,H7,I7.unpinned,q7⟩
  | ret v=>obtain⟨x7,σ7,H7,I7,r7,q7⟩:=q7;exact⟨x7,σ7,H7,I7.unpinned,r7,q7⟩
end
theorem vB{K:Ad}{a:Addr}{xs:List V}{g:TG}{tb:TS}{D:Ends}{σ:St}{H:Hp}(Pv:Nat->St->Hp->Prop)(h0:Pv 0 σ H)(hl:∀ i σ H,i<=xs.length->Pv i σ H->SqL K H a xs)
  (hs:∀ i x σ H,xs[i]?=some x->Pv i σ H->g x σ H λσ2 H2=>tb { D with nx:=Pv (i+1),ct:=Pv (i+1),bk:=D.nx } σ2 H2) (hd:∀ σ H,Pv xs.length σ H->D.nx σ H) :
  ∃ W:Nat->Nat->St->Hp->Prop,(∃ m,W 0 m σ H)/\∀ i m σ H,W i m σ H ->
   ((Qu K a).stop i H/\D.nx σ H)\/((Qu K a).go i H/\∃ N:St->Hp->Prop,(∀ σ' H',N σ' H'->∃ m',m'<m/\W (i+1) m' σ' H')/\∀ x H',(Qu K a).yld i H x H'->g x σ H' λσ2 H2=>tb { D with nx:=N,ct:=N,bk:=D.nx } σ2 H2):=by
 refine⟨λi m σ H=>m=xs.length - i/\i<=xs.length/\Pv i σ H,⟨xs.length,by simp,Yl _,h0⟩,?_⟩;rintro i m σ H ⟨rfl,hi,p⟩;have q:=hl i σ H hi p
 by_cases Xd:i<xs.length
 .refine .inr ⟨⟨xs,xs[i],q,by simp[Xd]⟩,Pv (i+1),λσ' H' p'=>⟨xs.length - (i+1),by omega,rfl,Xd,p'⟩,λx H' y=>?_⟩;obtain⟨e,y⟩:=y;subst e;exact hs i x σ _ (y xs q) p
 .have e:i=xs.length:=by omega
  subst e;exact .inl ⟨⟨xs,q,XN _⟩,hd σ H p⟩
theorem iP{K:Ad}{a:Addr}{xs:List V}{g:TG}{tb:TS}{D:Ends}{σ:St}{H:Hp}(Pv:Nat->St->Hp->Prop)(h0:Pv 0 σ H)(hl:∀ i σ H,i<=xs.length->Pv i σ H->SqT K H a xs)
  (hs:∀ i x σ H,xs[i]?=some x->Pv i σ H->g x σ H λσ2 H2=>tb { D with nx:=Pv (i+1),ct:=Pv (i+1),bk:=D.nx } σ2 H2) (hd:∀ σ H,Pv xs.length σ H->D.nx σ H) :
  ∃ W:Nat->Nat->St->Hp->Prop,(∃ m,W 0 m σ H)/\∀ i m σ H,W i m σ H ->
   ((Qt K a).stop i H/\D.nx σ H)\/((Qt K a).go i H/\∃ N:St->Hp->Prop,(∀ σ' H',N σ' H'->∃ m',m'<m/\W (i+1) m' σ' H')/\∀ x H',(Qt K a).yld i H x H'->g x σ H' λσ2 H2=>tb { D with nx:=N,ct:=N,bk:=D.nx } σ2 H2):=by
 refine⟨λi m σ H=>m=xs.length - i/\i<=xs.length/\Pv i σ H,⟨xs.length,by simp,Yl _,h0⟩,?_⟩;rintro i m σ H ⟨rfl,hi,p⟩;have q:=hl i σ H hi p
 by_cases Xd:i<xs.length
 .refine .inr ⟨⟨xs,xs[i],q,by simp[Xd]⟩,Pv (i+1),λσ' H' p'=>⟨xs.length - (i+1),by omega,rfl,Xd,p'⟩,λx H' y=>?_⟩;obtain⟨e,y⟩:=y;subst e;exact hs i x σ _ (y xs q) p
 .have e:i=xs.length:=by omega
  subst e;exact .inl ⟨⟨xs,q,XN _⟩,hd σ H p⟩
theorem vA{lo:Int}{n:Nat}{g:TG}{tb:TS}{D:Ends}{σ:St}{H:Hp}(Pv:Nat->St->Hp->Prop)(h0:Pv 0 σ H)
  (hs:∀ i σ H,i<n->Pv i σ H->g (.int (lo+i)) σ H λσ2 H2=>tb { D with nx:=Pv (i+1),ct:=Pv (i+1),bk:=D.nx } σ2 H2) (hd:∀ σ H,Pv n σ H->D.nx σ H) :
  ∃ W:Nat->Nat->St->Hp->Prop,(∃ m,W 0 m σ H)/\∀ i m σ H,W i m σ H ->
   ((Kp lo n).stop i H/\D.nx σ H)\/((Kp lo n).go i H/\∃ N:St->Hp->Prop,(∀ σ' H',N σ' H'->∃ m',m'<m/\W (i+1) m' σ' H')/\∀ x H',(Kp lo n).yld i H x H'->g x σ H' λσ2 H2=>tb { D with nx:=N,ct:=N,bk:=D.nx } σ2 H2):=by
 refine⟨λi m σ H=>m=n - i/\i<=n/\Pv i σ H,⟨n,by simp,Yl _,h0⟩,?_⟩;rintro i m σ H ⟨rfl,hi,p⟩;by_cases Xd:i<n
 .refine .inr ⟨Xd,Pv (i+1),λσ' H' p'=>⟨n - (i+1),by omega,rfl,Xd,p'⟩,λx H' y=>?_⟩;obtain⟨e,y⟩:=y;subst e y;exact hs i σ _ Xd p
 .have e:i=n:=by omega
  subst e;exact .inl ⟨XN _,hd σ H p⟩
abbrev R2:=V->V->Hp->VK->Prop
def WD(X:Cx)(f:Value->Value->Sem Value)(r:R2):Prop :=
 ∀(pins:List (Addr × Obj)) (s:Shared) (σ:St) (H:Hp) (x y:V) (v u:Value) (Q:VK),Inv X pins σ H s->RelV x v->RelV y u->r x y H Q ->
  wpAny (model X.prog X.w) X.A (f v u) (EP X pins σ Q) X.xe s
def vy(X:Cx)(f:Value->Sem Value)(r:V->Hp->VK->Prop):Prop :=
 ∀(pins:List (Addr × Obj)) (s:Shared) (σ:St) (H:Hp) (x:V) (v:Value) (Q:VK),Inv X pins σ H s->RelV x v->r x H Q ->
  wpAny (model X.prog X.w) X.A (f v) (EP X pins σ Q) X.xe s
def Ur(X:Cx)(f:Value)(r:List V->Hp->VK->Prop):Prop :=
 ∀(pins:List (Addr × Obj)) (s:Shared) (σ:St) (H:Hp) (xs:List V) (us:Ag) (Q:VK),Inv X pins σ H s->Vals xs us->r xs H Q ->
  wpAny (model X.prog X.w) X.A (call f us) (EP X pins σ Q) X.xe s
def zm(r:R2)(ta tb:TE):TE:=λσ H Q=>ta σ H λx H1=>tb σ H1 λy H2=>r x y H2 Q
def aQ(r:V->Hp->VK->Prop)(ta:TE):TE:=λσ H Q=>ta σ H λx H1=>r x H1 Q
def rI(C:Int->Int->Prop)(g:Int->Int->V):R2:=λx y H Q=>∃ i j,x=.int i/\y=.int j/\C i j/\Q (g i j) H
def LW(g:Int->Int->V):R2:=λx y H Q=>∃ i j,x=.int i/\y=.int j/\Q (g i j) H
def rU(g:Int->V):V->Hp->VK->Prop:=λx H Q=>∃ i,x=.int i/\Q (g i) H
section
variable{X:Cx}{a b:Expr}{ta tb:TE}{pos:Pos}
theorem Kl(ha:PE X a ta)(hb:PE X b tb){pins:List (Addr × Obj)}{s:Shared}{σ:St}{H:Hp}{R:V->V->Hp->Prop}(I:Inv X pins σ H s)
  (h:ta σ H λx H1=>tb σ H1 λy H2=>R x y H2) {Q:Ae} {f:Value->Value->Sem Value}
  (hf:∀ v u s2 x y H2,Inv X pins σ H2 s2->RelV x v->RelV y u->R x y H2->wpAny (model X.prog X.w) X.A (f v u) Q X.xe s2) :
  wpAny (model X.prog X.w) X.A (eval a X.env) (λv s₁=>wpAny (model X.prog X.w) X.A (eval b X.env) (λu s₂=>wpAny (model X.prog X.w) X.A (f v u) Q X.xe s₂) X.xe s₁) X.xe s:=by refine thn (ha pins s σ H _ I h) λv s1 Xv=>?_;obtain⟨x,H1,I1,r1,q1⟩:=Xv;refine thn (hb pins s1 σ H1 _ I1 q1) λu s2 Xv=>?_;obtain⟨y,H2,I2,r2,q2⟩:=Xv;exact hf v u s2 x y H2 I2 r1 r2 q2
theorem Zs{op:Operator}{r:R2}(ho:WD X (binaryOp op) r)(ha:PE X a ta)(hb:PE X b tb):PE X (.BinOp a op b pos) (zm r ta tb):=by intro pins s σ H Q I h;exact wpAny_BinOp (Kl ha hb I h λv u s2 x y H2 I2 rx ry q=>ho pins s2 σ H2 x y v u Q I2 rx ry q)
theorem FN{op:UnaryOp}{r:V->Hp->VK->Prop}(ho:vy X (unaryOp op) r)(ha:PE X a ta):PE X (.UnaryOp op a pos) (aQ r ta):=by intro pins s σ H Q I h;exact UnaryOp_ (thn (ha pins s σ H _ I h) λv s1 ⟨x,H1,I1,r1,q1⟩=>ho pins s1 σ H1 x v Q I1 r1 q1)
theorem Kk{f:Value->Value->Sem Value}{C:Int->Int->Prop}{g:Int->Int->Int}
  (rule:∀(i j:Int) (t u:Tok) (s:Shared) (Q:Ae) (E:Ae),C i j->Q (.int (g i j) s.toks) { s with toks:=s.toks+1 }->wpAny (model X.prog X.w) X.A (f (.int i t) (.int j u)) Q E s) :
  WD X f (rI C λi j=>.int (g i j)):=by intro pins s σ H x y v u Q I rx ry h;obtain⟨i,j,rfl,rfl,hc,q⟩:=h;obtain⟨t,rfl⟩:=rx;obtain⟨t',rfl⟩:=ry;exact rule i j t t' s _ _ hc ⟨.int (g i j),H,I.tok _,⟨_,rfl⟩,q⟩
theorem FL{f:Value->Value->Sem Value}{g:Int->Int->Int}
  (rule:∀(i j:Int) (t u:Tok) (s:Shared) (Q:Ae) (E:Ae),Q (.int (g i j) s.toks) { s with toks:=s.toks+1 }->wpAny (model X.prog X.w) X.A (f (.int i t) (.int j u)) Q E s) :
  WD X f (LW λi j=>.int (g i j)):=by intro pins s σ H x y v u Q I rx ry h;obtain⟨i,j,rfl,rfl,q⟩:=h;obtain⟨t,rfl⟩:=rx;obtain⟨t',rfl⟩:=ry;exact rule i j t t' s _ _ ⟨.int (g i j),H,I.tok _,⟨_,rfl⟩,q⟩
theorem NW{f:Value->Value->Sem Value}{g:Int->Int->Bool}
  (rule:∀(i j:Int) (t u:Tok) (s:Shared) (Q:Ae) (E:Ae),Q (.bool (g i j)) s->wpAny (model X.prog X.w) X.A (f (.int i t) (.int j u)) Q E s) :
  WD X f (LW λi j=>.bl (g i j)):=by intro pins s σ H x y v u Q I rx ry h;obtain⟨i,j,rfl,rfl,q⟩:=h;obtain⟨t,rfl⟩:=rx;obtain⟨t',rfl⟩:=ry;exact rule i j t t' s _ _ ⟨.bl (g i j),H,I,rfl,q⟩
def vw(i j:Int):Prop:=0<j/\j<1073741824
def vq(i j:Int):Prop:=0<=j/\j<=1000000/\i.natAbs<2 ^ 64
def CMul(i j:Int):Prop:=(-(2 ^ 64)<i/\i<2 ^ 64)\/(-(2 ^ 64)<j/\j<2 ^ 64)
theorem CMul.ok{i j:Int}(h:CMul i j):IntMulOk i j:=by
 rcases h with ⟨h1,h2⟩ | ⟨h1,h2⟩
 .exact .of_left (intBits_le_64 h1 h2)
 .exact .of_right (intBits_le_64 h1 h2)
theorem UY:WD X (binaryOp .Add) (LW λi j=>.int (i+j)):=FL λ_ _ _ _ _ _ _ q=>add_int q
theorem Te:WD X (binaryOp .Sub) (LW λi j=>.int (i - j)):=FL λ_ _ _ _ _ _ _ q=>sub_int q
theorem FK:WD X (binaryOp .Mult) (rI CMul λi j=>.int (i * j)):=Kk λ_ _ _ _ _ _ _ hc q=>mul_int q hc.ok
theorem LV:WD X (binaryOp .FloorDiv) (rI vw λi j=>.int (i / j)):=Kk λi j _ _ _ _ _ hc q=>by
 have h1:(0:Int)<j:=hc.1;have h2:j<1073741824:=hc.2
 exact floordiv_int (by omega) (by rw[Int.fdiv_eq_ediv_of_nonneg i (by omega)];exact q) (.inl (PyProof.noPylong_small (by omega)))
theorem ZS:WD X (binaryOp .Mod) (rI (λ_ j=>0<j) λi j=>.int (i % j)):=Kk λi j _ _ _ _ _ hc q=>by have h1:(0:Int)<j:=hc;exact mod_int' (by omega) (by rw[Int.fmod_eq_emod_of_nonneg i (by omega)];exact q)
theorem OQ:WD X (binaryOp .Pow) (rI vq λi j=>.int (i ^ j.toNat)):=Kk λ_ _ _ _ _ _ _ hc q=>pow_int_small hc.1 hc.2.1 hc.2.2 q
theorem aP{f:Value->Sem Value}{g:Int->Int}
  (rule:∀(i:Int) (t:Tok) (s:Shared) (Q:Ae) (E:Ae),Q (.int (g i) s.toks) { s with toks:=s.toks+1 }->wpAny (model X.prog X.w) X.A (f (.int i t)) Q E s) :
  vy X f (rU λi=>.int (g i)):=by intro pins s σ H x v Q I rx h;obtain⟨i,rfl,q⟩:=h;obtain⟨t,rfl⟩:=rx;exact rule i t s _ _ ⟨.int (g i),H,I.tok _,⟨_,rfl⟩,q⟩
theorem LU:vy X (unaryOp .USub) (rU λi=>.int (-i)):=aP λ_ _ _ _ _ q=>neg_int q
end
def scal:V->V->Bool
 | .non,.non=>true | .non,.int _=>true | .int _,.non=>true | .non,.bl _=>true | .bl _,.non=>true | .non,.str _=>true | .str _,.non=>true
 | .int _,.int _=>true | .bl _,.bl _=>true | .str _,.str _=>true | .byt _,.byt _=>true
 | .int _,.str _=>true | .str _,.int _=>true | .bl _,.str _=>true | .str _,.bl _=>true
 | _,_=>false
def aO:R2:=λx y H Q=>scal x y=true/\Q (.bl (decide (x=y))) H
def aN:R2:=λx y H Q=>scal x y=true/\Q (.bl (!decide (x=y))) H
theorem Zx{i j:Int}:decide (V.int i=V.int j)=(i == j):=by rw[OU];simp
theorem FJ{i j:Bool}:decide (V.bl i=V.bl j)=(i == j):=by rw[OU];simp
theorem iO{i j:Str}:decide (V.str i=V.str j)=(i == j):=by rw[OU];simp
theorem iM{i j:Array UInt8}:decide (V.byt i=V.byt j)=(i.toList == j.toList):=by rw[OU];cases i;cases j;simp
section
variable{X:Cx}{a b c:Expr}{ta tb tc:TE}{pos:Pos}
theorem ZJ{pins:List (Addr × Obj)}{σ:St}{H:Hp}{s:Shared}{Q:VK}{k k':Bool}(I:Inv X pins σ H s)(q:Q (.bl k) H)(e:k=k'):EP X pins σ Q (.bool k') s:=by subst e;exact⟨.bl k,H,I,rfl,q⟩
theorem Td:WD X (compareOp .Eq) aO:=by
 intro pins s σ H x y v u Q I rx ry h;obtain⟨hs,q⟩:=h;cases x with
 | non =>
  cases rx;cases y with
  | non=>cases ry;exact PySem.EqNone.eq_none_none (ZJ I q (by simp))
  | bl j=>cases ry;exact PySem.EqNone.eq_none_bool (ZJ I q (by simp))
  | int j=>obtain⟨t',rfl⟩:=ry;exact PySem.EqNone.eq_none_int (ZJ I q (by simp))
  | str j=>obtain⟨t',rfl⟩:=ry;exact PySem.EqNone.eq_none_str (ZJ I q (by simp))
  | _=>exact absurd (show false=true from hs) Yw
 | bl i =>
  cases rx;cases y with
  | non=>cases ry;exact PySem.EqNone.eq_bool_none (ZJ I q (by simp))
  | bl j=>cases ry;exact eq_bool (ZJ I q FJ)
  | str j=>obtain⟨t',rfl⟩:=ry;exact PySem.EqMixed.eq_bool_str (ZJ I q (by simp))
  | _=>exact absurd (show false=true from hs) Yw
 | int i =>
  obtain⟨t,rfl⟩:=rx;cases y with
  | non=>cases ry;exact PySem.EqNone.eq_int_none (ZJ I q (by simp))
  | int j=>obtain⟨t',rfl⟩:=ry;exact eq_int (ZJ I q Zx)
  | str j=>obtain⟨t',rfl⟩:=ry;exact PySem.EqMixed.eq_int_str (ZJ I q (by simp))
  | _=>exact absurd (show false=true from hs) Yw
 | str i =>
  obtain⟨t,rfl⟩:=rx;cases y with
  | non=>cases ry;exact PySem.EqNone.eq_str_none (ZJ I q (by simp))
  | bl j=>cases ry;exact PySem.EqMixed.eq_str_bool (ZJ I q (by simp))
  | int j=>obtain⟨t',rfl⟩:=ry;exact PySem.EqMixed.eq_str_int (ZJ I q (by simp))
  | str j=>obtain⟨t',rfl⟩:=ry;exact eq_str (ZJ I q iO)
  | _=>exact absurd (show false=true from hs) Yw
 | byt i =>
  obtain⟨t,rfl⟩:=rx;cases y with
  | byt j=>obtain⟨t',rfl⟩:=ry;exact PySem.W.eq_bytes (ZJ I q iM)
  | _=>exact absurd (show false=true from hs) Yw
 | _=>cases y <;> exact absurd (show false=true from hs) Yw
theorem RR:WD X (compareOp .NotEq) aN:=by
 intro pins s σ H x y v u Q I rx ry h;obtain⟨hs,q⟩:=h;cases x with
 | non =>
  cases rx;cases y with
  | non=>cases ry;exact PySem.EqNone.ne_none_none (ZJ I q (by simp))
  | bl j=>cases ry;exact PySem.EqNone.ne_none_bool (ZJ I q (by simp))
  | int j=>obtain⟨t',rfl⟩:=ry;exact PySem.EqNone.ne_none_int (ZJ I q (by simp))
  | str j=>obtain⟨t',rfl⟩:=ry;exact PySem.EqNone.ne_none_str (ZJ I q (by simp))
  | _=>exact absurd (show false=true from hs) Yw
 | bl i =>
  cases rx;cases y with
  | non=>cases ry;exact PySem.EqNone.ne_bool_none (ZJ I q (by simp))
  | bl j=>cases ry;exact ne_bool (ZJ I q (Xw not FJ))
  | str j=>obtain⟨t',rfl⟩:=ry;exact PySem.EqMixed.ne_bool_str (ZJ I q (by simp))
  | _=>exact absurd (show false=true from hs) Yw
 | int i =>
  obtain⟨t,rfl⟩:=rx;cases y with
  | non=>cases ry;exact PySem.EqNone.ne_int_none (ZJ I q (by simp))
  | int j=>obtain⟨t',rfl⟩:=ry;exact ne_int (ZJ I q (Xw not Zx))
  | str j=>obtain⟨t',rfl⟩:=ry;exact PySem.EqMixed.ne_int_str (ZJ I q (by simp))
  | _=>exact absurd (show false=true from hs) Yw
 | str i =>
  obtain⟨t,rfl⟩:=rx;cases y with
  | non=>cases ry;exact PySem.EqNone.ne_str_none (ZJ I q (by simp))
  | bl j=>cases ry;exact PySem.EqMixed.ne_str_bool (ZJ I q (by simp))
  | int j=>obtain⟨t',rfl⟩:=ry;exact PySem.EqMixed.ne_str_int (ZJ I q (by simp))
  | str j=>obtain⟨t',rfl⟩:=ry;exact ne_str (ZJ I q (Xw not iO))
  | _=>exact absurd (show false=true from hs) Yw
 | byt i =>
  obtain⟨t,rfl⟩:=rx;cases y with
  | byt j=>obtain⟨t',rfl⟩:=ry;exact PySem.W.ne_bytes (ZJ I q (Xw not iM))
  | _=>exact absurd (show false=true from hs) Yw
 | _=>cases y <;> exact absurd (show false=true from hs) Yw
theorem Kj:WD X (compareOp .Lt) (LW λi j=>.bl (decide (i<j))):=NW λ_ _ _ _ _ _ _ q=>lt_int q
theorem Qs:WD X (compareOp .LtE) (LW λi j=>.bl (decide (i<=j))):=NW λ_ _ _ _ _ _ _ q=>le_int q
theorem LS:WD X (compareOp .Gt) (LW λi j=>.bl (decide (j<i))):=NW λ_ _ _ _ _ _ _ q=>gt_int q
theorem Ki:WD X (compareOp .GtE) (LW λi j=>.bl (decide (j<=i))):=NW λ_ _ _ _ _ _ _ q=>ge_int q
theorem HK:WD X (compareOp .Is) (λx y H Q=>y=.non/\Q (.bl (decide (x=.non))) H):=by
 intro pins s σ H x y v u Q I rx ry h;obtain⟨rfl,q⟩:=h;cases ry;refine is_none_gen (ZJ I q ?_);cases x <;> first
  | (cases rx;rfl)
  | (obtain⟨t,rfl⟩:=rx;rfl)
theorem iL:WD X (compareOp .IsNot) (λx y H Q=>y=.non/\Q (.bl (!decide (x=.non))) H):=by
 intro pins s σ H x y v u Q I rx ry h;obtain⟨rfl,q⟩:=h;cases ry;refine isnot_none_gen (ZJ I q ?_);cases x <;> first
  | (cases rx;rfl)
  | (obtain⟨t,rfl⟩:=rx;rfl)
theorem Zq(b:Expr){op:CmpOp}(h:op≠.In:=by decide)(h2:op≠.NotIn:=by decide):behindInMarks op b=false:=by
 have e1:(op == CmpOp.In)=false:=by cases op <;> first | rfl | exact absurd rfl h
 have e2:(op == CmpOp.NotIn)=false:=by cases op <;> first | rfl | exact absurd rfl h2
 cases b <;> simp[behindInMarks,e1,e2]
theorem NV{op:CmpOp}{r:R2}(ho:WD X (compareOp op) r)(ha:PE X a ta)(hb:PE X b tb)(hm:behindInMarks op b=false):PE X (.Compare a [op] [b] pos) (zm r ta tb):=by intro pins s σ H Q I h;exact wpAny_Compare1 (Kl ha hb I h λv u s2 x y H2 I2 rx ry q=>ho pins s2 σ H2 x y v u Q I2 rx ry q) hm
def FI(t:TE):TT:=λσ H Q=>t σ H λx H'=>∃ k,x=.bl k/\Q k H'
theorem Zd{op:CmpOp}{r:R2}(ho:WD X (compareOp op) r)(ha:PE X a ta)(hb:PE X b tb)(hm:behindInMarks op b=false):PT X (.Compare a [op] [b] pos) (FI (zm r ta tb)):=by
 intro pins s σ H Q I h;refine wpAny_isTrue_Compare1 (thn (ha pins s σ H _ I h) λv s1 ⟨x,H1,I1,r1,q1⟩=>thn (hb pins s1 σ H1 _ I1 q1) λu s2 ⟨y,H2,I2,r2,q2⟩ =>
  thn (ho pins s2 σ H2 x y v u _ I2 r1 r2 q2) λc s3 ⟨z,H3,I3,r3,k,e,q3⟩=>?_) hm
 subst e;cases r3;exact Oo ⟨H3,I3,q3⟩
def FH(r r':R2)(ta tb tc:TE):TE:=λσ H Q=>ta σ H λx H1=>tb σ H1 λy H2=>r x y H2 λz H3=>∃ k,z=.bl k /\
 (if k=true then tc σ H3 λw' H4=>r' y w' H4 Q else Q (.bl false) H3)
theorem aL{op Kh:CmpOp}{r r':R2}(ho:WD X (compareOp op) r)(Vz:WD X (compareOp Kh) r')(ha:PE X a ta)(hb:PE X b tb)(hc:PE X c tc)
  (hm:lastMarks [op,Kh] [b,c]=false:=by with_unfolding_all rfl):PE X (.Compare a [op,Kh] [b,c] pos) (FH r r' ta tb tc):=by
 intro pins s σ H Q I h;refine Compare_chain (thn (ha pins s σ H _ I h) λv s1 ⟨x,H1,I1,r1,q1⟩=>chain_link (thn (hb pins s1 σ H1 _ I1 q1) λu s2 ⟨y,H2,I2,r2,q2⟩ =>
  thn (ho pins s2 σ H2 x y v u _ I2 r1 r2 q2) λd s3 ⟨z,H3,I3,r3,k,e,q3⟩=>?_)) hm
 subst e;cases r3;refine Oo ?_;cases k with
 | false=>exact ite_ff ⟨.bl false,H3,I3,rfl,q3⟩
 | true=>exact ite_tt (chain_last (thn (hc pins s3 σ H3 _ I3 q3) λw' s4 ⟨z',H4,I4,r4,q4⟩=>Vz pins s4 σ H4 y z' u w' Q I4 r2 r4 q4))
theorem iK{op Kh:CmpOp}{r r':R2}(ho:WD X (compareOp op) r)(Vz:WD X (compareOp Kh) r')(ha:PE X a ta)(hb:PE X b tb)(hc:PE X c tc)
  (hm:lastMarks [op,Kh] [b,c]=false:=by with_unfolding_all rfl):PT X (.Compare a [op,Kh] [b,c] pos) (FI (FH r r' ta tb tc)):=by
 intro pins s σ H Q I h;refine isTrue_chain (thn (ha pins s σ H _ I h) λv s1 ⟨x,H1,I1,r1,q1⟩=>test_link (thn (hb pins s1 σ H1 _ I1 q1) λu s2 ⟨y,H2,I2,r2,q2⟩ =>
  thn (ho pins s2 σ H2 x y v u _ I2 r1 r2 q2) λd s3 ⟨z,H3,I3,r3,k,e,q3⟩=>?_)) hm
 subst e;cases r3;refine Oo ?_;cases k with
 | false =>
  obtain⟨k',e',q'⟩:=q3;cases e';exact ite_ff ⟨H3,I3,q'⟩
 | true =>
  refine ite_tt (test_last (thn (hc pins s3 σ H3 _ I3 q3) λw' s4 ⟨z',H4,I4,r4,q4⟩=>thn (Vz pins s4 σ H4 y z' u w' _ I4 r2 r4 q4) λd' s5 Xv=>?_));obtain⟨z2,H5,I5,r5,k2,e2,q5⟩:=Xv;subst e2;cases r5;exact Oo ⟨H5,I5,q5⟩
theorem FG:(sizeLine:Nat)<2 ^ 63:=by rw[Uj];decide
theorem Sw{x:V}{us:Ag}(r:Vals [x] us):∃ u,us=[u]/\RelV x u:=by
 cases r with
 | cons r1 r2=>cases r2;exact⟨_,rfl,r1⟩
theorem Kg{x y:V}{us:Ag}(r:Vals [x,y] us):∃ u w',us=[u,w']/\RelV x u/\RelV y w':=by
 cases r with
 | cons r1 r2 =>
  cases r2 with
  | cons r3 r4=>cases r4;exact⟨_,_,rfl,r1,r3⟩
theorem iJ (hc:X.calm=true):Ur X (.builtin "max") (λxs H Q=>∃ i j,xs=[.int i,.int j]/\Q (.int (if j > i then j else i)) H):=by
 intro pins s σ H xs us Q I r h;obtain⟨i,j,rfl,q⟩:=h;obtain⟨u,w',rfl,⟨t,rfl⟩,⟨t',rfl⟩⟩:=Kg r;refine max_two_ints (I.ok.hd hc) λh' tk k=>⟨_,H,I.kept k,?_,q⟩;by_cases hj:j > i
 .rw[if_pos hj,if_pos hj];exact⟨_,rfl⟩
 .rw[if_neg hj,if_neg hj];exact⟨_,rfl⟩
theorem vp (hc:X.calm=true):Ur X (.builtin "min") (λxs H Q=>∃ i j,xs=[.int i,.int j]/\Q (.int (if j<i then j else i)) H):=by
 intro pins s σ H xs us Q I r h;obtain⟨i,j,rfl,q⟩:=h;obtain⟨u,w',rfl,⟨t,rfl⟩,⟨t',rfl⟩⟩:=Kg r;refine min_two_ints (I.ok.hd hc) λh' tk k=>⟨_,H,I.kept k,?_,q⟩;by_cases hj:j<i
 .rw[if_pos hj,if_pos hj];exact⟨_,rfl⟩
 .rw[if_neg hj,if_neg hj];exact⟨_,rfl⟩
end
structure ObjM (h:Heap) (x dx C:Addr) (mA:Af):Prop where
 obj:h.get? x=some (PySem.W.instObj C dx)
 ns:h.Ns1 dx mA
 ne:dx≠x
theorem aK{h:Heap}{dx:Addr}{mA:Af}(n:h.Ns1 dx mA):∃ od,h.get? dx=some od/\∀ name,PySem.W.lookIn name od=some (mA name):=by
 obtain⟨o,es,ep,ho,hd,hk,_,hm⟩:=n;refine⟨o,ho,λname=>?_⟩;have e:=hm name
 unfold nsFind findBy at e;rw[<- Array.find?_toList]at e;unfold PySem.W.lookIn;rw[hd];dsimp only;split
 .rename_i y q;rw[q]at e;exact Xw some e
 .rename_i q;rw[q]at e;have a:es.toList.any (·.refKey)=false:=by rw[List.any_eq_false];intro y hy;obtain⟨z,t,vo⟩:=hk y (Array.mem_toList_iff.mp hy);simp[DictEntry.refKey,vo]
  have a':¬ es.toList.any (·.refKey)=true:=by rw[a];exact Yw
  rw[if_neg a'];exact Xw some e
theorem ObjM.look{h:Heap}{x dx C:Addr}{mA:Af}(I:ObjM h x dx C mA):∃ od,PySem.W.InstAt h x (PySem.W.instObj C dx) C (some od)/\∀ name,PySem.W.lookIn name od=some (mA name) :=
 let ⟨od,ho,hl⟩:=aK I.ns
 ⟨od,⟨I.obj,rfl,rfl,ho⟩,hl⟩
section
variable{prog:Program}{w:World}{A:Around}{E:Ae}{s:Shared}{K:Ad}{x dx C f:Addr}{mA:Af}{name:Str}{v:Value}
theorem vn{expr:Bool}{Q:Ae}(X:K.In s.heap)(I:ObjM s.heap x dx C mA)(hg:PySem.W.plainGet K C name=true)(hh:PySem.W.hasDictIn K C=true)
  (ha:PySem.W.findIn K (.ref C) name=some none) (hv:mA name=some v) (NU:PySem.W.handedIn v=true) (h:Q v { s with toks:=s.toks+1 }) :
  wpAny (model prog w) A (getAttr (.ref x) name expr) Q E s:=by obtain⟨od,J,hl⟩:=I.look;exact PySem.W.get_value X J (PySem.W.plainGet_of hg).1 (PySem.W.findObj_own hh ha rfl (by rw[hl,hv])) NU h
theorem vm{ns:List Str}{Q:Unit->Shared->Prop}(X:K.In s.heap)(I:ObjM s.heap x dx C mA)
  (hs:PySem.W.findIn K (.ref C) "__setattr__"=some (some (.builtin "object.__setattr__"))) (hp:PySem.W.plainOver K C=true) (ht:PySem.W.takerIn K C name=some none) (hh:PySem.W.hasDictIn K C=true)
  (hw:PySem.Within mA ns) (hsz:ns.length<=sizeLine)
  (h:∀ h',ObjM h' x dx C (λy=>if y=name then some v else mA y)->Heap.SameBut dx s.heap h'->Q () { s with heap:=h',toks:=s.toks+2 }) :
  wpAny (model prog w) A (setAttr (.ref x) name v) Q E s:=by
 obtain⟨od,J,hl⟩:=I.look;refine PySem.W.set_plain X J hs (PySem.W.osa_open (s:={ s with toks:=s.toks+1 }) (r:=none) X J hp ht λb=>?_);obtain⟨cd,hc,HM⟩:=PySem.W.any_some hh;have hx:s.heap.get? x=some ⟨.ref C,some dx,.plain,#[]⟩:=I.obj
 refine XU (Yk (XU (XU (wpAny_loadPart hx (XU (PySem.W.Looks.here (s:={ s with toks:=s.toks+1 }) (PySem.W.looks_clsIn X hc) ?_))))));rw[HM];refine Yk (a:=some dx) (XU (Yk (XU ?_)));refine wpAny_nsSet1 (s:={ s with toks:=s.toks+1 }) I.ns λh' NT RQ=>?_;obtain⟨oD,esD,epD,zk,iI,vk⟩:=NT.count (PySem.Within.cons name v hw);refine XU (wpAny_lookBehind zk (by rw[iI];exact pastItsLine_dict (Yv vk (by rw[YA];omega))) ?_);exact Yk (h _ ⟨(RQ.2 _ (YZ I.ne)).trans I.obj,NT,I.ne⟩ RQ)
theorem FF{R:Result->Shared->Prop}{vs:Ag}{kw:List (Str × Value)}(X:K.In s.heap)(hm:PySem.W.makesIn K C=true)
  (hi:PySem.W.findIn K (.ref C) "__init__"=some (some (.ref f))) (hf:PySem.W.typeIn K (.ref f)=some (.type "function"))
  (h:codeAny (model prog w) (A.under (.builtin "type.__call__" ⟨.ref C :: vs,kw⟩)) (.call (.ref f) ⟨.ref (s.heap.objs.size+1) :: vs,kw⟩) (PySem.W.InitBack (s.heap.objs.size+1) R)
   { s with heap:=(s.heap.push PySem.W.emptyDict).push (PySem.W.instObj C s.heap.objs.size) }) :
  codeAny (model prog w) A (.call (.ref C) ⟨vs,kw⟩) R s:=by obtain⟨hh,g,d,t,os⟩:=s;exact PySem.W.make_core (PySem.W.makes_of X hm) (PySem.W.looks_findIn X hi) (λself=>PySem.W.bind_fn X self hf) (.inl rfl) h
end
def XO(f:Str)(v:V):List (Str × V)->List (Str × V)
 | []=>[(f,v)]
 | (g,x) :: r=>if g=f then (g,v) :: r else (g,x) :: XO f v r
theorem FE(f g:Str)(v:V):∀ fs:List (Str × V),(XO f v fs).lookup g=if g=f then some v else fs.lookup g
 | []=>by
  show List.lookup g [(f,v)]=_;by_cases h:g=f
  .have hb:(g == f)=true:=RY.mpr h;simp only [List.lookup,hb,if_pos h]
  .have hb:(g == f)=false:=GO.mpr h;simp only [List.lookup,hb,if_neg h]
 | (k,x) :: r=>by
  have ih:=FE f g v r;rw[show XO f v ((k,x) :: r)=(if k=f then (k,v) :: r else (k,x) :: XO f v r) from rfl];by_cases hk:k=f
  .rw[if_pos hk];by_cases h:g=k
   .have hb:(g == k)=true:=RY.mpr h;simp only [List.lookup,hb,if_pos (h.trans hk)]
   .have hb:(g == k)=false:=GO.mpr h;simp only [List.lookup,hb,if_neg (λe:g=f=>h (e.trans hk.symm))]
  .rw[if_neg hk];by_cases h:g=k
   .have hb:(g == k)=true:=RY.mpr h;simp only [List.lookup,hb,if_neg (λe:g=f=>hk (h.symm.trans e))]
   .have hb:(g == k)=false:=GO.mpr h;simp only [List.lookup,hb];exact ih
theorem vj(f:Str)(v:V):∀ fs:List (Str × V),f∈(XO f v fs).map (·.1)/\∀ g,g∈fs.map (·.1)->g∈(XO f v fs).map (·.1)
 | []=>⟨by simp[XO],λg h=>by simp at h⟩
 | (k,x) :: r=>by
  obtain⟨i1,i2⟩:=vj f v r;rw[show XO f v ((k,x) :: r)=(if k=f then (k,v) :: r else (k,x) :: XO f v r) from rfl];by_cases hk:k=f
  .rw[if_pos hk];subst hk;exact⟨by simp,λg h=>by simpa using h⟩
  .rw[if_neg hk];refine⟨?_,λg h=>?_⟩
   .rw[YV];exact Yi _ i1
   .rw[YV]at h ⊢;rcases Yj.mp h with e | e
    .exact Yj.mpr (.inl e)
    .exact Yi _ (i2 g e)
theorem FC(f:Str)(v:V):∀ fs:List (Str × V),(XO f v fs).length<=fs.length+1
 | []=>by simp[XO]
 | (k,x) :: r=>by
  have ih:=FC f v r;rw[show XO f v ((k,x) :: r)=(if k=f then (k,v) :: r else (k,x) :: XO f v r) from rfl];by_cases hk:k=f
  .rw[if_pos hk,YA,YA];omega
  .rw[if_neg hk,YA,YA];omega
theorem RelO.some_of{v:V}{o:Option Value}(r:RelO (some v) o):∃ u,o=some u/\RelV v u:=by
 cases o with
 | none=>exact(show False from r).elim
 | some u=>exact⟨u,rfl,r⟩
theorem aJ{v:V}{u:Value}(r:RelV v u):PySem.W.handedIn u=true:=by
 cases v with
 | non=>cases (show u=Value.none from r);rfl
 | bl b=>cases (show u=Value.bool b from r);rfl
 | int i=>obtain⟨t,e⟩:=(show ∃ t,u=Value.int i t from r);cases e;rfl
 | str x=>obtain⟨t,e⟩:=(show ∃ t,u=Value.str x t from r);cases e;rfl
 | byt b=>obtain⟨t,e⟩:=(show ∃ t,u=Value.bytes b t from r);cases e;rfl
 | flt b=>obtain⟨t,e⟩:=(show ∃ t,u=Value.float b t from r);cases e;rfl
 | ref a=>cases (show u=Value.ref a from r);rfl
 | ty n=>cases (show u=Value.type n from r);rfl
section
variable{P:Program}{w:World}{H:Hp}{h:Heap}{a C dx:Addr}{fs:List (Str × V)}
theorem Kf(hok:HOk P w H h)(e:H a=some (.ins C dx fs)):∃ mA,ObjM h a dx C mA/\(∀ f,RelO (fs.lookup f) (mA f))/\PySem.Within mA (fs.map (·.1))/\fs.length<=1000/\H dx=some (.own a):=by obtain⟨d,z,ne,ob,mA,n,r,q⟩:=(show ObjOk P w H h a (.ins C dx fs) from hok a _ e);exact⟨mA,⟨ob,n,ne⟩,r,q,z,d⟩
end
structure Cls (K:Ad) (C:Addr):Prop where
 pg:PySem.W.plainGet K C Str.empty=true
 hd:PySem.W.hasDictIn K C=true
 po:PySem.W.plainOver K C=true
 sa:PySem.W.findIn K (.ref C) "__setattr__"=some (some (.builtin "object.__setattr__"))
theorem Cls.get{K:Ad}{C:Addr}(c:Cls K C)(f:Str):PySem.W.plainGet K C f=true:=c.pg
def NoAttr(K:Ad)(C:Addr)(f:Str):Prop:=PySem.W.findIn K (.ref C) f=some none
theorem NoAttr.taker{K:Ad}{C:Addr}{f:Str}(n:NoAttr K C f):PySem.W.takerIn K C f=some none:=by unfold PySem.W.takerIn;rw[show PySem.W.findIn K (.ref C) f=some none from n];rfl
structure Con (K:Ad) (C:Addr) (f:Str) (v:V) (u:Value):Prop where
 at_:PySem.W.findIn K (.ref C) f=some (some u)
 rel:RelV v u
 get:PySem.W.specialIn K u "__get__"=some none
 cp:PySem.W.copiedNames.contains f=false
structure Meth (K:Ad) (C:Addr) (m:Str) (f:Addr):Prop where
 at_:PySem.W.findIn K (.ref C) m=some (some (.ref f))
 fn:PySem.W.isFn K (.ref f)=true
 kp:PySem.W.keepIn K (.ref f)=true
section
variable{X:Cx}{pins:List (Addr × Obj)}{σ:St}{H:Hp}{s:Shared}{a C dx:Addr}{fs:List (Str × V)}{f:Str}{v:V}{A:Around}{E:Ae}
theorem aI{b:Bool}{Q:Ae}(I:Inv X pins σ H s)(e:H a=some (.ins C dx fs))(c:Cls X.K C)(n:NoAttr X.K C f)(l:fs.lookup f=some v)
  (h:∀ u s',Inv X pins σ H s'->RelV v u->Q u s'):wpAny (model X.prog X.w) A (getAttr (.ref a) f b) Q E s:=by obtain⟨mA,O,r,_,_,_⟩:=Kf I.hok e;obtain⟨u,hu,ru⟩:=RelO.some_of (v:=v) (o:=mA f) (by rw[<- l];exact r f);exact vn I.kIn O (c.get f) c.hd n hu (aJ ru) (h u _ (I.tok _) ru)
theorem aH{y:V}{u:Value}{Q:Unit->Shared->Prop}(I:Inv X pins σ H s)(e:H a=some (.ins C dx fs))(c:Cls X.K C)(n:NoAttr X.K C f)(hl:fs.length<1000)(ry:RelV y u)
  (h:∀ s',Inv X pins σ (upd H a (.ins C dx (XO f y fs))) s'->Q () s'):wpAny (model X.prog X.w) A (setAttr (.ref a) f u) Q E s:=by
 obtain⟨mA,O,r,wi,_,ho⟩:=Kf I.hok e;have hz:(fs.map (·.1)).length<=sizeLine:=by rw[Yd,Uj];omega
 refine vm I.kIn O c.sa c.po n.taker c.hd wi hz λh' O' sb=>h _ ?_;have hd:∃ o,h'.get? dx=some o:=let ⟨o,_,_,e',_⟩:=O'.ns;⟨o,e'⟩
 refine I.write (x:=a) (e:=dx) (by rw[e];exact True.intro) (.inr ho) (λb q hb z=>(sb.2 b hb).trans z) hd ?_;refine⟨by rw[Zb O.ne];exact ho,?_,O.ne,O'.obj,_,O'.ns,λg=>?_,λg hg=>?_⟩
 .have:=FC f y fs;omega
 .show RelO ((XO f y fs).lookup g) (if g=f then some u else mA g);rw[FE];by_cases q:g=f
  .rw[if_pos q,if_pos q];exact ry
  .rw[if_neg q,if_neg q];exact r g
 .by_cases q:g=f
  .rw[q];exact(vj f y fs).1
  .refine(vj f y fs).2 g (wi g λz=>hg ?_);show(if g=f then some u else mA g)=none
   rw[if_neg q];exact z
theorem Inv.made(I:Inv X pins σ H s):Inv X pins σ (upd (upd H s.heap.objs.size (.own (s.heap.objs.size+1))) (s.heap.objs.size+1) (.ins C s.heap.objs.size []))
  { s with heap:=(s.heap.push PySem.W.emptyDict).push (PySem.W.instObj C s.heap.objs.size) }:=by
 have e1:(s.heap.push PySem.W.emptyDict).get? s.heap.objs.size=some PySem.W.emptyDict:=Ym s.heap rfl;have e2:((s.heap.push PySem.W.emptyDict).push (PySem.W.instObj C s.heap.objs.size)).get? (s.heap.objs.size+1)=some (PySem.W.instObj C s.heap.objs.size):=by
  have:=Ym (s.heap.push PySem.W.emptyDict) (o:=PySem.W.instObj C s.heap.objs.size) rfl
  rwa [Oj]at this
 have e3:(s.heap.push PySem.W.emptyDict).Ns s.heap.objs.size (λ_=>none):=⟨PySem.W.emptyDict,#[],_,e1,rfl,(λe he=>absurd he (by simp)),λ_=>rfl⟩;have I1:=I.laid (a:=s.heap.objs.size) (o:=.own (s.heap.objs.size+1)) (h':=s.heap.push PySem.W.emptyDict) (t':=s.toks) (λb u q=>WZ _ q) (XN _) ⟨_,e1⟩
 refine I1.laid (a:=s.heap.objs.size+1) (o:=.ins C s.heap.objs.size []) (t':=s.toks) (λb u q=>WZ _ q) (Nat.le_of_eq (Oj _ _)) ?_;have ne:s.heap.objs.size≠s.heap.objs.size+1:=Yx (OW _)
 refine⟨by rw[Zb ne,XR],Yl _,ne,e2,λ_=>none,(Heap.Ns1.of_empty e3).at λo q=>WZ _ q,λ_=>True.intro,λy hy=>absurd rfl hy⟩
theorem vi{prog:Program}{w:World}{env:Env}{e:Expr}{f:Str}{pos:Pos}{s:Shared}{Q:Ae}(hb:attributeBase e f env (eval e env)=eval e env)
  (h:wpAny (model prog w) A (eval e env) (λo s₁=>wpAny (model prog w) A (getAttr o f true) Q E s₁) E s):wpAny (model prog w) A (eval (.Attribute e f pos) env) Q E s :=
 Attribute_any_ h (by rw[arm_eval_Attribute,hb])
end
def FA(K:Ad)(ta:TE)(f:Str):TE:=λσ H Q=>ta σ H λx H1=>∃ a C dx fs v,x=.ref a/\H1 a=some (.ins C dx fs)/\Cls K C/\NoAttr K C f/\fs.lookup f=some v/\Q v H1
def vh(K:Ad)(ta tv:TE)(f:Str):TS:=λD σ H=>tv σ H λy H1=>ta σ H1 λx H2=>∃ a C dx fs,x=.ref a/\H2 a=some (.ins C dx fs)/\Cls K C/\NoAttr K C f/\fs.length<1000 /\
 D.nx σ (upd H2 a (.ins C dx (XO f y fs)))
section
variable{X:Cx}{o e value:Expr}{f:Str}{pos pos':Pos}{ta tv:TE}
theorem Fz(he:PE X e ta)(hb:attributeBase e f X.env (eval e X.env)=eval e X.env):PE X (.Attribute e f pos) (FA X.K ta f):=by intro pins s σ H Q I h;refine vi hb (thn (he pins s σ H _ I h) λu s1 Xv=>?_);obtain⟨x,H1,I1,rx,a,C,dx,fs,v,ex,ea,c,n,l,q⟩:=Xv;subst ex;obtain rfl:u=Value.ref a:=rx;exact aI I1 ea c n l λu' s2 I2 ru=>⟨v,H1,I2,ru,q⟩
theorem NS(ha:PE X o ta)(hv:PE X value tv)(hs:swapsWith value (some (.Attribute o f pos')) pos.line X.env=pure false):PS X (.Assign [.Attribute o f pos'] value pos) (vh X.K ta tv f):=by intro pins s σ H D I h;refine plainObj_wpAny_Assign_Attribute (thn (hv pins s σ H _ I h) λu s1 ⟨y,H1,I1,ry,q⟩=>thn (ha pins s1 σ H1 _ I1 q) λov s2 Xv=>?_) hs;obtain⟨x,H2,I2,rx,a,C,dx,fs,ex,ea,c,n,l,q2⟩:=Xv;subst ex;obtain rfl:ov=Value.ref a:=rx;exact aH I2 ea c n l ry λs3 I3=>⟨σ,_,I3,q2⟩
end
section
variable{X:Cx}{pins:List (Addr × Obj)}{σ:St}{H:Hp}{s:Shared}{A:Around}{E:Ae}{Q:Ae}{c:Value}{b:Bool}
inductive TyOf (K:Ad) (H:Hp):V->Value->Prop where
 | non:TyOf K H .non (.type "NoneType")
 | bl (x:Bool):TyOf K H (.bl x) (.type "bool")
 | int (i:Int):TyOf K H (.int i) (.type "int")
 | str (x:Str):TyOf K H (.str x) (.type "str")
 | flt (x:UInt64):TyOf K H (.flt x) (.type "float")
 | lst {a:Addr} {xs:List V} (e:H a=some (.lst xs)):TyOf K H (.ref a) (.type "list")
 | frz {a:Addr} {o:Obj} {xs:List V} (e:H a=some (.frz o (.lst xs))):TyOf K H (.ref a) (.type "list")
 | tup {a:Addr} {xs:List V} (e:H a=some (.tup xs)):TyOf K H (.ref a) (.type "tuple")
 | dK {a:Addr} {kvs:List (Key × V)} (e:H a=some (.dK kvs)):TyOf K H (.ref a) (.type "dict")
 | dT {a:Addr} {kvs:List (List Key × V)} (e:H a=some (.dT kvs)):TyOf K H (.ref a) (.type "dict")
 | ins {a C dx:Addr} {fs:List (Str × V)} (e:H a=some (.ins C dx fs)) (cl:Cls K C) (ha:PySem.W.findIn K (.ref C) "__class__"=some (some (.builtin "object.__class__")))
   (hn:PySem.W.specialIn K (.builtin "object.__class__") "__get__"=some (some (.builtin "getset_descriptor.__get__"))) (vg:PySem.W.takesIn K (.builtin "object.__class__")=some true)
   (hm:PySem.W.mroIn K C (.type "object")=some true):TyOf K H (.ref a) (.ref C)
theorem aG{x:V}{u t:Value}(I:Inv X pins σ H s)(rx:RelV x u)(ty:TyOf X.K H x t)(e:PySem.W.kitOne X.K t c=some b)(h:∀ tk,Q (.bool b) { s with toks:=tk }) :
  wpAny (model X.prog X.w) A (call (.builtin "isinstance") [u,c]) Q E s:=by
 cases ty with
 | non=>cases (show u=Value.none from rx);exact QD PySem.W.kitx_none I.kIn True.intro e (λz=>nomatch z) h
 | bl y=>cases (show u=Value.bool y from rx);exact QD PySem.W.kitx_bool I.kIn True.intro e (λz=>nomatch z) h
 | int i=>obtain⟨t,q⟩:=(show ∃ t,u=Value.int i t from rx);cases q;exact QD PySem.W.kitx_int I.kIn True.intro e (λz=>nomatch z) h
 | str y=>obtain⟨t,q⟩:=(show ∃ t,u=Value.str y t from rx);cases q;exact QD PySem.W.kitx_str I.kIn True.intro e (λz=>nomatch z) h
 | flt y=>obtain⟨t,q⟩:=(show ∃ t,u=Value.float y t from rx);cases q;exact QD PySem.W.kitx_float I.kIn True.intro e (λz=>nomatch z) h
 | @lst a xs ea =>
  cases (show u=Value.ref a from rx);obtain⟨_,_,n,_,h1⟩:=(show ObjOk X.prog X.w H s.heap a (.lst xs) from I.hok a _ ea);exact QD PySem.W.kitx_list I.kIn ⟨_,h1,rfl⟩ e (λz=>nomatch z) h
 | @frz a ob xs ea =>
  cases (show u=Value.ref a from rx);obtain⟨_,_,_,n,_,h1⟩:=(show ObjOk X.prog X.w H s.heap a (.frz ob (.lst xs)) from I.hok a _ ea);exact QD PySem.W.kitx_list I.kIn ⟨_,h1,rfl⟩ e (λz=>nomatch z) h
 | @tup a xs ea =>
  cases (show u=Value.ref a from rx);obtain⟨_,_,_,p⟩:=(show ObjOk X.prog X.w H s.heap a (.tup xs) from I.hok a _ ea);obtain⟨o,h1,h2,_⟩:=p;exact QD PySem.W.kitx_tuple I.kIn ⟨o,h1,h2⟩ e (λz=>nomatch z) h
 | @dK a kvs ea =>
  cases (show u=Value.ref a from rx);obtain⟨_,_,vs,_,p⟩:=(show ObjOk X.prog X.w H s.heap a (.dK kvs) from I.hok a _ ea);obtain⟨o,es,ep,h1,h2,_⟩:=p;exact QD PySem.W.kitx_dict I.kIn ⟨o,h1,h2.1⟩ e (λz=>nomatch z) h
 | @dT a kvs ea =>
  cases (show u=Value.ref a from rx);obtain⟨_,_,xs,_,o,es,ep,h1,h2,_⟩:=(show ObjOk X.prog X.w H s.heap a (.dT kvs) from I.hok a _ ea);exact QD PySem.W.kitx_dict I.kIn ⟨o,h1,h2.1⟩ e (λz=>nomatch z) h
 | @ins a C dx fs ea cl ha hn vg hm =>
  cases (show u=Value.ref a from rx);obtain⟨mA,O,_⟩:=Kf I.hok ea;obtain⟨od,J,_⟩:=O.look;exact QD (PySem.W.kitx_own (cl.get _) cl.hd ha hn vg hm) I.kIn J e (λz=>nomatch z) h
end
structure Room (k:Nat) (A:Around):Prop where
 hd:A.handled=none
 dp:A.depth+3 * k+5<recursionLimit
 un:A.units+16 * k+200<cLine
theorem Room.mono{j k:Nat}{A:Around}(r:Room k A)(h:j<=k):Room j A:=⟨r.hd,by have:=r.dp;omega,by have:=r.un;omega⟩
theorem Room.deeper{k:Nat}{A:Around}(r:Room (k+1) A)(env:Env):Room k (A.deeper env) :=
 ⟨r.hd,by have:=r.dp;show A.depth+1+3 * k+5<_;omega,by have:=r.un;show A.units+3+16 * k+200<_;omega⟩
theorem Room.in1{k:Nat}{A:Around}(r:Room (k+1) A):Room k A.in1 :=
 ⟨r.hd,by have:=r.dp;show A.depth+3 * k+5<_;omega,by have:=r.un;show A.units+1+16 * k+200<_;omega⟩
theorem aE {A:Around} {C:Addr} {us:Ag} {kw:List (Str × Value)}:(A.under (.builtin "type.__call__" ⟨.ref C :: us,kw⟩)).depth=A.depth+1:=by
 first | rfl | simp[Around.under,Code.weight,Code.isCreation,Code.isGuard,Code.isCaller,Code.frames,Code.isFrame,guardIds]
theorem az {A:Around} {C:Addr} {us:Ag} {kw:List (Str × Value)}:(A.under (.builtin "type.__call__" ⟨.ref C :: us,kw⟩)).units=A.units+1:=by
 first | rfl | simp[Around.under,Code.cUnits,Code.frames,Code.isFrame]
theorem Room.make {k:Nat} {A:Around} (r:Room (k+1) A) (C:Addr) (us:Ag) (kw:List (Str × Value)):Room k (A.under (.builtin "type.__call__" ⟨.ref C :: us,kw⟩)) :=
 ⟨r.hd,by have:=r.dp;rw[aE];omega,by have:=r.un;rw[az];omega⟩
theorem Room.depth{k:Nat}{A:Around}(r:Room k A):A.depth<recursionLimit:=by have:=r.dp;omega
theorem Room.units{k:Nat}{A:Around}(r:Room k A):A.units+64<cLine:=by have:=r.un;omega
def Ke:TA:=λ_ H Q=>Q [] H
def Kd(ta:TE)(tr:TA):TA:=λσ H Q=>ta σ H λx H1=>tr σ H1 λxs H2=>Q (x :: xs) H2
section
variable{X:Cx}{e:Expr}{es:List Expr}{te:TE}{t:TA}{pos:Pos}
theorem XY:PA X [] Ke:=λ_ _ _ _ H Q I h=>zS ⟨[],H,I,.nil,h⟩
theorem XZ(ha:PE X e te)(hr:PA X es t)(hs:starEach (e :: es) X.env=(false,eval e X.env) :: starEach es X.env:=by rfl):PA X (e :: es) (Kd te t):=by
 intro pos pins s σ H Q I h;rw[hs];show wpAny _ _ (spliced ((false,eval e X.env) :: backTo pos (starEach es X.env))) _ _ s
 refine GC (thn (ha pins s σ H _ I h) λu s1 Xv=>?_);obtain⟨x,H1,I1,r1,q1⟩:=Xv;exact thn (hr pos pins s1 σ H1 _ I1 q1) λus s2 ⟨xs,H2,I2,r2,q2⟩=>⟨x :: xs,H2,I2,.cons r1 r2,q2⟩
def vf(t:TA):TE:=λσ H Q=>t σ H λxs H1=>xs.length<=sizeLine/\∀ p,H1 p=none->Q (.ref p) (upd H1 p (.tup xs))
def ve(t:TA):TE:=λσ H Q=>t σ H λxs H1=>xs.length<=sizeLine/\∀ p,H1 p=none->Q (.ref p) (upd H1 p (.lst xs))
theorem Uq{x1}(h:PA X es t):PE X (.Tuple es x1 pos) (vf t):=by
 intro pins s σ H Q I hq;refine wpAny_Tuple_spliced (thn (h pos pins s σ H _ I hq) λus s1 ⟨xs,H1,I1,r,z,q⟩=>⟨by rw[<- r.length];exact z,?_⟩);have hf:H1 s1.heap.objs.size=none:=I1.hok.fresh (XN _)
 refine⟨.ref s1.heap.objs.size,upd H1 s1.heap.objs.size (.tup xs),I1.laid (t':=s1.toks) (λb u e=>WZ _ e) (XN _) ?_,rfl,q _ hf⟩;exact⟨z,us,r,⟨_,Ym _ rfl,rfl,_,rfl⟩⟩
theorem Sv(h:PA X es t):PE X (.List es pos) (ve t):=by
 intro pins s σ H Q I hq;refine wpAny_List_spliced (thn (h pos pins s σ H _ I hq) λus s1 ⟨xs,H1,I1,r,z,q⟩=>⟨by rw[<- r.length];exact z,?_⟩);have hf:H1 s1.heap.objs.size=none:=I1.hok.fresh (XN _)
 refine⟨.ref s1.heap.objs.size,upd H1 s1.heap.objs.size (.lst xs),I1.laid (t':=s1.toks) (λb u e=>WZ _ e) (XN _) ?_,rfl,q _ hf⟩;exact⟨z,us,0,r,Ym _ rfl⟩
end
abbrev Sp:=List V->Hp->VK->XK->Prop
abbrev OP:=List Env->Hp->Shared->XK->Ae
structure Env0 (P:Program) (w:World) (K:Ad) (mg:Af) (base:Heap) (A:Around) (outer:List Env) (s:Shared) (H:Hp):Prop where
 frames:A.frames=some outer
 mod:Mod K mg base
 bs:∀ b o,base.get? b=some o->s.heap.get? b=some o/\H b=none
 bsz:base.objs.size<=s.heap.objs.size
 funs:s.heap.FunFrames base outer
 frf:∀ b∈UJ outer,H b=none
 hok:HOk P w H s.heap
 bare:AllBare s.gens
def CE(outer:List Env)(P:Program)(w:World)(H:Hp)(s:Shared)(Q:VK)(u:Value)(s':Shared):Prop :=
 ∃ v H',s'.os=s.os/\AllBare s'.gens/\Un (UJ outer) [] H H' s.heap s'.heap/\HOk P w H' s'.heap/\RelV v u/\Q v H'
def CR(CX:OP)(outer:List Env)(P:Program)(w:World)(H:Hp)(s:Shared)(Q:VK)(E:XK)(r:Result)(s':Shared):Prop :=
 match r with
 | .ok (.ret u)=>CE outer P w H s Q u s'
 | .ok _=>False
 | .error e=>CX outer H s E e s'
structure FnOk (P:Program) (w:World) (K:Ad) (mg:Af) (base:Heap) (CX:OP) (k:Nat) (f:Addr) (fd:FuncData) (ps:List Str) (sp:Sp):Prop where
 len:∀ vs H Q E,sp vs H Q E->vs.length=ps.length
 run:∀(A:Around) (outer:List Env) (s:Shared) (H:Hp) (args:Args) (us:Ag) (vs:List V) (Q:VK) (E:XK),Room k A->Env0 P w K mg base A outer s H->BindsTo s fd args (ps.zip us)->Vals vs us->sp vs H Q E ->
  codeAny (model P w) A (.call (.ref f) args) (CR CX outer P w H s Q E) s
theorem Env0.make{P:Program}{w:World}{K:Ad}{mg:Af}{base:Heap}{A:Around}{outer:List Env}{s:Shared}{H:Hp}(e:Env0 P w K mg base A outer s H)(C:Addr)(us:Ag)(kw:List (Str × Value)) :
  Env0 P w K mg base (A.under (.builtin "type.__call__" ⟨.ref C :: us,kw⟩)) outer s H:=⟨by first | exact e.frames | (simpa [Around.under,Code.envs,Code.isFrame,pushEnvs] using e.frames),e.mod,e.bs,e.bsz,e.funs,e.frf,e.hok,e.bare⟩
theorem Env0.in1{P:Program}{w:World}{K:Ad}{mg:Af}{base:Heap}{A:Around}{outer:List Env}{s:Shared}{H:Hp}(e:Env0 P w K mg base A outer s H) :
  Env0 P w K mg base A.in1 outer s H:=⟨e.frames,e.mod,e.bs,e.bsz,e.funs,e.frf,e.hok,e.bare⟩
section
variable{X:Cx}{pins:List (Addr × Obj)}{σ:St}{H:Hp}{s s':Shared}
theorem Inv.env0(I:Inv X pins σ H s):Env0 X.prog X.w X.K X.mg X.base X.A X.stack s H :=
 ⟨I.ok.frames,I.ok.mod,I.bs,Yv I.ok.bsz I.sz,I.stack,I.stkFree,I.hok,I.bare⟩
theorem Inv.after{Q:VK}{u:Value}(I:Inv X pins σ H s)(h:CE X.stack X.prog X.w H s Q u s'):EP X pins σ Q u s':=by obtain⟨v,H',os,bare,un,hok,r,q⟩:=h;obtain⟨hh,g,d,t,HJ⟩:=s';obtain rfl:HJ=s.os:=os;exact⟨v,H',I.call (h':=hh) (g':=g) (d':=d) (t':=t) (ch:=[]) un hok bare (λb z=>absurd z (by simp)),r,q⟩
end
def vd(sp:Sp)(Tc:List V)(E:XK)(t:TA):TE:=λσ H Q=>t σ H λvs H1=>sp (vs++Tc) H1 Q E
def vc(C:Addr)(sp:Sp)(Tc:List V)(E:XK)(t:TA):TE:=λσ H Q=>t σ H λvs H1=>∀ x dx,H1 x=none->H1 dx=none->dx≠x ->
 sp (.ref x :: (vs++Tc)) (upd (upd H1 dx (.own x)) x (.ins C dx [])) (λv H2=>v=.non/\Q (.ref x) H2) E
def Binds(K:Ad)(fd:FuncData)(ps:List Str)(ds:Ag):Prop :=
 ∀(s:Shared) (us:Ag),K.In s.heap->(us++ds).length=ps.length->BindsTo s fd ⟨us,[]⟩ (ps.zip (us++ds))
theorem Binds.all{K:Ad}{fd:FuncData}{ps:List Str}(h:∀ us:Ag,us.length=ps.length->bindArgs fd ⟨us,[]⟩=pure (ps.zip us)):Binds K fd ps []:=λs us _ hl=>by rw[YF]at hl ⊢;exact .of_eq (h us hl)
def Fy(CX:OP)(X:Cx)(E:XK):Prop:=∀(pins:List (Addr × Obj)) (σ:St) (H:Hp) (s:Shared) (e:Value) (s':Shared),Inv X pins σ H s->CX X.stack H s E e s'->X.xe e s'
section
variable{X:Cx}{CX:OP}{k:Nat}{f C:Addr}{fd:FuncData}{ps:List Str}{sp:Sp}{Tc:List V}{ds:Ag}{E:XK}{x:Str}{p pos:Pos}{e:Expr}{es:List Expr}{t:TA}
theorem va{pins:List (Addr × Obj)}{σ:St}{H:Hp}{s:Shared}{Q:VK}{us:Ag}{vs:List V}(F:FnOk X.prog X.w X.K X.mg X.base CX k f fd ps sp)(hr:Room k X.A)(hb:Binds X.K fd ps ds)(hd:Vals Tc ds)(hx:Fy CX X E)
  (I:Inv X pins σ H s) (r:Vals vs us) (h:sp (vs++Tc) H Q E):wpAny (model X.prog X.w) X.A (call (.ref f) us) (EP X pins σ Q) X.xe s:=by
 have r2:Vals (vs++Tc) (us++ds):=r.append hd;have hl:(us++ds).length=ps.length:=by rw[<- r2.length];exact F.len _ _ _ _ h
 refine Gm (Mc (F.run X.A X.stack s H ⟨us,[]⟩ (us++ds) (vs++Tc) Q E hr I.env0 (hb s us I.kIn hl) r2 h) λr s' hq=>?_);cases r with
 | error e=>exact hx pins σ H s e s' I hq
 | ok fl =>
  cases fl with
  | ret u=>exact I.after hq
  | next=>exact False.elim hq
  | brk=>exact False.elim hq
  | cont=>exact False.elim hq
theorem XF(F:FnOk X.prog X.w X.K X.mg X.base CX k f fd ps sp)(hr:Room k X.A)(hg:Gl X x)(hm:X.mg x=some (.ref f))(hk:PySem.W.keepIn X.K (.ref f)=true)(hb:Binds X.K fd ps ds)(hd:Vals Tc ds)(hx:Fy CX X E)
  (ha:PA X (e :: es) t) (RP:(x == ("__debug__":Str))=false:=by decide) (he:starEach (e :: es) X.env=(false,eval e X.env) :: starEach es X.env:=by rfl) (UX:(backTo pos (starEach es X.env)).any (·.1)=false:=by rfl) :
  PE X (.Call (.Name x p) (e :: es) [] pos) (vd sp Tc E t):=by intro pins s σ H Q I h;refine OZ (wb I hg hm ?_ RP);refine PySem.W.callWith_K (h₀:=X.base) I.ok.mod.kin hk (thn (ha pos pins s σ H _ I h) λus s1 ⟨vs,H1,I1,r,q⟩=>⟨I1.kIn,?_⟩) he UX;exact va F hr hb hd hx I1 r q
structure Mk (K:Ad) (C f:Addr):Prop where
 makes:PySem.W.makesIn K C=true
 init:PySem.W.findIn K (.ref C) "__init__"=some (some (.ref f))
 fn:PySem.W.isFn K (.ref f)=true
 kp:PySem.W.keepIn K (.ref C)=true
theorem ay{pins:List (Addr × Obj)}{σ:St}{H:Hp}{s:Shared}{Q:VK}{us:Ag}{vs:List V}(M:Mk X.K C f)(F:FnOk X.prog X.w X.K X.mg X.base CX k f fd ps sp)(hr:Room (k+1) X.A)(hb:Binds X.K fd ps ds)(hd:Vals Tc ds)
  (hx:Fy CX X E) (I:Inv X pins σ H s) (r:Vals vs us)
  (h:∀ x dx,H x=none->H dx=none->dx≠x->sp (.ref x :: (vs++Tc)) (upd (upd H dx (.own x)) x (.ins C dx [])) (λv H2=>v=.non/\Q (.ref x) H2) E) :
  wpAny (model X.prog X.w) X.A (call (.ref C) us) (EP X pins σ Q) X.xe s:=by
 have hq:=h (s.heap.objs.size+1) s.heap.objs.size (I.hok.fresh (Us _)) (I.hok.fresh (XN _)) (Yx (OW _));have I2:=Inv.made (C:=C) I
 have r2:Vals (V.ref (s.heap.objs.size+1) :: (vs++Tc)) (Value.ref (s.heap.objs.size+1) :: (us++ds)):=.cons rfl (r.append hd);have hl:(Value.ref (s.heap.objs.size+1) :: us++ds).length=ps.length:=by have e:=r2.length;rw[F.len _ _ _ _ hq]at e;exact e.symm
 refine Gm (FF (f:=f) I.kIn M.makes M.init (RY.mp M.fn) (Mc (F.run _ X.stack _ _ ⟨Value.ref (s.heap.objs.size+1) :: us,[]⟩ (Value.ref (s.heap.objs.size+1) :: (us++ds)) _ _ E (hr.make C us [])
  (I2.env0.make C us []) (hb _ (Value.ref (s.heap.objs.size+1) :: us) I2.kIn hl) r2 hq) λr s' Fx=>?_))
 cases r with
 | error e=>exact hx pins σ _ _ e s' I2 Fx
 | ok fl =>
  cases fl with
  | ret u =>
   obtain⟨v,H',I3,rv,ev,q3⟩:=I2.after Fx;subst ev;exact⟨rv,⟨V.ref (s.heap.objs.size+1),H',I3,rfl,q3⟩⟩
  | next=>exact False.elim Fx
  | brk=>exact False.elim Fx
  | cont=>exact False.elim Fx
theorem Fw(M:Mk X.K C f)(F:FnOk X.prog X.w X.K X.mg X.base CX k f fd ps sp)(hr:Room (k+1) X.A)(hg:Gl X x)(hm:X.mg x=some (.ref C))(hb:Binds X.K fd ps ds)(hd:Vals Tc ds)(hx:Fy CX X E)
  (ha:PA X (e :: es) t) (RP:(x == ("__debug__":Str))=false:=by decide) (he:starEach (e :: es) X.env=(false,eval e X.env) :: starEach es X.env:=by rfl) (UX:(backTo pos (starEach es X.env)).any (·.1)=false:=by rfl) :
  PE X (.Call (.Name x p) (e :: es) [] pos) (vc C sp Tc E t):=by intro pins s σ H Q I h;refine OZ (wb I hg hm ?_ RP);refine PySem.W.callWith_K (h₀:=X.base) I.ok.mod.kin M.kp (thn (ha pos pins s σ H _ I h) λus s1 ⟨vs,H1,I1,r,q⟩=>⟨I1.kIn,?_⟩) he UX;exact ay M F hr hb hd hx I1 r q
end
section
variable{fd:FuncData}{ps ks:List Str}
structure KBinds (K:Ad) (fd:FuncData) (ps ks:List Str) (g:List Value->List Value->Ag) (gV:List V->List V->List V):Prop where
 to:∀(s:Shared) (us ws:Ag),K.In s.heap->(g us ws).length=ps.length->BindsTo s fd ⟨us,ks.zip ws⟩ (ps.zip (g us ws))
 rel:∀ {vs:List V} {us:Ag} {zs:List V} {ws:Ag},Vals vs us->Vals zs ws->Vals (gV vs zs) (g us ws)
end
structure FnScope (N P:List Str) (sc:Scope):Prop where
 kind:sc.kind=.function
 co:sc.isCoroutine=false
 gen:sc.isGenerator=false
 nd:N.Nodup
 pre:N.take P.length=P
 par:∀ x∈P,sc.names.lookup x=some .local\/sc.names.lookup x=some .cell
 nofree:∀ y∈sc.names,y.2≠.free
theorem iH{kindOf:Str->Option NameKind}{x:Str}:∀ {binds:List (Str × Value)} {m:Af},(∀ v,(x,v)∉binds)->bindL kindOf binds m x=m x
 | [],_,_=>rfl
 | (n,v) :: r,m,h=>by
  unfold bindL;rw[iH λw hw=>h w (Yi _ hw)];split
  .have:x≠n:=by rintro rfl;exact h v Ye
   simp[this]
  .rfl
theorem iG{kindOf:Str->Option NameKind}{x:Str}:∀ {binds:List (Str × Value)} {m:Af},(∀ v,(x,v)∉binds)->bindC kindOf binds m x=m x
 | [],_,_=>rfl
 | (n,v) :: r,m,h=>by
  unfold bindC;rw[iG λw hw=>h w (Yi _ hw)];split
  .rfl
  .have:x≠n:=by rintro rfl;exact h v Ye
   simp[this]
theorem iF{kindOf:Str->Option NameKind}{x:Str}{v:Value}:∀ {P:List Str} {vs:Ag} {i:Nat} {m:Af},P.Nodup->P[i]?=some x->vs[i]?=some v->kindOf x=some .local ->
  bindL kindOf (P.zip vs) m x=some v
 | [],_,_,_,_,h,_,_=>by simp at h
 | _ :: _,[],_,_,_,_,h,_=>by simp at h
 | p :: P,w :: vs,0,m,nd,h1,h2,hk=>by
  simp at h1 h2;subst h1;subst h2;show bindL kindOf ((p,w) :: P.zip vs) m p=_
  unfold bindL;rw[iH λv hv=>(QZ.mp nd).1 (KD hv).1,if_pos hk];simp
 | p :: P,w :: vs,i+1,m,nd,h1,h2,hk=>by show bindL kindOf ((p,w) :: P.zip vs) m x=_;unfold bindL;exact iF (i:=i) (QZ.mp nd).2 (by simpa using h1) (by simpa using h2) hk
theorem iE{kindOf:Str->Option NameKind}{x:Str}{v:Value}:∀ {P:List Str} {vs:Ag} {i:Nat} {m:Af},P.Nodup->P[i]?=some x->vs[i]?=some v->kindOf x≠some .local ->
  bindC kindOf (P.zip vs) m x=some v
 | [],_,_,_,_,h,_,_=>by simp at h
 | _ :: _,[],_,_,_,_,h,_=>by simp at h
 | p :: P,w :: vs,0,m,nd,h1,h2,hk=>by
  simp at h1 h2;subst h1;subst h2;show bindC kindOf ((p,w) :: P.zip vs) m p=_
  unfold bindC;rw[iG λv hv=>(QZ.mp nd).1 (KD hv).1,if_neg hk];simp
 | p :: P,w :: vs,i+1,m,nd,h1,h2,hk=>by show bindC kindOf ((p,w) :: P.zip vs) m x=_;unfold bindC;exact iE (i:=i) (QZ.mp nd).2 (by simpa using h1) (by simpa using h2) hk
def start(N:List Str)(vs:List V):St:=vs.map some++List.replicate (N.length - vs.length) none
def Tb(CX:OP)(P:Program)(w:World)(K:Ad)(mg:Af)(base:Heap)(N:List Str)(qual:Str)(scope:Scope)(f:Addr)(cd:Value)(A:Around)(outer:List Env)(s:Shared)(H:Hp)(E:XK):Cx where
 prog:=P
 w:=w
 K:=K
 mg:=mg
 base:=base
 A:=A.deeper (envOfC qual scope s.heap.objs.size f cd)
 N:=N
 s₀:=s
 H₀:=H
 env:=envOfC qual scope s.heap.objs.size f cd
 outer:=outer
 stack:=envOfC qual scope s.heap.objs.size f cd :: outer
 ex:=[]
 calm:=true
 fn:=λ_=>true
 pn:=[]
 xe:=λe s'=>wpAny (model P w) (A.deeper (envOfC qual scope s.heap.objs.size f cd)) (leaving (envOfC qual scope s.heap.objs.size f cd) e) (λ_ Tx=>CX outer H s E e Tx) (λe' Tx=>CX outer H s E e' Tx) s'
theorem iD{sc:Scope}{n:Nat}{x:Str}(h:sc.names.lookup x=some .cell):∃ c,(cellsFrom n sc.names []).lookup x=some c:=by have q:=jg sc.names n [] (.inl h);exact z9.mp q
theorem ax{CX:OP}{P:Program}{w:World}{K:Ad}{mg:Af}{base:Heap}{N ps:List Str}{qual:Str}{scope:Scope}{f:Addr}{cd:Value}{A:Around}{outer:List Env}{s s1:Shared}{H:Hp}{E:XK}{us:Ag}{vs:List V}
  (S:FnScope N ps scope) (hd:A.handled=none) (e0:Env0 P w K mg base A outer s H) (hl:vs.length=ps.length) (r:Vals vs us)
  (x:InCallC s s.heap.objs.size (bindL (envOfC qual scope s.heap.objs.size f cd).kindOf (ps.zip us) λ_=>none) (cellsFrom (s.heap.objs.size+1) scope.names []) (bindC (envOfC qual scope s.heap.objs.size f cd).kindOf (ps.zip us) λ_=>none) s1) :
  Inv (Tb CX P w K mg base N qual scope f cd A outer s H E) [] (start N vs) H s1:=by
 have UX:ps.length<=N.length:=by have:=Xw List.length S.pre;rw[Yy]at this;omega
 obtain⟨h1,tk,rfl,hk⟩:=x.done;have Kc:∀ b:Addr,b∉(Tb CX P w K mg base N qual scope f cd A outer s H E).ex:=λb z=>absurd (show b∈([]:List Addr) from z) (by simp)
 refine⟨⟨e0.mod,S.kind,rfl,rfl,XN _,λy z c h1 h2=>?_,λy hy=>?_,λy c _ h=>?_,λ_=>hd,Around.frames_deeper e0.frames,.inr ⟨rfl,rfl⟩,λb z=>absurd z (Kc b),e0.bs,e0.bsz,λb _ _=>Kc b,λb z=>absurd z (Kc b),e0.funs,e0.frf⟩,
  rfl,e0.bare,Un.kept hk,⟨_,x.toInCall.ns,λi y v h1 h2 h3=>?_⟩,λy c h=>⟨_,x.cell y c h⟩,e0.hok.fresh (XN _),λy c h=>?_,λp hp=>absurd (show p∈([]:List (Addr × Obj)) from hp) (by simp),e0.hok.kept hk,?_⟩
 .exact name_of_addr x.apart (Lb h1) (Lb h2)
 .have hy:scope.names.lookup y=some .cell\/scope.names.lookup y=some .free:=hy;rcases hy with hy | hy
  .exact iD hy
  .exact absurd rfl (S.nofree _ (Lb hy))
 .exact Oh (x.above y c (Lb h))
 .have hi:i<vs.length:=by
   unfold start at h2;by_cases hi:i<vs.length
   .exact hi
   .rw[Yp (by simpa using hi)]at h2;rw[z7]at h2;split at h2 <;> cases h2
  have ha:vs[i]?=some v:=by
   unfold start at h2;rw[Ys (by simpa using hi),Yq]at h2;cases e:vs[i]? with
   | none=>rw[e]at h2;cases h2
   | some a=>rw[e]at h2;cases h2;rfl
  obtain⟨u,hu,rv⟩:=r.get ha;have hp:ps[i]?=some y:=by rw[<- S.pre,List.getElem?_take_of_lt (by omega)];exact h1
  have iC:ps.Nodup:=by rw[<- S.pre];exact S.nd.sublist (List.take_sublist _ _)
  refine⟨u,rv,?_⟩;rcases S.par y (Xg hp) with k | k
  .exact .inl ⟨k,iF iC hp hu k⟩
  .obtain⟨c,e⟩:=iD (n:=s.heap.objs.size+1) k;refine .inr ⟨.inl k,c,e,?_⟩;have q:=x.cell y c e
   rw[iE iC hp hu (by show scope.names.lookup y≠_;rw[k];decide)]at q;exact q
 .exact e0.hok.fresh (Oh (x.above y c (Lb h)))
 .unfold start;show _=N.length
  rw[Xt,Yd,YH];omega
theorem Fv{CX:OP}{P:Program}{w:World}{K:Ad}{mg:Af}{base:Heap}{k:Nat}{f:Addr}{name qual:Str}{params:Arguments}{body:List Stmt}{scope:Scope}{dV kV doc pm Xy ct oc:Value}{an od:Option Addr}
  {Up:Array (Option Value)} {N ps:List Str} {sp:Sp} (lk:K.lookup f=some ⟨oc,od,.func (PySem.W.fnOf name qual params body scope dV kV doc pm an Xy ct),Up⟩) (TB:PySem.W.codeIn K Xy qual=true) (S:FnScope N ps scope)
  (len:∀ vs H Q E,sp vs H Q E->vs.length=ps.length)
  (Uh:∀(A:Around) (outer:List Env) (s:Shared) (H:Hp) (vs:List V) (Q:VK) (E:XK),Room k (A.deeper (envOfC qual scope s.heap.objs.size f Xy))->sp vs H Q E ->
   ∃ t,PSs (Tb CX P w K mg base N qual scope f Xy A outer s H E) body t/\t { nx:=λ_ H'=>Q .non H',rt:=Q } (start N vs) H) :
  FnOk P w K mg base CX (k+1) f (PySem.W.fnOf name qual params body scope dV kV doc pm an Xy ct) ps sp:=by
 refine⟨len,λA outer s H args us vs Q E hr e0 hb r Su=>?_⟩;have hl:=len _ _ _ _ Su
 have KX:K.In s.heap:=e0.mod.kin.keeps λb o e=>(e0.bs b o e).1;have lim:s.heap.NoLimit:=e0.mod.nolimit.keeps λb o e=>(e0.bs b o e).1
 have Fu:∀ y∈ps.zip us,scope.names.lookup y.1=some .local\/(scope.names.lookup y.1=some .cell/\((cellsFrom (s.heap.objs.size+1) scope.names []).lookup y.1).isSome=true):=λ⟨n,v⟩ hy=>by
  rcases S.par n (KD hy).1 with q | q
  .exact .inl q
  .exact .inr ⟨q,jg _ _ _ (.inl q)⟩
 refine codeAny_call_function hr.depth (KX _ _ lk) rfl S.co S.gen rfl (PySem.W.codeRec_of KX TB) (hb _ _ _ _ ?_);refine wpAny_newFunctionEnv_cells S.kind Fu λenv he s1 x=>?_;subst he;refine⟨lim.keeps x.toInCall.keep,codeAny_func ?_⟩;obtain⟨t,ht,hq⟩:=Uh A outer s H vs Q E (hr.deeper _) Su;have I:Inv (Tb CX P w K mg base N qual scope f Xy A outer s H E) [] (start N vs) H s1:=ax S hr.hd e0 hl r x
 refine TF (ht [] s1 (start N vs) H _ I hq) (λfl s' hs=>?_) λe s' hs=>hs;have fin:∀ {σ':St} {H':Hp} {v:V} {u:Value},Inv (Tb CX P w K mg base N qual scope f Xy A outer s H E) [] σ' H' s'->RelV v u->Q v H'->CE outer P w H s Q u s' :=
  λ{σ' H' v u} J rv q=>⟨v,H',J.os,J.bare,J.base,J.hok,rv,q⟩
 cases fl with
 | ret u =>
  obtain⟨v,σ',H',J,rv,q⟩:=hs;exact fin J rv q
 | next =>
  obtain⟨σ',H',J,q⟩:=hs;exact fin (v:=V.non) (u:=Value.none) J rfl q
 | brk =>
  obtain⟨_,_,_,q⟩:=hs;exact False.elim q
 | cont =>
  obtain⟨_,_,_,q⟩:=hs;exact False.elim q
section
variable{X:Cx}{x:Str}{p pos:Pos}{e:Expr}{es:List Expr}{t:TA}{id T:String}{r:List V->Hp->VK->Prop}
def iz(r:List V->Hp->VK->Prop)(t:TA):TE:=λσ H Q=>t σ H λvs H1=>r vs H1 Q
theorem Zf (hc:Ur X (.builtin id) r) (hg:Gl X x) (hm:X.mg x=none) (hv:bootBuiltins x=some (.builtin id)) (ha:PA X (e :: es) t) (hn:x≠"__name__":=by decide) (RP:(x == ("__debug__":Str))=false:=by decide)
  (he:starEach (e :: es) X.env=(false,eval e X.env) :: starEach es X.env:=by rfl) (UX:(backTo pos (starEach es X.env)).any (·.1)=false:=by rfl):PE X (.Call (.Name x p) (e :: es) [] pos) (iz r t):=by intro pins s σ H Q I h;refine OZ (QW I hg hm hv ?_ hn RP);exact jv (thn (ha pos pins s σ H _ I h) λus s1 ⟨vs,H1,I1,r1,q1⟩=>hc pins s1 σ H1 vs us Q I1 r1 q1) he UX
theorem Zr (hc:Ur X (.type T) r) (hg:Gl X x) (hm:X.mg x=none) (hv:bootBuiltins x=some (.type T)) (ha:PA X (e :: es) t) (hn:x≠"__name__":=by decide) (RP:(x == ("__debug__":Str))=false:=by decide)
  (he:starEach (e :: es) X.env=(false,eval e X.env) :: starEach es X.env:=by rfl) (UX:(backTo pos (starEach es X.env)).any (·.1)=false:=by rfl):PE X (.Call (.Name x p) (e :: es) [] pos) (iz r t):=by intro pins s σ H Q I h;refine OZ (QW I hg hm hv ?_ hn RP);exact Le (thn (ha pos pins s σ H _ I h) λus s1 ⟨vs,H1,I1,r1,q1⟩=>hc pins s1 σ H1 vs us Q I1 r1 q1) he UX
end
end L2
namespace HT
open PySem PyProof.Rows
def lexLt:Ac->Ac->Bool
 | [],[]=>false
 | [],_ :: _=>true
 | _ :: _,[]=>false
 | x :: xs,y :: ys=>if x=y then lexLt xs ys else decide (x<y)
theorem Xj(x y:Int)(xs ys:Ac):lexLt (x :: xs) (y :: ys)=if x=y then lexLt xs ys else decide (x<y):=rfl
section
variable{prog:Program}{w:World}{A:Around}{E:Ae}{s:Shared}
theorem NR{t b:Addr}{vs ws:Ag}{Q:Ae}(ht:IsTup s.heap t vs.toArray)(hb:IsTup s.heap b ws.toArray)(hv:vs≠[])
  (h1:ws=[]->Q (.ref t) s) (h2:ws≠[]->Q (.ref s.heap.objs.size) { s with heap:=s.heap.push { cls:=.type "tuple",data:=.seq (vs++ws).toArray } })
  (hsz:vs.length+ws.length<=sizeLine):wpAny (model prog w) A (binaryOp .Add (.ref t) (.ref b)) Q E s:=by
 obtain⟨⟨cls,dd,data,sl⟩,ho,hc,n,hd⟩:=id ht;obtain⟨⟨uZ,zj,data2,zh⟩,Ta,Vf,n2,hd2⟩:=id hb;simp only at hc hd Vf hd2;subst hc hd Vf hd2;have e:vs.toArray++ws.toArray=(vs++ws).toArray:=by simp
 by_cases hw:ws=[]
 .exact concat_meets ⟨_,ho,rfl⟩ ⟨_,Ta,rfl⟩ wG seq_tuple_add KJ KL (xn _ _)
   (tuple_addW1 t b vs.toArray ws.toArray n n2 dd zj sl zh (by simpa using hv) (by simp[hw])) ⟨ho,Ta,h1 hw⟩
 .refine concat_meets ⟨_,ho,rfl⟩ ⟨_,Ta,rfl⟩ wG seq_tuple_add KJ KL (xn _ _)
   (tuple_addW2 t b vs.toArray ws.toArray n n2 dd zj sl zh (by simpa using hv) (by simpa using hw) (by rw[Ya,Ya];exact hsz)) ⟨ho,Ta,?_⟩
  rw[e];exact h2 hw
def Vt(n d:Nat):Option Int->Nat
 | none=>d
 | some v=>if v<0 then (v+(n:Int)).toNat else min v.toNat n
theorem Ug(n d:Nat):Vt n d none=d:=rfl
end
end HT
namespace L2
open PySem PySem.Spec PyProof.Rows
abbrev TO:=St->Hp->(Option Int->Hp->Prop)->Prop
def PO(X:Cx)(e:Option Expr)(t:TO):Prop :=
 ∀(pins:List (Addr × Obj)) (s:Shared) (σ:St) (H:Hp) (Q:Option Int->Hp->Prop),Inv X pins σ H s->t σ H Q ->
  wpAny (model X.prog X.w) X.A (evalPart e X.env) (λu s'=>∃ o H',Inv X pins σ H' s'/\IsPart u o/\Q o H') X.xe s
def uY:TO:=λ_ H Q=>Q none H
def uX(t:TE):TO:=λσ H Q=>t σ H λx H1=>∃ i,x=.int i/\Q (some i) H1
section
variable{X:Cx}{e:Expr}{te:TE}{lo hi:Option Expr}{tl th:TO}{pos p2:Pos}
theorem Kb:PO X none uY:=by intro pins s σ H Q I h;rw[evalPart_none];exact Yk ⟨none,H,I,.none,h⟩
theorem NQ(h:PE X e te):PO X (some e) (uX te):=by intro pins s σ H Q I hw;rw[evalPart_some];refine thn (h pins s σ H _ I hw) λu s1 Xv=>?_;obtain⟨x,H1,I1,r1,q1⟩:=Xv;obtain⟨i,rfl,q⟩:=q1;obtain⟨t,rfl⟩:=r1;exact⟨some i,H1,I1,.int i t,q⟩
def uW(X:Cx)(r:V->Option Int->Option Int->Hp->VK->Prop):Prop :=
 ∀(pins:List (Addr × Obj)) (s:Shared) (σ:St) (H:Hp) (x:V) (v vl vu:Value) (lo hi:Option Int) (sl:Addr) (Q:VK),Inv X pins σ H s->RelV x v->s.heap.IsSliceOf sl vl vu .none->IsPart vl lo->IsPart vu hi->r x lo hi H Q ->
  ∃ T id,typeLookup (.type T) "__getitem__"=pure (some (.builtin id))/\s.TypeIs v T/\wpAny (model X.prog X.w) X.A (getItem v (.ref sl)) (EP X pins σ Q) X.xe s
def aw(r:V->Option Int->Option Int->Hp->VK->Prop)(te:TE)(tl th:TO):TE:=λσ H Q=>te σ H λx H1=>tl σ H1 λl H2=>th σ H2 λu H3=>r x l u H3 Q
theorem LR{r:V->Option Int->Option Int->Hp->VK->Prop}(hr:uW X r)(he:PE X e te)(hl:PO X lo tl)(hu:PO X hi th):PE X (.Subscript e (.Slice lo hi none p2) pos) (aw r te tl th):=by
 intro pins s σ H Q I h;refine Subscript_ (thn (he pins s σ H _ I h) λv s1 Xv=>?_);obtain⟨x,H1,I1,r1,q1⟩:=Xv;refine wpAny_Slice (thn (hl pins s1 σ H1 _ I1 q1) λvl s2 ⟨l,H2,I2,pl,q2⟩=>thn (hu pins s2 σ H2 _ I2 q2) λvu s3 Xv=>?_);obtain⟨u,H3,I3,pu,q3⟩:=Xv;rw[evalPart_none];refine Yk ?_;have I4:Inv X pins σ H3 { s3 with heap:=s3.heap.push { cls:=.type "slice",data:=.fields #[vl,vu,.none] } }:=I3.kept (t':=s3.toks) λb ob q=>WZ _ q
 obtain⟨T,id,hT,ht,hg⟩:=hr pins { s3 with heap:=s3.heap.push { cls:=.type "slice",data:=.fields #[vl,vu,.none] } } σ H3 x v vl vu l u s3.heap.objs.size Q I4 r1 (Heap.IsSliceOf.new ..) pl pu q3;show wpAny (model X.prog X.w) X.A (subscriptTail e (.Slice lo hi none p2) v (.ref s3.heap.objs.size)) (EP X pins σ Q) X.xe { s3 with heap:=s3.heap.push { cls:=.type "slice",data:=.fields #[vl,vu,.none] } }
 exact tail_any (ops:=[.ref s3.heap.objs.size,v]) ht hT hg (by with_unfolding_all rfl)
def WJ(xs:List V)(lo hi:Option Int):List V:=(xs.drop (HT.Vt xs.length 0 lo)).take (HT.Vt xs.length xs.length hi - HT.Vt xs.length 0 lo)
theorem Ft(xs:List V)(lo hi:Option Int):(WJ xs lo hi).length<=xs.length:=by unfold WJ;rw[Yy,QF];omega
def Fs(K:Ad):R2:=λx y H Q=>∃ a b xs ys,x=.ref a/\y=.ref b/\SqT K H a xs/\SqT K H b ys/\xs≠[]/\xs.length+ys.length<=sizeLine /\
 (ys=[]->Q (.ref a) H)/\(ys≠[]->∀ p,H p=none->Q (.ref p) (upd H p (.tup (xs++ys))))
theorem Vals.nil_iff{xs:List V}{us:Ag}(r:Vals xs us):us=[]↔xs=[]:=by
 cases r with
 | nil=>simp
 | cons _ _=>simp
theorem uV:WD X (binaryOp .Add) (Fs X.K):=by intro pins s σ H x y v u Q I rx ry h;obtain⟨a,b,xs,ys,rfl,rfl,ha,hb,hx,hz,q1,q2⟩:=h;cases rx;cases ry;obtain⟨XW,r1,p1,_⟩:=I.tuple ha;obtain⟨VR,r2,p2,_⟩:=I.tuple hb;refine HT.NR p1 p2 (λz=>hx (r1.nil_iff.mp z)) (λz=>⟨.ref a,H,I,rfl,q1 (r2.nil_iff.mp z)⟩) (λz=>?_) (by rw[<- r1.length,<- r2.length];exact hz);refine⟨.ref s.heap.objs.size,_,I.laid (t':=s.toks) (o:=.tup (xs++ys)) (λb ob q=>WZ _ q) (XN _) ?_,rfl,q2 (λw=>z (r2.nil_iff.mpr w)) _ (I.hok.fresh (XN _))⟩;exact⟨by rw[Xt];exact hz,_,r1.append r2,IsTup.new _ _⟩
end
def NP(n:Nat)(i:Int):Option Nat:=if 0<=i then (if i<n then some i.toNat else none) else if -(n:Int)<=i then some (i+n).toNat else none
def VQ{α:Type}(xs:List α)(i:Int):Option α:=(NP xs.length i).bind λj=>xs[j]?
theorem Fq{n:Nat}{i:Int}{j:Nat}(h:NP n i=some j):seqIndex? i n=some j/\j<n/\-(n:Int)<=i/\i<n:=by
 unfold NP at h;by_cases h0:0<=i
 .rw[if_pos h0]at h;by_cases h1:i<n
  .rw[if_pos h1]at h;have e:i.toNat=j:=Yg h
   exact⟨by rw[seqIndex_of h0 h1,e],by omega,by omega,h1⟩
  .rw[if_neg h1]at h;cases h
 .rw[if_neg h0]at h;by_cases h1:-(n:Int)<=i
  .rw[if_pos h1]at h;have e:(i+n).toNat=j:=Yg h
   exact⟨by rw[seqIndex_neg (by omega) h1,e],by omega,h1,by omega⟩
  .rw[if_neg h1]at h;cases h
theorem iy{α:Type}{xs:List α}{i:Int}{v:α}(h:VQ xs i=some v):∃ j,seqIndex? i xs.length=some j/\xs[j]?=some v/\j<xs.length/\-(xs.length:Int)<=i/\i<xs.length:=by
 unfold VQ at h;cases e:NP xs.length i with
 | none=>rw[e]at h;cases h
 | some j =>
  rw[e]at h;obtain⟨h1,h2,h3,h4⟩:=Fq e;exact⟨j,h1,h,h2,h3,h4⟩
def uU(b:Expr):Prop:=∀ o i,subscripted b false o i=operate [o,i] (getItem o i)
def Fp(X:Cx)(r:R2):Prop :=
 ∀(value slice:Expr) (pins:List (Addr × Obj)) (s:Shared) (σ:St) (H:Hp) (x y:V) (v u:Value) (Q:VK),Inv X pins σ H s->RelV x v->RelV y u->r x y H Q ->
  subscripted slice false v u=operate [v,u] (getItem v u)->wpAny (model X.prog X.w) X.A (subscriptTail value slice v u) (EP X pins σ Q) X.xe s
def zg(X:Cx)(id:String)(r:V->List V->Hp->VK->Prop):Prop :=
 ∀(pins:List (Addr × Obj)) (s:Shared) (σ:St) (H:Hp) (x:V) (xs:List V) (v:Value) (us:Ag) (Q:VK),Inv X pins σ H s->RelV x v->Vals xs us->r x xs H Q ->
  wpAny (model X.prog X.w) X.A (call (.builtin id) (v :: us)) (EP X pins σ Q) X.xe s
section
variable{X:Cx}{a b:Expr}{ta tb:TE}{pos:Pos}
theorem ZR{r:R2}(hr:Fp X r)(ha:PE X a ta)(hb:PE X b tb)(hs:uU b):PE X (.Subscript a b pos) (zm r ta tb):=by intro pins s σ H Q I h;exact Subscript_ (Kl ha hb I h λv u s2 x y H2 I2 rx ry q=>hr a b pins s2 σ H2 x y v u Q I2 rx ry q (hs _ _))
def Fo(K:Ad):R2:=λx y H Q=>∃ p xs i v,x=.ref p/\y=.int i/\SqL K H p xs/\VQ xs i=some v/\Q v H
def Fn(K:Ad):R2:=λx y H Q=>∃ p xs i v,x=.ref p/\y=.int i/\SqT K H p xs/\VQ xs i=some v/\Q v H
theorem Fm:Fp X (Fo X.K):=by
 intro value slice pins s σ H x y v u Q I rx ry h hs;obtain⟨p,xs,i,z,rfl,rfl,hq,he,q⟩:=h;cases rx;obtain⟨t,rfl⟩:=ry;obtain⟨XW,r,pl,hz⟩:=I.list hq;obtain⟨j,h1,h2,h3,h4,h5⟩:=iy he;obtain⟨w,ew,Qr⟩:=r.get h2;have hl:=r.length
 have hn:=FG;have fin:EP X pins σ Q w s:=⟨z,H,I,Qr,q⟩
 by_cases h0:0<=i
 .have hj:i.toNat=j:=by rw[seqIndex_of h0 h5]at h1;exact Yg h1
  exact item_listR pl.isList h0 (by omega) (by rw[hj];simpa using ew) fin hs
 .have hj:(i+(XW.toArray.size:Int)).toNat=j:=by rw[seqIndex_neg (by omega) h4]at h1;rw[Ya,<- hl];exact Yg h1
  exact subscriptTail_builtinR (x:=w) pl.isList.typeIs slot_list_getitem.lookup
   (wpAny_getItem_list_neg (Q:=λr s'=>r=w/\EP X pins σ Q r s') pl.isList (by omega) (by rw[Ya] <;> omega) (by omega) (by rw[hj];simpa using ew) ⟨rfl,fin⟩) hs
theorem uS:Fp X (Fn X.K):=by
 intro value slice pins s σ H x y v u Q I rx ry h hs;obtain⟨p,xs,i,z,rfl,rfl,hq,he,q⟩:=h;cases rx;obtain⟨t,rfl⟩:=ry;obtain⟨XW,r,pl,hz⟩:=I.tuple hq;obtain⟨j,h1,h2,h3,h4,h5⟩:=iy he;obtain⟨w,ew,Qr⟩:=r.get h2;have hl:=r.length
 have hn:=FG;have fin:EP X pins σ Q w s:=⟨z,H,I,Qr,q⟩
 exact subscriptTail_builtinR (x:=w) pl.typeIs slot_tuple_getitem.lookup
  (getItem_tuple (j:=j) (Q:=λr s'=>r=w/\EP X pins σ Q r s') pl (by omega) (by omega) (by rw[Ya,<- hl];exact h1) (by simpa using ew) ⟨rfl,fin⟩) hs
theorem av (XW:Ag) (n j:Nat) (u:Value):Obj.mapSeq (·.setIfInBounds j u) { cls:=.type "list",data:=.seq XW.toArray n }={ cls:=.type "list",data:=.seq (XW.set j u).toArray n }:=by simp[Obj.mapSeq]
theorem Inv.lst{pins:List (Addr × Obj)}{σ:St}{H:Hp}{s:Shared}{p:Addr}{xs:List V}(I:Inv X pins σ H s)(h:H p=some (.lst xs)) :
  ∃(XW:Ag) (n:Nat),Vals xs XW/\s.heap.get? p=some { cls:=.type "list",data:=.seq XW.toArray n }/\xs.length<=sizeLine:=by obtain⟨z,XW,n,r,e⟩:=I.hok p _ h;exact⟨XW,n,r,e,z⟩
theorem Inv.lstUpd{pins:List (Addr × Obj)}{σ:St}{H:Hp}{s:Shared}{p:Addr}{xs ys:List V}{XW its':Ag}{n n':Nat}{f:Obj->Obj}(I:Inv X pins σ H s)(h:H p=some (.lst xs))
  (ho:s.heap.get? p=some { cls:=.type "list",data:=.seq XW.toArray n }) (hf:f { cls:=.type "list",data:=.seq XW.toArray n }={ cls:=.type "list",data:=.seq its'.toArray n' }) (r:Vals ys its') (hz:ys.length<=sizeLine) (t:Nat) :
  Inv X pins σ (upd H p (.lst ys)) { s with heap:=s.heap.update p f,toks:=t }:=by
 have e:(s.heap.update p f).get? p=some { cls:=.type "list",data:=.seq its'.toArray n' }:=by rw[Vw f ho (by rw[hf] <;> rfl),hf]
 refine I.write (x:=p) (e:=p) (by rw[h];trivial) (.inl rfl) (λb u hb q=>(YN _ _ (YZ hb)).trans q) ⟨_,e⟩ ?_;exact⟨hz,its',n',r,e⟩
def uR:V->V->V->Hp->(Hp->Prop)->Prop:=λo i v H Q=>∃ p xs k j,o=.ref p/\i=.int k/\H p=some (.lst xs)/\NP xs.length k=some j/\Q (upd H p (.lst (xs.set j v)))
theorem Fl:Kt X uR:=by
 intro pins s σ H o i v ov iv u Q I ro ri rv h;obtain⟨p,xs,k,j,rfl,rfl,hp,hj,q⟩:=h;cases ro;obtain⟨t,rfl⟩:=ri;obtain⟨XW,n,r,ho,hz⟩:=I.lst hp;obtain⟨h1,h2,h3,h4⟩:=Fq hj;have hl:=r.length
 have hn:=FG;have I':Inv X pins σ (upd H p (.lst (xs.set j v))) { s with heap:=s.heap.update p (Obj.mapSeq (·.setIfInBounds j u)) } :=
  I.lstUpd hp ho (av XW n j u) (r.set rv j) (by rw[Ti];exact hz) s.toks
 by_cases h0:0<=k
 .have hk:k.toNat=j:=by rw[seqIndex_of h0 h4]at h1;exact Yg h1
  exact PySem.W.ki_setAt ho h0 (by omega) (by rw[Ya,<- hl];exact h4) (by rw[hk];exact⟨_,I',q⟩)
 .have hk:(k+(XW.toArray.size:Int)).toNat=j:=by rw[seqIndex_neg (by omega) h3]at h1;rw[Ya,<- hl];exact Yg h1
  exact PySem.W.ki_setBack ho (by omega) (by rw[Ya,<- hl];exact h3) (by omega) (by rw[hk];exact⟨_,I',q⟩)
theorem au(lo hi:Option Int)(n:Nat):(sliceBounds lo hi none n).1=((HT.Vt n 0 lo:Nat):Int)/\(sliceBounds lo hi none n).2.1=((HT.Vt n n hi:Nat):Int)/\(sliceBounds lo hi none n).2.2=1:=by
 refine⟨?_,?_,rfl⟩
 .cases lo with
  | none=>simp[sliceBounds,HT.Vt]
  | some i =>
   simp only [sliceBounds,HT.Vt,Option.getD_none,show(1:Int) > 0 by decide,OT];by_cases h:i<0
   .simp only [h,OT] <;> omega
   .simp only [h,KH] <;> omega
 .cases hi with
  | none=>simp[sliceBounds,HT.Vt]
  | some i =>
   simp only [sliceBounds,HT.Vt,Option.getD_none,show(1:Int) > 0 by decide,OT];by_cases h:i<0
   .simp only [h,OT] <;> omega
   .simp only [h,KH] <;> omega
theorem aq(XW:Ag)(lo hi:Option Int):slicePick XW.toArray lo hi none=((XW.drop (HT.Vt XW.length 0 lo)).take (HT.Vt XW.length XW.length hi - HT.Vt XW.length 0 lo)).toArray:=by obtain⟨h1,h2,h3⟩:=au lo hi XW.toArray.size;unfold slicePick;rw[h1,h2,h3];simp only [sliceRange_one,pick_run,Ya] <;> rfl
def Fj(K:Ad):V->Option Int->Option Int->Hp->VK->Prop:=λx lo hi H Q=>∃ a xs,x=.ref a/\SqL K H a xs/\∀ p,H p=none->Q (.ref p) (upd H p (.lst (WJ xs lo hi)))
theorem uQ:uW X (Fj X.K):=by
 intro pins s σ H x v vl vu lo hi sl Q I rx hs pl pu h;obtain⟨a,xs,rfl,hx,q⟩:=h;cases rx;obtain⟨XW,r,ht,hz⟩:=I.list hx;have hlen:=r.length
 refine⟨"list",_,slot_list_getitem.lookup,ht.isList.typeIs,?_⟩;refine wpAny_getItem_list_slice ht.isList hs pl pu .none (by simp) ?_ (by rw[Ya] <;> omega)
 rw[aq,<- hlen];refine⟨.ref s.heap.objs.size,_,I.laid (t':=s.toks) (o:=.lst (WJ xs lo hi)) (λb ob q=>WZ _ q) (XN _) ?_,rfl,q _ (I.hok.fresh (XN _))⟩;exact⟨Yv (Ft xs lo hi) hz,_,0,(r.drop (HT.Vt xs.length 0 lo)).take (HT.Vt xs.length xs.length hi - HT.Vt xs.length 0 lo),Ym _ rfl⟩
def Wr:V->Bool
 | .non=>true
 | .bl _=>true
 | .int _=>true
 | .str _=>true
 | _=>false
def Tw:V->V->Bool
 | .non,.non=>true
 | .bl a,.bl b=>a == b
 | .bl a,.int b=>(if a then 1 else 0) == b
 | .int a,.bl b=>a == (if b then 1 else 0)
 | .int a,.int b=>a == b
 | .str a,.str b=>a == b
 | _,_=>false
theorem Fi{A:Around}{s:Shared}{y x:V}{u v:Value}(ry:RelV y u)(rx:RelV x v)(fy:Wr y=true)(fx:Wr x=true):SeqAt.EqAt A s u v (Tw y x):=by
 cases y with
 | non =>
  cases ry;cases x with
  | non=>cases rx;exact SeqAt.EqAt.same _
  | bl b=>cases rx;exact SeqAt.EqAt.none_bool b
  | int b=>obtain⟨t,rfl⟩:=rx;exact SeqAt.EqAt.none_int b t
  | str b=>obtain⟨t,rfl⟩:=rx;exact SeqAt.EqAt.none_str b t
  | _=>exact absurd (show false=true from fx) Yw
 | bl a =>
  cases ry;cases x with
  | non=>cases rx;exact SeqAt.EqAt.bool_none a
  | bl b=>cases rx;exact SeqAt.EqAt.bool_bool a b
  | int b=>obtain⟨t,rfl⟩:=rx;exact SeqAt.EqAt.bool_int a b t
  | str b=>obtain⟨t,rfl⟩:=rx;exact SeqAt.EqAt.bool_str a b t
  | _=>exact absurd (show false=true from fx) Yw
 | int a =>
  obtain⟨t',rfl⟩:=ry;cases x with
  | non=>cases rx;exact SeqAt.EqAt.int_none a t'
  | bl b=>cases rx;exact SeqAt.EqAt.int_bool a t' b
  | int b=>obtain⟨t,rfl⟩:=rx;exact SeqAt.EqAt.int_int a t' b t
  | str b=>obtain⟨t,rfl⟩:=rx;exact SeqAt.EqAt.int_str a t' b t
  | _=>exact absurd (show false=true from fx) Yw
 | str a =>
  obtain⟨t',rfl⟩:=ry;cases x with
  | non=>cases rx;exact SeqAt.EqAt.str_none a t'
  | bl b=>cases rx;exact SeqAt.EqAt.str_bool a t' b
  | int b=>obtain⟨t,rfl⟩:=rx;exact SeqAt.EqAt.str_int a t' b t
  | str b=>obtain⟨t,rfl⟩:=rx;exact SeqAt.EqAt.str_str a t' b t
  | _=>exact absurd (show false=true from fx) Yw
 | _=>exact absurd (show false=true from fy) Yw
def Uo(x:V)(u:Value):Bool:=match u with
 | .none=>Tw .non x
 | .bool b=>Tw (.bl b) x
 | .int i _=>Tw (.int i) x
 | .str z _=>Tw (.str z) x
 | _=>false
theorem Fh{x y:V}{u:Value}(r:RelV y u)(f:Wr y=true):Uo x u=Tw y x:=by
 cases y with
 | non=>cases r;rfl
 | bl b=>cases r;rfl
 | int i=>obtain⟨t,rfl⟩:=r;rfl
 | str z=>obtain⟨t,rfl⟩:=r;rfl
 | _=>exact absurd (show false=true from f) Yw
theorem Qq{x:V}:∀ {xs:List V} {us:Ag},Vals xs us->xs.all Wr=true->us.any (Uo x)=xs.any λy=>Tw y x
 | _,_,.nil,_=>rfl
 | y :: xs,u :: us,.cons r t,f=>by rw[List.all_cons,Tn]at f;rw[GA,GA,Fh r f.1,Qq t f.2]
theorem RO{A:Around}{s:Shared}{x:V}{v:Value}(rx:RelV x v)(fx:Wr x=true):∀ {xs:List V} {us:Ag},Vals xs us->xs.all Wr=true->∀ u∈us,SeqAt.EqAt A s u v (Uo x u)
 | _,_,.nil,_=>λu hu=>by cases hu
 | y :: xs,u :: us,.cons r t,f=>λu' hu=>by
  rw[List.all_cons,Tn]at f;rcases Yj.mp hu with rfl | hu
  .rw[Fh r f.1];exact Fi r rx f.1 fx
  .exact RO rx fx t f.2 u' hu
def HH(x:V)(xs:List V):Bool:=xs.any λy=>Tw y x
def ix(K:Ad)(neg:Bool):R2:=λx y H Q=>∃ p xs,y=.ref p/\(SqL K H p xs\/SqT K H p xs)/\Wr x=true/\xs.all Wr=true/\Q (.bl (if neg then !HH x xs else HH x xs)) H
theorem uP:WD X (compareOp .In) (ix X.K false):=by
 intro pins s σ H x y v u Q I rx ry h;obtain⟨p,xs,rfl,hq,fx,fs,q⟩:=h;cases ry;rcases hq with hq | hq
 .obtain⟨XW,r,pl,hz⟩:=I.list hq;refine SeqAt.in_listAt (Uo x) pl.isList (λw hw=>RO rx fx r fs w (by simpa using hw)) ⟨.bl _,H,I,rfl,?_⟩;rw[show XW.toArray.any (Uo x)=XW.any (Uo x) by simp,Qq r fs];exact q
 .obtain⟨XW,r,pl,hz⟩:=I.tuple hq;refine SeqAt.in_tupleAt (Uo x) pl (λw hw=>RO rx fx r fs w (by simpa using hw)) ⟨.bl _,H,I,rfl,?_⟩;rw[show XW.toArray.any (Uo x)=XW.any (Uo x) by simp,Qq r fs];exact q
theorem ak:WD X (compareOp .NotIn) (ix X.K true):=by
 intro pins s σ H x y v u Q I rx ry h;obtain⟨p,xs,rfl,hq,fx,fs,q⟩:=h;cases ry;rcases hq with hq | hq
 .obtain⟨XW,r,pl,hz⟩:=I.list hq;refine SeqAt.notIn_listAt (Uo x) pl.isList (λw hw=>RO rx fx r fs w (by simpa using hw)) ⟨.bl _,H,I,rfl,?_⟩;rw[show XW.toArray.any (Uo x)=XW.any (Uo x) by simp,Qq r fs];exact q
 .obtain⟨XW,r,pl,hz⟩:=I.tuple hq;refine SeqAt.notIn_tupleAt (Uo x) pl (λw hw=>RO rx fx r fs w (by simpa using hw)) ⟨.bl _,H,I,rfl,?_⟩;rw[show XW.toArray.any (Uo x)=XW.any (Uo x) by simp,Qq r fs];exact q
theorem aj:Ur X (.builtin "len") (λxs H Q=>∃ p ys,xs=[.ref p]/\(SqL X.K H p ys\/SqT X.K H p ys)/\Q (.int ys.length) H):=by
 intro pins s σ H xs us Q I r h;obtain⟨p,ys,rfl,hq,q⟩:=h;obtain⟨u,rfl,rx⟩:=Sw r;cases rx;have hn:=FG
 rcases hq with hq | hq
 .obtain⟨XW,r',pl,hz⟩:=I.list hq;have hlen:=r'.length
  exact Calls.call_len_list pl.isList (by simp only [Ya] <;> omega) ⟨.int ys.length,H,I.tok _,⟨s.toks+1,by rw[Ya,hlen]⟩,q⟩
 .obtain⟨XW,r',pl,hz⟩:=I.tuple hq;have hlen:=r'.length
  exact len_tuple pl (by simp only [Ya] <;> omega) ⟨.int ys.length,H,I.tok _,⟨s.toks+1,by rw[Ya,hlen]⟩,q⟩
theorem ai:Ur X (.type "list") (λxs H Q=>∃ p ys,xs=[.ref p]/\(SqL X.K H p ys\/SqT X.K H p ys)/\∀ l,H l=none->Q (.ref l) (upd H l (.lst ys))):=by
 intro pins s σ H xs us Q I r h;obtain⟨p,ys,rfl,hq,q⟩:=h;obtain⟨u,rfl,rx⟩:=Sw r;cases rx;have fin:∀(XW:Ag),Vals ys XW->ys.length<=sizeLine->∀(h':Heap) (c':Nat),(∀ b o',s.heap.get? b=some o'->h'.get? b=some o') ->
   h'.get? s.heap.objs.size=some { cls:=.type "list",dict:=none,data:=.seq XW.toArray c',slots:=#[] }->EP X pins σ Q (.ref s.heap.objs.size) { s with heap:=h' }:=λXW r' hz h' c' kp e =>
  ⟨.ref s.heap.objs.size,_,I.laid (t':=s.toks) kp (XN _) (show ObjOk X.prog X.w _ h' _ (.lst ys) from⟨hz,XW,c',r',e⟩),rfl,q _ (I.hok.fresh (XN _))⟩
 rcases hq with hq | hq
 .obtain⟨XW,r',pl,hz⟩:=I.list hq;have hlen:=r'.length
  obtain⟨o,ho,hc,n,hd⟩:=pl.isList;exact call_list_seq p (.inl rfl) ho hc hd (λh' c' kp e=>fin XW r' hz h' c' kp e) (by simp only [Ya] <;> omega)
 .obtain⟨XW,r',pl,hz⟩:=I.tuple hq;have hlen:=r'.length
  obtain⟨o,ho,hc,n,hd⟩:=pl;exact call_list_seq p (.inr rfl) ho hc hd (λh' c' kp e=>fin XW r' hz h' c' kp e) (by simp only [Ya] <;> omega)
theorem uN:Ur X (.type "tuple") (λxs H Q=>∃ p ys,xs=[.ref p]/\((SqL X.K H p ys/\∀ l,H l=none->Q (.ref l) (upd H l (.tup ys)))\/(SqT X.K H p ys/\Q (.ref p) H))):=by
 intro pins s σ H xs us Q I r h;obtain⟨p,ys,rfl,h⟩:=h;obtain⟨u,rfl,rx⟩:=Sw r;cases rx;rcases h with ⟨hq,q⟩ | ⟨hq,q⟩
 .obtain⟨XW,r',pl,hz⟩:=I.list hq;have hlen:=r'.length
  refine call_tuple_list pl.isList (λh' kp=>?_) (by simp only [Ya] <;> omega)
  have I1:Inv X pins σ H { s with heap:=h' }:=I.kept (t':=s.toks) kp;have I2:Inv X pins σ (upd H h'.objs.size (.tup ys)) { s with heap:=h'.push { cls:=.type "tuple",data:=.seq XW.toArray } } :=
   I1.laid (t':=s.toks) (λb o e=>WZ _ e) (XN _) (show ObjOk X.prog X.w _ _ _ (.tup ys) from⟨hz,XW,r',IsTup.new _ _⟩)
  exact⟨.ref h'.objs.size,_,I2,rfl,q _ (I1.hok.fresh (XN _))⟩
 .obtain⟨XW,r',pl,hz⟩:=I.tuple hq;exact call_tuple_same pl ⟨.ref p,H,I,rfl,q⟩
def uM(K:Ad)(T:String)(x:V)(H:Hp):Prop:=match x with
 | .str _=>T="str"
 | .int _=>T="int"
 | .ref p=>(T="list"/\∃ xs,SqL K H p xs)\/(T="tuple"/\∃ o,K.lookup p=some o/\o.cls=.type "tuple"/\o.dict=none) \/
   (T="dict"/\((∃ kvs,H p=some (.dK kvs))\/∃ kvs,H p=some (.dT kvs)))\/(T="set"/\∃ S n,H p=some (.set S n))
 | _=>False
theorem LQ{pins:List (Addr × Obj)}{σ:St}{H:Hp}{s:Shared}{T:String}{x:V}{v:Value}(I:Inv X pins σ H s)(r:RelV x v)(ty:uM X.K T x H) :
  s.TypeIs v T/\∀ a,v=.ref a->∃ ob,s.heap.get? a=some ob/\ob.dict=none:=by
 cases x with
 | str z =>
  obtain⟨t,rfl⟩:=r;cases (show T="str" from ty);exact⟨typeIs_str s z t,λ_ e=>nomatch e⟩
 | int i =>
  obtain⟨t,rfl⟩:=r;cases (show T="int" from ty);exact⟨typeIs_int s i t,λ_ e=>nomatch e⟩
 | ref p =>
  cases r;rcases ty with ⟨rfl,xs,hq⟩ | ⟨rfl,o,hk,hc,hd⟩ | ⟨rfl,hk⟩ | ⟨rfl,S,n,hk⟩
  .obtain⟨XW,_,pl,_⟩:=I.list hq;refine⟨pl.isList.typeIs,λa e=>?_⟩;cases e;obtain⟨o,n,e,c,hd,_⟩:=pl;exact⟨o,e,hd⟩
  .refine⟨⟨o,I.kIn p o hk,hc⟩,λa e=>?_⟩;cases e;exact⟨o,I.kIn _ o hk,hd⟩
  .have z:∃ o,s.heap.get? p=some o/\o.ExactDict:=by
    rcases hk with ⟨kvs,hk⟩ | ⟨kvs,hk⟩
    .obtain⟨_,_,_,_,o,_,_,e,ex,_⟩:=I.hok p _ hk;exact⟨o,e,ex⟩
    .obtain⟨_,_,_,_,o,_,_,e,ex,_⟩:=I.hok p _ hk;exact⟨o,e,ex⟩
   obtain⟨o,e,ex⟩:=z;refine⟨⟨o,e,ex.1⟩,λa e2=>?_⟩;cases e2;exact⟨o,e,ex.2.1⟩
  .obtain⟨o,_,_,_,e,ex,_⟩:=I.hok p _ hk;refine⟨⟨o,e,ex.1⟩,λa e2=>?_⟩;cases e2;exact⟨o,e,ex.2.1⟩
 | _=>exact False.elim ty
def Fg(K:Ad)(T:String)(r:V->List V->Hp->VK->Prop)(to:TE):TE:=λσ H Q=>to σ H λx H1=>uM K T x H1/\r x [] H1 Q
def iw(K:Ad)(T:String)(r:V->List V->Hp->VK->Prop)(to:TE)(t:TA):TE:=λσ H Q=>to σ H λx H1=>uM K T x H1/\t σ H1 λxs H2=>r x xs H2 Q
variable{o e:Expr}{es:List Expr}{to:TE}{t:TA}{name:Str}{apos Xe:Pos}{T id:String}{r:V->List V->Hp->VK->Prop}
theorem Ff (pa:PlainAttrs T) (slot:Slot T name id) (Ka:typeOf (.builtin id)=pure (.type "method_descriptor")) (hm:zg X id r) (ho:PE X o to)
  (Vs:attributeBase o name X.env (eval o X.env)=eval o X.env:=by rfl) (Vr:(apos.endLine == Xe.line)=true:=by rfl):PE X (.Call (.Attribute o name apos) [] [] Xe) (Fg X.K T r to):=by intro pins s σ H Q I h;refine wpAny_Call_method0_late Vs Vr (thn (ho pins s σ H _ I h) λv s1 Xv=>?_);obtain⟨x,H1,I1,r1,ty,q1⟩:=Xv;obtain⟨h1,h2⟩:=LQ I1 r1 ty;exact⟨T,id,pa,slot,Ka,h1,h2,w6 rfl (PySem.evalArgs_none (hm pins s1 σ H1 x [] v [] Q I1 r1 .nil q1))⟩
theorem Fe (pa:PlainAttrs T) (slot:Slot T name id) (Ka:typeOf (.builtin id)=pure (.type "method_descriptor")) (hm:zg X id r) (ho:PE X o to) (ha:PA X (e :: es) t)
  (Vs:attributeBase o name X.env (eval o X.env)=eval o X.env:=by rfl)
  (JZ:((backTo Xe (starEach (e :: es) X.env)).all (λx=>!x.1) && (backToKw Xe (keywordEach [] X.env)).all (λx=>x.1.isSome)
   && decide ((e :: es).length+([]:List Keyword).length+(if ([]:List Keyword).isEmpty then 0 else 1)<30))=true:=by rfl)
  (Vr:(apos.endLine == Xe.line)=true:=by rfl) (hs:starEach (e :: es) X.env=(false,eval e X.env) :: starEach es X.env:=by rfl) (SY:(backTo Xe (starEach es X.env)).any (·.1)=false:=by rfl) :
  PE X (.Call (.Attribute o name apos) (e :: es) [] Xe) (iw X.K T r to t):=by
 intro pins s σ H Q I h;refine wpAny_Call_method_late Vs JZ Vr rfl (thn (ho pins s σ H _ I h) λv s1 Xv=>?_);obtain⟨x,H1,I1,r1,ty,q1⟩:=Xv;obtain⟨h1,h2⟩:=LQ I1 r1 ty;refine⟨T,id,pa,slot,Ka,h1,h2,?_⟩;have hA:=ha Xe pins s1 σ H1 _ I1 q1
 rw[hs]at hA ⊢;refine w6 (by show(false || (backTo Xe (starEach es X.env)).any (·.1))=false;rw[SY] <;> rfl) (Calls.evalArgs_plain ?_)
 exact thn hA λus s2 ⟨vs,H2,I2,r2,q2⟩=>hm pins s2 σ H2 x vs v us Q I2 r1 r2 q2
end
def JY(X:Cx)(id:String)(r:V->List V->Hp->VK->Prop):Prop :=
 ∀(pins:List (Addr × Obj)) (s:Shared) (σ:St) (H:Hp) (x:V) (xs:List V) (v:Value) (us:Ag) (Q:VK),Inv X pins σ H s->RelV x v->Vals xs us->r x xs H Q ->
  wpAny (model X.prog X.w) X.A (call (.builtin id) (v :: us)) (EP X pins σ Q) X.xe s
theorem Vals.one{x:V}{us:Ag}(r:Vals [x] us):∃ u,us=[u]/\RelV x u:=by
 cases r with
 | cons a r=>cases r;exact⟨_,rfl,a⟩
theorem Vals.eraseIdx:∀ {xs:List V} {us:Ag} (i:Nat),Vals xs us->Vals (xs.eraseIdx i) (us.eraseIdx i)
 | _,_,_,.nil=>.nil
 | _,_,0,.cons _ t=>t
 | _,_,i+1,.cons r t=>.cons r (Vals.eraseIdx i t)
theorem Vals.rep{xs:List V}{us:Ag}(h:Vals xs us):∀ k:Nat,Vals (List.replicate k xs).flatten (List.replicate k us).flatten
 | 0=>.nil
 | k+1=>by rw[La,La,GD,GD];exact Vals.append h (Vals.rep h k)
theorem iu{α:Type}:∀(l:List α) (i:Nat),(l.eraseIdx i).length<=l.length
 | [],_=>XN _
 | _ :: _,0=>Us _
 | _ :: r,i+1=>Nat.succ_le_succ (iu r i)
theorem Fd(XW:Ag):∀(k:Nat) (acc:Ag),
  List.foldl (λx1 x2=>x1++x2) acc.toArray (List.replicate k XW.toArray)=(acc++(List.replicate k XW).flatten).toArray
 | 0,acc=>by simp
 | k+1,acc=>by
  have e:acc.toArray++XW.toArray=(acc++XW).toArray:=by simp
  have e2:(acc++XW)++(List.replicate k XW).flatten=acc++(List.replicate (k+1) XW).flatten:=by rw[La,GD,QG]
  rw[<- e2,<- Fd XW k (acc++XW),<- e,La,zV]
section
variable{X:Cx}{pins:List (Addr × Obj)}{σ:St}{H:Hp}{s:Shared}{l:Addr}{xs ys:List V}
theorem Inv.lset{XW its':Ag}{n:Nat}{f:Array Value->Array Value}{t':Nat}(I:Inv X pins σ H s)(hH:H l=some (.lst xs))
  (e:s.heap.get? l=some { cls:=.type "list",data:=.seq XW.toArray n }) (hf:f XW.toArray=its'.toArray) (hv:Vals ys its') (hz:ys.length<=sizeLine) :
  Inv X pins σ (upd H l (.lst ys)) { s with heap:=s.heap.update l (Obj.mapSeq f),toks:=t' }:=by have q:=PySem.IsL.update e f;rw[hf]at q;refine I.write (x:=l) (e:=l) (by rw[hH];exact trivial) (.inl rfl) (λb' u hb hu=>(YN s.heap (Obj.mapSeq f) (YZ hb)).trans hu) ⟨_,q⟩ ?_;exact⟨hz,its',_,hv,q⟩
theorem Inv.lnew{XW:Ag}{t':Nat}(I:Inv X pins σ H s)(hv:Vals ys XW)(hz:ys.length<=sizeLine) :
  Inv X pins σ (upd H s.heap.objs.size (.lst ys)) { s with heap:=s.heap.push { cls:=.type "list",data:=.seq XW.toArray },toks:=t' } :=
 I.laid (λ_ _ q=>WZ _ q) (XN _) ⟨hz,XW,0,hv,Ym _ rfl⟩
theorem Inv.fresh(I:Inv X pins σ H s):H s.heap.objs.size=none:=I.hok.fresh (XN _)
theorem Inv.lstM (I:Inv X pins σ H s) (hH:H l=some (.lst xs)):xs.length<=sizeLine/\∃(XW:Ag) (n:Nat),Vals xs XW/\xs.length=XW.length/\s.heap.get? l=some { cls:=.type "list",data:=.seq XW.toArray n }:=by obtain⟨z,XW,n,r,e⟩:=I.hok l _ hH;exact⟨z,XW,n,r,r.length,e⟩
theorem ir{n:Nat}(h:n<=sizeLine):Builtin.List.listTooLong n=false:=by unfold Builtin.List.listTooLong;exact SF (by omega)
end
section
variable{X:Cx}
def uL:V->List V->Hp->VK->Prop:=λx vs H Q=>∃ l xs y,x=.ref l/\vs=[y]/\H l=some (.lst xs)/\xs.length<sizeLine/\Q .non (upd H l (.lst (xs++[y])))
theorem Fc:JY X "list.append" uL:=by intro pins s σ H x vs v us Q I rx rv h;obtain⟨l,xs,y,rfl,rfl,hH,hz,q⟩:=h;cases rx;obtain⟨u,rfl,ru⟩:=rv.one;obtain⟨z,XW,n,r,hl,e⟩:=I.lstM hH;refine KI F.slot_list_append ⟨_,e,rfl⟩ F.entry_list_append (F.args_list_append_2 _ _) (PySem.list_append l XW.toArray n u (by rw[Ya];omega)) ⟨e,?_⟩;refine⟨.non,_,I.lset (its':=XW++[u]) hH e (by simp) (r.append (.cons ru .nil)) ?_,rfl,q⟩;rw[Xt,Yh];omega
def uK:V->List V->Hp->VK->Prop:=λx vs H Q=>∃ l b xs zs,x=.ref l/\vs=[.ref b]/\H l=some (.lst xs)/\H b=some (.lst zs)/\xs.length+zs.length<=sizeLine/\Q .non (upd H l (.lst (xs++zs)))
theorem iq:JY X "list.extend" uK:=by
 intro pins s σ H x vs v us Q I rx rv h;obtain⟨l,b,xs,zs,rfl,rfl,hH,hB,hz,q⟩:=h;cases rx;obtain⟨u,rfl,ru⟩:=rv.one;cases ru;obtain⟨z,XW,n,r,hl,e⟩:=I.lstM hH;obtain⟨z2,VR,n2,r2,QU,e2⟩:=I.lstM hB;have hsz:XW.toArray.size+VR.toArray.size<=sizeLine:=by rw[Ya,Ya];omega
 have Qp:¬ (!XW.toArray.isEmpty && Builtin.List.listTooLong (XW.toArray.size+VR.toArray.size))=true:=by rw[ir hsz,Bool.and_false];exact Yw
 refine KI F.slot_list_extend ⟨_,e,rfl⟩ F.entry_list_extend (F.args_list_extend_2 _ _)
  (AutoSeq1.list_extend_list_list_0 l XW.toArray n b VR.toArray n2 Qp (by rw[Ya];omega) (by omega)) ⟨e,e2,?_⟩
 refine⟨.non,_,I.lset (its':=XW++VR) hH e (by simp) (r.append r2) ?_,rfl,q⟩;rw[Xt];omega
def Fb:V->List V->Hp->VK->Prop:=λx vs H Q=>∃ l xs i k y,x=.ref l/\vs=[.int i]/\H l=some (.lst xs)/\-(2 ^ 63)<=i/\i<2 ^ 63/\seqIndex? i xs.length=some k/\xs[k]?=some y/\Q y (upd H l (.lst (xs.eraseIdx k)))
theorem ip:JY X "list.pop" Fb:=by
 intro pins s σ H x vs v us Q I rx rv h;obtain⟨l,xs,i,k,y,rfl,rfl,hH,h1,h2,hk,hy,q⟩:=h;cases rx;obtain⟨u,rfl,ru⟩:=rv.one;obtain⟨t,rfl⟩:=ru;obtain⟨z,XW,n,r,hl,e⟩:=I.lstM hH;obtain⟨w,hw,Qr⟩:=r.get hy;refine KI F.slot_list_pop ⟨_,e,rfl⟩ F.entry_list_pop (F.args_list_pop_2 _ _)
  (MeetsSeq.list_pop_at l XW.toArray n i t k w (fitsIndex_both h1 h2) (by rw[Ya,<- hl];exact hk) (by rw[<- YR];exact hw) (by rw[Ya];omega)) ⟨e,?_⟩
 refine⟨y,_,I.lset (its':=XW.eraseIdx k) hH e ?_ (r.eraseIdx k) ?_,Qr,q⟩
 .show XW.toArray.eraseIdxIfInBounds k=(XW.eraseIdx k).toArray;rw[List.eraseIdxIfInBounds_toArray]
 .have:=iu xs k
  omega
def EZ:R2:=λx y H Q=>∃ l b xs zs,x=.ref l/\y=.ref b/\H l=some (.lst xs)/\H b=some (.lst zs)/\xs.length+zs.length<=sizeLine/\∀ p,H p=none->Q (.ref p) (upd H p (.lst (xs++zs)))
theorem EY:WD X (binaryOp .Add) EZ:=by
 intro pins s σ H x y v u Q I rx ry h;obtain⟨l,b,xs,zs,rfl,rfl,hH,hB,hz,q⟩:=h;cases rx;cases ry;obtain⟨z,XW,n,r,hl,e⟩:=I.lstM hH;obtain⟨z2,VR,n2,r2,QU,e2⟩:=I.lstM hB;refine PySem.P.add_list e e2 ?_ (by rw[Ya,Ya];omega);have ea:XW.toArray++VR.toArray=(XW++VR).toArray:=by simp
 rw[ea];exact⟨.ref _,_,I.lnew (t':=s.toks) (r.append r2) (by rw[Xt];omega),rfl,q _ I.fresh⟩
def uJ:R2:=λx y H Q=>∃ l k xs,x=.ref l/\y=.int k/\H l=some (.lst xs)/\-(2 ^ 63)<=k/\k<2 ^ 63/\xs.length * k.toNat<=sizeLine /\
 ∀ p,H p=none->Q (.ref p) (upd H p (.lst (List.replicate k.toNat xs).flatten))
theorem uH{α:Type}(xs:List α)(k:Nat):(List.replicate k xs).flatten.length=k * xs.length:=by
 induction k with
 | zero=>simp
 | succ k ih=>rw[La,GD,Xt,ih,Nat.succ_mul,Nat.add_comm]
theorem EX:WD X (binaryOp .Mult) uJ:=by
 intro pins s σ H x y v u Q I rx ry h;obtain⟨l,k,xs,rfl,rfl,hH,h1,h2,hz,q⟩:=h;cases rx;obtain⟨t,rfl⟩:=ry;obtain⟨z,XW,n,r,hl,e⟩:=I.lstM hH;have hlen:XW.toArray.size * k.toNat<=sizeLine:=by rw[Ya,<- hl];exact hz
 have uG:¬ XW.toArray.size * k.toNat > (2 ^ 63 - 1) / 8:=by
  have:(sizeLine:Nat)<=(2 ^ 63 - 1) / 8:=by decide
  omega
 have uE:¬ (!Builtin.List.listFitsIndex k)=true:=by rw[fitsIndex_both h1 h2];exact Yw
 have Qp:¬ Builtin.List.listTooLong (XW.toArray.size * k.toNat)=true:=by rw[ir hlen];exact Yw
 have RN:List.foldl (λx1 x2=>x1++x2) #[] (List.replicate (if XW.toArray.isEmpty=true then 0 else k.toNat) XW.toArray)=(List.replicate k.toNat XW).flatten.toArray:=by
  have f0:∀ m:Nat,List.foldl (λx1 x2=>x1++x2) #[] (List.replicate m XW.toArray)=(List.replicate m XW).flatten.toArray:=λm=>by
   have:=Fd XW m []
   rw[OV]at this;exact this
  rw[f0];cases XW with
  | nil=>simp
  | cons a r'=>rw[if_neg (by simp)]
 refine wpAny_binaryOp_repeat_ref (T:="list") (U:="int") (by decide) ⟨_,e,rfl⟩ (λs'=>typeIs_int s' k t) noFill_list_mul F.fills_int_mul F.slot_int_rmul repeat_list F.slot_int_index.lookup
  (KI F.slot_int_rmul (typeIs_int s k t) F.entry_int_rmul (F.args_int_rmul_2 _ _) (int___rmul___int_list k t l XW.toArray n)
   ⟨e,rfl,⟨_,e,rfl⟩,KI F.slot_list_mul ⟨_,e,rfl⟩ F.entry_list_mul (F.args_list_mul_2 _ _) (AutoListH.list___mul___list_int_3 l XW.toArray n k t uE uG Qp) ⟨e,?_⟩⟩)
 rw[RN];exact⟨.ref _,_,I.lnew (t':=s.toks) (r.rep k.toNat) (by rw[uH,zE];exact hz),rfl,q _ I.fresh⟩
end
section
variable{κ:Type}[DecidableEq κ]
def Xm(kvs:List (κ × V))(k:κ):Option V:=(kvs.find? λkv=>decide (kv.1=k)).map (·.2)
def putK(kvs:List (κ × V))(k:κ)(v:V):List (κ × V) :=
 if (kvs.any λkv=>decide (kv.1=k))=true then kvs.map (λkv=>if kv.1=k then (kv.1,v) else kv) else kvs++[(k,v)]
theorem ZX{p:κ × V}{r:List (κ × V)}{k:κ}(e:p.1=k):Xm (p :: r) k=some p.2:=by simp[Xm,HU,e]
theorem ZY{p:κ × V}{r:List (κ × V)}{k:κ}(e:¬ p.1=k):Xm (p :: r) k=Xm r k:=by simp[Xm,HU,e]
theorem EW(k:κ):∀ kvs:List (κ × V),(kvs.any λkv=>decide (kv.1=k))=(Xm kvs k).isSome
 | []=>rfl
 | p :: r=>by
  rw[GA];by_cases e:p.1=k
  .simp only [ZX e,Yn e,Bool.true_or,Option.isSome_some]
  .rw[ZY e,SF e,Bool.false_or];exact EW k r
theorem EV(k j:κ)(y:V):∀ kvs:List (κ × V),Xm (kvs.map λkv=>if kv.1=k then (kv.1,y) else kv) j=(Xm kvs j).map λx=>if j=k then y else x
 | []=>rfl
 | p :: r=>by
  have ih:=EV k j y r;rw[YV];by_cases h:p.1=k
  .rw[if_pos h];by_cases e:p.1=j
   .rw[ZX (p:=(p.1,y)) e,ZX e,Tj,if_pos (e.symm.trans h)]
   .rw[ZY (p:=(p.1,y)) e,ZY e,ih]
  .rw[if_neg h];by_cases e:p.1=j
   .rw[ZX (p:=p) e,ZX e,Tj,if_neg (λz=>h (e.trans z))]
   .rw[ZY (p:=p) e,ZY e,ih]
theorem ik(k j:κ)(y:V):∀ kvs:List (κ × V),Xm kvs k=none->Xm (kvs++[(k,y)]) j=if j=k then some y else Xm kvs j
 | [],_=>by
  by_cases e:k=j
  .rw[if_pos e.symm];exact ZX (p:=(k,y)) e
  .rw[if_neg (λz=>e z.symm)];exact ZY (p:=(k,y)) e
 | p :: r,hn=>by
  rw[HX];have hk:¬ p.1=k:=λz=>by rw[ZX z]at hn;cases hn
  rw[ZY hk]at hn;have ih:=ik k j y r hn
  by_cases e:p.1=j
  .rw[ZX e,ZX e,if_neg (λz=>hk (e.trans z))]
  .rw[ZY e,ZY e,ih]
theorem ah(kvs:List (κ × V))(k j:κ)(y:V):Xm (putK kvs k y) j=if j=k then some y else Xm kvs j:=by
 unfold putK;by_cases a:(kvs.any λkv=>decide (kv.1=k))=true
 .rw[if_pos a,EV];rw[EW]at a;by_cases e:j=k
  .obtain⟨x,hx⟩:=z9.mp a;rw[if_pos e,e,hx,Tj,if_pos rfl]
  .rw[if_neg e];cases Xm kvs j with
   | none=>rfl
   | some x=>rw[Tj,if_neg e]
 .rw[if_neg a];refine ik k j y kvs ?_;rw[EW]at a;cases q:Xm kvs k with
  | none=>rfl
  | some x=>rw[q]at a;exact(a rfl).elim
theorem zf(kvs:List (κ × V))(k:κ)(v:V):(putK kvs k v).length<=kvs.length+1:=by
 unfold putK;split
 .rw[Yd];omega
 .rw[Xt,YA,Mg];omega
theorem af{kvs:List (κ × V)}{k:κ}(v:V)(h:Xm kvs k=none):putK kvs k v=kvs++[(k,v)]:=by unfold putK;rw[EW,h];exact if_neg (by decide)
theorem RelO.isSome_eq{o:Option V}{u:Option Value}(r:RelO o u):o.isSome=u.isSome:=by
 cases o with
 | none=>cases u with
  | none=>rfl
  | some _=>exact(show False from r).elim
 | some _=>cases u with
  | none=>exact(show False from r).elim
  | some _=>rfl
theorem RelO.getD{o:Option V}{u:Option Value}{d:V}{d':Value}(r:RelO o u)(rd:RelV d d'):RelV (o.getD d) (u.getD d'):=by
 cases o with
 | none=>cases u with
  | none=>exact rd
  | some _=>exact(show False from r).elim
 | some _=>cases u with
  | none=>exact(show False from r).elim
  | some _=>exact r
theorem KV.val{kvs:List (κ × V)}{vs:List (κ × Value)}(r:KV kvs vs)(k:κ):RelO (Xm kvs k) (valueAt vs k):=by
 unfold KV at r
 induction r with
 | nil=>exact True.intro
 | @cons p q ps qs h t ih =>
  obtain⟨h1,h2⟩:=h;by_cases e:p.1=k
  .have e':q.1=k:=h1.symm.trans e;have b:valueAt (q :: qs) k=some q.2:=by simp[valueAt,HU,e']
   rw[ZX e,b];exact h2
  .have e':¬ q.1=k:=λz=>e (h1.trans z);have b:valueAt (q :: qs) k=valueAt qs k:=by simp[valueAt,HU,e']
   rw[ZY e,b];exact ih
theorem KV.any{kvs:List (κ × V)}{vs:List (κ × Value)}(r:KV kvs vs)(k:κ):(kvs.any λkv=>decide (kv.1=k))=vs.any λkv=>decide (kv.1=k):=by
 unfold KV at r
 induction r with
 | nil=>rfl
 | cons h t ih=>rw[GA,GA,ih,h.1]
theorem KV.repl{kvs:List (κ × V)}{vs:List (κ × Value)}(r:KV kvs vs)(k:κ){y:V}{u:Value}(ry:RelV y u) :
  KV (kvs.map λkv=>if kv.1=k then (kv.1,y) else kv) (vs.map λkv=>if kv.1=k then (kv.1,u) else kv):=by
 unfold KV at r ⊢
 induction r with
 | nil=>exact .nil
 | @cons p q ps qs h t ih =>
  rw[YV,YV];refine .cons ?_ ih;obtain⟨h1,h2⟩:=h;by_cases e:p.1=k
  .rw[if_pos e,if_pos (h1.symm.trans e)];exact⟨h1,ry⟩
  .rw[if_neg e,if_neg (λz=>e (h1.trans z))];exact⟨h1,h2⟩
theorem KV.put{kvs:List (κ × V)}{vs:List (κ × Value)}(r:KV kvs vs)(k:κ){y:V}{u:Value}(ry:RelV y u):KV (putK kvs k y) (stored vs k u):=by
 unfold putK stored;rw[r.any k];by_cases e:(vs.any λkv=>decide (kv.1=k))=true
 .rw[if_pos e,if_pos e];exact r.repl k ry
 .rw[if_neg e,if_neg e];exact Paired.snoc r ⟨rfl,ry⟩
theorem KV.length{kvs:List (κ × V)}{vs:List (κ × Value)}(r:KV kvs vs):kvs.length=vs.length:=Paired.length r
end
theorem NO{P:Program}{w:World}{k:Key}{u:Value}(r:RelV (kV k) u):(ZM P w).is k u=true:=by
 cases k with
 | inl i=>obtain⟨t,e⟩:=(show ∃ t,u=Value.int i t from r);subst e;exact ba P w i t
 | inr x=>obtain⟨t,e⟩:=(show ∃ t,u=Value.str x t from r);subst e;exact aZ P w x t
theorem ij{P:Program}{w:World}:∀ {ks:List Key} {us:Ag},Vals (ks.map kV) us->ItemsAre (ZM P w) ks us
 | [],_,r=>by rw[zD]at r;cases r;exact .nil
 | k :: ks,_,r=>by
  rw[YV]at r;cases r with
  | cons h t=>exact .cons (NO h) (ij t)
abbrev KT(H:Hp):List (List Key × V)->List (List Key × Addr × Value)->Prop:=Paired λp q=>p.1=q.1/\H q.2.1=some (.tup (p.1.map kV))/\RelV p.2 q.2.2
theorem KT.val{H:Hp}{kvs:List (List Key × V)}{xs:List (List Key × Addr × Value)}(r:KT H kvs xs)(k:List Key):RelO (Xm kvs k) ((atKey xs k).map (·.2)):=by
 induction r with
 | nil=>exact True.intro
 | @cons p q ps qs h t ih =>
  obtain⟨h1,_,h2⟩:=h;by_cases e:p.1=k
  .have e':q.1=k:=h1.symm.trans e;have b:atKey (q :: qs) k=some q.2:=by simp[atKey,HU,e']
   rw[ZX e,b];exact h2
  .have e':¬ q.1=k:=λz=>e (h1.trans z);have b:atKey (q :: qs) k=atKey qs k:=by simp[atKey,HU,e']
   rw[ZY e,b];exact ih
theorem KT.repl{H:Hp}{kvs:List (List Key × V)}{xs:List (List Key × Addr × Value)}(r:KT H kvs xs)(k:List Key){y:V}{u:Value}(ry:RelV y u) :
  KT H (kvs.map λkv=>if kv.1=k then (kv.1,y) else kv) (xs.map (putAt k u)):=by
 induction r with
 | nil=>exact .nil
 | @cons p q ps qs h t ih =>
  rw[YV,YV];refine .cons ?_ ih;obtain⟨h1,h2,h3⟩:=h;unfold putAt;by_cases e:p.1=k
  .rw[if_pos e,if_pos (h1.symm.trans e)];exact⟨h1,h2,ry⟩
  .rw[if_neg e,if_neg (λz=>e (h1.trans z))];exact⟨h1,h2,h3⟩
theorem KT.put{H:Hp}{kvs:List (List Key × V)}{xs:List (List Key × Addr × Value)}(r:KT H kvs xs)(k:List Key){b:Addr}{y:V}{u:Value}(hb:H b=some (.tup (k.map kV)))(ry:RelV y u) :
  KT H (putK kvs k y) (storedH xs k b u):=by
 have e:(kvs.any λkv=>decide (kv.1=k))=(atKey xs k).isSome:=by rw[EW,(r.val k).isSome_eq,Option.isSome_map]
 unfold putK storedH;rw[e];by_cases q:(atKey xs k).isSome=true
 .rw[if_pos q,if_pos q];exact r.repl k ry
 .rw[if_neg q,if_neg q];exact Paired.snoc r ⟨rfl,hb,ry⟩
theorem KT.keeps{H H':Hp}{kvs:List (List Key × V)}{xs:List (List Key × Addr × Value)}(r:KT H kvs xs)(ht:∀ b ys,H b=some (.tup ys)->H' b=some (.tup ys)):KT H' kvs xs :=
 Paired.mapP r λ_ _ z=>⟨z.1,ht _ _ z.2.1,z.2.2⟩
section
variable{P:Program}{w:World}{H:Hp}{h:Heap}{a:Addr}
theorem EU{u:HO}(ok:HOk P w H h)(e:Rd H a u):ObjOk P w H h a u:=e.ok ok
theorem JX{kvs:List (Key × V)}(ok:HOk P w H h)(e:Rd H a (.dK kvs)):kvs.length<=sizeLine/\(a == sysModules)=false/\∃ vs,KV kvs vs/\h.DictOf (ZM P w) a vs :=
 show ObjOk P w H h a (.dK kvs) from EU ok e
theorem NN{kvs:List (Key × V)}(ok:HOk P w H h)(e:H a=some (.dK kvs)):kvs.length<=sizeLine/\(a == sysModules)=false/\∃ vs,KV kvs vs/\h.DictOf (ZM P w) a vs:=JX ok (.inl e)
theorem JW{ks:List Key}(ok:HOk P w H h)(e:H a=some (.tup (ks.map kV))):(tupleKind (ZM P w)).is h ks a:=by obtain⟨_,XW,r,o,h1,h2,n,h3⟩:=(show ObjOk P w H h a (.tup (ks.map kV)) from ok a _ e);exact⟨o,XW.toArray,n,h1,h2,h3,by simpa using ij r⟩
theorem JV{kvs:List (List Key × V)}(ok:HOk P w H h)(e:Rd H a (.dT kvs)):kvs.length<=sizeLine/\(a == sysModules)=false /\
  ∃ xs,KT H kvs xs/\h.DictOfH (tupleKind (ZM P w)) a xs:=by
 obtain⟨z,y,xs,r,o,es,ep,h1,h2,h3,h4,h5⟩:=(show ObjOk P w H h a (.dT kvs) from EU ok e);refine⟨z,y,xs,r,o,es,ep,h1,h2,h3,h4,λx hx=>?_,h5⟩;have all:∀ {l:List (List Key × V)} {m:List (List Key × Addr × Value)},KT H l m->∀ x∈m,(tupleKind (ZM P w)).is h x.1 x.2.1:=by
  intro l m q
  induction q with
  | nil=>intro x hx;exact nomatch hx
  | @cons p q ps qs hq t ih =>
   intro x hx;rcases Yj.mp hx with e | hx
   .subst e;exact JW ok (by rw[<- hq.1];exact hq.2.1)
   .exact ih x hx
 exact all r x hx
theorem ET{kvs:List (List Key × V)}(ok:HOk P w H h)(e:H a=some (.dT kvs)):kvs.length<=sizeLine/\(a == sysModules)=false /\
  ∃ xs,KT H kvs xs/\h.DictOfH (tupleKind (ZM P w)) a xs:=JV ok (.inl e)
end
def DGet(H:Hp)(a:Addr)(y:V)(r:Option V):Prop :=
 (∃ kvs k,Rd H a (.dK kvs)/\y=kV k/\r=Xm kvs k)\/∃ kvs k b,Rd H a (.dT kvs)/\y=.ref b/\H b=some (.tup (k.map kV))/\r=Xm kvs k
def DPut(H:Hp)(a:Addr)(y v:V)(H':Hp):Prop :=
 (∃ kvs k,H a=some (.dK kvs)/\y=kV k/\kvs.length<sizeLine/\H'=upd H a (.dK (putK kvs k v))) \/
 ∃ kvs k b,H a=some (.dT kvs)/\y=.ref b/\H b=some (.tup (k.map kV))/\kvs.length<sizeLine/\H'=upd H a (.dT (putK kvs k v))
theorem DGet.k{H:Hp}{a:Addr}{kvs:List (Key × V)}{k:Key}(e:H a=some (.dK kvs)):DGet H a (kV k) (Xm kvs k):=.inl ⟨kvs,k,.inl e,rfl,rfl⟩
theorem DPut.k{H:Hp}{a:Addr}{kvs:List (Key × V)}{k:Key}{v:V}(e:H a=some (.dK kvs))(hl:kvs.length<sizeLine):DPut H a (kV k) v (upd H a (.dK (putK kvs k v))):=.inl ⟨kvs,k,e,rfl,hl,rfl⟩
section
variable{X:Cx}{pins:List (Addr × Obj)}{σ:St}{H:Hp}{s:Shared}{a:Addr}{y v:V}{u r:Value}{A:Around}{E:Ae}
theorem Inv.big(I:Inv X pins σ H s):sysModules<s.heap.objs.size:=by have h:mainGlobals<s.heap.objs.size:=(I.mod.glob.keeps I.bk).lt;exact Nat.lt_trans (by decide) h
theorem uD{h':Heap}{t':Nat}{ob:HO}(I:Inv X pins σ H s)(mu:Gk (H a))(hs:Heap.SameBut a s.heap h')(he:∃ q,h'.get? a=some q)(new:ObjOk X.prog X.w (upd H a ob) h' a ob) :
  Inv X pins σ (upd H a ob) { s with heap:=h',toks:=t' } :=
 I.write (x:=a) (e:=a) mu (.inl rfl) (λb q hb z=>(hs.2 b hb).trans z) he new
theorem ES{P:Program}{w:World}{H':Hp}{h':Heap}{kvs:List (Key × V)}{vs:List (Key × Value)}(z:kvs.length<=sizeLine)(hd:(a == sysModules)=false)(rel:KV kvs vs)(dd:h'.DictOf (ZM P w) a vs) :
  ObjOk P w H' h' a (.dK kvs):=⟨z,hd,vs,rel,dd⟩
theorem ae{H':Hp}{Q:Unit->Shared->Prop}(hu:A.units+1<cLine)(I:Inv X pins σ H s)(g:DPut H a y v H')(ry:RelV y u)(rv:RelV v r)(h:∀ s',Inv X pins σ H' s'->Q () s') :
  wpAny (model X.prog X.w) A (setItem (.ref a) u r) Q E s:=by
 rcases g with ⟨kvs,k,e,ey,l,eH⟩ | ⟨kvs,k,b,e,ey,eb,l,eH⟩
 .subst ey eH;obtain⟨z,hd,vs,rel,dd⟩:=NN I.hok e;have hz:vs.length<=sizeLine:=by rw[<- rel.length];exact z
  have hl:(putK kvs k v).length<=sizeLine:=by have:=zf kvs k v;omega
  refine wpAny_setItem_pairs (hsz:=hz) (NO ry) dd λh' JU hs=>h _ ?_;have he:∃ q,h'.get? a=some q:=let ⟨q,_,_,hq,_⟩:=JU;⟨q,hq⟩
  exact uD I (by rw[e];exact True.intro) hs he (ES hl hd (rel.put k rv) JU)
 .subst ey eH;cases (show u=Value.ref b from ry);obtain⟨z,hd,xs,rel,dd⟩:=ET I.hok e;have hz:xs.length<=sizeLine:=by rw[<- Paired.length rel];exact z
  have hl:(putK kvs k v).length<=sizeLine:=by have:=zf kvs k v;omega
  refine wpAny_setItem_heap (hsz:=hz) (tupleKind_room_in1 hu) (JW I.hok eb) dd λh' JU hs=>h _ ?_;obtain⟨q,es,ep,hq,h2,h3,h4,_,h5⟩:=JU;refine uD I (by rw[e];exact True.intro) hs ⟨q,hq⟩ ⟨hl,hd,_,(rel.put k eb rv).keeps λc ys ec=>?_,q,es,ep,hq,h2,h3,h4,h5⟩;rw[Zb (QX ec e (λz=>nomatch z))];exact ec
end
def uz(td ty tv:TE):TS:=λD σ H=>tv σ H λv H1=>td σ H1 λx H2=>ty σ H2 λy H3=>∃ a H4,x=.ref a/\DPut H3 a y v H4/\D.nx σ H4
section
variable{X:Cx}{o i value:Expr}{pos pos':Pos}{td ty tv:TE}
theorem uw(hu:X.A.units+1<cLine)(ho:PE X o td)(hi:PE X i ty)(hv:PE X value tv)(hs:swapsWith value (some (.Subscript o i pos')) pos.line X.env=pure false) :
  PS X (.Assign [.Subscript o i pos'] value pos) (uz td ty tv):=by intro pins s σ H D I h;refine wpAny_Assign_Subscript (thn (hv pins s σ H _ I h) λr s1 ⟨v,H1,I1,rv,q1⟩=>thn (ho pins s1 σ H1 _ I1 q1) λu s2 ⟨x,H2,I2,rx,q2⟩=>thn (hi pins s2 σ H2 _ I2 q2) λiv s3 Xv=>?_) hs;obtain⟨y,H3,I3,ry,a,H4,ex,g,q3⟩:=Xv;subst ex;obtain rfl:u=Value.ref a:=rx;exact ae hu I3 g ry rv λs4 I4=>⟨σ,H4,I4,q3⟩
end
theorem uu {P:Program} {w:World} {H:Hp} (h:Heap) (hb:sysModules<h.objs.size):ObjOk P w H (h.push { cls:=.type "dict",data:=.dict #[] }) h.objs.size (.dK []) :=
 ⟨Yl _,GO.mpr (YZ (Yx hb)),[],.nil,Heap.DictOf.new h⟩
def ur:TE:=λ_ H Q=>∀ p,H p=none->Q (.ref p) (upd H p (.dK []))
section
variable{X:Cx}{pos:Pos}
theorem ig:PE X (.Dict [] [] pos) ur:=λpins s σ H Q I h =>
 wpAny_Dict_empty ⟨.ref s.heap.objs.size,_,I.laid (a:=s.heap.objs.size) (o:=.dK []) (t':=s.toks) (λ_ _ q=>WZ _ q) (XN _) (uu s.heap I.big),rfl,h _ (I.hok.fresh (XN _))⟩
end
structure M1 (X:Cx) (o:Expr) (m:Str) (apos:Pos) (e:Expr) (Xe:Pos):Prop where
 base:attributeBase o m X.env (eval o X.env)=eval o X.env
 few:((backTo Xe (starEach [e] X.env)).all (λx=>!x.1) && (backToKw Xe (keywordEach [] X.env)).all (λx=>x.1.isSome)
  && decide (([e]:List Expr).length+([]:List Keyword).length+(if ([]:List Keyword).isEmpty then 0 else 1)<30))=true
 line:(apos.endLine == Xe.line)=true
 trees:backTo Xe (starEach [e] X.env)=[(false,eval e X.env)]
structure M2 (X:Cx) (o:Expr) (m:Str) (apos:Pos) (e f:Expr) (Xe:Pos):Prop where
 base:attributeBase o m X.env (eval o X.env)=eval o X.env
 few:((backTo Xe (starEach [e,f] X.env)).all (λx=>!x.1) && (backToKw Xe (keywordEach [] X.env)).all (λx=>x.1.isSome)
  && decide (([e,f]:List Expr).length+([]:List Keyword).length+(if ([]:List Keyword).isEmpty then 0 else 1)<30))=true
 line:(apos.endLine == Xe.line)=true
 trees:backTo Xe (starEach [e,f] X.env)=[(false,eval e X.env),(false,eval f X.env)]
def ie(H:Hp)(a:Addr):Prop:=(∃ kvs,Rd H a (.dK kvs))\/∃ kvs,Rd H a (.dT kvs)
theorem uq{X:Cx}{pins:List (Addr × Obj)}{σ:St}{H:Hp}{s:Shared}{a:Addr}(I:Inv X pins σ H s)(d:ie H a) :
  s.TypeIs (.ref a) "dict"/\(∀ b,Value.ref a=.ref b->∃ ob,s.heap.get? b=some ob/\ob.dict=none)/\(a == sysModules)=false:=by
 rcases d with ⟨kvs,e⟩ | ⟨kvs,e⟩
 .obtain⟨_,hd,vs,_,dd⟩:=JX I.hok e;refine⟨dd.typeIs,λb q=>?_,hd⟩;cases q;obtain⟨ob,_,_,h1,h2,_⟩:=dd;exact⟨ob,h1,h2.2.1⟩
 .obtain⟨_,hd,xs,_,dd⟩:=JV I.hok e;refine⟨dd.typeIs,λb q=>?_,hd⟩;cases q;obtain⟨ob,_,_,h1,h2,_⟩:=dd;exact⟨ob,h1,h2.2.1⟩
section
variable{X:Cx}{pins:List (Addr × Obj)}{σ:St}{H:Hp}{s:Shared}{a:Addr}{y d:V}{u r:Value}{o:Option V}{A:Around}{E:Ae}
theorem uo{Q:Ae}(hu:A.units+1<cLine)(I:Inv X pins σ H s)(g:DGet H a y o)(ry:RelV y u)(rd:RelV d r)(h:∀ w' s',Inv X pins σ H s'->RelV (o.getD d) w'->Q w' s') :
  wpAny (model X.prog X.w) A (call (.builtin "dict.get") [.ref a,u,r]) Q E s:=by
 rcases g with ⟨kvs,k,e,ey,l⟩ | ⟨kvs,k,b,e,ey,eb,l⟩
 .subst ey;obtain⟨z,hd,vs,rel,dd⟩:=JX I.hok e;refine zy xh dd.typeIs jf (jj _ _ _) (meets_dict_get_default (ZM X.prog X.w) a (NO ry) hd r) ⟨_,dd.mapOf,h _ _ (I.tok _) ?_⟩;rw[l];exact(rel.val k).getD rd
 .subst ey;cases (show u=Value.ref b from ry);obtain⟨z,hd,xs,rel,dd⟩:=JV I.hok e;refine zy xh dd.typeIs jf (jj _ _ _) (meetsH_dict_get_default (tupleKind (ZM X.prog X.w)) a b hd r) ⟨tupleKind_room_in1 hu,k,xs,JW I.hok eb,dd,h _ _ (I.tok _) ?_⟩;rw[l];exact(rel.val k).getD rd
end
def um(td ty tx:TE):TE:=λσ H Q=>td σ H λx H1=>∃ a,x=.ref a/\ie H1 a/\ty σ H1 λy H2=>tx σ H2 λz H3=>∃ o,DGet H3 a y o/\Q (o.getD z) H3
section
variable{X:Cx}{o e f:Expr}{apos Xe:Pos}{td ty tx:TE}
theorem ab (hu:X.A.units+1<cLine) (ho:PE X o td) (he:PE X e ty) (hf:PE X f tx) (m:M2 X o "get" apos e f Xe):PE X (.Call (.Attribute o "get" apos) [e,f] [] Xe) (um td ty tx):=by
 intro pins s σ H Q I h;refine wpAny_Call_method m.base m.few m.line KN xh PySem.F.type_dict_get (thn (ho pins s σ H _ I h) λu s1 Xv=>?_);obtain⟨x,H1,I1,rx,a,ex,d,q1⟩:=Xv;subst ex;obtain rfl:u=Value.ref a:=rx;obtain⟨t1,t2,_⟩:=uq I1 d;refine⟨t1,t2,?_⟩;rw[m.trees];refine w6 rfl (Calls.evalArgs_plain (GC (thn (he pins s1 σ H1 _ I1 q1) λiv s2 ⟨y,H2,I2,ry,q2⟩ =>
  GC (thn (hf pins s2 σ H2 _ I2 q2) λfv s3 ⟨z,H3,I3,rz,ov,g,q3⟩=>zS ?_))))
 exact uo hu I3 g ry rz λw' s4 I4 Qr=>⟨_,H3,I4,Qr,q3⟩
end
end L2
namespace Att
open PySem PySem.W PySem.Calls PyProof.Rows
theorem aa{P:Params}{h:Heap}:∀(ns:Ac) (vs:Ag),WellAll P h vs (ns.map WData.int)->IntsAre vs ns:=by
 intro ns
 induction ns with
 | nil =>
  intro vs w;rw[zD]at w;cases w;exact .nil
 | cons n ns ih =>
  intro vs w;rw[YV]at w;cases w with
  | cons a b =>
   cases a;exact .cons _ _ (ih _ b)
theorem ZU7{l:OpenLaw}{n:Nat}(hn:l.most=some n){P:Params}{h:Heap}{args:List WData}{vals:Ag}
  (NM:l.row.toRowW.claim.pre args=true) (ER:WellAll P h vals args) :
  ∃ a vs ns,vals=[Value.ref a]/\args=[WData.list (ns.map WData.int)]/\h.get? a=some { cls:=.type "list",data:=.seq vs.toArray }/\IntsAre vs ns/\ns.length<=n:=by
 have hsh:WShape.hasAll [] args [.list .int]=true:=(pre_splitW NM).1;have hc:l.pre.holds [] { args:=args }=true:=(pre_splitW NM).2
 obtain⟨d,r,rfl,h1,h2⟩:=hasAllW_cons hsh;obtain rfl:=hasAllW_nil h2;obtain⟨xs,rfl,h3⟩:=hasW_list h1;obtain⟨ns,rfl⟩:=items_int h3;have hlen:ns.length<=n:=by
  unfold OpenLaw.pre at hc;have h4:(WTm.not (.lt (.lit (.int (n:Int))) (.len (.arg 0)))).holds [] { args:=[.list (ns.map .int)] }=true:=by have h4:=(holds_andW hc).1;rw[hn]at h4;exact h4
  have h5:=condW_of h4 (w_not (w_lt w_lit (w_len_list (w_arg rfl))));rw[Yd]at h5;refine Ob λq=>?_;have q':(n:Int)<((ns.length:Nat):Int):=by omega
  first
   | (rw[Yn q']at h5;exact absurd h5 (by decide))
   | (simp at h5;omega)
 cases ER with
 | cons w1 w2 =>
  cases w2;cases w1 with
  | list ho VP=>exact⟨_,_,ns,rfl,rfl,ho,aa ns _ VP,hlen⟩
theorem uj(l:OpenLaw)(args:List WData):l.row.toRowW.claim.post args (.bool true) args=true :=
 postW_of (r:=l.row.toRowW) (X:=(true == true))
  (show WShape.has [] (.bool true) .bool=true by first | rfl | decide | simp[WShape.has,WShape.arms,WShape.armsAll])
  (show(WTm.eq .res (.lit (.bool true))).value [] { args:=args,res:=some (.bool true),after:=args }=some (.bool (true == true)) from w_eq_bool (w_res rfl) w_lit) rfl
theorem Ue{l:OpenLaw}{n:Nat}{q:Program}{loose:List Str}{XP:Af->Heap->Prop}{YP:World->Heap->Prop}{d:DefRec}
  (hn:l.most=some n) (ui:d.params.defaults=[])
  (call:∀(w:World) (s₀ s₁:Shared) (mg mb:Af) (fa:Addr) (o:Obj) (pm cd doc:Value) (a:Addr) (vs:Ag) (ns:Ac),
   Ground q loose [] XP w s₀ mg mb s₁.heap->YP w s₁.heap ->
   s₁.heap.get? fa=some o->o.data=.func (docDef d.name d.params d.body d.scope pm cd doc)->s₁.heap.CodeRec cd d.name->mg d.name=some (.ref fa) ->
   s₁.heap.get? a=some { cls:=.type "list",data:=.seq vs.toArray }->IntsAre vs ns->ns.length<=n->s₁.gens=#[] ->
   codeAny (model l.prog w) callerA (.call (.ref fa) ⟨[.ref a],[]⟩) (λr s'=>r=.ok (.ret (.bool true))/\OldK s₁.heap s'.heap/\s'.os=s₁.os/\AllBare s'.gens) s₁) :
  WalkO q loose XP YP l.row.toRowW d [] (λf vs=>PySem.call f vs):=by intro w s₀ s₁ mg mb G Y fa o pm cd doc dV kV ho hd TB hD EO hg args vals as NM hlay hrd ER hlo;obtain rfl:dV=.none:=Dflts.none hD ui;obtain rfl:kV=.none:=Dflts.noKw hD;obtain⟨a,vs,ns,rfl,rfl,JT,hints,hlen⟩:=ZU7 hn NM ER;refine enter_call (Mc (call w s₀ s₁ mg mb fa o pm cd doc a vs ns G Y ho (fd_plain hd) TB EO JT hints hlen hg) λr s' hq=>?_);obtain⟨rfl,h2,h3,h4⟩:=hq;exact⟨.inl ⟨.bool true,.bool true,[],rfl,λ_=>rfl,.bool true,uj l _,λ_=>⟨List.Pairwise.nil,λ_ hm=>(nomatch hm)⟩⟩,h2,h3,h4⟩
section
def ic(h:Heap)(L d:Addr):List (Addr × Obj):=(List.range h.objs.size).filterMap λa=>if a=L\/a=d then none else (h.get? a).map λo=>(a,o)
end
end Att
namespace L2
open PySem PySem.Spec PyProof.Rows
theorem h8:∀ {vs:Ag} {ns:Ac},IntsAre vs ns->Vals (ns.map V.int) vs
 | _,_,.nil=>.nil
 | _,_,.cons n t h=>.cons ⟨t,rfl⟩ (h8 h)
abbrev XJ{K:Ad}{h:Heap}(_:K.In h):Ad:=K
def EN(s:Stmt)(j:Nat):Stmt:=match s with
 | .ClassDef _ _ _ body _ _ _ _ _ _ _=>body.getD j (.Pass ⟨0,0,0,0⟩)
 | _=>.Pass ⟨0,0,0,0⟩
def JS(s:Stmt):Arguments:=match s with
 | .FunctionDef _ a _ _ _ _ _ _ _ _=>a
 | _=>{ posonlyargs:=[],args:=[],vararg:=none,kwonlyargs:=[],kw_defaults:=[],kwarg:=none,defaults:=[] }
def OO(s:Stmt):List Stmt:=match s with
 | .FunctionDef _ _ b _ _ _ _ _ _ _=>b
 | _=>[]
def XB(s:Stmt):Scope:=match s with
 | .FunctionDef _ _ _ _ _ _ sc _ _ _=>sc
 | _=>{ kind:=.function,names:=[],isGenerator:=false,isCoroutine:=false }
abbrev Xk:OP:=λ_ _ _ _ _ _=>False
abbrev E0:XK:=λ_ _ _=>False
theorem Zp{X:Cx}:Fy Xk X E0:=λ_ _ _ _ _ _ _ h=>h.elim
structure Fun (K:Ad) (x qual:Str) (st:Stmt) (f:Addr) (fd:FuncData):Prop where
 ex:∃(oc:Value) (od:Option Addr) (kV doc pm:Value) (an:Option Addr) (Xy ct:Value) (Up:Array (Option Value)),
  fd=PySem.W.fnOf x qual (JS st) (OO st) (XB st) .none kV doc pm an Xy ct/\K.lookup f=some ⟨oc,od,.func fd,Up⟩/\PySem.W.codeIn K Xy qual=true
 kp:PySem.W.keepIn K (.ref f)=true
section
variable{P:Program}{w:World}{K:Ad}{mg:Af}{base:Heap}
theorem Fun.ok{x qual:Str}{st:Stmt}{f:Addr}{fd:FuncData}{N ps:List Str}{k:Nat}{sp:Sp}(F:Fun K x qual st f fd)(S:FnScope N ps (XB st))(len:∀ vs H Q E,sp vs H Q E->vs.length=ps.length)
  (Uh:∀(Xy:Value) (A:Around) (outer:List Env) (s:Shared) (H:Hp) (vs:List V) (Q:VK) (E:XK),Room k (A.deeper (envOfC qual (XB st) s.heap.objs.size f Xy))->sp vs H Q E ->
   ∃ t,PSs (Tb Xk P w K mg base N qual (XB st) f Xy A outer s H E).nox (OO st) t/\t { nx:=λ_ H'=>Q .non H',rt:=Q } (start N vs) H):FnOk P w K mg base Xk (k+1) f fd ps sp:=by obtain⟨oc,od,kV,doc,pm,an,Xy,ct,Up,rfl,lk,TB⟩:=F.ex;refine Fv lk TB S len λA outer s H vs Q E hr Su=>?_;obtain⟨t,h,q⟩:=Uh Xy A outer s H vs Q E hr Su;exact⟨t,h.nox,q⟩
theorem Fun.binds{x qual:Str}{st:Stmt}{f:Addr}{fd:FuncData}{ps:List Str}(F:Fun K x qual st f fd)
  (h:∀(kV doc pm:Value) (an:Option Addr) (Xy ct:Value) (us:Ag),us.length=ps.length->bindArgs (PySem.W.fnOf x qual (JS st) (OO st) (XB st) .none kV doc pm an Xy ct) ⟨us,[]⟩=pure (ps.zip us)):Binds K fd ps []:=by obtain⟨oc,od,kV,doc,pm,an,Xy,ct,Up,rfl,lk,TB⟩:=F.ex;exact .all (h kV doc pm an Xy ct)
theorem JR{x qual:Str}{st:Stmt}{f:Addr}{oc:Value}{od an:Option Addr}{Up:Array (Option Value)}{kV doc pm Xy ct:Value}(l:K.lookup f=some ⟨oc,od,.func (PySem.W.fnOf x qual (JS st) (OO st) (XB st) .none kV doc pm an Xy ct),Up⟩)
  (c:PySem.W.codeIn K Xy qual=true) (k:PySem.W.keepIn K (.ref f)=true):Fun K x qual st f (PySem.W.fnOf x qual (JS st) (OO st) (XB st) .none kV doc pm an Xy ct):=⟨⟨oc,od,kV,doc,pm,an,Xy,ct,Up,rfl,l,c⟩,k⟩
end
theorem EM{A:Around}{k:Nat}(hr:Room k A):A.units+1<cLine:=GK (Nat.add_le_add_left (by decide:1<=64) _) hr.units
section
variable{X:Cx}
theorem pv (i:Nat) {x:Str} {pos:Pos} (hN:X.N[i]?=some x:=by rfl) (hv:wj X.env.scope x:=by first | exact Or.inl rfl | exact Or.inr (Or.inl rfl) | exact Or.inr (Or.inr rfl)) (hd:(x == ("__debug__":Str))=false:=by decide)
  (TB:(x == ("__classdict__":Str))=false:=by decide):PE X (.Name x pos) (Gg i):=Gf hN hv hd TB
end
theorem Wv{A B:Prop}(h:B):if false=true then A else B:=by rw[if_neg Yw];exact h
theorem Wj{A B:Prop}(h:A):if true=true then A else B:=by rw[if_pos rfl];exact h
theorem EL{c A B:Prop}[Decidable c](h1:c->A)(h2:¬ c->B):if c then A else B:=by
 by_cases h:c
 .rw[if_pos h];exact h1 h
 .rw[if_neg h];exact h2 h
def Same(H H':Hp):Prop:=∀ b o,H b=some o->H' b=some o
theorem Same.refl(H:Hp):Same H H:=λ_ _ h=>h
theorem Same.trans{H H1 H2:Hp}(a:Same H H1)(b:Same H1 H2):Same H H2:=λc o h=>b c o (a c o h)
theorem Same.free{H H':Hp}(e:Same H H'){l:Addr}(h:H' l=Option.none):H l=Option.none:=by
 cases q:H l with
 | none=>rfl
 | some o =>
  rw[e l o q]at h;cases h
theorem Same.seq{K:Ad}{H H':Hp}{a:Addr}{xs:List V}(e:Same H H')(h:SqL K H a xs):SqL K H' a xs:=by
 rcases h with (h | ⟨o,h⟩) | h
 .exact .inl (.inl (e _ _ h))
 .exact .inl (.inr ⟨o,e _ _ h⟩)
 .exact .inr h
def EK(X:Cx)(ifs:List Expr)(t:TT):Prop :=
 ∀(pins:List (Addr × Obj)) (s:Shared) (σ:St) (H:Hp) (Q:Bool->Hp->Prop),Inv X pins σ H s->t σ H Q ->
  wpAny (model X.prog X.w) X.A (forIn ifs true λc r=>if r=true then do let ok <- isTrue c X.env (eval c X.env);pure (ForInStep.yield ok) else pure (ForInStep.yield r)) (TP X pins σ Q) X.xe s
def tYes:TT:=λ_ H Q=>Q true H
theorem QT{X:Cx}:EK X [] tYes:=λ_ _ _ H _ I h=>wpAny_tests_nil ⟨H,I,h⟩
theorem Wq{X:Cx}{c:Expr}{t:TT}(hc:PT X c t):EK X [c] t:=λpins s σ H Q I h=>wpAny_tests_one (hc pins s σ H Q I h)
theorem Zu4{prog:Program}{w:World}{A:Around}{s:Shared}{R:Result->Shared->Prop}{elt target iter:Expr}{ifs:List Expr}{scope:Scope}{pos:Pos}{it acc:Value}{env:Env}(J:Nat->Shared->Prop)
  (turn:∀ n s,J n s->wpAny (model prog w) A (pyNext it) (λr s1=>match r with
   | none=>R (.ok .next) s1
   | some v=>wpAny (model prog w) A (letOwnedTupleGo target it v) (λ_ s2=>wpAny (model prog w) A (assign target env v) (λ_ s3 =>
     wpAny (model prog w) A (forIn ifs true λc r=>if r=true then do let ok <- isTrue c env (eval c env);pure (ForInStep.yield ok) else pure (ForInStep.yield r)) (λok s4 =>
      if ok=true then wpAny (model prog w) A (eval elt env) (λx s5 =>
       wpAny (model prog w) A (call (.builtin "list.append") [acc,x]) (λ_ s6=>∃ m,m<n/\J m s6) (λ_ _=>False) s5) (λ_ _=>False) s4
      else ∃ m,m<n/\J m s4) (λ_ _=>False) s3) (λ_ _=>False) s2) (λ_ _=>False) s1) (λ_ _=>False) s)
  (n:Nat) (h:J n s):codeAny (model prog w) A (.compLoop (.ListComp elt [⟨target,iter,ifs,0⟩] scope pos) 0 it acc env) R s:=by
 refine codeAny_loop rfl J (λn s hI=>?_) n h;show wpAny _ A ((compTurn (.ListComp elt [⟨target,iter,ifs,0⟩] scope pos) 0 it acc env).onRaise (λx=>do noteFrame x env;theTreesLotGoes x)) _ _ s
 refine wpAny_noted ?_;rw[compTurn_list];refine XU (wpAny_standAt (XU (TF (turn n s hI) (λr s1 h1=>?_) λ_ _ z=>z.elim)));cases r with
 | none=>exact Yk h1
 | some v =>
  refine XU (TF h1 (λ_ s2 h2=>?_) λ_ _ z=>z.elim);refine XU (TF h2 (λ_ s3 h3=>XU (TF h3 (λok s4 h4=>?_) λ_ _ z=>z.elim)) λ_ _ z=>z.elim);cases ok with
  | false=>exact Yk ⟨rfl,h4⟩
  | true =>
   exact XU (XU (TF h4 (λx s5 h5=>XU (TF h5 (λ_ s6 h6=>Yk (Yk ⟨rfl,h6⟩)) λ_ _ z=>z.elim)) λ_ _ z=>z.elim))
def Ss(cells:List (Str × Addr)):List (Str × NameKind)->List (Str × Addr)->List (Str × Addr)
 | [],acc=>acc
 | (n,k) :: r,acc=>if k == .free then Ss cells r ((n,(cells.lookup n).getD 0) :: acc) else Ss cells r acc
theorem h7{env:Env}:∀(names:List (Str × NameKind)) (acc:List (Str × Addr)),(∀ y∈names,y.2=.free->∃ c,env.cells.lookup y.1=some c) ->
  (forIn names acc λ(x:Str × NameKind) (cs:List (Str × Addr))=>(if (x.2 == .free)=true then do let a <- cellOf env x.1;pure (ForInStep.yield ((x.1,a) :: cs)) else pure (ForInStep.yield cs):Sem (ForInStep (List (Str × Addr)))))=pure (Ss env.cells names acc)
 | [],acc,_=>rfl
 | (n,k) :: r,acc,h=>by
  have ih:=λacc=>h7 r acc λy hy=>h y (Yi _ hy);rw[List.forIn_cons];unfold Ss;by_cases hk:(k == NameKind.free)=true
  .obtain⟨c,hc⟩:=h (n,k) Ye (by simpa using hk);have e:cellOf env n=pure c:=by unfold cellOf;rw[show env.cells.lookup n=some c from hc]
   simp only [hk,OT,e,pure_bind];rw[ih,show env.cells.lookup n=some c from hc];rfl
  .simp only [hk,GI,KH,pure_bind];exact ih acc
theorem ZD7{env:Env}{scope:Scope}(h:∀ y∈scope.names,y.2=.free->∃ c,env.cells.lookup y.1=some c):closureFor scope env=pure (Ss env.cells scope.names []):=by have e:=h7 scope.names [] h;unfold closureFor;simp only [bind_pure]at e ⊢;exact e
theorem uh{env:Env}:∀(names:List (Str × NameKind)) (acc:List (Str × Addr)),(∀ y∈names,y.2=.free->∃ c,env.cells.lookup y.1=some c)->(∀ x c,acc.lookup x=some c->env.cells.lookup x=some c) ->
  ∀ x c,(Ss env.cells names acc).lookup x=some c->env.cells.lookup x=some c
 | [],acc,_,ha,x,c,e=>ha x c e
 | (n,k) :: r,acc,h,ha,x,c,e=>by
  unfold Ss at e;by_cases hk:(k == NameKind.free)=true
  .rw[if_pos hk]at e;obtain⟨d,hd⟩:=h (n,k) Ye (by simpa using hk);refine uh r _ (λy hy=>h y (Yi _ hy)) (λy b q=>?_) x c e;rw[Mj]at q;by_cases hy:(y == n)=true
   .rw[hy]at q;have JQ:y=n:=by simpa using hy
    have HM:env.cells.lookup n=some d:=hd;rw[HM]at q;have q':d=b:=Yg q
    rw[JQ,HM,q']
   .have JQ:(y == n)=false:=by simpa using hy
    rw[JQ]at q;exact ha y b q
  .rw[if_neg hk]at e;exact uh r acc (λy hy=>h y (Yi _ hy)) ha x c e
theorem ug{cells:List (Str × Addr)}:∀(names:List (Str × NameKind)) (acc:List (Str × Addr)) (x:Str),(acc.lookup x).isSome=true->((Ss cells names acc).lookup x).isSome=true
 | [],_,_,h=>h
 | (n,k) :: r,acc,x,h=>by
  unfold Ss;by_cases hk:(k == NameKind.free)=true
  .rw[if_pos hk];refine ug r _ x ?_;rw[Mj];by_cases hx:(x == n)=true
   .rw[hx];rfl
   .have Ve:(x == n)=false:=by simpa using hx
    rw[Ve];exact h
  .rw[if_neg hk];exact ug r acc x h
theorem ze{cells:List (Str × Addr)}:∀(names:List (Str × NameKind)) (acc:List (Str × Addr)) (x:Str),(x,NameKind.free)∈names->((Ss cells names acc).lookup x).isSome=true
 | [],_,_,h=>nomatch h
 | (n,k) :: r,acc,x,h=>by
  unfold Ss;rcases Yj.mp h with e | h
  .cases e;rw[if_pos (by rfl)];refine ug r _ _ ?_;rw[Mj];simp
  .by_cases hk:(k == NameKind.free)=true
   .rw[if_pos hk];exact ze r _ x h
   .rw[if_neg hk];exact ze r _ x h
theorem NL{env:Env}:∀ {names:List (Str × NameKind)} {x:Str} {k:NameKind},(names.map λ(n,k)=>if (k == NameKind.free && env.scope.kind == .function && env.kindOf n == some .cell) then (n,NameKind.cell) else (n,k)).lookup x=some k ->
  (k=.cell\/k=.free)->(x,NameKind.free)∈names\/(x,NameKind.cell)∈names
 | [],_,_,h,_=>by simp at h
 | (n,q) :: r,x,k,h,hk=>by
  have h':List.lookup x ((if (q == NameKind.free && env.scope.kind == .function && env.kindOf n == some .cell)=true then (n,NameKind.cell) else (n,q)) :: r.map λ(n,k)=>if (k == NameKind.free && env.scope.kind == .function && env.kindOf n == some .cell) then (n,NameKind.cell) else (n,k))=some k:=h;by_cases hc:(q == NameKind.free && env.scope.kind == .function && env.kindOf n == some .cell)=true
  .rw[if_pos hc,Mj]at h';have hq:q=.free:=by simp only [Tn,RY]at hc;exact hc.1.1
   by_cases hx:(x == n)=true
   .have Ve:x=n:=by simpa using hx
    subst Ve;subst hq;exact .inl Ye
   .have Ve:(x == n)=false:=by simpa using hx
    rw[Ve]at h';rcases NL (env:=env) h' hk with z | z
    .exact .inl (Yi _ z)
    .exact .inr (Yi _ z)
  .rw[if_neg hc,Mj]at h';by_cases hx:(x == n)=true
   .rw[hx]at h';have Ve:x=n:=by simpa using hx
    subst Ve;have e:q=k:=Yg h'
    subst e;rcases hk with rfl | rfl
    .exact .inr Ye
    .exact .inl Ye
   .have Ve:(x == n)=false:=by simpa using hx
    rw[Ve]at h';rcases NL (env:=env) h' hk with z | z
    .exact .inl (Yi _ z)
    .exact .inr (Yi _ z)
theorem uf{env:Env}:∀ {names:List (Str × NameKind)} {x:Str},names.lookup x=some .free ->
  (names.map λ(n,k)=>if (k == NameKind.free && env.scope.kind == .function && env.kindOf n == some .cell) then (n,NameKind.cell) else (n,k)).lookup x=some .cell \/
  (names.map λ(n,k)=>if (k == NameKind.free && env.scope.kind == .function && env.kindOf n == some .cell) then (n,NameKind.cell) else (n,k)).lookup x=some .free
 | [],_,h=>by simp at h
 | (n,q) :: r,x,h=>by
  show List.lookup x ((if (q == NameKind.free && env.scope.kind == .function && env.kindOf n == some .cell)=true then (n,NameKind.cell) else (n,q)) :: _)=_\/List.lookup x ((if (q == NameKind.free && env.scope.kind == .function && env.kindOf n == some .cell)=true then (n,NameKind.cell) else (n,q)) :: _)=_;rw[Mj]at h;by_cases hc:(q == NameKind.free && env.scope.kind == .function && env.kindOf n == some .cell)=true
  .rw[if_pos hc,Mj];by_cases hx:(x == n)=true
   .rw[hx];exact .inl rfl
   .have Ve:(x == n)=false:=by simpa using hx
    rw[Ve]at h ⊢;exact uf h
  .rw[if_neg hc,Mj];by_cases hx:(x == n)=true
   .rw[hx]at h ⊢;exact .inr h
   .have Ve:(x == n)=false:=by simpa using hx
    rw[Ve]at h ⊢;exact uf h
def UW(X:Cx)(N':List Str)(scope:Scope)(C:Addr)(s:Shared)(H:Hp)(fp:List Addr):Cx where
 prog:=X.prog
 w:=X.w
 K:=X.K
 mg:=X.mg
 base:=X.base
 A:=X.A
 N:=N'
 s₀:=s
 H₀:=H
 env:=compEnvC scope (Ss X.env.cells scope.names []) C X.env
 outer:=X.stack
 stack:=X.stack
 ex:=fp
 fn:=λ_=>false
 calm:=X.calm
 pn:=[]
 xe:=λ_ _=>False
def σC(o:Nat)(fr:List Nat)(σ:St):St:=List.replicate o none++fr.map λj=>(σ[j]?).join
structure CompScope (sc0:Scope) (N N':List Str) (o:Nat) (fr:List Nat) (scope:Scope):Prop where
 kind:scope.kind=.function
 nocell:(scope.names.all λy=>y.2 != .cell)=true
 loc:(scope.names.all λy=>y.2 != .local || scope.names.lookup y.1 == some .local)=true
 free:(scope.names.all λy=>y.2 != .free || sc0.names.lookup y.1 == some .cell || sc0.names.lookup y.1 == some .free)=true
 len:N'.length=o+fr.length
 sees:((List.range fr.length).all λj=>match fr[j]? with
  | none=>false
  | some y=>match N[y]? with
   | none=>false
   | some x=>N'[o+j]? == some x && scope.names.lookup x == some .free)=true
def LP(J:It)(g:TG)(tt:TT)(te:TE)(o:Nat)(fr:List Nat)(σ:St)(H1:Hp)(Q:VK):Prop:=∃ W:Nat->Nat->List V->Hp->Prop,(∃ m,W 0 m [] H1)/\∀ i m ys H,W i m ys H ->
 (J.stop i H/\ys.length<=sizeLine/\∀ p,H p=none->Q (.ref p) (upd H p (.lst ys))) \/
 (J.go i H/\ys.length<sizeLine/\∀ x H',J.yld i H x H'->g x (σC o fr σ) H' λσ2 H2=>tt σ2 H2 λb H3=>if b=true then te σ2 H3 λy H4=>∃ m',m'<m/\W (i+1) m' (ys++[y]) H4 else ∃ m',m'<m/\W (i+1) m' ys H3)
def ue(wi:TI)(g:TG)(tt:TT)(te:TE)(o:Nat)(fr:List Nat):TE:=λσ H Q=>wi σ H λJ H1=>LP J g tt te o fr σ H1 Q
def Qo(o:Nat)(g:TG):Prop:=∀(x:V) (ow fr:St) (H:Hp) (Q:St->Hp->Prop),ow.length=o->g x (ow++fr) H Q->g x (ow++fr) H λσ2 H2=>(∃ EJ,EJ.length=o/\σ2=EJ++fr)/\Q σ2 H2
theorem Zv{o i:Nat}(h:i<o):Qo o (Th i):=λx ow fr H Q hl q=>⟨⟨ow.set i (some x),by rw[Ti];exact hl,by rw[List.set_append_left _ _ (by lia)]⟩,q⟩
def NK(o:Nat)(g:Qy):Prop:=∀(xs:List V) (ow fr:St) (H:Hp) (Q:St->Hp->Prop),ow.length=o->g xs (ow++fr) H Q->g xs (ow++fr) H λσ2 H2=>(∃ EJ,EJ.length=o/\σ2=EJ++fr)/\Q σ2 H2
theorem EI{o:Nat}:NK o FZ:=λ_ ow _ _ _ hl ⟨e,q⟩=>⟨e,⟨ow,hl,rfl⟩,q⟩
theorem ON{o i:Nat}{u:Qy}(h:i<o)(h2:NK o u):NK o (FY (Th i) u):=by
 rintro xs ow fr H Q hl ⟨v,r,rfl,q⟩;refine⟨v,r,rfl,?_⟩;have q':u r ((ow++fr).set i (some v)) H Q:=q
 show u r ((ow++fr).set i (some v)) H _;rw[List.set_append_left _ _ (by omega)]at q' ⊢;exact h2 r (ow.set i (some v)) fr H Q (by rw[Ti];exact hl) q'
theorem EH{K:Ad}{o n:Nat}{u:Qy}(h:NK o u):Qo o (Ks K n u):=by rintro x ow fr H Q hl ⟨a,xs,rfl,hs,hn,q⟩;exact⟨a,xs,rfl,hs,hn,h xs ow fr H Q hl q⟩
section
variable{X:Cx}{pins:List (Addr × Obj)}{σ:St}{H:Hp}{s:Shared}{N':List Str}{o:Nat}{fr:List Nat}{scope:Scope}{fp:List Addr}
abbrev UU (us:Ag):Obj:={ cls:=.type "list",data:=.seq us.toArray us.length }
theorem CompScope.nocell'{sc0:Scope}{N:List Str}(S:CompScope sc0 N N' o fr scope):∀ y∈scope.names,y.2≠.cell:=λy hy e=>by have q:=QE.mp S.nocell y hy;rw[e]at q;exact absurd q (by decide)
theorem CompScope.loc'{sc0:Scope}{N:List Str}(S:CompScope sc0 N N' o fr scope):∀ y∈scope.names,y.2=.local->scope.names.lookup y.1=some .local:=λy hy e=>by have q:=QE.mp S.loc y hy;rw[e]at q;simpa using q
theorem CompScope.free'{sc0:Scope}{N:List Str}(S:CompScope sc0 N N' o fr scope)(hs:X.env.scope=sc0):∀ y∈scope.names,y.2=.free->X.env.kindOf y.1=some .cell\/X.env.kindOf y.1=some .free:=λy hy e=>by
 have q:=QE.mp S.free y hy;rw[e]at q;show X.env.scope.names.lookup y.1=_\/X.env.scope.names.lookup y.1=_
 rw[hs];simpa using q
theorem CompScope.sees'{sc0:Scope}{N:List Str}(S:CompScope sc0 N N' o fr scope):∀ j y,fr[j]?=some y->∃ x,N[y]?=some x/\N'[o+j]?=some x/\scope.names.lookup x=some .free:=λj y e=>by
 have hj:j<fr.length:=(Xs.mp e).1;have q:=QE.mp S.sees j (YJ.mpr hj)
 rw[e]at q;dsimp only at q;cases ex:N[y]? with
 | none=>rw[ex]at q;cases q
 | some x =>
  rw[ex]at q;dsimp only at q;rw[Tn,RY,RY]at q;exact⟨x,rfl,q.1,q.2⟩
theorem CompScope.cells{sc0:Scope}{N0:List Str}(S:CompScope sc0 N0 N' o fr scope)(hs:X.env.scope=sc0)(I:Inv X pins σ H s):∀ y∈scope.names,y.2=.free->∃ c,X.env.cells.lookup y.1=some c:=λy hy e=>I.ok.has y.1 (S.free' hs y hy e)
theorem CompScope.sub{sc0:Scope}{N0:List Str}(S:CompScope sc0 N0 N' o fr scope)(hs:X.env.scope=sc0)(I:Inv X pins σ H s):∀ x c,(Ss X.env.cells scope.names []).lookup x=some c->X.env.cells.lookup x=some c :=
 uh (env:=X.env) scope.names [] (S.cells hs I) (λ_ _ z=>nomatch z)
theorem Inv.block{sc0:Scope}{N0:List Str}(S:CompScope sc0 N0 N' o fr scope)(hs:X.env.scope=sc0)(hN:X.N=N0)(I:Inv X pins σ H s)(hf:∀ b∈fp,FpOk X pins H b)(NJ:∀ b∈fp,b<s.heap.objs.size){h1:Heap}{C D:Addr}{m:Af}{us:Ag}{t:Nat}
  (hC:s.heap.objs.size<=C) (hD:s.heap.objs.size<=D) (OM:D≠C)
  (old:∀ b ob,s.heap.get? b=some ob->h1.get? b=some ob) (hn:h1.Ns C m) (ha:h1.get? D=some (UU us)):Inv (UW X N' scope C s H fp) [(D,UU us)] (σC o fr σ) H { s with heap:=h1,toks:=t }:=by
 have sub:=S.sub hs I;have frC:∀ b∈UJ X.stack,b<s.heap.objs.size:=λb hb=>by obtain⟨_,ob,ho,_⟩:=I.stack.mem hb;exact Yo ho
 refine⟨⟨I.ok.mod,S.kind,I.ok.glob,I.ok.blt,hC,λx y c h1 h2=>I.ok.inj x y c (sub x c h1) (sub y c h2),λx hx=>?_,λx c hfx _=>(nomatch hfx),I.ok.hd,I.ok.frames,.inl rfl,λb hb=>?_,I.bs,Yv I.ok.bsz I.sz,λb ob e hb=>?_,λb hb Qn=>?_,I.stack,I.stkFree⟩,
  rfl,I.bare,Un.kept old,⟨m,hn,λi x v e1 e2 e3=>?_⟩,λx c e=>?_,I.hok.fresh hC,λx c e=>I.freeC x c (sub x c e),λp hp=>?_,I.hok.kept old,?_⟩
 .have Ve:(relabel scope X.env).names.lookup x=some .cell\/(relabel scope X.env).names.lookup x=some .free:=hx;have key:(x,NameKind.free)∈scope.names:=by
   rcases Ve with z | z
   .rcases NL (env:=X.env) z (.inl rfl) with q | q
    .exact q
    .exact absurd rfl (S.nocell' _ q)
   .rcases NL (env:=X.env) z (.inr rfl) with q | q
    .exact q
    .exact absurd rfl (S.nocell' _ q)
  exact z9.mp (ze (cells:=X.env.cells) scope.names [] x key)
 .obtain⟨f0,f1,f2,f3,f4,f5⟩:=hf b hb;exact⟨Yx (Yr (NJ b hb) hC),λx c e=>f4 x c (sub x c e)⟩
 .obtain⟨f0,f1,f2,f3,f4,f5⟩:=hf b hb;rcases f3 with z | z
  .exact I.ok.noex b ob e z
  .exact absurd (Yr (Yo e) (Yv I.ok.bsz z)) (QY _)
 .obtain⟨f0,f1,f2,f3,f4,f5⟩:=hf b hb;rcases Yj.mp (I.stkSub b Qn) with z | z
  .exact f1 z
  .exact f2 z
 .unfold σC at e2;by_cases hi:i<o
  .rw[Ys (by rw[YH];exact hi),z7,if_pos hi]at e2;cases e2
  .rw[Yp (by rw[YH];exact Nat.not_lt.mp hi),YH,Yq]at e2;cases hy:fr[i - o]? with
   | none=>rw[hy]at e2;cases e2
   | some y =>
    rw[hy]at e2;have zd:(σ[y]?).join=some v:=Yg e2
    have e3':σ[y]?=some (some v):=by
     cases q:σ[y]? with
     | none=>rw[q]at zd;cases zd
     | some z=>rw[q]at zd;exact Xw some zd
    obtain⟨x',s2,s1,s3⟩:=S.sees' (i - o) y hy;rw[<- hN]at s2;rw[show o+(i - o)=i by grind]at s1;have ex:x=x':=by have e1':N'[i]?=some x:=e1;rw[e1']at s1;exact Yg s1
    subst ex;have hmem:=Lb s3
    obtain⟨m0,_,hl⟩:=I.loc;have hk:=S.free' hs (x,.free) hmem rfl
    obtain⟨u,ru,lk⟩:=hl y x v s2 e3' (by rcases hk with z | z;exact .inr (.inl z);exact .inr (.inr z));refine⟨u,ru,.inr ⟨uf (env:=X.env) s3,?_⟩⟩;obtain⟨c',WE⟩:=z9.mp (ze (cells:=X.env.cells) scope.names [] x hmem);refine⟨c',WE,?_⟩;rcases lk with ⟨z,_⟩ | ⟨_,c,e,ob,ho,hd⟩
    .rcases hk with z' | z'
     .rw[z]at z';cases z'
     .rw[z]at z';cases z'
    .have ec:c=c':=by
      have:=sub x c' WE
      rw[e]at this;exact Yg this
     subst ec;exact⟨ob,old _ _ ho,hd⟩
 .obtain⟨v,ob,ho,hd⟩:=I.cell x c (sub x c e);exact⟨v,ob,old _ _ ho,hd⟩
 .have e:p=(D,UU us):=by simpa using (show p∈([]:List (Addr × Obj))++[(D,UU us)] from hp)
  subst e;refine⟨ha,I.hok.fresh hD,OM,λz=>absurd (Yr (frC D z) hD) (QY _),λv z=>nomatch z⟩
 .show(σC o fr σ).length=N'.length;unfold σC;rw[Xt,YH,Yd,S.len]
theorem Inv.unblock(I:Inv X pins σ H s)(hf:∀ b∈fp,FpOk X pins H b){C D:Addr}{us:Ag}{ys:List V}{σ':St}{H':Hp}{s':Shared}(hC:s.heap.objs.size<=C)(hD:s.heap.objs.size<=D)(OM:D≠C)
  (I':Inv (UW X N' scope C s H fp) [(D,UU us)] σ' H' s') (r:Vals ys us) (hz:ys.length<=sizeLine):∃ oC m,s'.heap.get? C=some oC/\s'.heap.Ns C m/\Inv X (pins++[(C,oC)]) σ (upd H' D (.lst ys)) s':=by
 obtain⟨aD,nD,_,_,_⟩:=I'.pin (D,UU us) (by simp);have aD:s'.heap.get? D=some (UU us):=aD
 have nD:H' D=none:=nD;have un:Un (UJ X.stack) fp H H' s.heap s'.heap:=I'.base
 have lt:∀ b u,H b=some u->b≠D:=λb u e=>Yx (Yr (I.hok.lt e) hD);have VW:Un (UJ X.stack) fp H (upd H' D (.lst ys)) s.heap s'.heap:=by
  refine⟨un.keep,un.slot,λb ob e n hx=>?_,un.there,λb xs e=>?_,λb ob u e=>?_,λb ps e=>?_⟩
  .rw[Zb (Yx (Yr (Yo e) hD))];exact un.free b ob e n hx
  .rw[Zb (lt b _ e)];exact un.tups b xs e
  .rw[Zb (lt b _ e)];exact un.frzs b ob u e
  .obtain⟨more,q⟩:=un.tbls b ps e;exact⟨more,by rw[Zb (lt b _ e)];exact q⟩
 have hok:HOk X.prog X.w (upd H' D (.lst ys)) s'.heap:=λb u e=>by
  by_cases hb:b=D
  .subst hb;rw[XR]at e;cases e;exact⟨hz,us,us.length,r,aD⟩
  .rw[Zb hb]at e;exact(I'.hok b u e).stay (λc v _ q=>q) (λc q=>by rw[Zb (Zc q nD)];exact q) λc xs q=>by rw[Zb (Zc q nD)];exact q
 have os:s'.os=s.os:=I'.os;have J:Inv X pins σ (upd H' D (.lst ys)) s':=I.call' (ch:=fp) os VW hok I'.bare λb hb=>by obtain⟨f0,f1,f2,f3,f4,f5⟩:=hf b hb;exact⟨f3,f1,f4,f5⟩
 obtain⟨m,hn,_⟩:=I'.loc;have hn:s'.heap.Ns C m:=hn
 obtain⟨oC,es,ep,ud,hdC,_⟩:=id hn;refine⟨oC,m,ud,hn,J.pins_of λp hp=>?_⟩;rcases Xx.mp hp with z | z
 .exact J.pin p (Yf _ z)
 .have e:p=(C,oC):=by simpa using z
  subst e;have nC:H' C=none:=I'.free
  refine⟨ud,by rw[Zb (YZ OM)];exact nC,Sa (Yr I.lt hC),I.nofs hC,λv z=>?_⟩;have z':oC.data=.cell v:=z
  rw[hdC]at z';cases z'
end
section
variable{X:Cx}{N':List Str}{o:Nat}{fr:List Nat}{scope:Scope}{elt tg iter:Expr}{ifs:List Expr}{pos:Pos}{wi:TI}{g:TG}{tt:TT}{te:TE}
theorem EG(hc:X.calm=true){sc0:Scope}{N0:List Str}(S:CompScope sc0 N0 N' o fr scope)(hi:PI X tg iter wi)(ho:Qo o g)
  (hg:∀(C:Addr) (s:Shared) (H:Hp) (fp:List Addr),PG (UW X N' scope C s H fp) tg g)
  (ht:∀(C:Addr) (s:Shared) (H:Hp) (fp:List Addr),EK (UW X N' scope C s H fp) ifs tt)
  (he:∀(C:Addr) (s:Shared) (H:Hp) (fp:List Addr),PE (UW X N' scope C s H fp) elt te)
  (hs:∀ x,foldedSetIterable iter X.env x=pure x) (QS:X.env.scope=sc0) (EF:X.N=N0) {pins:List (Addr × Obj)} {s:Shared} {σ:St} {H:Hp} {Qv:VK} (I:Inv X pins σ H s) (h:ue wi g tt te o fr σ H Qv)
  {use:Option (Value->Sem Unit)} {Q:Ae} {E:Ae}
  (hE:∀ e s',X.xe e s'->E e s')
  (fin:∀(C oC D:_) (m:Af) (H':Hp) (ys:List V) (s':Shared),Inv X (pins++[(C,oC)]) σ (upd H' D (.lst ys)) s'->Qv (.ref D) (upd H' D (.lst ys))->s'.heap.Ns C m->H' C=none->C≠D ->
   C≠X.env.locals->X.s₀.heap.objs.size<=C->(∀ x c,X.env.cells.lookup x=some c->c≠C)->(∀ p∈X.pn++pins,p.1≠C)->compPost (model X.prog X.w) X.A E use Q (.ref D) C (.ok .next) s') :
  wpAny (model X.prog X.w) X.A (comprehension (.ListComp elt [⟨tg,iter,ifs,0⟩] scope pos) scope X.env (firstIterPos [⟨tg,iter,ifs,0⟩] pos) (newList []) false (eval iter X.env) use) Q E s:=by
 refine wpAny_comprehension_free (use:=use) rfl hs (ZD7 (S.cells QS I)) S.kind S.loc' (TF (hi pins s σ H _ I h) (λxv s1 h1=>TF h1 (λvH s2 h2=>?_) hE) hE);obtain⟨it,fp,tn,J,H2,rfl,I2,T,NX,f2,W,⟨m0,w0⟩,turn⟩:=h2;have NJ:∀ b∈fp,b<s2.heap.objs.size:=λb hb=>by obtain⟨ob,e,_⟩:=T.obj 0 _ NX b hb;exact Yo e
 refine Om (wpAny_newFunctionEnv S.nocell' (by intro y hy;simp at hy) (λh1 JP NI=>?_) S.kind);dsimp only at JP NI ⊢;generalize uc:s2.heap.push { cls:=.type "list",dict:=none,data:=.seq ([]:Ag).toArray }=G at JP NI ⊢;have g9:G.objs.size=s2.heap.objs.size+1:=by rw[<- uc,Oj]
 have hC:s2.heap.objs.size<=G.objs.size:=by rw[g9];exact Us _
 have OM:s2.heap.objs.size≠G.objs.size:=by rw[g9];exact Yx (OW _)
 have old:∀ b ob,s2.heap.get? b=some ob->h1.get? b=some ob:=λb ob e =>
  NI.extBut b ob (Yx (Yr (Yo e) hC)) (WZ _ (uc ▸ WZ _ e))
 have Wf:h1.get? s2.heap.objs.size=some (UU []):=NI.extBut _ _ OM (WZ _ (uc ▸ Ym _ rfl));have JO:tn 0 h1:=T.keep _ _ _ NX λb _ ob e=>old b ob e
 have t9:∀ {us:Ag} {H':Hp},(∀ b∈fp,H' b=none)->∀ b∈fp,FpOk (UW X N' scope G.objs.size s2 H2 fp) [(s2.heap.objs.size,UU us)] H' b:=λ{us H'} hn b hb=>by
  obtain⟨f0,f1,f3,f4,f5,f6⟩:=f2 b hb;refine⟨hn b hb,Yx (Yr (NJ b hb) hC),λz=>?_,.inl hb,λx c e=>f5 x c (S.sub QS I2 x c e),λp hp=>?_⟩
  .rcases Yj.mp (I2.stkSub b z) with q | q
   .exact f1 q
   .exact f3 q
  .have e:p=(s2.heap.objs.size,UU us):=by simpa using (show p∈([]:List (Addr × Obj))++[(s2.heap.objs.size,UU us)] from hp)
   subst e;exact Sa (NJ b hb)
 have loop:∀ s3:Shared,s3={ s2 with heap:=h1,toks:=s2.toks+([]:List (Str × Value)).length } ->
   codeAny (model X.prog X.w) X.A (.compLoop (.ListComp elt [⟨tg,iter,ifs,0⟩] scope pos) 0 (.ref it) (.ref s2.heap.objs.size) (compEnvC scope (Ss X.env.cells scope.names []) G.objs.size X.env))
    (compPost (model X.prog X.w) X.A E use Q (.ref s2.heap.objs.size) G.objs.size) s3:=by
  rintro s3 rfl;refine Zu4 (λn s'=>∃ i σ' H' ys us,Inv (UW X N' scope G.objs.size s2 H2 fp) [(s2.heap.objs.size,UU us)] σ' H' s'/\σ'=σC o fr σ/\Vals ys us/\tn i s'.heap/\(∀ b∈fp,H' b=none)/\W i n ys H') ?_ m0
   ⟨0,_,H2,[],[],I2.block S QS EF f2 NJ hC (XN _) OM old JP Wf,rfl,.nil,JO,λb hb=>(f2 b hb).1,w0⟩
  rintro n s' ⟨i,σ',H',ys,us,I',rfl,rv,Tz,g8,w'⟩;rcases turn i n ys H' w' with ⟨stop,hz,q⟩ | ⟨go,hz,step⟩
  .refine thn (T.done (UW X N' scope G.objs.size s2 H2 fp) rfl rfl rfl hc i _ s' _ H' _ I' (t9 g8) Tz stop) λr s4 ⟨hr,I4⟩=>?_;subst hr;obtain⟨oC,m,ud,hn,J4⟩:=I2.unblock f2 hC (XN _) OM I4 rv hz;exact fin _ oC _ m H' ys s4 J4 (q _ (I4.pin (s2.heap.objs.size,UU us) (by simp)).2.1) hn I4.free (YZ OM) (Sa (Yr I2.lt hC)) (Yv I2.sz hC)
    (λx c e=>by obtain⟨v,z⟩:=I2.cell x c e;exact Yx (Yr z.lt hC)) λp hp=>Yx (Yr (Yo (I2.pin p hp).1) hC)
  .refine thn (T.item (UW X N' scope G.objs.size s2 H2 fp) rfl rfl rfl hc i _ s' _ H' _ I' (t9 g8) Tz go) λr s4 Xv=>?_;obtain⟨u,hr,h4⟩:=Xv;subst hr;refine thn h4 λ_ s5 Xv=>?_;obtain⟨x,H5,I5,r5,y5,Km,vD⟩:=Xv;have UZ:=step x H5 y5
   have t8:=ho x (List.replicate o none) (fr.map λj=>(σ[j]?).join) H5 _ (YH ..) UZ;have vC:=I5.pinned (t9 (us:=us) vD) (T.obj _ _ Km)
   refine thn (hg _ _ _ _ _ s5 _ H5 x u _ vC r5 t8) λ_ s6 Xv=>?_;obtain⟨σ6,H6,I6,⟨ow,Sr,e6⟩,q6⟩:=Xv;subst e6;refine thn (ht _ _ _ _ _ s6 _ H6 _ I6 q6) λb s7 Xv=>?_;obtain⟨H7,I7,q7⟩:=Xv;have back:∀ {us':Ag} {σ8:St} {H8:Hp} {s8:Shared},Inv (UW X N' scope G.objs.size s2 H2 fp) ([(s2.heap.objs.size,UU us')]++NZ fp s5.heap) (ow++fr.map λj=>(σ[j]?).join) H8 s8 ->
     Inv (UW X N' scope G.objs.size s2 H2 fp) [(s2.heap.objs.size,UU us')] (σC o fr σ) H8 s8/\tn (i+1) s8.heap/\∀ b∈fp,H8 b=none:=λ{us' σ8 H8 s8} I8=>by
    refine⟨I8.unpinned.weak ?_ λj v e=>?_,T.keep _ _ _ Km λb hb ob e=>(I8.pin (b,ob) (Yf _ (Yf _ (NY hb e)))).1,λb hb=>?_⟩
    .unfold σC;rw[Xt,Xt,YH,Sr]
    .unfold σC at e;by_cases hj:j<o
     .rw[Ys (by rw[YH];exact hj),z7,if_pos hj]at e;cases e
     .rw[Yp (by rw[YH];exact Nat.not_lt.mp hj),YH]at e;rw[Yp (by rw[Sr];exact Nat.not_lt.mp hj),Sr];exact e
    .obtain⟨ob,e,_⟩:=T.obj _ _ Km b hb;exact(I8.pin (b,ob) (Yf _ (Yf _ (NY hb e)))).2.1
   cases b with
   | false =>
    rw[if_neg Yw]at q7 ⊢;obtain⟨m',hm,w7⟩:=q7;obtain⟨I8,st8,fr8⟩:=back (us':=us) (σ8:=[]) I7;exact⟨m',hm,i+1,_,H7,ys,us,I8,rfl,rv,st8,fr8,w7⟩
   | true =>
    rw[if_pos rfl]at q7 ⊢;refine thn (he _ _ _ _ _ s7 _ H7 _ I7 q7) λy s8 Xv=>?_;obtain⟨yv,H8,I8,r8,m',hm,w8⟩:=Xv;obtain⟨aD,nD,_,_,_⟩:=I8.pin (s2.heap.objs.size,UU us) (by simp);have aD:s8.heap.get? s2.heap.objs.size=some (UU us):=aD
    have nD:H8 s2.heap.objs.size=none:=nD;have hul:us.length<=sizeLine:=by rw[<- rv.length];exact Oh hz
    refine append_at (hsz:=by show us.toArray.size<=sizeLine;rw[Ya];exact hul) aD λh9 hs9 hD9=>?_;have t7:h9.get? s2.heap.objs.size=some (UU (us++[y])):=by
     rw[hD9];show some ({ cls:=.type "list",data:=.seq (us.toArray.push y) (us.length+1) }:Obj)=some { cls:=.type "list",data:=.seq (us++[y]).toArray (us++[y]).length }
     rw[Xt,Yh,List.push_toArray]
    have I9:Inv (UW X N' scope G.objs.size s2 H2 fp) (NZ fp s5.heap) (ow++fr.map λj=>(σ[j]?).join) H8 { s8 with heap:=h9 } :=
     (I8.pins_of (pins':=NZ fp s5.heap) λp hp=>I8.pin p (Yf _ (Yf _ hp))).turned (t':=s8.toks) (it:=s2.heap.objs.size) (λb ob hb e=>hs9.extBut b ob hb e) nD OM (.inr (XN _))
      (λx c e=>by obtain⟨v,z⟩:=I2.cell x c (S.sub QS I2 x c e);exact Yx z.lt)
      λp hp=>by obtain⟨hb,_⟩:=iS (show p∈NZ fp s5.heap from by simpa [UW] using hp);exact Yx (NJ p.1 hb)
    have I9':Inv (UW X N' scope G.objs.size s2 H2 fp) ([(s2.heap.objs.size,UU (us++[y]))]++NZ fp s5.heap) (ow++fr.map λj=>(σ[j]?).join) H8 { s8 with heap:=h9 } :=
     I9.pins_of λp hp=>by
      rcases Xx.mp hp with z | z
      .have e:p=(s2.heap.objs.size,UU (us++[y])):=by simpa using z
       subst e;refine⟨t7,nD,OM,λz=>?_,λv z=>nomatch z⟩;obtain⟨_,ob,Qm,_⟩:=I2.stack.mem z;exact QY _ (Yo Qm)
      .exact I9.pin p (Yf _ z)
    obtain⟨I10,t6,t5⟩:=back (us':=us++[y]) (σ8:=[]) I9';exact⟨m',hm,i+1,_,H8,ys++[yv],us++[y],I10,rfl,Vals.append rv (.cons r8 .nil),t6,t5,w8⟩
 exact codeAny_compStart_list (loop _ rfl) (T.self _ 0 _ _ _ JO (loop _ rfl))
theorem SX(hc:X.calm=true){sc0:Scope}{N0:List Str}(S:CompScope sc0 N0 N' o fr scope)(hi:PI X tg iter wi)(ho:Qo o g)
  (hg:∀(C:Addr) (s:Shared) (H:Hp) (fp:List Addr),PG (UW X N' scope C s H fp) tg g)
  (ht:∀(C:Addr) (s:Shared) (H:Hp) (fp:List Addr),EK (UW X N' scope C s H fp) ifs tt)
  (he:∀(C:Addr) (s:Shared) (H:Hp) (fp:List Addr),PE (UW X N' scope C s H fp) elt te)
  (hs:∀ x,foldedSetIterable iter X.env x=pure x:=by intro _;rfl) (QS:X.env.scope=sc0:=by rfl) (EF:X.N=N0:=by rfl):PE X (.ListComp elt [⟨tg,iter,ifs,0⟩] scope pos) (ue wi g tt te o fr):=by intro pins s σ H Q I h;rw[eval_ListComp];refine EG hc S hi ho hg ht he hs QS EF I h (use:=none) (λ_ _ z=>z) λC oC D m H' ys s' J q hn nC t4 tZ tY tX tW=>?_;refine⟨m,hn,λh' OL=>⟨.ref D,upd H' D (.lst ys),?_,rfl,q⟩⟩;refine J.unpinned.turned (t':=s'.toks) (it:=C) (λb ob hb e=>OL.extBut b ob hb e) (by rw[Zb t4];exact nC) tZ (.inr tY) tX tW
theorem RM{i:Nat}{x:Str}{px:Pos}{EE:Pos}(hc:X.calm=true)(hN:X.N.Nodup)(hx:X.N[i]?=some x)(hl:X.env.kindOf x=some .local){sc0:Scope}{N0:List Str}(S:CompScope sc0 N0 N' o fr scope)(hi:PI X tg iter wi)(ho:Qo o g)
  (hg:∀(C:Addr) (s:Shared) (H:Hp) (fp:List Addr),PG (UW X N' scope C s H fp) tg g)
  (ht:∀(C:Addr) (s:Shared) (H:Hp) (fp:List Addr),EK (UW X N' scope C s H fp) ifs tt)
  (he:∀(C:Addr) (s:Shared) (H:Hp) (fp:List Addr),PE (UW X N' scope C s H fp) elt te)
  (hs:∀ x,foldedSetIterable iter X.env x=pure x:=by intro _;rfl) (QS:X.env.scope=sc0:=by rfl) (EF:X.N=N0:=by rfl)
  (hsw:swapsWith (.ListComp elt [⟨tg,iter,ifs,0⟩] scope pos) (some (.Name x px)) EE.line X.env=pure true:=by rfl) :
  PS X (.Assign [.Name x px] (.ListComp elt [⟨tg,iter,ifs,0⟩] scope pos) EE) (Kr (ue wi g tt te o fr) (Th i)):=by
 intro pins s σ H D I h;rw[exec_Assign_Name_used _ _ _ _ hsw];refine XU (wpAny_standAt (XU ?_));show wpAny _ X.A (do let _ <- comprehension (.ListComp elt [⟨tg,iter,ifs,0⟩] scope pos) scope X.env (firstIterPos [⟨tg,iter,ifs,0⟩] pos) (newList []) false (eval iter X.env) (some (assign (.Name x px) X.env))) _ _ s
 refine XU (TF (EG (Q:=λ_ s'=>SP X pins D .next s') hc S hi ho hg ht he hs QS EF I h (use:=some (assign (.Name x px) X.env)) (λ_ _ z=>z) λC oC Dd m H' ys s' J q hn nC t4 tZ tY tX tW=>?_) (λ_ s' hq=>Yk (Yk hq)) λ_ _ e=>e);show wpAny _ X.A (assign (.Name x px) X.env (.ref Dd)) _ _ _
 refine wpAny_assign_Name (Kv J hN hx (.inl hl) (v:=.ref Dd) rfl (λs2 I2=>?_) (.inr hl));have g1:=(I2.pin (C,oC) (by simp)).1
 have g1:s2.heap.get? C=some oC:=g1;have n2:s2.heap.Ns C m:=by
  obtain⟨oc,es,ep,e,r⟩:=hn;have e0:=(J.pin (C,oC) (by simp)).1
  have e0:s'.heap.get? C=some oC:=e0;rw[e]at e0;cases e0;exact⟨_,es,ep,g1,r⟩
 refine⟨m,n2,λh' OL=>⟨_,upd H' Dd (.lst ys),?_,q⟩⟩;exact I2.unpinned.turned (t':=s2.toks) (it:=C) (λb ob hb e=>OL.extBut b ob hb e) (by rw[Zb t4];exact nC) tZ (.inr tY) tX tW
end
section
variable{X:Cx}
theorem ED{x y:V}{us:Ag}(r:Vals [x,y] us):∃ u v,us=[u,v]/\RelV x u/\RelV y v:=by
 cases r with
 | cons a r =>
  cases r with
  | cons b r=>cases r;exact⟨_,_,rfl,a,b⟩
theorem ZT:∀ {ns:Ac} {us:Ag},Vals (ns.map V.int) us->IntsAre us ns
 | [],_,.nil=>.nil
 | n :: ns,_,.cons r t=>by obtain⟨tk,rfl⟩:=r;exact .cons n tk (ZT t)
theorem g7:Ur X (.type "range") (λxs H Q=>∃ j:Int,xs=[.int j]/\∀ p,H p=none->Q (.ref p) (upd H p (.rng 0 j))):=by intro pins s σ H xs us Q I r h;obtain⟨j,rfl,q⟩:=h;obtain⟨u,rfl,t,rfl⟩:=Sw r;refine call_range_1 ?_;exact⟨.ref s.heap.objs.size,_,I.laid (o:=.rng 0 j) (λb u e=>WZ _ e) (XN _) ⟨_,_,_,Ym _ rfl⟩,rfl,q _ (I.hok.fresh (XN _))⟩
def Wi(lo hi:Int):Ac:=(List.range (hi - lo).toNat).map λ(i:Nat)=>lo+(i:Int)
theorem g6(lo hi:Int):(Wi lo hi).length=(hi - lo).toNat:=by unfold Wi;rw[Yd,OX]
theorem EC{lo:Int}{n:Nat}:∀ {us:Ag},us.length=n->(∀(j:Nat) (v:Value),us[j]?=some v->∃ t,v=Value.int (lo+(j:Int)) t)->Vals (((List.range n).map λ(i:Nat)=>lo+(i:Int)).map V.int) us:=by
 induction n generalizing lo with
 | zero =>
  intro us h _;rw[YQ.mp h];exact .nil
 | succ n ih =>
  intro us h hv;cases us with
  | nil=>cases h
  | cons u us =>
   rw[List.range_succ_eq_map,YV,YV];refine .cons ?_ ?_
   .obtain⟨t,e⟩:=hv 0 u rfl;exact⟨t,e⟩
   .have q:=ih (lo:=lo+1) (us:=us) (UL h) λj v e=>by obtain⟨t,e'⟩:=hv (j+1) v (by simpa using e);refine⟨t,?_⟩;rw[e'];congr 1;lia
    have e:(List.range n).map (λ(i:Nat)=>lo+1+(i:Int))=((List.range n).map Nat.succ).map (λ(i:Nat)=>lo+(i:Int)):=by
     rw[Me];refine YT λi _=>?_;show lo+1+(i:Int)=lo+((i+1:Nat):Int)
     lia
    rw[e]at q;exact q
theorem tV (hc:X.calm=true):Ur X (.type "list") (λxs H Q=>∃ p lo hi,xs=[.ref p]/\H p=some (.rng lo hi)/\(-(2 ^ 62)<=lo/\lo<2 ^ 62/\-(2 ^ 62)<=hi/\hi<2 ^ 62)/\(hi - lo).toNat<=16777216 /\
  ∀ l,H l=none->Q (.ref l) (upd H l (.lst ((Wi lo hi).map V.int)))):=by
 intro pins s σ H xs us Q I r h;obtain⟨p,lo,hi,rfl,hp,⟨b1,b2,b3,b4⟩,hz,q⟩:=h;obtain⟨u,rfl,ru⟩:=Sw r;obtain rfl:u=Value.ref p:=ru;obtain⟨t,u,v,e⟩:=(show ObjOk X.prog X.w H s.heap p (.rng lo hi) from I.hok p _ hp);have hn:Builtin.Range.rangeSize lo hi 1=(((hi - lo).toNat:Nat):Int):=by rw[rangeSize_one];split <;> grind
 refine call_list_range (I.ok.hd hc) (t:=t) (u:=u) (v:=v) e (small_one b1 b2 b3 b4) hn hz λh' tk acc c' hk hS ha=>?_;have hl:acc.toList.length=(hi - lo).toNat:=by rw[YE];exact ha.1
 have rv:Vals ((Wi lo hi).map V.int) acc.toList:=EC (lo:=lo) hl λj w ew=>by obtain⟨t,e⟩:=ha.2 j w (by simpa using ew);exact⟨t,by rw[e,Og]⟩
 refine⟨.ref s.heap.objs.size,_,I.laid (o:=.lst ((Wi lo hi).map V.int)) hk (XN _) ⟨?_,acc.toList,c',rv,?_⟩,rfl,q _ (I.hok.fresh (XN _))⟩
 .rw[Yd,g6]
  have:sizeLine=16777216:=Uj
  lia
 .rw[hS]
def seen(ns:Ac):Ac:=firstMet (λi=>ns.getD i 0) ns.length
theorem tU {T:String}:Ur X (.builtin "isinstance") (λxs H Q=>∃ x t b,xs=[x,.ty T]/\TyOf X.K H x t/\PySem.W.kitOne X.K t (.type T)=some b/\Q (.bl b) H):=by intro pins s σ H xs us Q I r h;obtain⟨x,t,b,rfl,ty,e,q⟩:=h;obtain⟨u,v,rfl,ru,rv⟩:=ED r;obtain rfl:v=Value.type T:=rv;exact aG I ru ty e λtk=>⟨.bl b,H,I.tok tk,rfl,q⟩
def HA(K:Ad)(a:Addr):It :=
 ⟨λi H=>∃ xs x,SqL K H a xs/\xs[i]?=some x,λi H v H'=>∃ T x,H T=none/\v=.ref T/\H'=upd H T (.tup [.int i,x])/\∀ xs,SqL K H a xs->xs[i]?=some x,λi H=>∃ xs,SqL K H a xs/\xs.length<=i⟩
def EB(K:Ad)(ta:TA):TI:=λσ H R=>ta σ H λvs H1=>∃ a,vs=[.ref a]/\(∃ xs,SqL K H1 a xs)/\R (HA K a) H1
theorem ZO7{P:Program}{w:World}{K:Ad}{elts:List Expr}{x1:Nat}{pos:Pos}(a e it:Addr)(XH:e≠it):Turn P w K (.Tuple elts x1 pos) (HA K a) [e,it] e (λi h=>(∃ old,IsEnum h e it i old)/\h.IsListIter it a i) where
 mem:=by simp
 obj:=λi h st b hb=>by
  obtain⟨⟨old,he⟩,o,eo,c,d⟩:=st;rcases Yj.mp hb with z | hb
  .subst z;exact⟨_,he,λv z=>by have z':Data.fields _=Data.cell v:=z;cases z'⟩
  .have z:b=it:=by simpa using hb
   subst z;exact⟨o,eo,λv z=>by rw[d]at z;cases z⟩
 keep:=λi h h' st k=>by obtain⟨⟨old,he⟩,hit⟩:=st;exact⟨⟨old,k e (by simp) _ he⟩,hit.at λo x=>k it (by simp) o x⟩
 item:=by
  intro X hP hw hK hc i pins s σ H E I hf st hg;subst hP hw hK;obtain⟨xs,x,hq,hx⟩:=hg;obtain⟨⟨old,he⟩,hit⟩:=st;obtain⟨XW,rv,p,hz⟩:=I.list hq;obtain⟨u,hu,ru⟩:=rv.get hx;obtain⟨f0,f1,f2,f3,f4,f5⟩:=hf e (by simp);obtain⟨g0,g1,g2,g3,g4,g5⟩:=hf it (by simp);have tT:H s.heap.objs.size=none:=I.hok.fresh (XN _)
  refine wpAny_pyNext_enum_item he hit p.isList (x:=u) (by simpa using hu) XH λh' ho tS hT hsz hk=>?_;have OK:∀ b ob,s.heap.get? b=some ob->b≠s.heap.objs.size:=λb ob z=>Yx (Yo z)
  have Ql:∀ b ob,H b=some ob->b≠s.heap.objs.size:=λb ob z=>Yx (I.hok.lt z);have OJ:∀ b ob,H b=some ob->b≠e/\b≠it:=λb ob z=>⟨λq=>(by rw[q,f0]at z;cases z),λq=>(by rw[q,g0]at z;cases z)⟩
  have I1:Inv X pins σ (upd H s.heap.objs.size (.tup [.int i,x])) { s with heap:=h',toks:=s.toks+1 }:=by
   refine I.step (g':=s.gens) (d':=s.drawn) (ch:=[e,it]) (λb hb=>?_) (λb o _ _ Wo z _=>hk b o (λq=>Wo (by simp[q])) (λq=>Wo (by simp[q])) z) (λb o _ _ Wo z _=>⟨o.slots,hk b o (λq=>Wo (by simp[q])) (λq=>Wo (by simp[q])) z⟩)
    (λb o _ z n=>by rw[Zb (OK b o z)];exact n) (λb o Wo z=>⟨o,hk b o (λq=>Wo (by simp[q])) (λq=>Wo (by simp[q])) z⟩) (λb ys z=>by rw[Zb (Ql b _ z)];exact z) (λb o v z=>by rw[Zb (Ql b _ z)];exact z)
    (λb ps z=>⟨#[],by rw[Zb (Ql b _ z),z];simp⟩) (λm hm=>?_) (λb v z=>?_) I.bare
   .rcases Yj.mp hb with q | hb
    .rw[q];exact⟨f3,f1,f4,f5⟩
    .have q:b=it:=by simpa using hb
     rw[q];exact⟨g3,g1,g4,g5⟩
   .obtain⟨o,es,ep,Vz,r⟩:=hm;exact⟨o,es,ep,hk _ o (YZ f1) (YZ g1) Vz,r⟩
   .by_cases hb:b=s.heap.objs.size
    .subst hb;rw[XR]at z;cases z;exact⟨by show 2<=sizeLine;decide,[.int i s.toks,u],.cons ⟨_,rfl⟩ (.cons ru .nil),⟨_,hT,rfl,_,rfl⟩⟩
    .rw[Zb hb]at z;refine(I.hok b v z).stay (λc w' WE q=>?_) (λc q=>by rw[Zb (Ql c _ q)];exact q) λc ys q=>by rw[Zb (Ql c _ q)];exact q
     rcases WE with rfl | WE
     .exact hk c w' (OJ c _ z).1 (OJ c _ z).2 q
     .exact hk c w' (OJ c _ WE).1 (OJ c _ WE).2 q
  refine⟨_,rfl,wpAny_letOwnedTupleGo_enum ho λh2 Qk RQ=>?_⟩;have fT:e≠s.heap.objs.size:=OK e _ he
  have I2:Inv X pins σ (upd H s.heap.objs.size (.tup [.int i,x])) { s with heap:=h2,toks:=s.toks+1 }:=Inv.turned (s:={ s with heap:=h',toks:=s.toks+1 }) (h':=h2) (t':=s.toks+1) (it:=e) I1 (λb o hb z=>RQ.extBut b o hb z) (by rw[Zb fT];exact f0) f1 f3 f4 f5;refine⟨.ref s.heap.objs.size,_,I2,rfl,⟨_,x,tT,rfl,rfl,λys hy=>by rw[I.list_inj hy hq];exact hx⟩,⟨⟨u,by simpa using Qk⟩,tS.at λo z=>RQ.extBut it o (YZ XH) z⟩,λb hb=>?_⟩;rcases Yj.mp hb with q | hb
  .rw[q,Zb fT];exact f0
  .have q:b=it:=by simpa using hb
   obtain⟨o,eo,_⟩:=hit;rw[q,Zb (OK it o eo)];exact g0
 done:=by
  intro X hP hw hK hc i pins s σ H E I hf st hg;subst hP hw hK;obtain⟨xs,hq,hx⟩:=hg;obtain⟨⟨old,he⟩,hit⟩:=st;obtain⟨XW,rv,p,hz⟩:=I.list hq;obtain⟨g0,g1,g2,g3,g4,g5⟩:=hf it (by simp);have hl:=rv.length
  exact wpAny_pyNext_enum_end (I.ok.hd hc) he hit p.isList (by simp;lia) λh' eb=>⟨rfl,I.turned (t':=s.toks) (it:=it) (λb o hb z=>eb b o hb z) g0 g1 g3 g4 g5⟩
 self:=λ_ _ _ _ _ st h=>let ⟨⟨_,he⟩,_⟩:=st;wpAny_pyIter_enum he h
theorem tR {elts:List Expr} {x1:Nat} {Tg:Pos} {a:Expr} {ta:TA} {p pos:Pos} (hg:Gl X "enumerate") (hm:X.mg "enumerate"=none) (ha:PA X [a] ta) (hs:starEach [a] X.env=[(false,eval a X.env)]:=by rfl) :
  PI X (.Tuple elts x1 Tg) (.Call (.Name "enumerate" p) [a] [] pos) (EB X.K ta):=by
 intro pins s σ H R I h;refine Call_ (QW I hg hm Boot.«enumerate» (Le (thn (ha pos pins s σ H _ I h) λus s1 Xv=>?_) hs rfl));obtain⟨vs,H1,I1,r1,q1⟩:=Xv;obtain⟨b,e,⟨xs,hq⟩,q⟩:=q1;subst e;obtain⟨u,rfl,ru⟩:=Sw r1;obtain rfl:u=Value.ref b:=ru;obtain⟨XW,rv,pl,hz⟩:=I1.list hq;refine call_enumerate_list pl.isList λh' he hit hsz hk=>?_;have I2:Inv X pins σ H1 { s1 with heap:=h' }:=I1.kept (t':=s1.toks) hk
 refine wpAny_pyIter_enum he ?_;have nn:∀ k,s1.heap.objs.size<=k->H1 k=none:=λk hk=>I1.hok.fresh hk
 refine⟨s1.heap.objs.size+1,[s1.heap.objs.size+1,s1.heap.objs.size],_,_,H1,rfl,I2,ZO7 b _ _ (Nat.succ_ne_self _),⟨⟨_,he⟩,hit⟩,λc hc=>?_,q⟩;have hle:s1.heap.objs.size<=c:=by
  rcases Yj.mp hc with q | hc
  .rw[q];exact Us _
  .have q:c=s1.heap.objs.size:=by simpa using hc
   rw[q];exact XN _
 exact I1.fpOk hle (nn c hle)
theorem tQ{k:Key}{y:V}{us:Ag}(r:Vals [kV k,y] us):∃ u v,us=[u,v]/\RelV (kV k) u/\RelV y v:=ED r
def tP:V->List V->Hp->VK->Prop:=λx vs H Q=>∃ d kvs k y,x=.ref d/\vs=[kV k,y]/\H d=some (.dK kvs)/\kvs.length<sizeLine/\(∀ v,Xm kvs k=some v->Q v H)/\(Xm kvs k=none->Q y (upd H d (.dK (kvs++[(k,y)]))))
theorem ZT3:JY X "dict.setdefault" tP:=by
 intro pins s σ H x vs v us Q I rx rv h;obtain⟨d,kvs,k,y,rfl,rfl,hH,hz,h1,h2⟩:=h;cases rx;obtain⟨uk,uy,rfl,rk,ry⟩:=tQ rv;obtain⟨z,hd,ws,rel,dd⟩:=NN I.hok hH;refine zy ju dd.typeIs PySem.F.entry_dict_setdefault (PySem.F.args_dict_setdefault_3 _ _ _) (kt_meets_setdefault (ZM X.prog X.w) d (NO rk) hd uy)
  ⟨ws,dd,by rw[<- rel.length];exact z,λv' NU=>?_,λhn h' JU hs=>?_⟩
 .cases e:Xm kvs k with
  | none =>
   have q:=rel.val k;rw[e,NU]at q;exact False.elim q
  | some w' =>
   have q:=rel.val k;rw[e,NU]at q;exact⟨w',H,I.tok _,q,h1 w' e⟩
 .have e:Xm kvs k=none:=by
   cases e:Xm kvs k with
   | none=>rfl
   | some w' =>
    have q:=rel.val k;rw[e,hn]at q;exact False.elim q
  have he:∃ q,h'.get? d=some q:=let ⟨q,_,_,hq,_⟩:=JU;⟨q,hq⟩
  refine⟨y,_,uD (ob:=.dK (putK kvs k y)) I (by rw[hH];exact True.intro) hs he (ES ?_ hd (rel.put k ry) JU),ry,?_⟩
  .have:=zf kvs k y;lia
  .rw[af y e];exact h2 e
def RL(p d:Addr):HO:=.ext λh=>h.IsValuesView p d
def tO:V->List V->Hp->VK->Prop:=λx vs H Q=>∃ d kvs,x=.ref d/\vs=[]/\H d=some (.dK kvs)/\∀ p,H p=none->Q (.ref p) (upd H p (RL p d))
theorem tN:JY X "dict.values" tO:=by
 intro pins s σ H x vs v us Q I rx rv h;obtain⟨d,kvs,rfl,rfl,hH,q⟩:=h;cases rx;cases rv;obtain⟨z,hd,ws,rel,dd⟩:=NN I.hok hH;refine zy jq dd.typeIs PySem.F.entry_dict_values (PySem.F.args_dict_values_1 _) (meets_dict_values (ZM X.prog X.w) d hd) ⟨⟨ws,dd⟩,?_⟩;refine⟨.ref s.heap.objs.size,_,I.laid (o:=RL s.heap.objs.size d) (λb u e=>WZ _ e) (XN _) ?_,rfl,q _ (I.hok.fresh (XN _))⟩;have e:=Ym s.heap (o:={ cls:=.type "dict_values",data:=.fields #[.ref d] }) rfl
 exact⟨⟨_,e,rfl,rfl⟩,⟨_,e⟩,λh1 h2 ⟨o,ho,r⟩ k=>⟨o,k o ho,r⟩⟩
theorem ZA8{P:Program}{w:World}{h:Heap}{d:Addr}{ws:List (Key × Value)}(dd:h.DictOf (ZM P w) d ws):∃ ep,h.DictAt (ZM P w) d ws ep:=by obtain⟨o,es,ep,r⟩:=dd;exact⟨ep,o,es,r⟩
theorem EA{κ:Type}:∀ {kvs:List (κ × V)} {ws:List (κ × Value)},KV kvs ws->Vals (kvs.map (·.2)) (ws.map (·.2))
 | _,_,.nil=>.nil
 | _,_,.cons r t=>.cons r.2 (EA t)
theorem Zx3 (hc:X.calm=true):Ur X (.type "list") (λxs H Q=>∃ p d kvs,xs=[.ref p]/\H p=some (RL p d)/\H d=some (.dK kvs)/\∀ l,H l=none->Q (.ref l) (upd H l (.lst (kvs.map (·.2))))):=by
 intro pins s σ H xs us Q I r h;obtain⟨p,d,kvs,rfl,hp,hd,q⟩:=h;obtain⟨u,rfl,ru⟩:=Sw r;obtain rfl:u=Value.ref p:=ru;obtain⟨hv,_,_⟩:=(show ObjOk X.prog X.w H s.heap p (RL p d) from I.hok p _ hp);obtain⟨z,hds,ws,rel,dd⟩:=NN I.hok hd;obtain⟨ep,da⟩:=ZA8 dd;have hl:ws.length=kvs.length:=rel.length.symm
 refine PySem.W.kdl_call (PySem.W.kdl_values (knd:=ZM X.prog X.w) (kvs:=ws) (ep:=ep) (r:=p) (d:=d)) (I.ok.hd hc) ⟨hv,da⟩ (by lia) λh' tk acc c' hk hS ha=>?_;have ea:acc.toList=ws.map (·.2):=by
  refine RW λi=>?_;cases e:acc.toList[i]? with
  | none =>
   have:ws.length<=i:=by
    have:=Ah.mp e
    rw[YE,ha.1]at this;exact this
   rw[Ah.mpr (by rw[Yd];exact this)]
  | some v =>
   obtain⟨k,ek⟩:=ha.2 i v (by simpa using e);rw[Yq,ek];rfl
 refine⟨.ref s.heap.objs.size,_,I.laid (o:=.lst (kvs.map (·.2))) hk (XN _) ⟨by rw[Yd];exact z,acc.toList,c',?_,by rw[hS]⟩,rfl,q _ (I.hok.fresh (XN _))⟩;rw[ea];exact EA rel
end
inductive EqD (K:Ad) (H:Hp):Nat->V->V->Bool->Prop
 | flat {n:Nat} {x y:V} (fx:Wr x=true) (fy:Wr y=true):EqD K H n x y (Tw x y)
 | lsts {n:Nat} {a b:Addr} {xs ys:List V} {e:Nat->Bool} (ha:SqL K H a xs) (hb:SqL K H b ys) (hl:xs.length=ys.length) (h:∀ i x y,xs[i]?=some x->ys[i]?=some y->EqD K H n x y (e i)):EqD K H (n+1) (.ref a) (.ref b) ((List.range xs.length).all e)
 | lens {n:Nat} {a b:Addr} {xs ys:List V} (ha:SqL K H a xs) (hb:SqL K H b ys) (hl:xs.length≠ys.length):EqD K H (n+1) (.ref a) (.ref b) false
 | tups {n:Nat} {a b:Addr} {xs ys:List V} {e:Nat->Bool} (ha:SqT K H a xs) (hb:SqT K H b ys) (h:∀ i x y,xs[i]?=some x->ys[i]?=some y->EqD K H n x y (e i)) :
   EqD K H (n+1) (.ref a) (.ref b) ((List.range (min xs.length ys.length)).all e && xs.length == ys.length)
theorem tL{x:V}(h:Wr x=true):Tw x x=true:=by cases x <;> first | rfl | (simp[Tw];done) | exact absurd (show false=true from h) Yw
section
variable{X:Cx}{pins:List (Addr × Obj)}{σ:St}{H:Hp}{s:Shared}
theorem Vals.at{xs:List V}{us:Ag}{j:Nat}(r:Vals xs us)(h:j<us.length):∃ x,xs[j]?=some x/\RelV x us[j]:=by
 have hl:=r.length;have hx:xs[j]?=some (xs[j]'(by lia)):=Xn (by omega)
 obtain⟨u,e,ru⟩:=r.get hx;rw[Xn h]at e;cases e;exact⟨_,hx,ru⟩
theorem EqD.self{n:Nat}{x y:V}{b:Bool}(q:EqD X.K H n x y b)(I:Inv X pins σ H s):x=y->b=true:=by
 induction q with
 | flat fx fy=>intro e;subst e;exact tL fx
 | @lsts n a b xs ys e ha hb hl h ih =>
  intro z;cases z;have e1:xs=ys:=I.list_inj ha hb
  subst e1;rw[QE];intro i hi;have hx:xs[i]?=some (xs[i]'(YJ.mp hi)):=Xn _
  exact ih i _ _ hx hx rfl
 | @lens n a b xs ys ha hb hl =>
  intro z;cases z;exact absurd (Xw List.length (I.list_inj ha hb)) hl
 | @tups n a b xs ys e ha hb h ih =>
  intro z;cases z;have e1:xs=ys:=I.tuple_inj ha hb
  subst e1;rw[Nat.min_self,Tn,QE];refine⟨λi hi=>?_,by simp⟩;have hx:xs[i]?=some (xs[i]'(YJ.mp hi)):=Xn _
  exact ih i _ _ hx hx rfl
theorem EqD.at{n:Nat}{x y:V}{b:Bool}(q:EqD X.K H n x y b)(I:Inv X pins σ H s):∀ {A:Around} {u v:Value},A.units+n<cLine->RelV x u->RelV y v->SeqAt.EqAt A s u v b:=by
 induction q with
 | flat fx fy=>intro A u v _ ru rv;exact Fi ru rv fx fy
 | @lsts n a b xs ys e ha hb hl h ih =>
  intro A u v hu ru rv;obtain rfl:u=Value.ref a:=ru;obtain rfl:v=Value.ref b:=rv;by_cases VI:a=b
  .have z:=EqD.self (EqD.lsts ha hb hl h) I (Xw V.ref VI);rw[z,VI];exact SeqAt.EqAt.same _
  obtain⟨us,rx,px,_⟩:=I.list ha;obtain⟨vs,ry,py,_⟩:=I.list hb;have l1:=rx.length
  have l2:=ry.length;have z:=SeqAt.RcAt.lists (A:=A) (s:=s) (e:=e) px.isList py.isList (by rw[Ya,Ya];lia) (by lia) λj h1 h2=>by obtain⟨x,ex,Qj⟩:=rx.at (j:=j) (by simpa using h1);obtain⟨y,ey,Qi⟩:=ry.at (j:=j) (by simpa using h2);exact ih j x y ex ey (A:=A.in1) (by show A.units+1+n<cLine;lia) (by simpa using Qj) (by simpa using Qi)
  rw[Ya,<- l1]at z;exact wM VI z
 | @lens n a b xs ys ha hb hl =>
  intro A u v hu ru rv;obtain rfl:u=Value.ref a:=ru;obtain rfl:v=Value.ref b:=rv;obtain⟨us,rx,px,_⟩:=I.list ha;obtain⟨vs,ry,py,_⟩:=I.list hb;have l1:=rx.length
  have l2:=ry.length;have VI:a≠b:=λz=>by subst z;exact hl (Xw List.length (I.list_inj ha hb))
  exact wM VI (SeqAt.RcAt.lists_lengths px.isList py.isList (by rw[Ya,Ya];simp;lia) (by omega))
 | @tups n a b xs ys e ha hb h ih =>
  intro A u v hu ru rv;obtain rfl:u=Value.ref a:=ru;obtain rfl:v=Value.ref b:=rv;by_cases VI:a=b
  .have z:=EqD.self (EqD.tups ha hb h) I (Xw V.ref VI);rw[z,VI];exact SeqAt.EqAt.same _
  obtain⟨us,rx,px,_⟩:=I.tuple ha;obtain⟨vs,ry,py,_⟩:=I.tuple hb;have l1:=rx.length
  have l2:=ry.length;have z:=SeqAt.RcAt.tuples (A:=A) (s:=s) (e:=e) (show s.heap.IsTuple a us.toArray from px) (show s.heap.IsTuple b vs.toArray from py) (by omega) λj h1 h2=>by obtain⟨x,ex,Qj⟩:=rx.at (j:=j) (by simpa using h1);obtain⟨y,ey,Qi⟩:=ry.at (j:=j) (by simpa using h2);exact ih j x y ex ey (A:=A.in1) (by show A.units+1+n<cLine;omega) (by simpa using Qj) (by simpa using Qi)
  rw[Ya,Ya,<- l1,<- l2]at z;exact wM VI z
end
section
variable{X:Cx}
def NH(K:Ad)(neg:Bool):R2:=λx y H Q=>∃ n b p q,x=.ref p/\y=.ref q/\n<=6/\EqD K H n x y b/\Q (.bl (if neg then !b else b)) H
theorem tK(hu:X.A.units+8<cLine):WD X (compareOp .Eq) (NH X.K false):=by
 intro pins s σ H x y u v Q I ru rv h;obtain⟨n,b,p,q,rfl,rfl,hn,d,hq⟩:=h;obtain rfl:u=Value.ref p:=ru;obtain rfl:v=Value.ref q:=rv;have fin:EP X pins σ Q (.bool b) s:=⟨.bl b,H,I,rfl,hq⟩
 cases d with
 | flat fx fy=>exact absurd (show false=true from fx) Yw
 | @lsts n _ _ xs ys e ha hb hl h =>
  obtain⟨us,rx,px,_⟩:=I.list ha;obtain⟨vs,ry,py,_⟩:=I.list hb;have l1:=rx.length
  have l2:=ry.length;refine SeqAt.eq_listAt (e:=e) px.isList py.isList (by rw[Ya,Ya];lia) (by lia) (λj h1 h2=>?_) (by rw[Ya,<- l1];exact fin);obtain⟨x,ex,Qj⟩:=rx.at (j:=j) (by simpa using h1);obtain⟨y,ey,Qi⟩:=ry.at (j:=j) (by simpa using h2);exact(h j x y ex ey).at I (A:=X.A.in1) (by show X.A.units+1+n<cLine;lia) (by simpa using Qj) (by simpa using Qi)
 | @lens n _ _ xs ys ha hb hl =>
  obtain⟨us,rx,px,_⟩:=I.list ha;obtain⟨vs,ry,py,_⟩:=I.list hb;have l1:=rx.length
  have l2:=ry.length;exact SeqAt.eq_list_lengthsAt px.isList py.isList (by rw[Ya,Ya];simp;lia) (by omega) fin
 | @tups n _ _ xs ys e ha hb h =>
  obtain⟨us,rx,px,_⟩:=I.tuple ha;obtain⟨vs,ry,py,_⟩:=I.tuple hb;have l1:=rx.length
  have l2:=ry.length;refine SeqAt.eq_tupleAt (e:=e) (show s.heap.IsTuple p us.toArray from px) (show s.heap.IsTuple q vs.toArray from py) (by omega) (λj h1 h2=>?_) (by rw[Ya,Ya,<- l1,<- l2];exact fin);obtain⟨x,ex,Qj⟩:=rx.at (j:=j) (by simpa using h1);obtain⟨y,ey,Qi⟩:=ry.at (j:=j) (by simpa using h2);exact(h j x y ex ey).at I (A:=X.A.in1) (by show X.A.units+1+n<cLine;omega) (by simpa using Qj) (by simpa using Qi)
theorem tJ(hu:X.A.units+8<cLine):WD X (compareOp .NotEq) (NH X.K true):=by
 intro pins s σ H x y u v Q I ru rv h;obtain⟨n,b,p,q,rfl,rfl,hn,d,hq⟩:=h;obtain rfl:u=Value.ref p:=ru;obtain rfl:v=Value.ref q:=rv;have fin:EP X pins σ Q (.bool (!b)) s:=⟨.bl (!b),H,I,rfl,hq⟩
 cases d with
 | flat fx fy=>exact absurd (show false=true from fx) Yw
 | @lsts n _ _ xs ys e ha hb hl h =>
  obtain⟨us,rx,px,_⟩:=I.list ha;obtain⟨vs,ry,py,_⟩:=I.list hb;have l1:=rx.length
  have l2:=ry.length;refine SeqAt.RcNeAt.lists (e:=e) px.isList py.isList (by rw[Ya,Ya];omega) (by omega) (λj h1 h2=>?_) _ _ _ _ (by rw[Ya,<- l1];exact fin);obtain⟨x,ex,Qj⟩:=rx.at (j:=j) (by simpa using h1);obtain⟨y,ey,Qi⟩:=ry.at (j:=j) (by simpa using h2);exact(h j x y ex ey).at I (A:=X.A.in1) (by show X.A.units+1+n<cLine;omega) (by simpa using Qj) (by simpa using Qi)
 | @lens n _ _ xs ys ha hb hl =>
  obtain⟨us,rx,px,_⟩:=I.list ha;obtain⟨vs,ry,py,_⟩:=I.list hb;have l1:=rx.length
  have l2:=ry.length;exact SeqAt.RcNeAt.lists_lengths px.isList py.isList (by rw[Ya,Ya];simp;omega) (by omega) _ _ _ _ fin
 | @tups n _ _ xs ys e ha hb h =>
  obtain⟨us,rx,px,_⟩:=I.tuple ha;obtain⟨vs,ry,py,_⟩:=I.tuple hb;have l1:=rx.length
  have l2:=ry.length;refine SeqAt.RcNeAt.tuples (e:=e) (show s.heap.IsTuple p us.toArray from px) (show s.heap.IsTuple q vs.toArray from py) (by omega) (λj h1 h2=>?_) _ _ _ _ (by rw[Ya,Ya,<- l1,<- l2];exact fin);obtain⟨x,ex,Qj⟩:=rx.at (j:=j) (by simpa using h1);obtain⟨y,ey,Qi⟩:=ry.at (j:=j) (by simpa using h2);exact(h j x y ex ey).at I (A:=X.A.in1) (by show X.A.units+1+n<cLine;omega) (by simpa using Qj) (by simpa using Qi)
end
end L2
namespace My
open PySem L2
abbrev IL(ns:Ac):List V:=ns.map V.int
theorem Xz(ns:Ac):(IL ns).length=ns.length:=Yd ..
theorem Hz(a b:Ac):IL (a++b)=IL a++IL b:=YL ..
theorem ZO(a:Ac)(r:Int):IL (a++[r])=IL a++[.int r]:=YL ..
theorem Ez(a:Ac)(n:Nat):IL (a.take n)=(IL a).take n:=List.map_take ..
theorem Ey(a:Ac)(n:Nat):IL (a.drop n)=(IL a).drop n:=List.map_drop ..
theorem tI(a:Ac)(n:Nat)(z:Int):IL (a.set n z)=(IL a).set n (.int z):=List.map_set ..
theorem UH{ns:Ac}{i:Nat}{z:Int}(h:ns[i]?=some z):(IL ns)[i]?=some (.int z):=by rw[Yq,h];rfl
theorem WU{ns:Ac}{i:Nat}{x:V}(h:(IL ns)[i]?=some x):∃ z,x=.int z/\ns[i]?=some z:=by
 rw[Yq]at h;cases e:ns[i]? with
 | none=>rw[e]at h;cases h
 | some z=>rw[e]at h;exact⟨z,(Yg h).symm,rfl⟩
theorem ZH{H H2:Hp}{a:Addr}{o:HO}(hn:H a=none)(s:Same H H2):Same H (upd H2 a o):=λb u e=>by rw[Zb (Zc e hn)];exact s b u e
theorem Zy{H H2:Hp}{p:Addr}{o:HO}(s:Same H H2)(hp:H2 p=none):Same H (upd H2 p o):=ZH (s.free hp) s
theorem XM{H:Hp}{p:Addr}{o:HO}(hp:H p=none):Same H (upd H p o):=Zy (Same.refl H) hp
theorem LO{K:Ad}{H H':Hp}{a:Addr}{xs:List V}(e:Same H H')(h:SqT K H a xs):SqT K H' a xs:=by
 rcases h with (h | ⟨o,h⟩) | h
 .exact .inl (.inl (e _ _ h))
 .exact .inl (.inr ⟨o,e _ _ h⟩)
 .exact .inr h
theorem OI{n:Nat}(h:n<=1000000):n<=sizeLine:=Yv h (by decide)
theorem Zl{n:Nat}(h:n<=1000000):n<sizeLine:=GK h (by decide)
theorem NG{A:Around}{k:Nat}(hr:Room k A):A.units+8<cLine:=GK (Nat.add_le_add_left (by decide:8<=64) _) hr.units
theorem ZL{α:Type}{xs:List α}{i:Int}{n:Nat}{x:α}(hi:i=(n:Int))(h:xs[n]?=some x):VQ xs i=some x:=by
 subst hi;have hn:n<xs.length:=(Xs.mp h).1
 unfold VQ NP;rw[if_pos (Int.natCast_nonneg n),if_pos (by omega)];simpa using h
theorem y9{c A B:Prop}[Decidable c](hc:c)(h:A):if decide c=true then A else B:=by rw[if_pos (Yn hc)];exact h
theorem JN{c A B:Prop}[Decidable c](hc:¬ c)(h:B):if decide c=true then A else B:=by rw[if_neg (by simp[hc])];exact h
theorem tH{c A B:Prop}[Decidable c](hc:c)(h:B):if (!decide c)=true then A else B:=by rw[if_neg (by simp[hc])];exact h
theorem tG{c A B:Prop}[Decidable c](hc:¬ c)(h:A):if (!decide c)=true then A else B:=by rw[if_pos (by simp[hc])];exact h
theorem Xf{c A B:Prop}[Decidable c](h1:c->A)(h2:¬ c->B):if decide c=true then A else B:=by
 by_cases h:c
 .exact y9 h (h1 h)
 .exact JN h (h2 h)
theorem WW{c A B:Prop}[Decidable c](h1:c->B)(h2:¬ c->A):if (!decide c)=true then A else B:=by
 by_cases h:c
 .exact tH h (h1 h)
 .exact tG h (h2 h)
theorem tE{b:Bool}{A B:Prop}(h1:b=true->A)(h2:b=false->B):if b=true then A else B:=by
 cases b with
 | true=>exact Wj (h1 rfl)
 | false=>exact Wv (h2 rfl)
theorem JM{b:Bool}{A B:Prop}(h1:b=true->B)(h2:b=false->A):if (!b)=true then A else B:=by
 cases b with
 | true=>exact Wv (h1 rfl)
 | false=>exact Wj (h2 rfl)
def SqK(k:Bool)(K:Ad)(H:Hp)(a:Addr)(xs:List V):Prop:=match k with
 | false=>SqL K H a xs
 | true=>SqT K H a xs
theorem SqK.same{k:Bool}{K:Ad}{H H':Hp}{a:Addr}{xs:List V}(e:Same H H')(h:SqK k K H a xs):SqK k K H' a xs:=by
 cases k with
 | false=>exact e.seq h
 | true=>exact LO e h
theorem SqK.or{k:Bool}{K:Ad}{H:Hp}{a:Addr}{xs:List V}(h:SqK k K H a xs):SqL K H a xs\/SqT K H a xs:=by
 cases k with
 | false=>exact .inl h
 | true=>exact .inr h
def Ex(K:Ad)(tl:TE):TI:=λσ H R=>tl σ H λx H1=>∃ a,x=.ref a/\(((∃ xs,SqL K H1 a xs)/\R (Qu K a) H1)\/((∃ xs,SqT K H1 a xs)/\R (Qt K a) H1))
theorem JL{X:Cx}{tg:Expr}{l:Expr}{tl:TE}(hl:PE X l tl):PI X tg l (Ex X.K tl):=by
 intro pins s σ H R I h;refine thn (hl pins s σ H _ I h) λv s1 Xv=>?_;obtain⟨x,H1,I1,r1,q1⟩:=Xv;obtain⟨a,e,q⟩:=q1;subst e;cases r1;rcases q with ⟨⟨xs,hq⟩,q⟩ | ⟨⟨xs,hq⟩,q⟩
 .obtain⟨XW,rv,p,hz⟩:=I1.list hq;refine wL p.isList ?_;refine⟨s1.heap.objs.size,[s1.heap.objs.size],_,_,H1,rfl,I1.kept (t':=s1.toks) λb o e=>WZ _ e,iU a _,⟨_,Ym _ rfl,rfl,rfl⟩,λb hb=>?_,q⟩;have e:b=s1.heap.objs.size:=by simpa using hb
  subst e;exact I1.fpOk (XN _) (I1.hok.fresh (XN _))
 .obtain⟨XW,rv,p,hz⟩:=I1.tuple hq;refine wpAny_pyIter_tuple (show s1.heap.IsTuple a XW.toArray from p) ?_;refine⟨s1.heap.objs.size,[s1.heap.objs.size],_,_,H1,rfl,I1.kept (t':=s1.toks) λb o e=>WZ _ e,iT a _,⟨_,Ym _ rfl,rfl,rfl⟩,λb hb=>?_,q⟩;have e:b=s1.heap.objs.size:=by simpa using hb
  subst e;exact I1.fpOk (XN _) (I1.hok.fresh (XN _))
theorem NF{K:Ad}{k:Bool}{a:Addr}{xs:List V}{g:TG}{tb:TS}{D:Ends}{σ:St}{H:Hp}(Pv:Nat->St->Hp->Prop)(h0:Pv 0 σ H)(hl:∀ i σ H,i<=xs.length->Pv i σ H->SqK k K H a xs)
  (hs:∀ i x σ H,xs[i]?=some x->Pv i σ H->g x σ H λσ2 H2=>tb { D with nx:=Pv (i+1),ct:=Pv (i+1),bk:=D.nx } σ2 H2) (hd:∀ σ H,Pv xs.length σ H->D.nx σ H) :
  (((∃ xs,SqL K H a xs)/\∃ W:Nat->Nat->St->Hp->Prop,(∃ m,W 0 m σ H)/\∀ i m σ H,W i m σ H ->
   ((Qu K a).stop i H/\D.nx σ H)\/((Qu K a).go i H/\∃ N:St->Hp->Prop,(∀ σ' H',N σ' H'->∃ m',m'<m/\W (i+1) m' σ' H')/\∀ x H',(Qu K a).yld i H x H'->g x σ H' λσ2 H2=>tb { D with nx:=N,ct:=N,bk:=D.nx } σ2 H2)) \/
  ((∃ xs,SqT K H a xs)/\∃ W:Nat->Nat->St->Hp->Prop,(∃ m,W 0 m σ H)/\∀ i m σ H,W i m σ H ->
   ((Qt K a).stop i H/\D.nx σ H)\/((Qt K a).go i H/\∃ N:St->Hp->Prop,(∀ σ' H',N σ' H'->∃ m',m'<m/\W (i+1) m' σ' H')/\∀ x H',(Qt K a).yld i H x H'->g x σ H' λσ2 H2=>tb { D with nx:=N,ct:=N,bk:=D.nx } σ2 H2))):=by
 cases k with
 | false=>exact .inl ⟨⟨xs,hl 0 σ H (Yl _) h0⟩,vB (K:=K) (a:=a) (xs:=xs) Pv h0 hl hs hd⟩
 | true=>exact .inr ⟨⟨xs,hl 0 σ H (Yl _) h0⟩,iP (K:=K) (a:=a) (xs:=xs) Pv h0 hl hs hd⟩
def PairV(H:Hp)(v:V)(p:Int × Int):Prop:=∃ t,v=.ref t/\H t=some (.tup [.int p.1,.int p.2])
def PairsV(H:Hp)(xs:List V)(ps:Aa):Prop:=xs.length=ps.length/\∀(i:Nat) (p:Int × Int),ps[i]?=some p->∃ v,xs[i]?=some v/\PairV H v p
theorem PairV.same{H H':Hp}{v:V}{p:Int × Int}(s:Same H H')(h:PairV H v p):PairV H' v p:=let ⟨t,e,q⟩:=h;⟨t,e,s _ _ q⟩
theorem PairsV.same{H H':Hp}{xs:List V}{ps:Aa}(s:Same H H')(h:PairsV H xs ps):PairsV H' xs ps:=⟨h.1,λi p e=>let ⟨v,e1,q⟩:=h.2 i p e;⟨v,e1,q.same s⟩⟩
theorem PairsV.at{H:Hp}{xs:List V}{ps:Aa}(h:PairsV H xs ps){i:Nat}{v:V}(e:xs[i]?=some v):∃ p,ps[i]?=some p/\PairV H v p:=by
 have hi:i<xs.length:=(Xs.mp e).1;have hp:i<ps.length:=by rw[<- h.1];exact hi
 obtain⟨v',e1,q⟩:=h.2 i ps[i] (Xn hp);rw[e]at e1;cases e1;exact⟨_,Xn hp,q⟩
theorem PairsV.nil{H:Hp}:PairsV H [] []:=⟨rfl,λi p e=>by simp at e⟩
theorem PairsV.snoc{H:Hp}{xs:List V}{ps:Aa}{v:V}{p:Int × Int}(h:PairsV H xs ps)(q:PairV H v p):PairsV H (xs++[v]) (ps++[p]):=by
 refine⟨by rw[Xt,Xt,h.1];rfl,λi p' e=>?_⟩;by_cases hi:i<ps.length
 .rw[Ys hi]at e;rw[Ys (by rw[h.1];exact hi)];exact h.2 i p' e
 .have hl:i=ps.length:=by
   have:=(Xs.mp e).1
   rw[Xt,Yh]at this;lia
  subst hl;rw[Yp (XN _),UK]at e;rw[Yp (by rw[h.1];exact XN _),h.1,UK];have e':p=p':=Yg e
  subst e';exact⟨v,rfl,q⟩
theorem PairsV.app{H:Hp}{xs ys:List V}{ps qs:Aa}(h:PairsV H xs ps)(h2:PairsV H ys qs):PairsV H (xs++ys) (ps++qs):=by
 refine⟨by rw[Xt,Xt,h.1,h2.1],λi p e=>?_⟩;by_cases hi:i<ps.length
 .rw[Ys hi]at e;rw[Ys (by rw[h.1];exact hi)];exact h.2 i p e
 .rw[Yp (by lia)]at e;rw[Yp (by rw[h.1];omega),h.1];exact h2.2 _ p e
theorem Ew:¬ (("places":Str)="ties"):=by decide +kernel
def wf (n:Int) (tl:Addr):List (Str × V):=XO "ties" (.ref tl) (XO "places" (.int n) [])
theorem JK (n:Int) (tl:Addr):(wf n tl).lookup ("places":Str)=some (.int n):=by unfold wf;rw[FE,if_neg Ew,FE,if_pos rfl]
theorem QR (n:Int) (tl:Addr):(wf n tl).lookup ("ties":Str)=some (.ref tl):=by unfold wf;rw[FE,if_pos rfl]
def WebAt(C:Addr)(H:Hp)(w:Addr)(n:Int)(ps:Aa):Prop:=∃ dx tl xs,H w=some (.ins C dx (wf n tl))/\H tl=some (.lst xs)/\PairsV H xs ps
theorem WebAt.same{C:Addr}{H H':Hp}{w:Addr}{n:Int}{ps:Aa}(s:Same H H')(h:WebAt C H w n ps):WebAt C H' w n ps:=let ⟨dx,tl,xs,a,b,c⟩:=h;⟨dx,tl,xs,s _ _ a,s _ _ b,c.same s⟩
def Zu(n:Int)(ps:Aa):Prop:=1<=n/\n<=14/\ps.length<=30/\∀ p∈ps,0<=p.1/\p.1<n/\0<=p.2/\p.2<n
def FX(K:Ad)(mg:Af)(x qual:Str)(st:Stmt):Prop:=∃(f:Addr) (fd:FuncData),mg x=some (.ref f)/\Fun K x qual st f fd
theorem XS{K:Ad}{h:Heap}{mg:Af}{x:Str}{st:Stmt}{f:Addr}{oc:Value}{od an:Option Addr}{Up:Array (Option Value)}{kV doc pm Xy ct:Value}(X:K.In h)(G:h.Ns mainGlobals mg)
  (a:PySem.W.nsIn K mainGlobals x=some (some (.ref f))) (l:K.lookup f=some ⟨oc,od,.func (PySem.W.fnOf x x (JS st) (OO st) (XB st) .none kV doc pm an Xy ct),Up⟩) (c:PySem.W.codeIn K Xy x=true) (k:PySem.W.keepIn K (.ref f)=true):FX K mg x x st :=
 ⟨f,_,zM X G a,JR l c k⟩
def gZ (K:Ad) (mg:Af) (x qual:Str) (st:Stmt) (fs:List Str):Prop:=∃(C f:Addr) (fd:FuncData),mg x=some (.ref C)/\Fun K "__init__" qual st f fd/\Cls K C/\Mk K C f/\∀ a∈fs,NoAttr K C a
theorem Eu{K:Ad}{h:Heap}{mg:Af}{x qual:Str}{fs:List Str}{st:Stmt}{C f:Addr}{oc:Value}{od an:Option Addr}{Up:Array (Option Value)}{kV doc pm Xy ct:Value}(X:K.In h)(G:h.Ns mainGlobals mg)
  (aC:PySem.W.nsIn K mainGlobals x=some (some (.ref C))) (a:PySem.W.findIn K (.ref C) "__init__"=some (some (.ref f))) (i:PySem.W.isFn K (.ref f)=true)
  (l:K.lookup f=some ⟨oc,od,.func (PySem.W.fnOf "__init__" qual (JS st) (OO st) (XB st) .none kV doc pm an Xy ct),Up⟩) (c:PySem.W.codeIn K Xy qual=true) (k:PySem.W.keepIn K (.ref f)=true)
  (pg:PySem.W.plainGet K C Str.empty=true) (hd:PySem.W.hasDictIn K C=true) (po:PySem.W.plainOver K C=true) (sa:PySem.W.findIn K (.ref C) "__setattr__"=some (some (.builtin "object.__setattr__"))) (mk:PySem.W.makesIn K C=true) (kc:PySem.W.keepIn K (.ref C)=true)
  (na:∀ a∈fs,PySem.W.findIn K (.ref C) a=some none):gZ K mg x qual st fs :=
 ⟨C,f,_,zM X G aC,JR l c k,⟨pg,hd,po,sa⟩,⟨mk,a,i,kc⟩,na⟩
theorem Ud{K:Ad}{h:Heap}{mg:Af}{x:Str}{z:Int}{v:Value}(X:K.In h)(G:h.Ns mainGlobals mg)(a:PySem.W.nsIn K mainGlobals x=some (some v))(e:∃ tk,v=.int z tk):∃ tk,mg x=some (.int z tk):=by obtain⟨tk,rfl⟩:=e;exact⟨tk,zM X G a⟩
theorem gY{i:Nat}{x:V}{σ:St}{H:Hp}{A B:St->Hp->Prop}(h:A (σ.set i (some x)) H):Th i x σ H λσ2 H2=>tYes σ2 H2 λb H3=>if b=true then A σ2 H3 else B σ2 H3 :=
 (show if true=true then A (σ.set i (some x)) H else B (σ.set i (some x)) H from Wj h)
theorem nm{i:Nat}{x:V}{σ:St}{H:Hp}{Q:St->Hp->Prop}(h:Q (σ.set i (some x)) H):Th i x σ H Q:=h
section
variable{K:Ad}{a:Addr}{xs:List V}{g:TG}{tt:TT}{te:TE}{o:Nat}{fr:List Nat}{σ:St}{H:Hp}{Q:VK}
abbrev Hy(Pv:Nat->List V->Hp->Prop)(g:TG)(tt:TT)(te:TE)(o:Nat)(fr:List Nat)(σ:St)(i:Nat)(x:V)(ys:List V)(H:Hp):Prop :=
 ∀ S:Nat->List V->Hp->Prop,(∀ ys H,Pv (i+1) ys H->S (i+1) ys H)->g x (σC o fr σ) H λσ2 H2=>tt σ2 H2 λb H3=>if b=true then te σ2 H3 λy H4=>S (i+1) (ys++[y]) H4 else S (i+1) ys H3
theorem UG(Pv:Nat->List V->Hp->Prop)(h0:Pv 0 [] H)(hz:xs.length<sizeLine)(hl:∀ i ys H,i<=xs.length->Pv i ys H->SqL K H a xs/\ys.length<=i)
  (hs:∀ i x ys H,xs[i]?=some x->Pv i ys H->Hy Pv g tt te o fr σ i x ys H) (hd:∀ ys H,Pv xs.length ys H->∀ p,H p=none->Q (.ref p) (upd H p (.lst ys))):LP (Qu K a) g tt te o fr σ H Q:=by
 refine⟨λi m ys H=>m=xs.length - i/\i<=xs.length/\Pv i ys H,⟨xs.length,by simp,Yl _,h0⟩,?_⟩;rintro i m ys H ⟨rfl,hi,p⟩;obtain⟨q,hy⟩:=hl i ys H hi p;by_cases Xd:i<xs.length
 .refine .inr ⟨⟨xs,xs[i],q,by simp[Xd]⟩,by lia,λx H' ⟨e,y⟩=>?_⟩;subst e;have hx:=y xs q
  exact hs i x ys _ hx p (λj ys H=>∃ m',m'<xs.length - i/\m'=xs.length - j/\j<=xs.length/\Pv j ys H) λys H p'=>⟨xs.length - (i+1),by grind,rfl,Xd,p'⟩
 .have e:i=xs.length:=by lia
  subst e;exact .inl ⟨⟨xs,q,XN _⟩,by lia,hd ys H p⟩
theorem JJ(Pv:Nat->List V->Hp->Prop)(h0:Pv 0 [] H)(hz:xs.length<sizeLine)(hl:∀ i ys H,i<=xs.length->Pv i ys H->SqT K H a xs/\ys.length<=i)
  (hs:∀ i x ys H,xs[i]?=some x->Pv i ys H->Hy Pv g tt te o fr σ i x ys H) (hd:∀ ys H,Pv xs.length ys H->∀ p,H p=none->Q (.ref p) (upd H p (.lst ys))):LP (Qt K a) g tt te o fr σ H Q:=by
 refine⟨λi m ys H=>m=xs.length - i/\i<=xs.length/\Pv i ys H,⟨xs.length,by simp,Yl _,h0⟩,?_⟩;rintro i m ys H ⟨rfl,hi,p⟩;obtain⟨q,hy⟩:=hl i ys H hi p;by_cases Xd:i<xs.length
 .refine .inr ⟨⟨xs,xs[i],q,by simp[Xd]⟩,by omega,λx H' ⟨e,y⟩=>?_⟩;subst e;have hx:=y xs q
  exact hs i x ys _ hx p (λj ys H=>∃ m',m'<xs.length - i/\m'=xs.length - j/\j<=xs.length/\Pv j ys H) λys H p'=>⟨xs.length - (i+1),by omega,rfl,Xd,p'⟩
 .have e:i=xs.length:=by omega
  subst e;exact .inl ⟨⟨xs,q,XN _⟩,by omega,hd ys H p⟩
theorem y8{k:Bool}(Pv:Nat->List V->Hp->Prop)(h0:Pv 0 [] H)(hz:xs.length<sizeLine)(hl:∀ i ys H,i<=xs.length->Pv i ys H->SqK k K H a xs/\ys.length<=i)
  (hs:∀ i x ys H,xs[i]?=some x->Pv i ys H->Hy Pv g tt te o fr σ i x ys H) (hd:∀ ys H,Pv xs.length ys H->∀ p,H p=none->Q (.ref p) (upd H p (.lst ys))) :
  ((∃ xs,SqL K H a xs)/\LP (Qu K a) g tt te o fr σ H Q)\/((∃ xs,SqT K H a xs)/\LP (Qt K a) g tt te o fr σ H Q):=by
 cases k with
 | false=>exact .inl ⟨⟨xs,(hl 0 [] H (Yl _) h0).1⟩,UG Pv h0 hz hl hs hd⟩
 | true=>exact .inr ⟨⟨xs,(hl 0 [] H (Yl _) h0).1⟩,JJ Pv h0 hz hl hs hd⟩
theorem Et{lo:Int}{n:Nat}(Pv:Nat->List V->Hp->Prop)(h0:Pv 0 [] H)(hz:n<sizeLine)(hl:∀ i ys H,i<=n->Pv i ys H->ys.length<=i)
  (hs:∀ i ys H,i<n->Pv i ys H->Hy Pv g tt te o fr σ i (.int (lo+i)) ys H) (hd:∀ ys H,Pv n ys H->∀ p,H p=none->Q (.ref p) (upd H p (.lst ys))):LP (Kp lo n) g tt te o fr σ H Q:=by
 refine⟨λi m ys H=>m=n - i/\i<=n/\Pv i ys H,⟨n,by simp,Yl _,h0⟩,?_⟩;rintro i m ys H ⟨rfl,hi,p⟩;have hy:=hl i ys H hi p
 by_cases Xd:i<n
 .refine .inr ⟨Xd,by lia,λx H' ⟨e,y⟩=>?_⟩;subst e;subst y;exact hs i ys _ Xd p (λj ys H=>∃ m',m'<n - i/\m'=n - j/\j<=n/\Pv j ys H) λys H p'=>⟨n - (i+1),by grind,rfl,Xd,p'⟩
 .have e:i=n:=by lia
  subst e;exact .inl ⟨XN _,by lia,hd ys H p⟩
end
theorem Hx{α:Type}{l:List α}(h:l.Nodup){i j:Nat}{x:α}(a:l[i]?=some x)(b:l[j]?=some x):i=j:=by obtain⟨h1,e1⟩:=Xs.mp a;obtain⟨h2,e2⟩:=Xs.mp b;exact(List.getElem_inj h).mp (e1.trans e2.symm)
theorem ZW{α:Type}{l:List α}{i:Nat}{x d:α}(h:l[i]?=some x):l.getD i d=x:=by rw[WG,h];rfl
theorem gX{α:Type}{l:List α}{x:α}(h:l.Nodup)(hx:x∉l):(l++[x]).Nodup:=by rw[QP];refine⟨h,by simp,λa ha b hb=>?_⟩;rw[XD]at hb;subst hb;rintro rfl;exact hx ha
theorem y7{K:Ad}{a:Addr}{xs:List V}{g:TG}{tb:TS}{D:Ends}{σ:St}{H:Hp}(Pv:Nat->St->Hp->Prop)(h0:Pv 0 σ H)(hl:∀ i σ H,i<=xs.length->Pv i σ H->SqL K H a xs)
  (hs:∀(i:Nat) x σ H (p:Addr),H p=none->xs[i]?=some x->Pv i σ H->g (.ref p) σ (upd H p (.tup [.int i,x])) λσ2 H2=>tb { D with nx:=Pv (i+1),ct:=Pv (i+1),bk:=D.nx } σ2 H2) (hd:∀ σ H,Pv xs.length σ H->D.nx σ H) :
  ∃ W:Nat->Nat->St->Hp->Prop,(∃ m,W 0 m σ H)/\∀ i m σ H,W i m σ H ->
   ((HA K a).stop i H/\D.nx σ H)\/((HA K a).go i H/\∃ N:St->Hp->Prop,(∀ σ' H',N σ' H'->∃ m',m'<m/\W (i+1) m' σ' H')/\∀ x H',(HA K a).yld i H x H'->g x σ H' λσ2 H2=>tb { D with nx:=N,ct:=N,bk:=D.nx } σ2 H2):=by
 refine⟨λi m σ H=>m=xs.length - i/\i<=xs.length/\Pv i σ H,⟨xs.length,by simp,Yl _,h0⟩,?_⟩;rintro i m σ H ⟨rfl,hi,p⟩;have q:=hl i σ H hi p
 by_cases Xd:i<xs.length
 .refine .inr ⟨⟨xs,xs[i],q,by simp[Xd]⟩,Pv (i+1),λσ' H' p'=>⟨xs.length - (i+1),by omega,rfl,Xd,p'⟩,λx H' ⟨T,y,hT,ex,eH,hy⟩=>?_⟩;subst ex eH;exact hs i y σ H T hT (hy xs q) p
 .have e:i=xs.length:=by lia
  subst e;exact .inl ⟨⟨xs,q,XN _⟩,hd σ H p⟩
end My
namespace L2
open PySem PySem.Spec PyProof.Rows
section
variable{X:Cx}{a b o e:Expr}{es:List Expr}{ta to:TE}{t:TA}{pos:Pos}
theorem Zk(K:Ad)(h:X.K=K:=by rfl):Fp X (Fo K):=h ▸ Fm
theorem ZN(K:Ad)(h:X.K=K:=by rfl):Fp X (Fn K):=h ▸ uS
theorem LN(K:Ad)(h:X.K=K:=by rfl):uW X (Fj K):=h ▸ uQ
theorem Qh(K:Ad)(h:X.K=K:=by rfl):WD X (compareOp .In) (λx y H Q=>∃ p xs,y=.ref p/\(SqL K H p xs\/SqT K H p xs)/\Wr x=true/\xs.all Wr=true/\Q (.bl (HH x xs)) H):=h ▸ uP
theorem ZP(K:Ad)(h:X.K=K:=by rfl):WD X (compareOp .NotIn) (λx y H Q=>∃ p xs,y=.ref p/\(SqL K H p xs\/SqT K H p xs)/\Wr x=true/\xs.all Wr=true/\Q (.bl (!HH x xs)) H):=h ▸ ak
theorem tD(K:Ad)(hu:X.A.units+8<cLine)(h:X.K=K:=by rfl):WD X (compareOp .Eq) (NH K false):=h ▸ tK hu
theorem Er(K:Ad)(hu:X.A.units+8<cLine)(h:X.K=K:=by rfl):WD X (compareOp .NotEq) (NH K true):=h ▸ tJ hu
theorem Ep(K:Ad)(h:X.K=K:=by rfl):WD X (binaryOp .Add) (Fs K):=h ▸ uV
theorem Zn(K:Ad){f:Str}(he:PE X e ta)(hb:attributeBase e f X.env (eval e X.env)=eval e X.env)(h:X.K=K:=by rfl):PE X (.Attribute e f pos) (FA K ta f):=h ▸ Fz he hb
theorem Zj (K:Ad) (h:X.K=K:=by rfl):Ur X (.builtin "len") (λxs H Q=>∃ p ys,xs=[.ref p]/\(SqL K H p ys\/SqT K H p ys)/\Q (.int ys.length) H):=h ▸ aj
theorem Hw (K:Ad) (h:X.K=K:=by rfl):Ur X (.type "list") (λxs H Q=>∃ p ys,xs=[.ref p]/\(SqL K H p ys\/SqT K H p ys)/\∀ l,H l=none->Q (.ref l) (upd H l (.lst ys))):=h ▸ ai
theorem ZC (K:Ad) (h:X.K=K:=by rfl):Ur X (.type "tuple") (λxs H Q=>∃ p ys,xs=[.ref p]/\((SqL K H p ys/\∀ l,H l=none->Q (.ref l) (upd H l (.tup ys)))\/(SqT K H p ys/\Q (.ref p) H))):=h ▸ uN
theorem tw (K:Ad) {T:String} (h:X.K=K:=by rfl):Ur X (.builtin "isinstance") (λxs H Q=>∃ x t b,xs=[x,.ty T]/\TyOf K H x t/\PySem.W.kitOne K t (.type T)=some b/\Q (.bl b) H):=h ▸ tU
theorem OH(K:Ad){tg:Expr}{l:Expr}{tl:TE}(hl:PE X l tl)(h:X.K=K:=by rfl):PI X tg l (FR K tl):=h ▸ vG hl
theorem JI(K:Ad){tg:Expr}{l:Expr}{tl:TE}(hl:PE X l tl)(h:X.K=K:=by rfl):PI X tg l (FQ K tl):=h ▸ FP hl
theorem LM(K:Ad){tg:Expr}{l:Expr}{tl:TE}(hl:PE X l tl)(h:X.K=K:=by rfl):PI X tg l (My.Ex K tl):=h ▸ My.JL hl
theorem LL (K:Ad) {elts:List Expr} {x1:Nat} {Tg:Pos} {a:Expr} {ta:TA} {p pos:Pos} (hg:Gl X "enumerate") (hm:X.mg "enumerate"=none) (ha:PA X [a] ta) (hs:starEach [a] X.env=[(false,eval a X.env)]:=by rfl) (h:X.K=K:=by rfl) :
  PI X (.Tuple elts x1 Tg) (.Call (.Name "enumerate" p) [a] [] pos) (EB K ta):=h ▸ tR hg hm ha hs
theorem Qg(K:Ad){es:List Expr}{k:Nat}{t:Qy}{n:Nat}(hc:X.calm=true)(ht:Ga X es t)
  (hn:(assignEach es X.env).length=n:=by rfl) (UZ:(assignEach es X.env).findIdx? (·.1)=none:=by rfl) (h:X.K=K:=by rfl):PG X (.Tuple es k pos) (Ks K n t):=h ▸ FW hc ht hn UZ
theorem QQ (K:Ad) {name:Str} {apos Xe:Pos} {T id:String} {r:V->List V->Hp->VK->Prop} (pa:PlainAttrs T) (slot:Slot T name id) (Ka:typeOf (.builtin id)=pure (.type "method_descriptor")) (hm:zg X id r) (ho:PE X o to) (ha:PA X (e :: es) t)
  (Vs:attributeBase o name X.env (eval o X.env)=eval o X.env:=by rfl)
  (JZ:((backTo Xe (starEach (e :: es) X.env)).all (λx=>!x.1) && (backToKw Xe (keywordEach [] X.env)).all (λx=>x.1.isSome)
   && decide ((e :: es).length+([]:List Keyword).length+(if ([]:List Keyword).isEmpty then 0 else 1)<30))=true:=by rfl)
  (Vr:(apos.endLine == Xe.line)=true:=by rfl) (hs:starEach (e :: es) X.env=(false,eval e X.env) :: starEach es X.env:=by rfl) (SY:(backTo Xe (starEach es X.env)).any (·.1)=false:=by rfl) (h:X.K=K:=by rfl) :
  PE X (.Call (.Attribute o name apos) (e :: es) [] Xe) (iw K T r to t):=h ▸ Fe pa slot Ka hm ho ha Vs JZ Vr hs SY
theorem tu (K:Ad) {name:Str} {apos Xe:Pos} {T id:String} {r:V->List V->Hp->VK->Prop} (pa:PlainAttrs T) (slot:Slot T name id) (Ka:typeOf (.builtin id)=pure (.type "method_descriptor")) (hm:zg X id r) (ho:PE X o to)
  (Vs:attributeBase o name X.env (eval o X.env)=eval o X.env:=by rfl) (Vr:(apos.endLine == Xe.line)=true:=by rfl) (h:X.K=K:=by rfl):PE X (.Call (.Attribute o name apos) [] [] Xe) (Fg K T r to):=h ▸ Ff pa slot Ka hm ho Vs Vr
end
end L2
namespace My
abbrev mk(m:Ac)(i:Nat):Int:=m.getD i 0
def pm(m:Ac)(a b:Nat):Ac :=
 if min (mk m a) (mk m b)<max (mk m a) (mk m b) then m.map (λk=>if k=max (mk m a) (mk m b) then min (mk m a) (mk m b) else k) else m
def lm(m:Ac)(a b:Nat):Ac :=
 if mk m a≠mk m b then m.map (λk=>if k=mk m b then mk m a else k) else m
def SameP(m l:Ac):Prop:=m.length=l.length/\∀ i j,i<m.length->j<m.length->(mk m i=mk m j↔mk l i=mk l j)
theorem ND(m:Ac)(f:Int->Int){i:Nat}(h:i<m.length):mk (m.map f) i=f (mk m i):=by simp[mk,WG,Yq,Xn h]
theorem Eo(m:Ac)(a b:Nat):(pm m a b).length=m.length:=by unfold pm;split <;> simp
theorem y6(m:Ac)(a b:Nat):(lm m a b).length=m.length:=by unfold lm;split <;> simp
def Hv(m:Ac)(a b i j:Nat):Prop:=mk m i=mk m j\/((mk m i=mk m a\/mk m i=mk m b)/\(mk m j=mk m a\/mk m j=mk m b))
theorem tq{x y p q:Int}:((if x=q then p else x)=(if y=q then p else y))↔(x=y\/((x=p\/x=q)/\(y=p\/y=q))):=by grind
theorem gW{x y p:Int}:x=y↔(x=y\/((x=p\/x=p)/\(y=p\/y=p))):=⟨.inl,λh=>h.elim id λh=>(h.1.elim id id).trans (h.2.elim id id).symm⟩
theorem En{m:Ac}{a b i j:Nat}(hi:i<m.length)(hj:j<m.length):mk (pm m a b) i=mk (pm m a b) j↔Hv m a b i j:=by
 unfold pm Hv;split
 .rename_i h;rw[ND _ _ hi,ND _ _ hj];by_cases yZ:mk m a<mk m b
  .rw[KA (Md yZ),wO (Md yZ)];exact tq
  .rw[wQ (Gu.mp yZ),Kz (Gu.mp yZ),Or.comm (a:=mk m i=mk m a),Or.comm (a:=mk m j=mk m a)];exact tq
 .rename_i h;have hh:=Gu.mp h
  rw[show mk m a=mk m b from Int.le_antisymm (RU (Int.le_max_left _ _) (RU hh (Int.min_le_right _ _))) (RU (Int.le_max_right _ _) (RU hh (Int.min_le_left _ _)))];exact gW
theorem Em{m:Ac}{a b i j:Nat}(hi:i<m.length)(hj:j<m.length):mk (lm m a b) i=mk (lm m a b) j↔Hv m a b i j:=by
 unfold lm Hv;split
 .rename_i h;rw[ND _ _ hi,ND _ _ hj];exact tq
 .rename_i h;rw[show mk m a=mk m b from Classical.not_not.mp h];exact gW
theorem SameP.step{m l:Ac}(s:SameP m l){a b:Nat}(ha:a<m.length)(hb:b<m.length):SameP (pm m a b) (lm l a b):=by obtain⟨hl,h⟩:=s;refine⟨by rw[Eo,y6,hl],λi j hi hj=>?_⟩;rw[Eo]at hi hj;rw[En hi hj,Em (by omega) (by omega)];unfold Hv;rw[h i j hi hj,h i a hi ha,h i b hi hb,h j a hj ha,h j b hj hb]
def Xu(n:Nat)(es:List (Nat × Nat)):Ac:=es.foldl (λm e=>pm m e.1 e.2) ((List.range n).map λ(i:Nat)=>(i:Int))
def WS(n:Nat)(es:List (Nat × Nat)):Ac:=es.foldl (λm e=>lm m e.1 e.2) ((List.range n).map λ(i:Nat)=>(i:Int))
theorem ZB(n:Nat)(es:List (Nat × Nat)):(Xu n es).length=n:=by
 have:∀(es:List (Nat × Nat)) (m:Ac),(es.foldl (λm e=>pm m e.1 e.2) m).length=m.length:=by
  intro es
  induction es with
  | nil=>intro m;rfl
  | cons e es ih=>intro m;rw[zV,ih,Eo]
 unfold Xu;rw[this];simp
theorem ZF(n:Nat)(es:List (Nat × Nat)):(WS n es).length=n:=by
 have:∀(es:List (Nat × Nat)) (m:Ac),(es.foldl (λm e=>lm m e.1 e.2) m).length=m.length:=by
  intro es
  induction es with
  | nil=>intro m;rfl
  | cons e es ih=>intro m;rw[zV,ih,y6]
 unfold WS;rw[this];simp
theorem ZS9(n:Nat)(es:List (Nat × Nat))(e:Nat × Nat):Xu n (es++[e])=pm (Xu n es) e.1 e.2:=by unfold Xu;rw[Oe];rfl
theorem NC(n:Nat)(es:List (Nat × Nat))(e:Nat × Nat):WS n (es++[e])=lm (WS n es) e.1 e.2:=by unfold WS;rw[Oe];rfl
theorem yY{n:Nat}:∀ {es:List (Nat × Nat)},(∀ e∈es,e.1<n/\e.2<n)->SameP (Xu n es) (WS n es):=by
 intro es;have key:∀(es:List (Nat × Nat)) (m l:Ac),SameP m l->m.length=n->(∀ e∈es,e.1<n/\e.2<n)->SameP (es.foldl (λm e=>pm m e.1 e.2) m) (es.foldl (λm e=>lm m e.1 e.2) l):=by
  intro es
  induction es with
  | nil=>intro m l s _ _;exact s
  | cons e es ih =>
   intro m l s hm he;have h1:=he e Ye
   exact ih _ _ (s.step (by omega) (by omega)) (by rw[Eo];exact hm) λx hx=>he x (Yi _ hx)
 exact key es _ _ ⟨rfl,λi j _ _=>Iff.rfl⟩ (by simp)
def SW(g:List (Int × Ac))(place k:Int):List (Int × Ac) :=
 if k∈g.map (·.1) then g.map (λkv=>if kv.1=k then (kv.1,kv.2++[place]) else kv) else g++[(k,[place])]
def Xr(M:Ac):Nat->List (Int × Ac)
 | 0=>[]
 | i+1=>SW (Xr M i) (i:Int) (mk M i)
def JH(M:Ac):List (Int × Ac):=Xr M M.length
theorem NB(g:List (Int × Ac))(p k:Int):(SW g p k).map (·.1)=if k∈g.map (·.1) then g.map (·.1) else g.map (·.1)++[k]:=by
 unfold SW;split
 .rw[Me];refine YT λkv _=>?_;show(if kv.1=k then (kv.1,kv.2++[p]) else kv).1=kv.1
  split <;> rfl
 .simp
theorem ZN5{g:List (Int × Ac)}{p k:Int}(h:(g.map (·.1)).Nodup):((SW g p k).map (·.1)).Nodup:=by
 rw[NB];split
 .exact h
 .rename_i hk;rw[QP];refine⟨h,by simp,λa ha b hb=>?_⟩;rw[XD]at hb;subst hb;rintro rfl;exact hk ha
theorem tm(M:Ac):∀ i,((Xr M i).map (·.1)).Nodup
 | 0=>by simp[Xr]
 | i+1=>ZN5 (tm M i)
theorem Vq(M:Ac):∀ i kv,kv∈Xr M i->∀ z:Int,z∈kv.2↔(0<=z/\z<(i:Int)/\mk M z.toNat=kv.1)
 | 0,kv,h,z=>by simp[Xr]at h
 | i+1,kv,h,z=>by
  unfold Xr SW at h;split at h
  .rename_i hk;obtain⟨yX,h0,e⟩:=YD.mp h;have ih:=Vq M i yX h0 z
   by_cases hc:yX.1=mk M i
   .rw[if_pos hc]at e;subst e;rw[Xx,ih,XD];constructor
    .rintro(⟨a,b,c⟩ | rfl)
     .exact⟨a,by lia,c⟩
     .exact⟨by lia,by lia,by simpa using hc.symm⟩
    .rintro⟨a,b,c⟩;by_cases hz:z<(i:Int)
     .exact .inl ⟨a,hz,c⟩
     .exact .inr (by lia)
   .rw[if_neg hc]at e;subst e;rw[ih];constructor
    .rintro⟨a,b,c⟩;exact⟨a,by omega,c⟩
    .rintro⟨a,b,c⟩;refine⟨a,?_,c⟩;by_cases hz:z<(i:Int)
     .exact hz
     .have e:z.toNat=i:=by grind
      rw[e]at c;exact absurd c.symm hc
  .rename_i hk;rcases Xx.mp h with h0 | h0
   .have ih:=Vq M i kv h0 z;rw[ih];constructor
    .rintro⟨a,b,c⟩;exact⟨a,by lia,c⟩
    .rintro⟨a,b,c⟩;refine⟨a,?_,c⟩;by_cases hz:z<(i:Int)
     .exact hz
     .have e:z.toNat=i:=by grind
      rw[e]at c;exact absurd (YD.mpr ⟨kv,h0,c.symm⟩) hk
   .rw[XD]at h0;subst h0;simp only [XD];constructor
    .rintro rfl;exact⟨by lia,by lia,by simp⟩
    .rintro⟨a,b,c⟩;by_cases hz:z<(i:Int)
     .exfalso;have key:=grpA_key M i z.toNat (by lia)
      rw[c]at key;exact hk key
     .lia
where
 grpA_key (M:Ac):∀ i j,j<i->mk M j∈(Xr M i).map (·.1)
  | 0,j,h=>absurd h (Wy j)
  | i+1,j,h=>by
   show mk M j∈(SW (Xr M i) (i:Int) (mk M i)).map (·.1);rw[NB];by_cases hj:j<i
   .have:=grpA_key M i j hj
    split
    .exact this
    .exact Yb _ this
   .have e:j=i:=by lia
    subst e;split
    .assumption
    .simp
theorem grpA_key{M:Ac}{i j:Nat}(h:j<i):mk M j∈(Xr M i).map (·.1):=Vq.grpA_key M i j h
theorem yW(M:Ac):∀ i k,k∈(Xr M i).map (·.1)->∃ j,j<i/\mk M j=k
 | 0,k,h=>by simp[Xr]at h
 | i+1,k,h=>by
  have h:k∈(SW (Xr M i) (i:Int) (mk M i)).map (·.1):=h;rw[NB]at h;have old:k∈(Xr M i).map (·.1)->∃ j,j<i+1/\mk M j=k:=λq=>by obtain⟨j,hj,e⟩:=yW M i k q;exact⟨j,by lia,e⟩
  split at h
  .exact old h
  .rcases Xx.mp h with q | q
   .exact old q
   .rw[XD]at q;exact⟨i,by lia,q.symm⟩
theorem gU{M:Ac}(hM:1<=M.length):(JH M).length=1↔∀ i j,i<M.length->j<M.length->mk M i=mk M j:=by
 unfold JH;constructor
 .intro h i j hi hj;obtain⟨kv,e⟩:=je.mp h;have h1:=grpA_key (M:=M) hi
  have h2:=grpA_key (M:=M) hj;rw[e]at h1 h2;rw[List.map_singleton,XD]at h1 h2;rw[h1,h2]
 .intro h;have nd:=tm M M.length
  have h0:=grpA_key (M:=M) (i:=M.length) (j:=0) (by lia);generalize hg:(Xr M M.length)=g at *
  match g,hg with
  | [],_=>simp at h0
  | [kv],_=>rfl
  | a :: b :: r,hg =>
   exfalso;obtain⟨i,hi,e1⟩:=yW M M.length a.1 (by rw[hg];simp)
   obtain⟨j,hj,e2⟩:=yW M M.length b.1 (by rw[hg];simp);have e3:=h i j hi hj
   have:a.1=b.1:=by rw[<- e1,<- e2,e3]
   simp[this]at nd
theorem SameP.one{m l:Ac}(s:SameP m l):(∀ i j,i<m.length->j<m.length->mk m i=mk m j)↔(∀ i j,i<l.length->j<l.length->mk l i=mk l j):=by
 obtain⟨hl,h⟩:=s;rw[<- hl];constructor
 .intro q i j hi hj;exact(h i j hi hj).mp (q i j hi hj)
 .intro q i j hi hj;exact(h i j hi hj).mpr (q i j hi hj)
theorem tj{M:Ac}:∀ {i:Nat} {kv:Int × Ac},kv∈Xr M i->kv.2.length<=i
 | 0,kv,h=>by simp[Xr]at h
 | i+1,kv,h=>by
  unfold Xr SW at h;split at h
  .obtain⟨yX,h0,e⟩:=YD.mp h;have ih:=tj h0
   by_cases hc:yX.1=mk M i
   .rw[if_pos hc]at e;subst e;rw[Xt,Yh];lia
   .rw[if_neg hc]at e;subst e;lia
  .rcases Xx.mp h with h0 | h0
   .have ih:=tj h0;omega
   .rw[XD]at h0;subst h0;simp
end My
namespace My
open PySem L2 PyProof.Rows
theorem ZQ(z:Int)(l:Ac):HH (.int z) (IL l)=decide (z∈l):=by
 unfold HH;rw[List.any_map];rw[OU,wR,YS];constructor
 .rintro⟨y,hy,e⟩;have e':y=z:=by simpa [Tw] using e
  rw[<- e'];exact hy
 .intro h;exact⟨z,h,by simp[Tw]⟩
theorem ZE(l:Ac):(IL l).all Wr=true:=by rw[List.all_map,QE];intro x _;rfl
theorem gT{K:Ad}{t:Value}:PySem.W.kitOne K t t=some true:=by unfold PySem.W.kitOne;rw[if_pos (Oc t)]
theorem Zx{a b:Int}:decide (V.int a=V.int b)=decide (a=b):=by
 by_cases h:a=b
 .subst h;simp
 .have h':¬ V.int a=V.int b:=λz=>h (V.int.inj z);rw[SF h,SF h']
end My
namespace My
open PySem L2
def IsSet(m:Nat)(ns:Ac):Prop:=∀ i z,ns[i]?=some z->0<=z/\z<(m:Int)/\∀ y,i≠0->ns[i - 1]?=some y->y<z
def XT(ps:Aa)(ns:Ac):List (Nat × Nat):=ns.map λz=>((ps.getD z.toNat (0,0)).1.toNat,(ps.getD z.toNat (0,0)).2.toNat)
theorem ZR5{ps:Aa}{ns:Ac}{i:Nat}{z:Int}(h:ns[i]?=some z):XT ps (ns.take (i+1))=XT ps (ns.take i)++[((ps.getD z.toNat (0,0)).1.toNat,(ps.getD z.toNat (0,0)).2.toNat)]:=by unfold XT;rw[WB,h];simp
theorem OG{m:Ac}{i:Nat}(h:i<m.length):m[i]?=some (mk m i):=by rw[Xn h];simp[mk,WG,Xn h]
theorem ZX7(n:Int):Wi 0 n=(List.range n.toNat).map λ(i:Nat)=>(i:Int):=by unfold Wi;rw[zC];refine YT λi _=>?_;lia
def Vd(g:List (Int × Ac))(as:List Addr):List (Key × V):=List.zipWith (λkv a=>((Sum.inl kv.1:Key),V.ref a)) g as
theorem tf{g:List (Int × Ac)}{as:List Addr}(h:as.length=g.length):(Vd g as).length=g.length:=by unfold Vd;rw[GL];grind
theorem gS:∀ {g:List (Int × Ac)} {as:List Addr},as.length=g.length->(Vd g as).map (·.2)=as.map V.ref
 | [],[],_=>rfl
 | [],_ :: _,h=>by simp at h
 | _ :: _,[],h=>by simp at h
 | kv :: g,a :: as,h=>by show V.ref a :: (Vd g as).map (·.2)=V.ref a :: as.map V.ref;rw[gS (UL h)]
theorem gR:∀ {g g':List (Int × Ac)} {as:List Addr},g.map (·.1)=g'.map (·.1)->Vd g as=Vd g' as
 | [],[],_,_=>rfl
 | [],_ :: _,_,h=>by simp at h
 | _ :: _,[],_,h=>by simp at h
 | kv :: g,yV :: g',[],_=>rfl
 | kv :: g,yV :: g',a :: as,h=>by
  rw[YV,YV,List.cons.injEq]at h;show((Sum.inl kv.1:Key),V.ref a) :: Vd g as=((Sum.inl yV.1:Key),V.ref a) :: Vd g' as
  rw[h.1,gR h.2]
theorem El:∀ {g:List (Int × Ac)} {as:List Addr} {kv:Int × Ac} {a:Addr},as.length=g.length->Vd (g++[kv]) (as++[a])=Vd g as++[((Sum.inl kv.1:Key),V.ref a)]
 | [],[],_,_,_=>rfl
 | [],_ :: _,_,_,h=>by simp at h
 | _ :: _,[],_,_,h=>by simp at h
 | x :: g,y :: as,kv,a,h=>by show _ :: Vd (g++[kv]) (as++[a])=_ :: (Vd g as++_);rw[El (UL h)]
theorem JG:∀ {g:List (Int × Ac)} {as:List Addr} {k:Int},as.length=g.length ->
  (Xm (Vd g as) (Sum.inl k:Key)=none/\k∉g.map (·.1))\/∃(j:Nat) (kv:Int × Ac) (a:Addr),g[j]?=some kv/\as[j]?=some a/\kv.1=k/\Xm (Vd g as) (Sum.inl k:Key)=some (.ref a)
 | [],[],k,_=>.inl ⟨rfl,by simp⟩
 | [],_ :: _,_,h=>by simp at h
 | _ :: _,[],_,h=>by simp at h
 | kv :: g,a :: as,k,h=>by
  by_cases e:kv.1=k
  .refine .inr ⟨0,kv,a,rfl,rfl,e,?_⟩;show Xm (((Sum.inl kv.1:Key),V.ref a) :: Vd g as) _=_
   rw[ZX (by rw[e])]
  .have e':¬ ((Sum.inl kv.1:Key)=Sum.inl k):=λz=>e (Sum.inl.inj z);have ev:Xm (Vd (kv :: g) (a :: as)) (Sum.inl k:Key)=Xm (Vd g as) (Sum.inl k:Key):=ZY (p:=((Sum.inl kv.1:Key),V.ref a)) e'
   rcases JG (g:=g) (as:=as) (k:=k) (UL h) with ⟨h1,h2⟩ | ⟨j,yV,a',h1,h2,h3,h4⟩
   .refine .inl ⟨by rw[ev];exact h1,?_⟩;rw[YV,Yj];rintro(z | z)
    .exact e z.symm
    .exact h2 z
   .exact .inr ⟨j+1,yV,a',by simpa using h1,by simpa using h2,h3,by rw[ev];exact h4⟩
structure GrpAt (H0 H:Hp) (g:List (Int × Ac)) (as:List Addr):Prop where
 len:as.length=g.length
 nd:as.Nodup
 at_:∀(i:Nat) (kv:Int × Ac) (a:Addr),g[i]?=some kv->as[i]?=some a->H a=some (.lst (IL kv.2))
 new:∀ a∈as,H0 a=none
theorem GrpAt.same{H0 H H':Hp}{g:List (Int × Ac)}{as:List Addr}(s:Same H H')(h:GrpAt H0 H g as):GrpAt H0 H' g as:=⟨h.len,h.nd,λi kv a e1 e2=>s _ _ (h.at_ i kv a e1 e2),h.new⟩
theorem GrpAt.mem{H0 H:Hp}{g:List (Int × Ac)}{as:List Addr}(h:GrpAt H0 H g as){a:Addr}(ha:a∈as):∃ l,H a=some (.lst l):=by
 obtain⟨i,hi,e⟩:=xb ha;have hg:i<g.length:=by rw[<- h.len];exact hi
 exact⟨_,h.at_ i g[i] a (Xn hg) (by rw[Xn hi,e])⟩
theorem IsSet.all{m:Nat}{ns:Ac}(h:IsSet m ns):∀ z∈ns,0<=z/\z<(m:Int):=λz hz=>by obtain⟨i,hi,e⟩:=xb hz;obtain⟨a,b,_⟩:=h i z (by rw[Xn hi,e]);exact⟨a,b⟩
theorem IsSet.nil(m:Nat):IsSet m []:=λi z e=>by simp at e
theorem IsSet.up{m:Nat}{ns:Ac}(h:IsSet m ns):IsSet (m+1) ns:=λi z e=>by obtain⟨a,b,c⟩:=h i z e;exact⟨a,by omega,c⟩
theorem IsSet.snoc{m:Nat}{ns:Ac}(h:IsSet m ns):IsSet (m+1) (ns++[(m:Int)]):=λi z e=>by
 by_cases hi:i<ns.length
 .rw[Ys hi]at e;obtain⟨a,b,c⟩:=h i z e;refine⟨a,by lia,λy h0 ey=>?_⟩;rw[Ys (by omega)]at ey;exact c y h0 ey
 .have hl:i=ns.length:=by
   have:=(Xs.mp e).1
   rw[Xt,Yh]at this;lia
  subst hl;rw[Yp (XN _),UK]at e;have e:(m:Int)=z:=Yg e
  subst e;refine⟨by lia,by lia,λy h0 ey=>?_⟩;rw[Ys (by omega)]at ey;exact(h _ y ey).2.1
theorem IsSet.len{m:Nat}:∀ {ns:Ac},IsSet m ns->ns.length<=m:=λ{ns} h=>by
 have key:∀(i:Nat) (z:Int),ns[i]?=some z->(i:Int)<=z:=by
  intro i
  induction i with
  | zero=>intro z e;exact(h 0 z e).1
  | succ i ih =>
   intro z e;have hi:i<ns.length:=by have:=(Xs.mp e).1;lia
   have e2:ns[i]?=some ns[i]:=Xn hi
   have:=ih _ e2
   have:=(h (i+1) z e).2.2 ns[i] (by lia) (by rw[w5];exact e2)
   lia
 by_cases h0:ns.length=0
 .lia
 .have e:ns[ns.length - 1]?=some (ns[ns.length - 1]'(by lia)):=Xn _;have a:=key _ _ e
  have b:=(h _ _ e).2.1;lia
end My
namespace L2
open PySem PySem.Spec PyProof.Rows
section
variable{X:Cx}
def Ek(K:Ad):V->List V->Hp->VK->Prop:=λx vs H Q=>∃(p:Addr) (ns:Ac) (z:Int) (j:Nat),x=.ref p/\vs=[.int z]/\SqL K H p (ns.map V.int)/\ns[j]?=some z/\(∀ i,i<j->ns[i]?≠some z)/\Q (.int j) H
theorem sZ (K:Ad) (h:X.K=K:=by rfl):JY X "list.index" (Ek K):=by
 subst h;intro pins s σ H x vs v us Q I rx rv h;obtain⟨p,ns,z,j,rfl,rfl,hq,hj,Sq,q⟩:=h;cases rx;obtain⟨u,rfl,t,rfl⟩:=rv.one;obtain⟨XW,r,⟨o,n,e,hc,hd,JF⟩,hz⟩:=I.list hq;have hl:XW.length=ns.length:=by rw[<- r.length,Yd]
 have NA:j<ns.length:=(Xs.mp hj).1;have hsz:sizeLine=16777216:=Uj
 rw[Yd]at hz;obtain⟨oc,od,sY,Up⟩:=o;have hc:oc=.type "list":=hc
 have JF:sY=.seq XW.toArray n:=JF;subst hc JF;have at_:∀(i:Nat) (hi:i<XW.length),∃ tk,XW[i]=.int (ns[i]'(by lia)) tk:=λi hi=>by
  obtain⟨x,ex,rx⟩:=r.at hi;rw[Yq,Xn (by omega)]at ex;have ex:V.int (ns[i]'(by omega))=x:=Yg ex
  subst ex;exact rx
 refine KI F.slot_list_index ⟨_,e,rfl⟩ F.entry_list_index (F.args_list_index_2 _ _) (SeqAt.list_indexAt p XW.toArray n od Up (.int z t) (λy=>Uo (.int z) y) j (by rw[Ya];lia) (by lia) ?_ ?_) ⟨e,λy hy=>?_,?_⟩
 .obtain⟨tk,e1⟩:=at_ j (by omega);have e2:ns[j]'(by lia)=z:=by rw[Xn NA]at hj;exact Yg hj
  have e3:XW.toArray[j]'(by rw[Ya];lia)=.int z tk:=by rw[<- e2];simpa using e1
  rw[e3];simp[Uo,Tw]
 .intro m hm hmj;have LK:m<XW.length:=by rw[Ya]at hm;exact hm
  obtain⟨tk,e1⟩:=at_ m LK;have e3:XW.toArray[m]'hm=.int (ns[m]'(by omega)) tk:=by simpa using e1
  rw[e3];have XH:=Sq m hmj
  rw[Xn (by omega)]at XH;have JE:ns[m]'(by omega)≠z:=λw=>XH (Xw some w)
  simp[Uo,Tw,JE]
 .refine RO (x:=.int z) ⟨t,rfl⟩ rfl r ?_ y (by simpa using hy);rw[List.all_map,QE];intro _ _;rfl
 .exact⟨.int j,H,I.tok _,⟨_,rfl⟩,q⟩
end
end L2
namespace My
open PySem L2
section
variable{K:Ad}{H:Hp}{α:Type}[DecidableEq α]
def Bears(R:V->α->Prop)(xs:List V)(l:List α):Prop:=xs.length=l.length/\∀(i:Nat) (a:α),l[i]?=some a->∃ x,xs[i]?=some x/\R x a
theorem Bears.at{R:V->α->Prop}{xs:List V}{l:List α}(h:Bears R xs l){i:Nat}{x:V}(e:xs[i]?=some x):∃ a,l[i]?=some a/\R x a:=by
 have hi:i<xs.length:=(Xs.mp e).1;have hl:i<l.length:=by rw[<- h.1];exact hi
 obtain⟨x',e1,q⟩:=h.2 i l[i] (Xn hl);rw[e]at e1;cases e1;exact⟨_,Xn hl,q⟩
theorem gQ{l m:List α}(h:l.length=m.length):(List.range l.length).all (λi=>decide (l[i]?=m[i]?))=decide (l=m):=by
 rw[OU,QE,YS];constructor
 .intro q;refine RW λi=>?_;by_cases hi:i<l.length
  .exact Yu (q i (YJ.mpr hi))
  .rw[YW (by lia),YW (by lia)]
 .rintro rfl i _;simp
theorem Zy8{R:V->α->Prop}{n:Nat}{p q:Addr}{xs ys:List V}{l m:List α}(hp:SqL K H p xs)(hq:SqL K H q ys)(h1:Bears R xs l)(h2:Bears R ys m)(hR:∀ x y a b,R x a->R y b->EqD K H n x y (decide (a=b))):EqD K H (n+1) (.ref p) (.ref q) (decide (l=m)):=by
 by_cases hl:xs.length=ys.length
 .have e:=gQ (l:=l) (m:=m) (by rw[<- h1.1,<- h2.1,hl]);rw[<- e,<- h1.1];refine EqD.lsts hp hq hl λi x y ex ey=>?_;obtain⟨a,ea,ra⟩:=h1.at ex;obtain⟨b,eb,rb⟩:=h2.at ey;rw[ea,eb,show decide (some a=some b)=decide (a=b) by simp];exact hR x y a b ra rb
 .have e:decide (l=m)=false:=SF λz=>hl (by rw[h1.1,h2.1,z]);rw[e];exact EqD.lens hp hq hl
theorem sX{R:V->α->Prop}{n:Nat}{p q:Addr}{xs ys:List V}{l m:List α}(hp:SqT K H p xs)(hq:SqT K H q ys)(h1:Bears R xs l)(h2:Bears R ys m)(hR:∀ x y a b,R x a->R y b->EqD K H n x y (decide (a=b))):EqD K H (n+1) (.ref p) (.ref q) (decide (l=m)):=by
 have key:=EqD.tups (e:=λi=>decide (l[i]?=m[i]?)) hp hq λi x y ex ey=>by obtain⟨a,ea,ra⟩:=h1.at ex;obtain⟨b,eb,rb⟩:=h2.at ey;rw[ea,eb,show decide (some a=some b)=decide (a=b) by simp];exact hR x y a b ra rb
 by_cases hl:xs.length=ys.length
 .have e:=gQ (l:=l) (m:=m) (by rw[<- h1.1,<- h2.1,hl]);rw[<- hl,Nat.min_self,h1.1,e,show(l.length == l.length)=true by simp,Bool.and_true]at key;exact key
 .have e:decide (l=m)=false:=SF λz=>hl (by rw[h1.1,h2.1,z]);rw[show(xs.length == ys.length)=false by simpa using hl,Bool.and_false]at key;rw[e];exact key
theorem Nz(ns:Ac):Bears (λx (z:Int)=>x=.int z) (IL ns) ns:=⟨Xz ns,λi z e=>⟨_,UH e,rfl⟩⟩
theorem gP{n:Nat}{x y:V}{a b:Int}(hx:x=.int a)(hy:y=.int b):EqD K H n x y (decide (a=b)):=by
 subst hx hy;have e:decide (a=b)=Tw (.int a) (.int b):=by show decide (a=b)=(a == b);rw[Bool.beq_eq_decide_eq]
 rw[e];exact EqD.flat rfl rfl
theorem gO{p q:Addr}{ns ms:Ac}(hp:SqL K H p (IL ns))(hq:SqL K H q (IL ms)):EqD K H 1 (.ref p) (.ref q) (decide (ns=ms)) :=
 Zy8 hp hq (Nz ns) (Nz ms) λ_ _ _ _=>gP
theorem JD{p q:Addr}{ns ms:Ac}(hp:SqT K H p (IL ns))(hq:SqT K H q (IL ms)):EqD K H 1 (.ref p) (.ref q) (decide (ns=ms)) :=
 sX hp hq (Nz ns) (Nz ms) λ_ _ _ _=>gP
def OF(H:Hp)(v:V)(l:Ac):Prop:=∃ a,v=.ref a/\H a=some (.lst (IL l))
end
end My
namespace My
def Wu(M:Ac)(p:Nat):Bool:=(List.range p).all λi=>decide (mk M i≠mk M p)
def Vc(M:Ac)(k:Int)(i:Nat):Ac:=((List.range i).filter λj=>decide (mk M j=k)).map λ(j:Nat)=>(j:Int)
def VE(M:Ac)(i:Nat):List Nat:=(List.range i).filter (Wu M)
theorem XA{M:Ac}{p:Nat}:Wu M p=true↔∀ i,i<p->mk M i≠mk M p:=by
 unfold Wu;rw[QE];constructor
 .intro h i hi;exact Yu (h i (YJ.mpr hi))
 .intro h i hi;exact Yn (h i (YJ.mp hi))
theorem sW(M:Ac)(k:Int)(i:Nat):Vc M k (i+1)=Vc M k i++(if mk M i=k then [(i:Int)] else []):=by
 unfold Vc;rw[HV,QH,YL];congr 1;by_cases h:mk M i=k
 .rw[if_pos h,YM,if_pos (by simpa using h)];rfl
 .rw[if_neg h,YM,if_neg (by simpa using h)];rfl
theorem Ej(M:Ac)(i:Nat):VE M (i+1)=VE M i++(if Wu M i=true then [i] else []):=by
 unfold VE;rw[HV,QH];congr 1;by_cases h:Wu M i=true
 .rw[if_pos h,YM,if_pos h];rfl
 .rw[if_neg h,YM,if_neg h];rfl
theorem gN(M:Ac):∀ i,Xr M i=(VE M i).map λp=>(mk M p,Vc M (mk M p) i)
 | 0=>rfl
 | i+1=>by
  have ih:=gN M i;show SW (Xr M i) (i:Int) (mk M i)=_
  have hk:(mk M i∈(Xr M i).map (·.1))↔Wu M i≠true:=by
   constructor
   .intro h q;obtain⟨j,hj,e⟩:=yW M i _ h;exact XA.mp q j hj e
   .intro h;by_cases q:∃ j,j<i/\mk M j=mk M i
    .obtain⟨j,hj,e⟩:=q;rw[<- e];exact grpA_key hj
    .exact absurd (XA.mpr λj hj e=>q ⟨j,hj,e⟩) h
  unfold SW;by_cases h:mk M i∈(Xr M i).map (·.1)
  .have hf:=hk.mp h;rw[if_pos h,Ej,if_neg hf,YF,ih,Me];refine YT λp _=>?_;show(if mk M p=mk M i then (mk M p,Vc M (mk M p) i++[(i:Int)]) else (mk M p,Vc M (mk M p) i))=(mk M p,Vc M (mk M p) (i+1))
   rw[sW];by_cases e:mk M p=mk M i
   .rw[if_pos e,if_pos e.symm]
   .rw[if_neg e,if_neg (λz=>e z.symm),YF]
  .have hf:Wu M i=true:=by
    cases q:Wu M i with
    | true=>rfl
    | false=>exact absurd (hk.mpr (by rw[q];exact Yw)) h
   rw[if_neg h,Ej,if_pos hf,YL,ih];congr 1
   .refine YT λp hp=>?_;have Qf:p<i:=YJ.mp (Yc.mp hp).1
    rw[sW,if_neg (λz=>XA.mp hf p Qf z.symm),YF]
   .show [(mk M i,[(i:Int)])]=[(mk M i,Vc M (mk M i) (i+1))];rw[sW,if_pos rfl];have e0:Vc M (mk M i) i=[]:=by unfold Vc;rw[List.filter_eq_nil_iff.mpr λj hj=>by simpa using XA.mp hf j (YJ.mp hj)];rfl
    rw[e0];rfl
end My
namespace My
open PySem L2
theorem Bears.snoc{α:Type}[DecidableEq α]{R:V->α->Prop}{xs:List V}{l:List α}{x:V}{a:α}(h:Bears R xs l)(hx:R x a):Bears R (xs++[x]) (l++[a]):=by
 refine⟨by rw[Xt,Xt,h.1];rfl,λi b e=>?_⟩;by_cases hi:i<l.length
 .rw[Ys hi]at e;rw[Ys (by rw[h.1];exact hi)];exact h.2 i b e
 .have hl:i=l.length:=by
   have:=(Xs.mp e).1
   rw[Xt,Yh]at this;lia
  subst hl;rw[Yp (XN _),UK]at e;rw[Yp (by rw[h.1];exact XN _),h.1,UK];have e':a=b:=Yg e
  subst e';exact⟨x,rfl,hx⟩
theorem Bears.imp{α:Type}[DecidableEq α]{R R':V->α->Prop}{xs:List V}{l:List α}(h:Bears R xs l)(f:∀ x a,R x a->R' x a):Bears R' xs l:=⟨h.1,λi a e=>let ⟨x,e1,r⟩:=h.2 i a e;⟨x,e1,f x a r⟩⟩
end My
namespace L2
open PySem PySem.Spec PyProof.Rows
structure Fly (h0:Heap) (H:Hp) (e C:Addr) (h:Heap):Prop where
 ex:∃ oe vs T oT ts a0,h.get? e=some oe/\oe.cls=.ref C/\oe.data=.fields vs/\vs[0]?=some a0/\vs[1]?=some (.ref T)/\T≠e/\h.get? T=some oT/\oT.data=.fields ts/\ts[3]?=some .none/\h0.get? T=none/\H T=none
 new:h0.get? e=none
 free:H e=none
section
variable{X:Cx}
abbrev WM(X:Cx)(h:Heap)(ns:List Addr):Heap:=PySem.W.hideAll h (UJ X.stack++ns)
end
structure XCls (K:Ad) (C:Addr):Prop where
 ex:PySem.W.excIn K C [.type "ValueError",.type "Exception",.type "BaseException",.type "object"] "ValueError.__new__"=true
 ga:PySem.W.findIn K (.ref C) "__getattribute__"=some (some (.builtin "BaseException.__getattribute__"))
 gh:PySem.W.findIn K (.ref C) "__getattr__"=some none
 cl:PySem.W.findIn K (.ref C) "__class__"=some (some (.builtin "object.__class__"))
 ob:PySem.W.mroIn K C (.type "object")=some true
 bx:PySem.W.mroIn K C (.type "BaseException")=some true
end L2
namespace My
open PySem L2
theorem sV{H:Hp}{p1 p2:Addr}{l1 l2:Ac}{Q:VK}(h1:H p1=some (.lst (IL l1)))(h2:H p2=some (.lst (IL l2)))(hl:l1.length+l2.length<=1000000)(k:∀ r,H r=none->Q (.ref r) (upd H r (.lst (IL (l1++l2))))):EZ (.ref p1) (.ref p2) H Q:=by
 refine⟨p1,p2,_,_,rfl,rfl,h1,h2,?_,λr hr=>?_⟩
 .rw[Xz,Xz];exact OI hl
 .have:=k r hr
  rw[Hz]at this;exact this
def RJ(ns:Ac)(lo hi:Option Int):Ac:=(ns.drop (HT.Vt ns.length 0 lo)).take (HT.Vt ns.length ns.length hi - HT.Vt ns.length 0 lo)
theorem yU(ns:Ac)(lo hi:Option Int):WJ (IL ns) lo hi=IL (RJ ns lo hi):=by unfold WJ RJ;rw[Ez,Ey,Xz]
end My
namespace L2
open PySem PySem.Spec PyProof.Rows
theorem Qe:∀ {us:Ag} {ns:Ac},IntsAre us ns->Vals (ns.map V.int) us
 | [],[],_=>.nil
 | _ :: _,[],h=>by cases h
 | [],_ :: _,h=>by cases h
 | u :: us,n :: ns,h=>by
  cases h with
  | cons _ _ t=>exact .cons ⟨_,rfl⟩ (Qe t)
theorem Vals.rev:∀ {xs:List V} {us:Ag},Vals xs us->Vals xs.reverse us.reverse
 | _,_,.nil=>.nil
 | _,_,.cons r t=>by rw[wZ,wZ];exact(Vals.rev t).append (.cons r .nil)
section
variable{X:Cx}
theorem yT (K:Ad) (hk:X.K=K:=by rfl):Ur X (.builtin "sorted") (λxs H Q=>∃(p:Addr) (ns:Ac),xs=[.ref p]/\SqL K H p (ns.map V.int)/\ns.length<64 /\
  ∀ ms:Ac,ms.Perm ns->ms.Pairwise (·<=·)->∀ l,H l=none->Q (.ref l) (upd H l (.lst (ms.map V.int)))):=by
 subst hk;intro pins s σ H xs us Q I r h;obtain⟨p,ns,rfl,hq,hn,q⟩:=h;obtain⟨u,rfl,ru⟩:=Sw r;obtain rfl:u=Value.ref p:=ru;obtain⟨XW,rv,pl,hz⟩:=I.list hq;have hi:=ZT rv
 have hl:XW.length=ns.length:=by rw[<- rv.length,Yd]
 refine sorted_ints pl.isList hi (by lia) λout ms h1 h2 h3=>?_;obtain⟨e,he⟩:=sortedAll_at s.heap XW out;have Ny:ms.length=ns.length:=h2.length_eq
 refine⟨.ref (s.heap.objs.size+1),_,I.laid (t':=s.toks) (o:=.lst (ms.map V.int)) (λb o g=>sortedAll_old g) (Us _) ⟨?_,out.toList,e,Qe h1,?_⟩,rfl,q ms h2 h3 _ (I.hok.fresh (Us _))⟩
 .rw[Yd,Ny]
  have:sizeLine=16777216:=Uj
  lia
 .exact he
theorem sU:typeLookup (.type "list_reverseiterator") "__length_hint__"=pure (some (.builtin "list_reverseiterator.__length_hint__")):=by rw [HR,HZ];kernel_rfl
theorem sT:typeLookup (.type "list_reverseiterator") "__len__"=pure none:=by rw [HR,HZ];kernel_rfl
theorem sS {prog:Program} {w:World} {A:Around} {E:Ae} {s:Shared} {r:Addr} {Q:Bool->Shared->Prop} (hT:s.TypeIs (.ref r) "list_reverseiterator") (h:Q false s):wpAny (model prog w) A (Builtin.List.listLengthHint (.ref r)) Q E s:=by
 unfold Builtin.List.listLengthHint;refine XU (wpAny_specialOf hT sT ?_);show wpAny _ A (specialOf (Value.ref r) (Str.ofString "__length_hint__") >>= _) _ _ _
 refine XU (wpAny_specialOf hT sU ?_);generalize Ei:("list_reverseiterator.__length_hint__":String)=sR
 wp_delta
 rw [show splitId sR=some ("list_reverseiterator","__length_hint__") from by subst Ei;decide +kernel];subst Ei;refine XU (zR (T:="list_reverseiterator") (b:=true) hT (by rw [zH];kernel_rfl) ?_);exact Yk h
section
variable{prog:Program}{w:World}{A:Around}{E:Ae}{s:Shared}{it a:Addr}{items:Array Value}
theorem ZQ6{R:Result->Shared->Prop}(hh:A.handled=none)(hi:s.heap.IsRevIter it a ((items.size:Int) - 1))(hl:s.heap.IsList a items)(XH:a≠it){S:Addr}(h1:S≠it)(h2:S≠a){res:Value}{c0:Nat}
  (hS:s.heap.get? S=some { cls:=.type "list",data:=.seq #[] c0 }) (hz:items.size<=sizeLine)
  (k:∀ h' tk acc c,(∀ b o,b≠S->b≠it->s.heap.get? b=some o->h'.get? b=some o)->h'.get? S=some { cls:=.type "list",dict:=none,data:=.seq acc c,slots:=#[] }->ItemsOf (λi v=>items[items.size - 1 - i]?=some v) acc items.size->R (.ok (.ret res)) { s with heap:=h',toks:=tk }) :
  wpAny (model prog w) A.in1 (Builtin.List.listExtendWith (.ref S) (.ref it) res)
   (λfin s'=>match fin with | .done f=>R (.ok f) s' | .again c'=>c'.quiet=true/\codeAny (model prog w) A c' R s') (λe s'=>R (.error e) s') s:=by
 have W:=Walks.listRev (prog:=prog) (w:=w) (A:=A.in1) hh it a XH items;have SV:S∉[it,a]:=by simp only [Yj,wU,or_false,not_or];exact⟨h1,h2⟩
 have Hu:(0<=items.size/\s.heap.IsRevIter it a ((items.size:Int) - 1 - ((0:Nat):Int))/\s.heap.IsList a items):=⟨Yl _,by rw[show((items.size:Int) - 1 - ((0:Nat):Int))=(items.size:Int) - 1 by lia];exact hi,hl⟩;have hT:s.TypeIs (.ref it) "list_reverseiterator":=hi.typeIs
 have key:codeAny (model prog w) A (.builtin "list.extend.loop" ⟨[.ref S,.ref it,res],[]⟩) R s:=by
  refine codeAny_extend_loopS W.toS hz S SV res items.size 0 _ #[] c0 rfl (Yl _) Hu hS (ItemsOf.nil _) λs' acc c hm Tv Wf=>?_;rw[Moved.eq_with hm];refine k s'.heap s'.toks acc c (λb o hb hbi e=>hm.heap b o (λhmem=>?_) e) Tv Wf;rcases Yj.mp hmem with e' | hmem
  .exact hb e'
  .exact hbi (XD.mp hmem)
 unfold Builtin.List.listExtendWith;refine XU (Gv (T:="list_reverseiterator") hT ?_);have e1:Builtin.List.listSameRef (.ref S) (.ref it)=false:=by simp[Builtin.List.listSameRef,h1]
 rw[if_neg (by rw[e1];decide)];refine XU (wpAny_pyIter_revIter hi ?_);refine XU (SA (sS hT ?_));rw[if_neg (by decide)];exact Yk ⟨UM Gr _,key⟩
theorem sQ{Q:Ae}(hh:A.handled=none)(hi:s.heap.IsRevIter it a ((items.size:Int) - 1))(hl:s.heap.IsList a items)(XH:a≠it)(hz:items.size<=sizeLine)
  (k:∀ h' tk acc c,(∀ b o,b≠it->s.heap.get? b=some o->h'.get? b=some o)->h'.get? s.heap.objs.size=some { cls:=.type "list",dict:=none,data:=.seq acc c,slots:=#[] }->ItemsOf (λi v=>items[items.size - 1 - i]?=some v) acc items.size ->
   Q (.ref s.heap.objs.size) { s with heap:=h',toks:=tk }):wpAny (model prog w) A (call (.type "list") [.ref it]) Q E s:=by
 obtain⟨oi,hoi,_⟩:=id hi;obtain⟨ol,Sr,_⟩:=id hl;have n1:s.heap.objs.size≠it:=Sa (Yo hoi)
 have n2:s.heap.objs.size≠a:=Sa (Yo Sr);refine callType_codes (Q₁:=λob s₁=>ob=.ref s.heap.objs.size/\s₁={ s with heap:=s.heap.push { cls:=.type "list",data:=.seq #[] } }) PySem.F.called_list (PySem.F.typeCall_list_1 _) PySem.F.entry_list_init (code_list_new _ ⟨rfl,rfl⟩) λob s₁ z=>?_;obtain⟨rfl,rfl⟩:=z;have Ht:(s.heap.push { cls:=.type "list",data:=.seq #[] }).get? s.heap.objs.size=some { cls:=.type "list",data:=.seq #[] }:=Ym _ rfl
 refine⟨⟨_,Ht,rfl⟩,PySem.F.args_list_init_2 _ _,?_⟩;show wpAny _ A.in1.in1 (do let old <- Builtin.List.listItems (.ref s.heap.objs.size);Builtin.List.listUpdate (.ref s.heap.objs.size) (λ_=>#[]);letGo old.toList.reverse;Builtin.List.listExtendWith (.ref s.heap.objs.size) (.ref it) .none) _ _ _
 refine XU ?_;unfold Builtin.List.listItems;refine XU (KS Ht rfl (Yk ?_));refine XU (zP (a:=s.heap.objs.size) Ht rfl ?_);have Eh:=Vw (Obj.mapSeq (λ_=>(#[]:Array Value))) Ht rfl
 have JC:∀ b o,b≠s.heap.objs.size->s.heap.get? b=some o->((s.heap.push { cls:=.type "list",data:=.seq #[] }).update s.heap.objs.size (Obj.mapSeq (λ_=>(#[]:Array Value)))).get? b=some o :=
  λb o hb e=>(YN _ _ (YZ hb)).trans (WZ _ e)
 refine XU (HP ?_);refine ZQ6 (A:=A.in1) (items:=items) hh (hi.at λo e=>JC it o (YZ n1) e) (hl.at λo e=>JC a o (YZ n2) e) XH n1 n2 Eh hz λh' tk acc c hk Tv Wf=>?_;exact⟨rfl,k h' tk acc c (λb o hb e=>hk b o (Yx (Yo e)) hb (JC b o (Yx (Yo e)) e)) Tv Wf⟩
end
end
section
variable{X:Cx}{p p2 pos Vp:Pos}{e:Expr}{t:TA}
def Zx9(K:Ad)(t:TA):TE:=λσ H Q=>t σ H λvs H1=>∃(a:Addr) (ys:List V),vs=[.ref a]/\SqL K H1 a ys/\∀ l,H1 l=none->Q (.ref l) (upd H1 l (.lst ys.reverse))
theorem gM (K:Ad) (hc:X.calm=true) (g1:Gl X "list") (m1:X.mg "list"=none) (g2:Gl X "reversed") (m2:X.mg "reversed"=none) (ha:PA X [e] t) (hk:X.K=K:=by rfl)
  (he:starEach [e] X.env=[(false,eval e X.env)]:=by rfl)
  (Qk:starEach [.Call (.Name "reversed" p2) [e] [] Vp] X.env=[(false,eval (.Call (.Name "reversed" p2) [e] [] Vp) X.env)]:=by rfl) :
  PE X (.Call (.Name "list" p) [.Call (.Name "reversed" p2) [e] [] Vp] [] pos) (Zx9 K t):=by
 subst hk;intro pins s σ H Q I h;refine OZ (QW I g1 m1 Boot.«list» ?_);refine Le ?_ (by rw[Qk];rfl) rfl;rw[Qk];show wpAny _ _ (spliced ((false,eval (.Call (.Name "reversed" p2) [e] [] Vp) X.env) :: backTo pos [])) _ _ s
 refine GC ?_;refine OZ (QW I g2 m2 Boot.«reversed» ?_);refine Le (thn (ha Vp pins s σ H _ I h) λus s1 ⟨vs,H1,I1,r1,q1⟩=>?_) (by rw[he];rfl) rfl;obtain⟨a,ys,rfl,hq,q⟩:=q1;obtain⟨u,rfl,ru⟩:=Sw r1;obtain rfl:u=Value.ref a:=ru;obtain⟨XW,rv,pl,hz⟩:=I1.list hq;refine call_reversed_list pl.isList ?_;refine zS ?_;have el:XW.toArray.size=ys.length:=by rw[Ya,<- rv.length]
 have hit:(s1.heap.push (revObj a ((XW.toArray.size:Int) - 1))).IsRevIter s1.heap.objs.size a ((XW.toArray.size:Int) - 1):=⟨_,Ym _ rfl,rfl,rfl⟩;have XH:a≠s1.heap.objs.size:=Yx (let ⟨_,_,e,_⟩:=pl;Yo e)
 refine sQ (I.ok.hd hc) hit (pl.isList.push _) XH (by rw[el];exact hz) λh' tk acc c hk hS yS=>?_;have el2:XW.length=ys.length:=rv.length.symm
 have ea:acc.toList=XW.reverse:=by
  refine RW λi=>?_;have h1:=yS.1
  by_cases hi:i<XW.length
  .obtain⟨v,ev⟩:∃ v,acc[i]?=some v:=⟨_,YG (by rw[h1,Ya];exact hi)⟩;have h2:=yS.2 i v ev
   rw[Lc hi];have e3:acc.toList[i]?=some v:=by simpa using ev
   rw[e3];have e4:XW[XW.length - 1 - i]?=some v:=by simpa using h2
   rw[e4]
  .rw[YW (by rw[YE,h1,Ya];grind),YW (by rw[YK];omega)]
 rw[size_push']at hS ⊢;refine⟨.ref (s1.heap.objs.size+1),_,I1.laid (o:=.lst ys.reverse) (h':=h') (t':=tk) (λb o e=>hk b o (Yx (Yo e)) (WZ _ e)) (Us _) ⟨?_,acc.toList,c,?_,?_⟩,rfl,q _ (I1.hok.fresh (Us _))⟩
 .rw[YK];exact hz
 .rw[ea];exact rv.rev
 .rw[hS]
end
end L2
namespace My
open PySem L2
theorem XX{m:Nat}{ns:Ac}:IsSet m ns↔(∀ z∈ns,0<=z/\z<(m:Int))/\ns.Pairwise (· < ·):=by
 constructor
 .intro h;refine⟨h.all,?_⟩;rw[Ic];intro i j hi hj UE
  induction j with
  | zero=>exact absurd UE (Wy i)
  | succ j ih =>
   have sP:j<ns.length:=by grind
   have key:=(h (j+1) ns[j+1] (Xn hj)).2.2 ns[j] (by lia) (by rw[w5];exact Xn sP);by_cases e:i=j
   .subst e;exact key
   .have:=ih sP (by lia)
    lia
 .rintro⟨ha,hp⟩ i z hz;obtain⟨hi,ei⟩:=Xs.mp hz;have hm:=ha z (Xg hz)
  refine⟨hm.1,hm.2,λy h0 hy=>?_⟩;obtain⟨Nx,ei'⟩:=Xs.mp hy
  have:=Ic.mp hp (i - 1) i Nx hi (by lia)
  rw[ei,ei']at this;exact this
theorem JB{ns:Ac}(h:ns.Pairwise (· < ·)):ns.Nodup:=h.imp λVI e=>by lia
theorem IsSet.nodup{m:Nat}{ns:Ac}(h:IsSet m ns):ns.Nodup:=JB (XX.mp h).2
end My
namespace My
theorem Nw{α:Type}{P:List α->Prop}(h0:P [])(h1:∀ l x,P l->P (l++[x])):∀ l,P l:=by
 intro l;rw[<- List.reverse_reverse l]
 induction l.reverse with
 | nil=>exact h0
 | cons x r ih =>
  rw[wZ];exact h1 _ _ ih
inductive Conn (es:List (Nat × Nat)):Nat->Nat->Prop
 | refl (i:Nat):Conn es i i
 | edge {a b:Nat} (h:(a,b)∈es):Conn es a b
 | symm {i j:Nat}:Conn es i j->Conn es j i
 | trans {i j k:Nat}:Conn es i j->Conn es j k->Conn es i k
theorem Conn.mono{es fs:List (Nat × Nat)}(h:∀ e∈es,e∈fs){i j:Nat}(c:Conn es i j):Conn fs i j:=by
 induction c with
 | refl i=>exact .refl i
 | edge q=>exact .edge (h _ q)
 | symm _ ih=>exact .symm ih
 | trans _ _ i1 i2=>exact .trans i1 i2
theorem yR{n i:Nat}(h:i<n):mk ((List.range n).map λ(i:Nat)=>(i:Int)) i=(i:Int):=by rw[mk_map' h]
where
 mk_map' {n i:Nat} (h:i<n):mk ((List.range n).map λ(i:Nat)=>(i:Int)) i=(i:Int):=by simp[mk,WG,Yq,xa h]
def InN(n:Nat)(es:List (Nat × Nat)):Prop:=∀ e∈es,e.1<n/\e.2<n
theorem InN.snoc{n:Nat}{es:List (Nat × Nat)}{e:Nat × Nat}(h:InN n (es++[e])):InN n es/\e.1<n/\e.2<n:=⟨λx hx=>h x (Yb _ hx),h e (by simp)⟩
theorem sO{n:Nat}:∀ es:List (Nat × Nat),InN n es->∀ e∈es,mk (WS n es) e.1=mk (WS n es) e.2:=by
 refine Nw (λ_ e h=>by cases h) λes x ih hn e he=>?_;obtain⟨h1,h2,h3⟩:=hn.snoc;have hl:=ZF n es
 have hx:=hn e he;rw[NC];refine(Em (by lia) (by lia)).mpr ?_;rcases Xx.mp he with q | q
 .exact .inl (ih h1 e q)
 .rw[XD.mp q];exact .inr ⟨.inl rfl,.inr rfl⟩
theorem sN{n:Nat}:∀ es:List (Nat × Nat),InN n es->∀ i j,i<n->j<n->mk (WS n es) i=mk (WS n es) j->Conn es i j:=by
 refine Nw (λ_ i j hi hj h=>?_) λes x ih hn i j hi hj h=>?_
 .have h:mk ((List.range n).map λ(i:Nat)=>(i:Int)) i=mk ((List.range n).map λ(i:Nat)=>(i:Int)) j:=h;rw[yR hi,yR hj]at h
  have:i=j:=by lia
  subst this;exact .refl i
 .obtain⟨h1,h2,h3⟩:=hn.snoc;have hl:=ZF n es
  have up:∀ {i j:Nat},Conn es i j->Conn (es++[x]) i j:=λc=>c.mono λe he=>Yb _ he;have ex:Conn (es++[x]) x.1 x.2:=.edge (by simp)
  rw[NC]at h;rcases(Em (by lia) (by lia)).mp h with q | ⟨q1,q2⟩
  .exact up (ih h1 i j hi hj q)
  .have ci:Conn (es++[x]) i x.1:=by
    rcases q1 with q | q
    .exact up (ih h1 i _ hi h2 q)
    .exact(up (ih h1 i _ hi h3 q)).trans ex.symm
   have cj:Conn (es++[x]) j x.1:=by
    rcases q2 with q | q
    .exact up (ih h1 j _ hj h2 q)
    .exact(up (ih h1 j _ hj h3 q)).trans ex.symm
   exact ci.trans cj.symm
theorem sM{n:Nat}{es:List (Nat × Nat)}(hn:InN n es){i j:Nat}(c:Conn es i j):i=j\/(i<n/\j<n/\mk (WS n es) i=mk (WS n es) j):=by
 induction c with
 | refl i=>exact .inl rfl
 | edge q=>exact .inr ⟨(hn _ q).1,(hn _ q).2,sO es hn _ q⟩
 | symm _ ih =>
  rcases ih with e | ⟨a,b,c⟩
  .exact .inl e.symm
  .exact .inr ⟨b,a,c.symm⟩
 | trans _ _ i1 i2 =>
  rcases i1 with e | ⟨a,b,c⟩
  .rw[e];exact i2
  .rcases i2 with e | ⟨a',b',c'⟩
   .rw[<- e];exact .inr ⟨a,b,c⟩
   .exact .inr ⟨a,b',c.trans c'⟩
theorem ZV{n:Nat}{es:List (Nat × Nat)}(hn:InN n es){i j:Nat}(hi:i<n)(hj:j<n):mk (WS n es) i=mk (WS n es) j↔Conn es i j:=by
 constructor
 .exact sN es hn i j hi hj
 .intro c;rcases sM hn c with e | ⟨_,_,e⟩
  .rw[e]
  .exact e
theorem RH{n:Nat}{es:List (Nat × Nat)}(hn:InN n es){i j:Nat}(hi:i<n)(hj:j<n):mk (Xu n es) i=mk (Xu n es) j↔Conn es i j:=by
 rw[<- ZV hn hi hj];have s:=yY (n:=n) (es:=es) hn
 exact s.2 i j (by rw[ZB];exact hi) (by rw[ZB];exact hj)
def cnt(M:Ac):Nat:=(VE M M.length).length
theorem yQ(M:Ac){i:Nat}:∃ p,p<=i/\mk M p=mk M i/\Wu M p=true:=by
 induction i using Nat.strongRecOn with
 | ind i ih =>
  by_cases h:Wu M i=true
  .exact⟨i,XN _,rfl,h⟩
  .have:∃ j,j<i/\mk M j=mk M i:=by
    by_cases q:∃ j,j<i/\mk M j=mk M i
    .exact q
    .exact absurd (XA.mpr λj hj e=>q ⟨j,hj,e⟩) h
   obtain⟨j,hj,e⟩:=this;obtain⟨p,h1,h2,h3⟩:=ih j hj;exact⟨p,by lia,h2.trans e,h3⟩
theorem Zx7{p q:Nat->Bool}{x n:Nat}(hx:x<n)(hpx:p x=true)(h:∀ y,y<n->q y=(p y && !decide (y=x))):((List.range n).filter q).length+1=((List.range n).filter p).length:=by
 induction n with
 | zero=>exact absurd hx (Wy x)
 | succ n ih =>
  rw[HV,QH,QH,Xt,Xt];by_cases e:x=n
  .subst e;have e1:(List.range x).filter q=(List.range x).filter p:=Ml λy hy=>by have hy:=YJ.mp hy;rw[h y (by lia),show decide (y=x)=false from SF (by lia)];simp
   have e2:q x=false:=by rw[h x (by lia)];simp
   rw[e1];simp[YM,e2,hpx]
  .have hq:q n=p n:=by rw[h n (by lia),show decide (n=x)=false from SF (λz=>e z.symm)];simp
   have:=ih (by lia) λy hy=>h y (by lia)
   simp only [YM,KC,hq];lia
theorem yP{M:Ac}{p q:Nat}(hp:Wu M p=true)(hq:Wu M q=true)(e:mk M p=mk M q):p=q:=by
 rcases Nat.lt_trichotomy p q with h | h | h
 .exact absurd e (XA.mp hq p h)
 .exact h
 .exact absurd e.symm (XA.mp hp q h)
theorem yN{m:Ac}{a b:Nat}(ha:a<m.length)(hb:b<m.length)(XH:mk m a≠mk m b):cnt (lm m a b)+1=cnt m:=by
 obtain⟨A,Um,Vo,RG⟩:=yQ m (i:=a);obtain⟨B,gL,Nv,sL⟩:=yQ m (i:=b);have hAB:A≠B:=λe=>XH (by rw[<- Vo,<- Nv,e])
 unfold cnt VE;rw[y6];refine Zx7 (x:=max A B) (by grind) ?_ λy hy=>?_
 .rcases Nat.le_total A B with h | h
  .rw[Nat.max_eq_right h];exact sL
  .rw[Nat.max_eq_left h];exact RG
 .rw[OU,Tn,XA,XA];have key:∀ i,i<y->(mk (lm m a b) i=mk (lm m a b) y↔Hv m a b i y):=λi hi=>Em (by lia) hy
  have sJ:(!decide (y=max A B))=true↔y≠max A B:=by simp
  rw[sJ];constructor
  .intro q;refine⟨λi hi e=>q i hi ((key i hi).mpr (.inl e)),λe=>?_⟩;rcases Nat.lt_or_gt_of_ne hAB with h | h
   .have ey:y=B:=by lia
    subst ey;exact q A h ((key A h).mpr (.inr ⟨.inl Vo,.inr Nv⟩))
   .have ey:y=A:=by grind
    subst ey;exact q B h ((key B h).mpr (.inr ⟨.inr Nv,.inl Vo⟩))
  .rintro⟨q1,q2⟩ i hi e;rcases(key i hi).mp e with e | ⟨e1,e2⟩
   .exact q1 i hi e
   .have fy:Wu m y=true:=XA.mpr q1;rcases e2 with e2 | e2
    .have ey:y=A:=yP fy RG (e2.trans Vo.symm);rcases e1 with e1 | e1
     .exact q1 i hi (e1.trans e2.symm)
     .obtain⟨p,p1,p2,p3⟩:=yQ m (i:=i)
      have:p=B:=yP p3 sL (by rw[p2,e1,Nv])
      grind
    .have ey:y=B:=yP fy sL (e2.trans Nv.symm);rcases e1 with e1 | e1
     .obtain⟨p,p1,p2,p3⟩:=yQ m (i:=i)
      have:p=A:=yP p3 RG (by rw[p2,e1,Vo])
      grind
     .exact q1 i hi (e1.trans e2.symm)
theorem sI(n:Nat):cnt ((List.range n).map λ(i:Nat)=>(i:Int))=n:=by
 unfold cnt VE;rw[Yd,OX];have e:(List.range n).filter (Wu ((List.range n).map λ(i:Nat)=>(i:Int)))=List.range n:=by
  refine w9.mpr λp hp=>XA.mpr λi hi e=>?_;have hp:=YJ.mp hp
  rw[yR (by lia),yR hp]at e;lia
 rw[e,OX]
theorem sH{M:Ac}(hM:1<=M.length):cnt M=1↔∀ i j,i<M.length->j<M.length->mk M i=mk M j:=by
 have e:cnt M=(JH M).length:=by unfold cnt JH;rw[gN,Yd]
 rw[e];exact gU hM
end My
namespace My
open PySem L2
theorem Eg{i:Int}{n:Nat}(h0:0<=i)(h1:i<(n:Int)):seqIndex? i n=some i.toNat:=by have e:(if i<0 then i+(n:Int) else i)=i:=if_neg (by lia);unfold seqIndex?;simp only [e];rw[if_pos (by simp;lia)]
def Ze(n:Int)(ps:Aa)(ns:Ac):Prop:=IsSet ps.length ns/\(ns.length:Int)=n - 1/\∀ i j,i<n.toNat->j<n.toNat->Conn (XT ps ns) i j
theorem ZK{n:Int}{ps:Aa}{ns:Ac}(g:Zu n ps)(h:∀ z∈ns,0<=z/\z<(ps.length:Int)):InN n.toNat (XT ps ns):=λe he=>by
 obtain⟨z,hz,rfl⟩:=YD.mp he;obtain⟨z0,z1⟩:=h z hz;have hp:ps[z.toNat]?=some (ps[z.toNat]'(by lia)):=Xn _
 rw[ZW hp];obtain⟨b1,b2,b3,b4⟩:=g.2.2.2 _ (Xg hp);exact⟨by lia,by lia⟩
theorem ZA{ps:Aa}{ns ms:Ac}(h:∀ z∈ns,z∈ms):∀ e∈XT ps ns,e∈XT ps ms:=λe he=>by obtain⟨z,hz,rfl⟩:=YD.mp he;exact YD.mpr ⟨z,h z hz,rfl⟩
theorem gK{n:Nat}{es:List (Nat × Nat)}(h:InN n es):(∀ i j,i<(WS n es).length->j<(WS n es).length->mk (WS n es) i=mk (WS n es) j)↔∀ i j,i<n->j<n->Conn es i j:=by
 rw[ZF];constructor
 .intro q i j hi hj;exact(ZV h hi hj).mp (q i j hi hj)
 .intro q i j hi hj;exact(ZV h hi hj).mpr (q i j hi hj)
theorem Ef{n:Nat}{es:List (Nat × Nat)}(hn:1<=n)(h:InN n es):(JH (Xu n es)).length=1↔∀ i j,i<n->j<n->Conn es i j:=by rw[gU (by rw[ZB];exact hn),(yY h).one];exact gK h
theorem LJ{ps:Aa}{ns ms:Ac}(h:∀ z,z∈ns↔z∈ms){i j:Nat}:Conn (XT ps ns) i j↔Conn (XT ps ms) i j :=
 ⟨λc=>c.mono (ZA λz hz=>(h z).mp hz),λc=>c.mono (ZA λz hz=>(h z).mpr hz)⟩
section
variable{K:Ad}{a:Addr}{xs:List V}{g:TG}{tt:TT}{te:TE}{o:Nat}{fr:List Nat}{σ:St}{H:Hp}{Q:VK}
theorem yM(Pv:Nat->List V->Hp->Prop)(h0:Pv 0 [] H)(hz:xs.length<sizeLine)(hl:∀ i ys H,i<=xs.length->Pv i ys H->SqL K H a xs/\ys.length<=i)
  (hs:∀(i:Nat) x ys H (p:Addr),H p=none->xs[i]?=some x->Pv i ys H->Hy Pv g tt te o fr σ i (.ref p) ys (upd H p (.tup [.int i,x]))) (hd:∀ ys H,Pv xs.length ys H->∀ p,H p=none->Q (.ref p) (upd H p (.lst ys))):LP (HA K a) g tt te o fr σ H Q:=by
 refine⟨λi m ys H=>m=xs.length - i/\i<=xs.length/\Pv i ys H,⟨xs.length,by simp,Yl _,h0⟩,?_⟩;rintro i m ys H ⟨rfl,hi,p⟩;obtain⟨q,hy⟩:=hl i ys H hi p;by_cases Xd:i<xs.length
 .refine .inr ⟨⟨xs,xs[i],q,by simp[Xd]⟩,by lia,λx H' ⟨T,y,hT,ex,eH,hyy⟩=>?_⟩;subst ex eH;exact hs i y ys H T hT (hyy xs q) p (λj ys H=>∃ m',m'<xs.length - i/\m'=xs.length - j/\j<=xs.length/\Pv j ys H) λys H p'=>⟨xs.length - (i+1),by grind,rfl,Xd,p'⟩
 .have e:i=xs.length:=by lia
  subst e;exact .inl ⟨⟨xs,q,XN _⟩,by lia,hd ys H p⟩
end
def unlike(M:Ac)(ps:Aa)(i:Nat):Ac:=((List.range i).filter λk=>decide (mk M (ps.getD k (0,0)).1.toNat≠mk M (ps.getD k (0,0)).2.toNat)).map λ(k:Nat)=>(k:Int)
theorem gJ(M:Ac)(ps:Aa)(i:Nat):unlike M ps (i+1)=unlike M ps i++(if mk M (ps.getD i (0,0)).1.toNat≠mk M (ps.getD i (0,0)).2.toNat then [(i:Int)] else []):=by
 unfold unlike;rw[HV,QH,YL];congr 1;by_cases h:mk M (ps.getD i (0,0)).1.toNat≠mk M (ps.getD i (0,0)).2.toNat
 .rw[if_pos h,YM,if_pos (Yn h)];rfl
 .rw[if_neg h,YM,if_neg (by simpa using h)];rfl
theorem sG(M:Ac)(ps:Aa)(i:Nat):(unlike M ps i).length<=i:=by unfold unlike;rw[Yd];exact Yv (YB _ _) (by simp)
def wo(ns:Ac)(z:Int):Ac:=ns.filter λy=>decide (y≠z)
theorem Xq{ns:Ac}{z y:Int}:y∈wo ns z↔y∈ns/\y≠z:=by unfold wo;rw[Yc];simp
theorem yL(ns:Ac)(z:Int):(wo ns z).length<=ns.length:=YB _ _
theorem gI{ns:Ac}{i:Nat}{y z:Int}(h:ns[i]?=some y):wo (ns.take (i+1)) z=wo (ns.take i) z++(if y≠z then [y] else []):=by
 unfold wo;rw[WB,h,QH];congr 1;by_cases e:y≠z
 .rw[if_pos e];show List.filter _ [y]=_;rw[YM,if_pos (Yn e)];rfl
 .rw[if_neg e];show List.filter _ [y]=_;rw[YM,if_neg (by simpa using e)];rfl
theorem ZA5{n:Int}{ps:Aa}{M L:Ac}(g:Zu n ps)(hM:M.length=n.toNat)(s:SameP M L):unlike M ps ps.length=unlike L ps ps.length:=by
 unfold unlike;congr 1;refine Ml λk hk=>?_;have hk:=YJ.mp hk
 have hp:ps[k]?=some ps[k]:=Xn hk;rw[ZW hp];obtain⟨b1,b2,b3,b4⟩:=g.2.2.2 _ (Xg hp)
 have:=s.2 ps[k].1.toNat ps[k].2.toNat (by grind) (by grind)
 rw[OU,YS,YS];exact not_congr this
def UT(n:Int)(ps:Aa)(ns:Ac)(z:Int)(l:Ac):Ac:=l.filter λy=>decide (z∈unlike (WS n.toNat (XT ps (wo ns y))) ps ps.length)
theorem gH{n:Int}{ps:Aa}{ns:Ac}{z:Int}{l:Ac}{i:Nat}{y:Int}(h:l[i]?=some y) :
  UT n ps ns z (l.take (i+1))=UT n ps ns z (l.take i)++(if z∈unlike (WS n.toNat (XT ps (wo ns y))) ps ps.length then [y] else []):=by
 unfold UT;rw[WB,h,QH];congr 1;by_cases e:z∈unlike (WS n.toNat (XT ps (wo ns y))) ps ps.length
 .rw[if_pos e];show List.filter _ [y]=_;rw[YM,if_pos (Yn e)];rfl
 .rw[if_neg e];show List.filter _ [y]=_;rw[YM,if_neg (by simpa using e)];rfl
theorem Hs(n:Int)(ps:Aa)(ns:Ac)(z:Int)(l:Ac):(UT n ps ns z l).length<=l.length:=YB _ _
theorem sE{M:Ac}{ps:Aa}{z:Int}(h0:0<=z)(h1:z<(ps.length:Int)):z∈unlike M ps ps.length↔mk M (ps.getD z.toNat (0,0)).1.toNat≠mk M (ps.getD z.toNat (0,0)).2.toNat:=by
 unfold unlike;rw[YD];constructor
 .rintro⟨k,hk,rfl⟩
  have:=Yu (Yc.mp hk).2
  rw[YC];exact this
 .intro h;exact⟨z.toNat,Yc.mpr ⟨YJ.mpr (by grind),Yn h⟩,by lia⟩
theorem RF{a b:Ac}(h:a.Perm b)(h1:a.Pairwise (·<=·))(h2:b.Pairwise (·<=·)):a=b:=by
 induction a generalizing b with
 | nil=>exact(List.Perm.nil_eq h)
 | cons x a ih =>
  cases b with
  | nil=>exact absurd h.length_eq (by simp)
  | cons y b =>
   obtain⟨hx,ha⟩:=YO.mp h1;obtain⟨hy,hb⟩:=YO.mp h2;have e:x=y:=by
    have m1:y∈x :: a:=h.mem_iff.mpr Ye;have m2:x∈y :: b:=h.mem_iff.mp Ye
    rcases Yj.mp m1 with e1 | e1
    .exact e1.symm
    .rcases Yj.mp m2 with e2 | e2
     .exact e2
     .have:=hx y e1;have:=hy x e2;lia
   subst e;rw[ih (List.Perm.cons_inv h) ha hb]
end My
namespace L2
open PySem PySem.Spec PyProof.Rows
section
variable{prog:Program}{w:World}{A:Around}{E:Ae}{s:Shared}
theorem ZS5 {tp:Addr} {vs:Ag} {Q:List Value->Shared->Prop} {ot:Obj} {m:Nat} (ht:s.heap.get? tp=some ot) (hc:ot.cls=.type "tuple") (hd:ot.data=.seq vs.toArray m) (hz:vs.length<=sizeLine)
  (k:Q vs { s with heap:=(s.heap.push (seqObj "list" #[] 0)).update s.heap.objs.size (Obj.mapSeq (·++vs.toArray)) }):wpAny (model prog w) A (collect (.ref tp)) Q E s:=by
 have gG:(s.heap.push (seqObj "list" #[] 0)).get? tp=some ot:=WZ _ ht;have JA:(s.heap.push (seqObj "list" #[] 0)).get? s.heap.objs.size=some (seqObj "list" #[] 0):=Ym _ rfl
 unfold collect;refine XU (zK (SE wH ?_));show wpAny _ _ (do again (.builtin "list.__iadd__" ⟨[<- newList [],.ref tp],[]⟩)) _ _ s
 refine XU (KR (Yk ⟨zW _ (by decide +kernel),SE entry_list_iadd' ?_⟩));show wpAny _ _ (Builtin.List.listExtendWith (.ref s.heap.objs.size) (.ref tp) (.ref s.heap.objs.size)) _ _ { s with heap:=s.heap.push (seqObj "list" #[] 0) }
 unfold Builtin.List.listExtendWith;refine XU (Gv (T:="tuple") ⟨ot,gG,hc⟩ ?_);rw [if_pos (by rw [show(Value.type "tuple" == Value.type "tuple")=true from rfl];simp)];refine XU (listItems_at gG hd ?_);refine XU (listItems_at (xs:=#[]) (n:=0) JA rfl ?_);rw[if_neg (by simp)];refine XU (KO (xs:=#[]) (n:=0) JA rfl ?_ (Yl _) (by show(#[]++vs.toArray).size<=sizeLine+1;simp only [Array.size_append,Ya,Mg];lia));refine Yk ?_;refine XU (Gn (zz JA _) ?_);show wpAny _ _ (pure ((#[]:Array Value)++vs.toArray).toList) Q E _
 rw[show((#[]:Array Value)++vs.toArray).toList=vs by simp];exact Yk k
theorem ZD5 {tp:Addr} {vs:Ag} {ns:Ac} {Q:Ae} {ot:Obj} {m:Nat} (ht:s.heap.get? tp=some ot) (hc:ot.cls=.type "tuple") (hd:ot.data=.seq vs.toArray m) (hI:IntsAre vs ns) (QO:vs.length<64)
  (k:∀(out:Array Value) (ms:Ac),IntsAre out.toList ms->ms.Perm ns->ms.Pairwise (·<=·)->Q (.ref (s.heap.objs.size+1)) { s with heap:=sortedAll s.heap vs out }) :
  wpAny (model prog w) A (call (.builtin "sorted") [.ref tp]) Q E s:=by
 have Ee:sizeLine=16777216:=Uj;have hsz:((s.heap.push (seqObj "list" #[] 0)).update s.heap.objs.size (Obj.mapSeq (·++vs.toArray))).objs.size=s.heap.objs.size+1:=by rw[Heap.size_update,size_push']
 have Kw:(((s.heap.push (seqObj "list" #[] 0)).update s.heap.objs.size (Obj.mapSeq (·++vs.toArray))).push (seqObj "list" vs.toArray 0)).get? (s.heap.objs.size+1)=some (seqObj "list" vs.toArray 0):=by rw[<- hsz];exact Ym _ rfl
 refine Calls.call_function_entry kind_sorted plain_sorted entry_sorted (args_sorted1 _) ?_;unfold Builtin.«sorted»;refine XU (m:=checkCount "sorted" 1 1 _) (Yk ?_);refine XU (ZS5 ht hc hd (by lia) ?_);refine XU (KR ?_);show wpAny _ _ _ _ _ { s with heap:=((s.heap.push (seqObj "list" #[] 0)).update s.heap.objs.size (Obj.mapSeq (·++vs.toArray))).push (seqObj "list" vs.toArray 0) }
 rw[hsz];refine XU (SA (Mh slot_list_sort ⟨_,Kw,rfl⟩ entry_list_sort (list_sort_tree Kw hI QO λout ms b1 b2 b3=>⟨_,rfl,?_⟩) (args_list_sort _)));exact Yk ⟨_,rfl,k out ms b1 b2 b3⟩
end
section
variable{X:Cx}
theorem gF (K:Ad) (hk:X.K=K:=by rfl):Ur X (.builtin "sorted") (λxs H Q=>∃(p:Addr) (ns:Ac),xs=[.ref p]/\SqT K H p (ns.map V.int)/\ns.length<64 /\
  ∀ ms:Ac,ms.Perm ns->ms.Pairwise (·<=·)->∀ l,H l=none->Q (.ref l) (upd H l (.lst (ms.map V.int)))):=by
 subst hk;intro pins s σ H xs us Q I r h;obtain⟨p,ns,rfl,hq,hn,q⟩:=h;obtain⟨u,rfl,ru⟩:=Sw r;obtain rfl:u=Value.ref p:=ru;obtain⟨XW,rv,⟨ot,h1,h2,m,h3⟩,hz⟩:=I.tuple hq;have hi:=ZT rv
 have hl:XW.length=ns.length:=by rw[<- rv.length,Yd]
 refine ZD5 h1 h2 h3 hi (by lia) λout ms b1 b2 b3=>?_;obtain⟨e,he⟩:=sortedAll_at s.heap XW out;have Ny:ms.length=ns.length:=b2.length_eq
 refine⟨.ref (s.heap.objs.size+1),_,I.laid (t':=s.toks) (o:=.lst (ms.map V.int)) (λb o g=>sortedAll_old g) (Us _) ⟨?_,out.toList,e,Qe b1,he⟩,rfl,q ms b2 b3 _ (I.hok.fresh (Us _))⟩;rw[Yd,Ny]
 have:sizeLine=16777216:=Uj
 lia
def Qd(K:Ad):R2:=λx y H Q=>∃ a b xs ys,x=.ref a/\y=.ref b/\SqT K H a xs/\SqT K H b ys/\xs.length+ys.length<=sizeLine /\
 (xs=[]->Q (.ref b) H)/\(xs≠[]->ys=[]->Q (.ref a) H)/\(xs≠[]->ys≠[]->∀ p,H p=none->Q (.ref p) (upd H p (.tup (xs++ys))))
theorem Jz(K:Ad)(hk:X.K=K:=by rfl):WD X (binaryOp .Add) (Qd K):=by
 intro pins s σ H x y v u Q I rx ry h;obtain⟨a,b,xs,ys,e1,e2,ha,hb,hz,q0,q1,q2⟩:=id h;by_cases hx:xs=[]
 .subst hk e1 e2;cases rx;cases ry;obtain⟨XW,r1,p1,_⟩:=I.tuple ha;obtain⟨VR,r2,p2,_⟩:=I.tuple hb;have hi:XW=[]:=r1.nil_iff.mpr hx
  obtain⟨⟨cls,dd,data,sl⟩,ho,hc,n,hd⟩:=id p1;obtain⟨⟨uZ,zj,data2,zh⟩,Ta,Vf,n2,hd2⟩:=id p2;simp only at hc hd Vf hd2;subst hc hd Vf hd2;exact concat_meets ⟨_,ho,rfl⟩ ⟨_,Ta,rfl⟩ wG seq_tuple_add KJ KL (xn _ _)
   (tuple_addW0 a b XW.toArray VR.toArray n n2 dd zj sl zh (by simp[hi])) ⟨ho,Ta,⟨.ref b,H,I,rfl,q0 hx⟩⟩
 .exact Ep K hk pins s σ H x y v u Q I rx ry ⟨a,b,xs,ys,e1,e2,ha,hb,hx,hz,q1 hx,q2 hx⟩
end
end L2
namespace My
open PySem L2
theorem Ec{m:Ac}{a b:Nat}(h:mk m a=mk m b):lm m a b=m:=by unfold lm;rw[if_neg (λz=>z h)]
theorem gE{m:Ac}{a b:Nat}(ha:a<m.length)(hb:b<m.length):cnt m<=cnt (lm m a b)+1:=by
 by_cases e:mk m a=mk m b
 .rw[Ec e];lia
 .have:=yN ha hb e;lia
theorem yK{n:Nat}:∀ es:List (Nat × Nat),InN n es->n<=cnt (WS n es)+es.length:=by
 refine Nw (λ_=>?_) λes x ih hn=>?_
 .have:cnt (WS n [])=n:=sI n
  lia
 .obtain⟨h1,h2,h3⟩:=hn.snoc;have hl:=ZF n es
  have:=gE (m:=WS n es) (a:=x.1) (b:=x.2) (by lia) (by lia)
  have:=ih h1
  rw[NC,Xt,YA,Mg];lia
theorem yJ{M:Ac}(h:1<=M.length):1<=cnt M:=by unfold cnt VE;refine QB (a:=0) (Yc.mpr ⟨YJ.mpr (by lia),XA.mpr λi hi=>absurd hi (Wy i)⟩)
theorem Vn{n:Nat}{es:List (Nat × Nat)}(hn:1<=n)(h:InN n es):cnt (WS n es)=1↔∀ i j,i<n->j<n->Conn es i j:=by rw[sH (by rw[ZF];exact hn)];exact gK h
theorem gD{ts:Ac}{o:Int}(hn:ts.Nodup)(ho:o∈ts):(wo ts o).length+1=ts.length:=by
 induction ts with
 | nil=>cases ho
 | cons x r ih =>
  obtain⟨h1,h2⟩:=QZ.mp hn;unfold wo;rw[YM];by_cases e:x=o
  .subst e;rw[if_neg (by simp)]
   have:r.filter (λy=>decide (y≠x))=r:=w9.mpr λy hy=>Yn λe=>h1 (e ▸ hy)
   rw[this];rfl
  .rw[if_pos (Yn e)]
   have:=ih h2 ((Yj.mp ho).resolve_left λz=>e z.symm)
   unfold wo at this;rw[YA,YA];lia
def Zt(ps:Aa)(z:Int):Nat × Nat:=((ps.getD z.toNat (0,0)).1.toNat,(ps.getD z.toNat (0,0)).2.toNat)
theorem LI(ps:Aa)(ns:Ac)(z:Int):XT ps (ns++[z])=XT ps ns++[Zt ps z]:=by unfold XT Zt;rw[YL];rfl
theorem UD{n:Int}{ps:Aa}{z:Int}(g:Zu n ps)(z0:0<=z)(z1:z<(ps.length:Int)):(Zt ps z).1<n.toNat/\(Zt ps z).2<n.toNat:=by
 have:=ZK (ns:=[z]) g (λy hy=>by rw[XD.mp hy];exact⟨z0,z1⟩)
 exact this (Zt ps z) (by unfold XT Zt;simp)
theorem LH{n:Int}{ps:Aa}{ts:Ac}{o:Int}(hT:Ze n ps ts):∀ y∈wo ts o,0<=y/\y<(ps.length:Int):=λy hy=>hT.1.all y (Xq.mp hy).1
theorem Jy{n:Int}{ps:Aa}{ts:Ac}{o z:Int}(g:Zu n ps)(hT:Ze n ps ts)(ho:o∈ts)(z0:0<=z)(z1:z<(ps.length:Int)) :
  (∀ i j,i<n.toNat->j<n.toNat->Conn (XT ps (wo ts o++[z])) i j)↔¬ Conn (XT ps (wo ts o)) (Zt ps z).1 (Zt ps z).2:=by
 have hn:1<=n.toNat:=by have:=g.1;lia
 have hw:=gD hT.1.nodup ho;have hl:(ts.length:Int)=n - 1:=hT.2.1
 have i0:InN n.toNat (XT ps (wo ts o)):=ZK g (LH hT);have hz:=UD g z0 z1
 have ob:=hT.1.all o ho;have Hr:=UD g ob.1 ob.2
 have i1:InN n.toNat (XT ps (wo ts o)++[Zt ps z]):=λe he=>(Xx.mp he).elim (i0 e) λq=>by rw[XD.mp q];exact hz
 have i2:InN n.toNat (XT ps (wo ts o)++[Zt ps o]):=λe he=>(Xx.mp he).elim (i0 e) λq=>by rw[XD.mp q];exact Hr
 have hL:=ZF n.toNat (XT ps (wo ts o));have le:(XT ps (wo ts o)).length=(wo ts o).length:=by unfold XT;rw[Yd]
 rw[LI];constructor
 .intro hc c;have h1:cnt (WS n.toNat (XT ps (wo ts o)++[Zt ps z]))=1:=(Vn hn i1).mpr hc
  rw[NC,Ec ((ZV i0 hz.1 hz.2).mpr c)]at h1
  have:=yK _ i0
  lia
 .intro hc;have h2:cnt (WS n.toNat (XT ps (wo ts o)++[Zt ps o]))=1:=by
   refine(Vn hn i2).mpr λi j hi hj=>?_;rw[<- LI];refine(LJ λy=>?_).mp (hT.2.2 i j hi hj);rw[Xx,Xq,XD];constructor
   .intro hy;by_cases e:y=o
    .exact .inr e
    .exact .inl ⟨hy,e⟩
   .rintro(q | q)
    .exact q.1
    .rw[q];exact ho
  rw[NC]at h2;have h3:=gE (m:=WS n.toNat (XT ps (wo ts o))) (a:=(Zt ps o).1) (b:=(Zt ps o).2) (by lia) (by lia)
  have h4:=yN (m:=WS n.toNat (XT ps (wo ts o))) (a:=(Zt ps z).1) (b:=(Zt ps z).2) (by lia) (by lia) (λe=>hc ((ZV i0 hz.1 hz.2).mp e));have h5:=yJ (M:=lm (WS n.toNat (XT ps (wo ts o))) (Zt ps z).1 (Zt ps z).2) (by rw[y6];lia)
  refine(Vn hn i1).mp ?_;rw[NC];lia
def Vm(n:Int)(ps:Aa)(ts:Ac)(o:Int):Ac:=unlike (WS n.toNat (XT ps (wo ts o))) ps ps.length
theorem sD{M:Ac}{ps:Aa}{i:Nat}{z:Int}(h:z∈unlike M ps i):0<=z/\z<(i:Int):=by
 unfold unlike at h;obtain⟨k,hk,rfl⟩:=YD.mp h
 have:=YJ.mp (Yc.mp hk).1
 lia
theorem ZU{n:Int}{ps:Aa}{ts:Ac}{o z:Int}(g:Zu n ps)(hT:Ze n ps ts)(z0:0<=z)(z1:z<(ps.length:Int)):z∈Vm n ps ts o↔¬ Conn (XT ps (wo ts o)) (Zt ps z).1 (Zt ps z).2:=by have hz:=UD g z0 z1;unfold Vm;rw[sE z0 z1];exact not_congr (ZV (ZK g (LH hT)) hz.1 hz.2)
def exg(n:Int)(ps:Aa)(ts:Ac)(o z:Int):Prop:=o∈ts/\z≠o/\z∈Vm n ps ts o
instance (n:Int) (ps:Aa) (ts:Ac) (o z:Int):Decidable (exg n ps ts o z):=by unfold exg;infer_instance
theorem RE{n:Int}{ps:Aa}{ts:Ac}{o z:Int}(g:Zu n ps)(hT:Ze n ps ts) :
  exg n ps ts o z↔o∈ts/\z∉ts/\0<=z/\z<(ps.length:Int)/\∀ i j,i<n.toNat->j<n.toNat->Conn (XT ps (wo ts o++[z])) i j:=by
 constructor
 .rintro⟨h1,h2,h3⟩;obtain⟨z0,z1⟩:=sD h3;have hc:=(ZU g hT z0 z1).mp h3
  refine⟨h1,λhz=>hc ?_,z0,z1,(Jy g hT h1 z0 z1).mpr hc⟩;refine .edge ?_;exact YD.mpr ⟨z,Xq.mpr ⟨hz,h2⟩,rfl⟩
 .rintro⟨h1,h2,z0,z1,hc⟩;exact⟨h1,λe=>h2 (e ▸ h1),(ZU g hT z0 z1).mpr ((Jy g hT h1 z0 z1).mp hc)⟩
theorem PairsV.mut{H:Hp}{l:Addr}{ys zs xs:List V}{ps:Aa}(hP:PairsV H xs ps)(hl:H l=some (.lst ys)):PairsV (upd H l (.lst zs)) xs ps:=by refine⟨hP.1,λj p e=>?_⟩;obtain⟨v,e1,tt,e2,e3⟩:=hP.2 j p e;exact⟨v,e1,tt,e2,by rw[Zb (QX e3 hl (λz=>nomatch z))];exact e3⟩
end My
namespace L2
open PySem PySem.Spec PyProof.Rows
section
variable{X:Cx}
theorem gC{e:Addr->Bool}{n:Nat}{x:V}{w:Value}{pins:List (Addr × Obj)}{σ:St}{H:Hp}{s:Shared}(I:Inv X pins σ H s){A:Around}(hu:A.units+n<cLine)(rx:RelV x w):∀ {xs:List V} {us:Ag},Vals xs us->(∀ v∈xs,∃ a,v=.ref a/\EqD X.K H n v x (e a))->∀ u∈us,SeqAt.EqAt A s u w (match u with | .ref a=>e a | _=>false)
 | _,_,.nil,_=>λu hu=>by cases hu
 | y :: xs,u :: us,.cons r t,h=>λu' sy=>by
  rcases Yj.mp sy with rfl | sy
  .obtain⟨a,rfl,q⟩:=h y Ye;obtain rfl:u'=Value.ref a:=r;exact q.at I hu rfl rx
  .exact gC I hu rx t (λv hv=>h v (Yi _ hv)) u' sy
end
end L2
namespace My
open PySem L2
theorem RD{n:Int}{ps:Aa}{ts:Ac}{o y:Int}(g:Zu n ps)(hT:Ze n ps ts)(ho:o∈ts)(hy:y∈ts):y∈Vm n ps ts o↔y=o:=by
 have yb:=hT.1.all y hy;rw[ZU g hT yb.1 yb.2];constructor
 .intro h;by_cases e:y=o
  .exact e
  .exact absurd (.edge (YD.mpr ⟨y,Xq.mpr ⟨hy,e⟩,rfl⟩)) h
 .rintro rfl;refine(Jy g hT hy yb.1 yb.2).mp λi j hi hj=>(LJ λz=>?_).mp (hT.2.2 i j hi hj);rw[Xx,Xq,XD];constructor
  .intro hz;by_cases e:z=y
   .exact .inr e
   .exact .inl ⟨hz,e⟩
  .rintro(q | q)
   .exact q.1
   .rw[q];exact hy
theorem VO{n:Int}{ps:Aa}{ts l:Ac}{z y:Int}:y∈UT n ps ts z l↔y∈l/\z∈Vm n ps ts y:=by unfold UT;rw[Yc,YS];exact Iff.rfl
theorem Eb{n:Int}{ps:Aa}{ts ms:Ac}{o z:Int}(g:Zu n ps)(hT:Ze n ps ts)(hx:exg n ps ts o z)(VN:ms.Perm (wo ts o++[z]))(Uc:ms.Pairwise (·<=·)):Ze n ps ms:=by
 obtain⟨ho,hz,z0,z1,hc⟩:=(RE g hT).mp hx;have nd:(wo ts o++[z]).Nodup:=gX (hT.1.nodup.sublist List.filter_sublist) λh=>hz (Xq.mp h).1
 have ndm:ms.Nodup:=VN.nodup_iff.mpr nd;have hl:=gD hT.1.nodup ho
 have QU:=VN.length_eq;rw[Xt,Yh]at QU;refine⟨XX.mpr ⟨λy hy=>?_,(List.pairwise_and_iff.mpr ⟨Uc,ndm⟩).imp λ{x y} h=>by have:=h.1;have:=h.2;lia⟩,by rw[QU,hl];exact hT.2.1,λi j hi hj=>(LJ λy=>VN.mem_iff).mpr (hc i j hi hj)⟩;rcases Xx.mp (VN.mem_iff.mp hy) with h | h
 .exact hT.1.all y (Xq.mp h).1
 .rw[XD.mp h];exact⟨z0,z1⟩
section
variable{n:Int}{ps:Aa}{ts ms:Ac}{o z:Int}(g:Zu n ps)(hT:Ze n ps ts)(hx:exg n ps ts o z)(VN:ms.Perm (wo ts o++[z]))(Uc:ms.Pairwise (·<=·))
include g hT hx VN Uc
theorem Nu{y:Int}:y∈ms↔(y∈ts/\y≠o)\/y=z:=by rw[VN.mem_iff,Xx,Xq,XD]
end
def WM(n:Nat)(ps:Aa):Nat->Ac
 | 0=>[]
 | k+1=>if mk (WS n (XT ps (WM n ps k))) (Zt ps (k:Int)).1=mk (WS n (XT ps (WM n ps k))) (Zt ps (k:Int)).2 then WM n ps k else WM n ps k++[(k:Int)]
theorem RC(n:Nat)(ps:Aa)(k:Nat):WM n ps (k+1)=if mk (WS n (XT ps (WM n ps k))) (Zt ps (k:Int)).1=mk (WS n (XT ps (WM n ps k))) (Zt ps (k:Int)).2 then WM n ps k else WM n ps k++[(k:Int)]:=rfl
theorem Hq{n:Nat}{ps:Aa}:∀ k,∀ z∈WM n ps k,0<=z/\z<(k:Int)
 | 0,z,h=>by cases h
 | k+1,z,h=>by
  rw[RC]at h;split at h
  .have:=Hq k z h;lia
  .rcases Xx.mp h with h | h
   .have:=Hq k z h;lia
   .rw[XD.mp h];lia
theorem Ea{n:Nat}{ps:Aa}:∀ k,(WM n ps k).Pairwise (· < ·)
 | 0=>List.Pairwise.nil
 | k+1=>by
  rw[RC];split
  .exact Ea k
  .rw[Vh];exact⟨Ea k,Ib ..,λa ha b hb=>by rw[XD.mp hb];exact(Hq k a ha).2⟩
theorem Jx{n:Nat}{ps:Aa}{k:Nat}(hk:k<=ps.length):IsSet ps.length (WM n ps k):=XX.mpr ⟨λz hz=>by have:=Hq k z hz;lia,Ea k⟩
theorem yH{n:Int}{ps:Aa}(g:Zu n ps){k:Nat}(hk:k<=ps.length):InN n.toNat (XT ps (WM n.toNat ps k)):=ZK g (Jx hk).all
theorem Nt{n:Nat}{ps:Aa}{j:Nat}:∀ k,j<=k->∀ z,z∈WM n ps j↔z∈WM n ps k/\z<(j:Int)
 | 0,h,z=>by
  have:j=0:=by lia
  subst this;exact⟨λh=>(by cases h),λh=>h.1⟩
 | k+1,h,z=>by
  by_cases e:j=k+1
  .subst e;exact⟨λh=>⟨h,(Hq _ z h).2⟩,λh=>h.1⟩
  .have ih:=Nt (n:=n) (ps:=ps) (j:=j) k (by lia) z;rw[RC,ih];split
   .exact Iff.rfl
   .rw[Xx,XD];constructor
    .rintro⟨h1,h2⟩;exact⟨.inl h1,h2⟩
    .rintro⟨h1 | h1,h2⟩
     .exact⟨h1,h2⟩
     .lia
theorem gB{n:Int}{ps:Aa}(g:Zu n ps){k j:Nat}(hk:k<=ps.length)(hj:j<k)(hn:(j:Int)∉WM n.toNat ps k):Conn (XT ps (WM n.toNat ps j)) (Zt ps (j:Int)).1 (Zt ps (j:Int)).2:=by
 have he:=UD (z:=(j:Int)) g (by lia) (by lia);have h1:(j:Int)∉WM n.toNat ps (j+1):=λh=>hn ((Nt k hj _).mp h).1
 rw[RC]at h1;split at h1
 .rename_i h;exact(ZV (yH g (by lia)) he.1 he.2).mp h
 .exact absurd (Yf _ (XD.mpr rfl)) h1
theorem Nr{n:Int}{ps:Aa}(g:Zu n ps):∀ k,k<=ps.length->cnt (WS n.toNat (XT ps (WM n.toNat ps k)))+(WM n.toNat ps k).length=n.toNat
 | 0,_=>sI n.toNat
 | k+1,hk=>by
  have ih:=Nr g k (by lia);have he:=UD (z:=(k:Int)) g (by lia) (by lia)
  have hl:=ZF n.toNat (XT ps (WM n.toNat ps k));rw[RC];split
  .exact ih
  .rename_i h;rw[LI,NC,Xt,Yh]
   have:=yN (m:=WS n.toNat (XT ps (WM n.toNat ps k))) (by lia) (by lia) h
   grind
theorem DZ{n:Int}{ps:Aa}(g:Zu n ps){ts:Ac}(ht:∀ z∈ts,0<=z/\z<(ps.length:Int)){i j:Nat}(c:Conn (XT ps ts) i j):Conn (XT ps (WM n.toNat ps ps.length)) i j:=by
 induction c with
 | refl i=>exact .refl i
 | symm _ ih=>exact .symm ih
 | trans _ _ i1 i2=>exact .trans i1 i2
 | @edge a b h =>
  obtain⟨z,hz,e⟩:=YD.mp h;obtain⟨z0,z1⟩:=ht z hz;have ez:z=((z.toNat:Nat):Int):=by lia
  by_cases hm:z∈WM n.toNat ps ps.length
  .exact .edge (YD.mpr ⟨z,hm,e⟩)
  .rw[ez]at hm;have c:=gB g (XN _) (by lia) hm
   have c2:=c.mono (ZA λy hy=>((Nt ps.length (by lia) y).mp hy).1);rw[<- ez]at c2;have ea:a=(Zt ps z).1:=(Xw Prod.fst e).symm
   have eb:b=(Zt ps z).2:=(Xw Prod.snd e).symm;rw[ea,eb];exact c2
theorem sv{n:Int}{ps:Aa}(g:Zu n ps){ts:Ac}(hT:Ze n ps ts):Ze n ps (WM n.toNat ps ps.length):=by
 have hc:∀ i j,i<n.toNat->j<n.toNat->Conn (XT ps (WM n.toNat ps ps.length)) i j:=λi j hi hj=>DZ g hT.1.all (hT.2.2 i j hi hj);have h1:=(Vn (by have:=g.1;lia) (yH g (XN _))).mpr hc
 have h2:=Nr g ps.length (XN _);exact⟨Jx (XN _),by have:=g.1;grind,hc⟩
theorem su{n:Int}{ps:Aa}(g:Zu n ps)(h:¬ ((WM n.toNat ps ps.length).length:Int)<n - 1):Ze n ps (WM n.toNat ps ps.length):=by
 have h2:=Nr g ps.length (XN _);have h3:=yJ (M:=WS n.toNat (XT ps (WM n.toNat ps ps.length))) (by rw[ZF];have:=g.1;grind)
 exact⟨Jx (XN _),by have:=g.1;grind,(Vn (by have:=g.1;grind) (yH g (XN _))).mp (by lia)⟩
theorem sr:∀ {a b:Ac},a.length=b.length->HT.lexLt a b=true->∃(p:Ac) (x y:Int) (r s:Ac),a=p++x :: r/\b=p++y :: s/\x<y
 | [],[],_,h=>by cases h
 | [],_ :: _,e,_=>by simp at e
 | _ :: _,[],e,_=>by simp at e
 | x :: xs,y :: ys,e,h=>by
  rw[HT.Xj]at h;by_cases q:x=y
  .subst q;rw[if_pos rfl]at h;obtain⟨p,u,v,r,s,e1,e2,e3⟩:=sr (by simpa using e) h;exact⟨x :: p,u,v,r,s,by rw[e1];rfl,by rw[e2];rfl,e3⟩
  .rw[if_neg q]at h;exact⟨[],x,y,xs,ys,rfl,rfl,Yu h⟩
theorem Tu:∀ {a b:Ac},HT.lexLt a b=false->HT.lexLt b a=false->a=b
 | [],[],_,_=>rfl
 | [],_ :: _,h,_=>by cases h
 | _ :: _,[],_,h=>by cases h
 | x :: xs,y :: ys,h1,h2=>by
  rw[HT.Xj]at h1 h2;by_cases q:x=y
  .subst q;rw[if_pos rfl]at h1 h2;rw[Tu h1 h2]
  .rw[if_neg q]at h1;rw[if_neg (λe=>q e.symm)]at h2
   have:=of_decide_eq_false h1
   have:=of_decide_eq_false h2
   lia
theorem Zt8{n:Int}{ps:Aa}(g:Zu n ps){ts:Ac}(hT:Ze n ps ts):HT.lexLt ts (WM n.toNat ps ps.length)=false:=by
 have hG:=sv g hT;cases h:HT.lexLt ts (WM n.toNat ps ps.length) with
 | false=>rfl
 | true =>
  exfalso;obtain⟨p,x,y,r,s,e1,e2,Nq⟩:=sr (by have:=hT.2.1;have:=hG.2.1;lia) h
  have hx:x∈ts:=by rw[e1];simp
  obtain⟨x0,x1⟩:=hT.1.all x hx;have sq:=(XX.mp hT.1).2
  have ag:=Ea (n:=n.toNat) (ps:=ps) ps.length;rw[e1,Vh]at sq;rw[e2,Vh]at ag;have px:∀ z∈p,z<x:=λz hz=>sq.2.2 z hz x Ye
  have ys:∀ z∈y :: s,x<z:=λz hz=>by
   rcases Yj.mp hz with e | hz
   .rw[e];exact Nq
   .have:=(YO.mp ag.2.1).1 z hz;lia
  have ex:x=((x.toNat:Nat):Int):=by lia
  have hn:((x.toNat:Nat):Int)∉WM n.toNat ps ps.length:=by
   rw[<- ex,e2,Xx];rintro(h | h)
   .have:=px x h;lia
   .have:=ys x h;omega
  have c:=gB g (XN _) (by grind) hn;have c2:Conn (XT ps (wo ts x)) (Zt ps x).1 (Zt ps x).2:=by
   rw[<- ex]at c;refine c.mono (ZA λz hz=>?_);obtain⟨h1,h2⟩:=(Nt ps.length (by lia) z).mp hz;rw[<- ex]at h2;rw[e2,Xx]at h1;rcases h1 with h1 | h1
   .exact Xq.mpr ⟨by rw[e1];exact Yb _ h1,by lia⟩
   .have:=ys z h1;lia
  exact(ZU g hT x0 x1).mp ((RD g hT hx hx).mpr rfl) c2
theorem gz:∀ {a b c:Ac},HT.lexLt a b=true->HT.lexLt b c=true->HT.lexLt a c=true
 | [],[],_,h,_=>by cases h
 | [],_ :: _,[],_,h=>by cases h
 | [],_ :: _,_ :: _,_,_=>rfl
 | _ :: _,[],_,h,_=>by cases h
 | _ :: _,_ :: _,[],_,h=>by cases h
 | x :: xs,y :: ys,z :: zs,h1,h2=>by
  rw[HT.Xj]at h1 h2 ⊢;by_cases e1:x=y
  .subst e1;rw[if_pos rfl]at h1;by_cases e2:x=z
   .subst e2;rw[if_pos rfl]at h2 ⊢;exact gz h1 h2
   .rw[if_neg e2]at h2 ⊢;exact h2
  .rw[if_neg e1]at h1;have h1:=Yu h1
   by_cases e2:y=z
   .subst e2;rw[if_neg e1];exact Yn h1
   .rw[if_neg e2]at h2;have h2:=Yu h2
    rw[if_neg (by lia)];exact Yn (by omega)
theorem sj:∀ a:Ac,HT.lexLt a a=false
 | []=>rfl
 | x :: xs=>by rw[HT.Xj,if_pos rfl];exact sj xs
theorem So(bt:Nat->Nat->Bool):∀ j,argBest bt j<=j
 | 0=>XN _
 | j+1=>by
  unfold argBest;split
  .exact XN _
  .have:=So bt j;lia
def WR(H:Hp)(v:V)(l:Ac):Prop:=∃ a,v=.ref a/\H a=some (.tup (IL l))
def Ub(s:Ac):Int:=match s.getLast? with | none=>0 | some x=>x+1
def UC(m:Int)(s:Ac):Ab:=(List.range (m - Ub s).toNat).map λ(i:Nat)=>s++[Ub s+(i:Int)]
def Qc(m:Int):Nat->Ab
 | 0=>[[]]
 | k+1=>(Qc m k).flatMap (UC m)
theorem DY(s:Ac)(x:Int):Ub (s++[x])=x+1:=by unfold Ub;rw[List.getLast?_append];rfl
theorem Wt{m:Int}{s l:Ac}:l∈UC m s↔∃ t,Ub s<=t/\t<m/\l=s++[t]:=by
 unfold UC;rw[YD];constructor
 .rintro⟨i,hi,rfl⟩
  have:=YJ.mp hi
  exact⟨_,by lia,by omega,rfl⟩
 .rintro⟨t,h1,h2,rfl⟩;exact⟨(t - Ub s).toNat,YJ.mpr (by lia),by rw[show Ub s+(((t - Ub s).toNat:Nat):Int)=t by lia]⟩
theorem Ua{m:Nat}{s:Ac}{t:Int}:IsSet m (s++[t])↔IsSet m s/\Ub s<=t/\0<=t/\t<(m:Int):=by
 rw[XX,XX,Vh];have last:(∀ a∈s,∀ b∈[t],a<b)/\s.Pairwise (· < ·)->Ub s<=t\/t<0:=by
  rintro⟨h,_⟩;unfold Ub;cases e:s.getLast? with
  | none=>by_cases h0:0<=t;exact .inl h0;exact .inr (by lia)
  | some x=>have:=h x (xf e) t (by simp);exact .inl (by show x+1<=t;lia)
 constructor
 .rintro⟨h1,h2,_,h3⟩;have ht:=h1 t (by simp)
  refine⟨⟨λz hz=>h1 z (Yb _ hz),h2⟩,?_,ht⟩;rcases last ⟨h3,h2⟩ with h | h
  .exact h
  .omega
 .rintro⟨⟨h1,h2⟩,h3,h4,h5⟩;refine⟨λz hz=>?_,h2,Ib ..,λa ha b hb=>?_⟩
  .rcases Xx.mp hz with h | h
   .exact h1 z h
   .rw[XD.mp h];exact⟨h4,h5⟩
  .rw[XD.mp hb];have key:∀ {s:Ac} {a:Int},s.Pairwise (· < ·)->a∈s->a<Ub s:=by
    refine λ{s}=>Nw (P:=λs=>∀ {a:Int},s.Pairwise (· < ·)->a∈s->a<Ub s) (λ{a} _ h=>by cases h) (λl x ih {a} hp h=>?_) s;rw[DY];rw[Vh]at hp;rcases Xx.mp h with h | h
    .have:=hp.2.2 a h x (by simp);lia
    .rw[XD.mp h];lia
   have:=key h2 ha
   lia
theorem We{m:Nat}:∀ {k:Nat} {l:Ac},l∈Qc (m:Int) k↔l.length=k/\IsSet m l
 | 0,l=>by
  show l∈[[]]↔_;rw[XD];constructor
  .rintro rfl;exact⟨rfl,λi z e=>by simp at e⟩
  .rintro⟨h,_⟩;exact YQ.mp h
 | k+1,l=>by
  show l∈(Qc (m:Int) k).flatMap (UC m)↔_;rw[List.mem_flatMap];constructor
  .rintro⟨s,hs,hl⟩;obtain⟨t,h1,h2,rfl⟩:=Wt.mp hl;obtain⟨e,hI⟩:=We.mp hs;have n0:0<=Ub s:=by
    unfold Ub;cases q:s.getLast? with
    | none=>exact Ma 0
    | some x=>have:=(hI.all x (xf q)).1;show 0<=x+1;lia
   exact⟨by rw[Xt,e];rfl,Ua.mpr ⟨hI,h1,by lia,h2⟩⟩
  .rintro⟨e,hI⟩;have XH:l≠[]:=λz=>by rw[z]at e;simp at e
   obtain⟨s,t,rfl⟩:∃ s t,l=s++[t]:=⟨l.dropLast,l.getLast XH,(jt XH).symm⟩;obtain⟨h1,h2,h3,h4⟩:=Ua.mp hI;exact⟨s,We.mpr ⟨by rw[Xt]at e;simpa using e,h1⟩,Wt.mpr ⟨t,h2,h4,rfl⟩⟩
theorem si{m:Nat}{s:Ac}(h:IsSet m s):(UC (m:Int) s).length<=m:=by
 unfold UC;rw[Yd,OX];have n0:0<=Ub s:=by
  unfold Ub;cases q:s.getLast? with
  | none=>exact Ma 0
  | some x=>have:=(h.all x (xf q)).1;show 0<=x+1;lia
 omega
theorem gy{m:Nat}:∀ L:Ab,(∀ s∈L,IsSet m s)->(L.flatMap (UC (m:Int))).length<=m * L.length
 | [],_=>Yl _
 | s :: L,h=>by
  have:=gy L λx hx=>h x (Yi _ hx)
  have:=si (h s Ye)
  rw[List.flatMap_cons,Xt,YA,Nat.mul_succ];lia
theorem Qb:∀ {w t:Ac},t.Pairwise (· < ·)->w.Pairwise (· < ·)->(∀ z∈t,z∈w)->t.Sublist w
 | [],[],_,_,_=>List.Sublist.slnil
 | [],x :: t,_,_,h=>absurd (h x Ye) (by simp)
 | y :: w,[],_,_,_=>List.nil_sublist _
 | y :: w,x :: t,ht,hw,h=>by
  obtain⟨h1,h2⟩:=YO.mp ht;obtain⟨h3,h4⟩:=YO.mp hw;by_cases e:x=y
  .subst e;refine List.Sublist.cons₂ _ (Qb h2 h4 λz hz=>?_);rcases Yj.mp (h z (Yi _ hz)) with q | q
   .have:=h1 z hz;lia
   .exact q
  .have hx:x∈w:=(Yj.mp (h x Ye)).resolve_left e;refine List.Sublist.cons _ (Qb ht h4 λz hz=>?_);rcases Yj.mp (h z hz) with q | q
   .have:=h3 x hx
    rcases Yj.mp hz with q2 | q2
    .rw[q2];exact hx
    .have:=h1 z q2;lia
   .exact q
def OE(M:Ac)(es:List (Nat × Nat)):Ac:=es.foldl (λm e=>pm m e.1 e.2) M
theorem ZT9(M:Ac)(es:List (Nat × Nat))(e:Nat × Nat):OE M (es++[e])=pm (OE M es) e.1 e.2:=by unfold OE;rw[Oe];rfl
theorem Zv6(M:Ac):∀ es:List (Nat × Nat),(OE M es).length=M.length:=by
 intro es;unfold OE
 induction es generalizing M with
 | nil=>rfl
 | cons e l ih=>rw[zV,ih,Eo]
theorem gx{xs:List V}{i:Int}(h0:0<=i):WJ xs none (some i)=xs.take i.toNat:=by
 have e:HT.Vt xs.length xs.length (some i)=min i.toNat xs.length:=by show(if i<0 then (i+(xs.length:Int)).toNat else min i.toNat xs.length)=_;rw[if_neg (by lia)]
 unfold WJ;rw[e,HT.Ug,List.drop_zero,Nat.sub_zero];by_cases h:i.toNat<=xs.length
 .rw[GB h]
 .rw[wV (by lia),UN (XN _),UN (by omega)]
def Wz(m:Nat):Ac:=(List.range m).map λ(i:Nat)=>(i:Int)
theorem XE{m:Nat}{z:Int}:z∈Wz m↔0<=z/\z<(m:Int):=by
 unfold Wz;rw[YD];constructor
 .rintro⟨i,hi,rfl⟩
  have:=YJ.mp hi
  lia
 .intro h;exact⟨z.toNat,YJ.mpr (by lia),by lia⟩
theorem ZI(m:Nat):(Wz m).length=m:=by unfold Wz;simp
theorem RB(m:Nat):(Wz m).Pairwise (· < ·):=by unfold Wz;rw[Mm];exact GP.imp λh=>by omega
theorem Ho(m:Nat):IsSet m (Wz m):=XX.mpr ⟨λz hz=>XE.mp hz,RB m⟩
theorem ZL9(m:Nat):Wi 0 (m:Int)=Wz m:=by unfold Wi Wz;rw[zC,YC];exact YT λi _=>by lia
def Np(n:Int)(ps:Aa):Prop:=∀ i j,i<n.toNat->j<n.toNat->Conn (XT ps (Wz ps.length)) i j
end My
namespace L2
open PySem PySem.Spec PyProof.Rows
section
variable{prog:Program}{w:World}{A:Around}{E:Ae}{s:Shared}
theorem ZU5{r:Addr}{a b c:Int}{t u v:Tok}{n:Nat}{Q:List Value->Shared->Prop}(hh:A.handled=none)(hr:IsRange s.heap r a b c t u v)(hm:Builtin.Range.small a b c=true)(hn:Builtin.Range.rangeSize a b c=n)(hl:n<=2 ^ 24)
  (k:∀(h':Heap) (tk:Nat) (acc:Array Value),(∀ b o,s.heap.get? b=some o->h'.get? b=some o)->ItemsOf (λi v=>∃ t,v=.int (a+i * c) t) acc n->Q acc.toList { s with heap:=h',toks:=tk }):wpAny (model prog w) A (collect (.ref r)) Q E s:=by
 have JA:(s.heap.push (seqObj "list" #[] 0)).get? s.heap.objs.size=some (seqObj "list" #[] 0):=Ym _ rfl;unfold collect;refine XU (zK (SE wH ?_));show wpAny _ A.in1 (do again (.builtin "list.__iadd__" ⟨[<- newList [],.ref r],[]⟩)) _ _ s
 refine XU (KR (Yk ⟨zW _ (by decide +kernel),SE entry_list_iadd' ?_⟩));show wpAny _ A.in1 (Builtin.List.listExtendWith (.ref s.heap.objs.size) (.ref r) (.ref s.heap.objs.size)) _ _ { s with heap:=s.heap.push (seqObj "list" #[] 0) }
 refine TF (wpAny_extend_range (A:=A) (R:=λx s'=>∃(h':Heap) (tk:Nat) (acc:Array Value) (c':Nat),x=.ok (.ret (.ref s.heap.objs.size))/\s'={ s with heap:=h',toks:=tk }/\(∀ b o,s.heap.get? b=some o->h'.get? b=some o) /\
   h'.get? s.heap.objs.size=some { cls:=.type "list",dict:=none,data:=.seq acc c',slots:=#[] }/\ItemsOf (λi v=>∃ t,v=.int (a+i * c) t) acc n)
  (s:={ s with heap:=s.heap.push (seqObj "list" #[] 0) }) hh (WZ _ hr) hm hn hl _ _ 0 JA λh' tk acc c' k1 k2 k3=>⟨h',tk,acc,c',rfl,rfl,λb o e=>k1 b o (Yx (Yo e)) (WZ _ e),k2,k3⟩) (λfin s' z=>?_) (λe s' z=>?_)
 .cases fin with
  | done f =>
   obtain⟨h',tk,acc,c',e,rfl,k1,k2,k3⟩:=z;cases e;refine XU (Gn k2 ?_);exact Yk (k h' tk acc k1 k3)
  | again c' =>
   refine⟨z.1,Mc z.2 λx s2 z=>?_⟩;obtain⟨h',tk,acc,c',rfl,rfl,k1,k2,k3⟩:=z;refine XU (Gn k2 ?_);exact Yk (k h' tk acc k1 k3)
 .obtain⟨h',tk,acc,c',e,_⟩:=z;cases e
theorem ZS3{r:Addr}{a b c:Int}{t u v:Tok}{n:Nat}(hm:Builtin.Range.small a b c=true)(hn:Builtin.Range.rangeSize a b c=n)(hl:n<=2 ^ 24) :
  Meets (Builtin.«tuple.__new__» ⟨[.type "tuple",.ref r],[]⟩) (λA R s=>A.handled=none/\IsRange s.heap r a b c t u v/\∀(h':Heap) (tk:Nat) (acc:Array Value),(∀ b o,s.heap.get? b=some o->h'.get? b=some o)->ItemsOf (λi v=>∃ t,v=.int (a+i * c) t) acc n ->
   R (.ok (.ret (.ref h'.objs.size))) { s with heap:=h'.push (seqObj "tuple" acc 0),toks:=tk }) :=
 .of_wp λprog w A R s h=>by
  obtain⟨hh,hr,h⟩:=h;have e1:=sub_tuple_self
  have e2:=init_tuple_lookup;have e3:=madeHere_tuple
  have hT:s.TypeIs (.ref r) "range":=⟨_,hr,rfl⟩;have DX:A.in1.handled=none:=hh
  wp_walk using Gv hT,ZU5 DX hr hm hn hl
  intro h' tk acc hk Wf;show wpAny _ _ (Builtin.Tuple.tupleExact acc.toList.toArray >>= ret) _ _ _
  unfold Builtin.Tuple.tupleExact;have e:acc.toList.toArray=acc:=by simp
  rw[e];refine XU (Om ?_ (by show acc.size<=sizeLine;rw[Wf.1,Uj];exact hl));exact Yk ⟨_,rfl,h h' tk acc hk Wf⟩
theorem ZO2{r:Addr}{a b c:Int}{t u v:Tok}{n:Nat}{Q:Ae}(hh:A.handled=none)(hr:IsRange s.heap r a b c t u v)(hm:Builtin.Range.small a b c=true)(hn:Builtin.Range.rangeSize a b c=n)(hl:n<=2 ^ 24)
  (k:∀(h':Heap) (tk:Nat) (acc:Array Value),(∀ b o,s.heap.get? b=some o->h'.get? b=some o)->ItemsOf (λi v=>∃ t,v=.int (a+i * c) t) acc n->Q (.ref h'.objs.size) { s with heap:=h'.push (seqObj "tuple" acc 0),toks:=tk }):wpAny (model prog w) A (call (.type "tuple") [.ref r]) Q E s :=
 callType_new F.called_tuple (by decide) (F.typeCall_tuple_1 _) (F.newCall_tuple_1 _) (λo=>F.args_object_init_2 o _) F.entry_tuple_new (ZS3 (t:=t) (u:=u) (v:=v) hm hn hl)
  ⟨hh,hr,λh' tk acc hk Wf=>⟨⟨_,Ym _ rfl,rfl⟩,k h' tk acc hk Wf⟩⟩
end
section
variable{X:Cx}
theorem Zv3 (hc:X.calm=true):Ur X (.type "tuple") (λxs H Q=>∃ p lo hi,xs=[.ref p]/\H p=some (.rng lo hi)/\(-(2 ^ 62)<=lo/\lo<2 ^ 62/\-(2 ^ 62)<=hi/\hi<2 ^ 62)/\(hi - lo).toNat<=16777216 /\
  ∀ l,H l=none->Q (.ref l) (upd H l (.tup ((Wi lo hi).map V.int)))):=by
 intro pins s σ H xs us Q I r h;obtain⟨p,lo,hi,rfl,hp,⟨b1,b2,b3,b4⟩,hz,q⟩:=h;obtain⟨u,rfl,ru⟩:=Sw r;obtain rfl:u=Value.ref p:=ru;obtain⟨t,u,v,e⟩:=(show ObjOk X.prog X.w H s.heap p (.rng lo hi) from I.hok p _ hp);have hn:Builtin.Range.rangeSize lo hi 1=(((hi - lo).toNat:Nat):Int):=by rw[rangeSize_one];split <;> grind
 refine ZO2 (I.ok.hd hc) (t:=t) (u:=u) (v:=v) e (small_one b1 b2 b3 b4) hn hz λh' tk acc hk ha=>?_;have hl:acc.toList.length=(hi - lo).toNat:=by rw[YE];exact ha.1
 have rv:Vals ((Wi lo hi).map V.int) acc.toList:=EC (lo:=lo) hl λj w ew=>by obtain⟨t,e⟩:=ha.2 j w (by simpa using ew);exact⟨t,by rw[e,Og]⟩
 have I1:Inv X pins σ H { s with heap:=h',toks:=tk }:=I.kept (t':=tk) hk;have sf:((Wi lo hi).map V.int).length<=sizeLine:=by
  rw[Yd,g6]
  have:sizeLine=16777216:=Uj
  lia
 have I2:Inv X pins σ (upd H h'.objs.size (.tup ((Wi lo hi).map V.int))) { s with heap:=h'.push (seqObj "tuple" acc.toList.toArray 0),toks:=tk } :=
  I1.laid (t':=tk) (λb o e=>WZ _ e) (XN _) (show ObjOk X.prog X.w _ _ _ (.tup ((Wi lo hi).map V.int)) from⟨sf,acc.toList,rv,IsTup.new _ _⟩)
 have ea:acc.toList.toArray=acc:=by simp
 rw[ea]at I2;exact⟨.ref h'.objs.size,_,I2,rfl,q _ (I1.hok.fresh (XN _))⟩
end
end L2
namespace My
open PySem L2
def RA(n:Nat)(ps:Aa)(G:Ac)(z:Int):Ac:=if mk (WS n (XT ps G)) (Zt ps z).1=mk (WS n (XT ps G)) (Zt ps z).2 then G else G++[z]
def WT(n:Nat)(ps:Aa)(zs:Ac):Ac:=zs.foldl (RA n ps) []
theorem Nn(n:Nat)(ps:Aa)(zs:Ac)(z:Int):WT n ps (zs++[z])=RA n ps (WT n ps zs) z:=by unfold WT;rw[Oe];rfl
theorem Nm(n:Nat)(ps:Aa)(zs:Ac):∀ ys,∃ us,WT n ps (zs++ys)=WT n ps zs++us/\us.Sublist ys:=by
 refine Nw ⟨[],by simp⟩ λys y ih=>?_;obtain⟨us,e,s⟩:=ih;rw[<- QG,Nn,e];unfold RA;split
 .exact⟨us,rfl,s.trans (List.sublist_append_left _ _)⟩
 .exact⟨us++[y],by rw[QG],s.append (List.Sublist.refl _)⟩
theorem yG(n:Nat)(ps:Aa)(zs:Ac):(WT n ps zs).Sublist zs:=by obtain⟨us,e,s⟩:=Nm n ps [] zs;rw[OV]at e;rw[e];exact s
theorem gu(n:Nat)(ps:Aa):∀ k,WT n ps ((List.range k).map λ(i:Nat)=>(i:Int))=WM n ps k
 | 0=>rfl
 | k+1=>by rw[HV,YL,List.map_singleton,Nn,gu n ps k,RC];rfl
theorem DW{n:Nat}{ps:Aa}{zs:Ac}(h:∀ z∈zs,0<=z/\z<(ps.length:Int)):∀ z∈WT n ps zs,0<=z/\z<(ps.length:Int):=λz hz=>h z ((yG n ps zs).subset hz)
theorem Hn{n:Int}{ps:Aa}(g:Zu n ps){zs:Ac}(h:∀ z∈zs,0<=z/\z<(ps.length:Int)):InN n.toNat (XT ps (WT n.toNat ps zs)):=ZK g (DW h)
theorem Nl{n:Int}{ps:Aa}(g:Zu n ps):∀ zs:Ac,(∀ z∈zs,0<=z/\z<(ps.length:Int))->cnt (WS n.toNat (XT ps (WT n.toNat ps zs)))+(WT n.toNat ps zs).length=n.toNat:=by
 refine Nw (λ_=>sI n.toNat) λzs z ih h=>?_;have h1:∀ z∈zs,0<=z/\z<(ps.length:Int):=λy hy=>h y (Yb _ hy)
 have ih:=ih h1;obtain⟨z0,z1⟩:=h z (Yf _ (XD.mpr rfl));have he:=UD (z:=z) g z0 z1
 have hl:=ZF n.toNat (XT ps (WT n.toNat ps zs));rw[Nn];unfold RA;split
 .exact ih
 .rename_i h;rw[LI,NC,Xt,Yh]
  have:=yN (m:=WS n.toNat (XT ps (WT n.toNat ps zs))) (by lia) (by lia) h
  grind
theorem DV{n:Int}{ps:Aa}(g:Zu n ps){zs:Ac}(h:∀ z∈zs,0<=z/\z<(ps.length:Int)):(WT n.toNat ps zs).length<=14:=by
 have:=Nl g zs h
 have:=g.2.1
 lia
theorem se{n:Int}{ps:Aa}(g:Zu n ps):∀ zs:Ac,(∀ z∈zs,0<=z/\z<(ps.length:Int))->∀ {i j:Nat},Conn (XT ps zs) i j->Conn (XT ps (WT n.toNat ps zs)) i j:=by
 refine Nw (λ_ _ _ c=>c) λzs z IH h i j c=>?_;have h1:∀ z∈zs,0<=z/\z<(ps.length:Int):=λy hy=>h y (Yb _ hy)
 obtain⟨z0,z1⟩:=h z (Yf _ (XD.mpr rfl));have he:=UD (z:=z) g z0 z1
 have up:∀ {a b:Nat},Conn (XT ps (WT n.toNat ps zs)) a b->Conn (XT ps (WT n.toNat ps (zs++[z]))) a b:=λc=>by
  rw[Nn];unfold RA;split
  .exact c
  .exact c.mono (ZA λy hy=>Yb _ hy)
 have own:Conn (XT ps (WT n.toNat ps (zs++[z]))) (Zt ps z).1 (Zt ps z).2:=by
  rw[Nn];unfold RA;split
  .rename_i e;exact(ZV (Hn g h1) he.1 he.2).mp e
  .rw[LI];exact .edge (Yf _ (XD.mpr rfl))
 induction c with
 | refl i=>exact .refl i
 | symm _ ih=>exact .symm ih
 | trans _ _ i1 i2=>exact .trans i1 i2
 | @edge a b e =>
  rw[LI]at e;rcases Xx.mp e with e | e
  .exact up (IH h1 (.edge e))
  .have e:=XD.mp e;have ea:a=(Zt ps z).1:=Xw Prod.fst e
   have eb:b=(Zt ps z).2:=Xw Prod.snd e;rw[ea,eb];exact own
theorem sd{n:Int}{ps:Aa}(g:Zu n ps):Np n ps↔¬ ((WM n.toNat ps ps.length).length:Int)<n - 1:=by
 constructor
 .intro h;have hc:∀ i j,i<n.toNat->j<n.toNat->Conn (XT ps (WM n.toNat ps ps.length)) i j:=λi j hi hj=>DZ g (λz hz=>XE.mp hz) (h i j hi hj)
  have h1:=(Vn (by have:=g.1;lia) (yH g (XN _))).mpr hc;have h2:=Nr g ps.length (XN _)
  have:=g.1
  grind
 .intro h i j hi hj;exact((su g h).2.2 i j hi hj).mono (ZA λz hz=>XE.mpr (by have:=Hq ps.length z hz;lia))
end My
namespace PyProof.Rows
open PySem
abbrev dK:Keyed:=(Value.none,Value.none)
section
variable{O:KeyOrd}{key:Keyed->O.α}{kd:SortKind}
def RK(O:KeyOrd)(key:Keyed->O.α)(x y:Keyed):Prop:=O.kle (key x) (key y)
structure MI (O:KeyOrd) (key:Keyed->O.α) (la lb:List Keyed) (out:Array Keyed) (ia ib:Nat):Prop where
 so:out.toList.Pairwise (RK O key)
 oa:∀ x∈out.toList,∀ y∈la.drop ia,RK O key x y
 ob:∀ x∈out.toList,∀ y∈lb.drop ib,RK O key x y
 pm:(out.toList++la.drop ia++lb.drop ib).Perm (la++lb)
abbrev LoS:=Option (Array Keyed) × Array Keyed × Nat × Nat × Nat × Nat × Nat
structure MH (O:KeyOrd) (key:Keyed->O.α) (la lb:List Keyed) (out:Array Keyed) (na nb:Nat):Prop where
 so:out.toList.Pairwise λx y=>RK O key y x
 oa:∀ x∈la.take na,∀ y∈out.toList,RK O key x y
 ob:∀ x∈lb.take nb,∀ y∈out.toList,RK O key x y
 pm:(la.take na++lb.take nb++out.toList).Perm (la++lb)
abbrev HiS:=Option (Array Keyed) × Nat × Nat × Array Keyed × Nat × Nat × Nat
def DU:List (List Keyed)->Nat->List (Nat × Nat)
 | [],_=>[]
 | g :: gs,o=>(o,g.length) :: DU gs (o+g.length)
structure PI (O:KeyOrd) (key:Keyed->O.α) (kd:SortKind) (a₀:Array Keyed) (st:SortSt) (Jw:List (List Keyed)) (rest:List Keyed):Prop where
 kind:kindOf st=kd
 fail:failedOf st=none
 perm:(arrOf st).Perm a₀
 arr:(arrOf st).toList=Jw.flatten++rest
 srt:∀ g∈Jw,1<=g.length/\g.Pairwise (RK O key)
 pend:(pendingOf st).toList.map (λp=>(p.1,p.2.1))=DU Jw 0
end
end PyProof.Rows
namespace L2
open PySem PySem.Spec PyProof.Rows
section
def sameBut(a:Addr)(h h':Heap):Prop:=∀ b o,b≠a->h.get? b=some o->h'.get? b=some o
end
end L2
namespace My
open PySem L2
abbrev Nk(a b:Ac):Prop:=HT.lexLt a b=true
theorem DT:∀(p a b:Ac),HT.lexLt (p++a) (p++b)=HT.lexLt a b
 | [],a,b=>rfl
 | x :: p,a,b=>by rw[HX,HX,HT.Xj,if_pos rfl,DT p]
theorem DS:∀ {s t:Ac} (a b:Ac),s.length=t.length->HT.lexLt s t=true->HT.lexLt (s++a) (t++b)=true
 | [],[],a,b,_,h=>by cases h
 | [],_ :: _,a,b,e,_=>by simp at e
 | _ :: _,[],a,b,e,_=>by simp at e
 | x :: s,y :: t,a,b,e,h=>by
  rw[HT.Xj]at h;rw[HX,HX,HT.Xj];split
  .rename_i q;rw[if_pos q]at h;exact DS a b (by simpa using e) h
  .rename_i q;rw[if_neg q]at h;exact h
theorem r6(m:Int):∀ k,∀ l∈Qc m k,l.length=k
 | 0,l,h=>by rw[XD.mp h];rfl
 | k+1,l,h=>by obtain⟨s,hs,hl⟩:=List.mem_flatMap.mp h;obtain⟨t,_,_,rfl⟩:=Wt.mp hl;rw[Xt,r6 m k s hs];rfl
theorem gr(m:Int):∀ k,(Qc m k).Pairwise Nk
 | 0=>Ib ..
 | k+1=>by
  show((Qc m k).flatMap (UC m)).Pairwise Nk;rw[List.pairwise_flatMap];refine⟨λs _=>?_,jo (λ{s t} hs ht UZ=>?_) (gr m k)⟩
  .unfold UC;rw[Mm];refine GP.imp λ{i j} UE=>?_;show HT.lexLt _ _=true
   rw[DT,HT.Xj,if_neg (by lia)];exact Yn (by lia)
  .intro x hx y hy;obtain⟨u,_,_,rfl⟩:=Wt.mp hx;obtain⟨v,_,_,rfl⟩:=Wt.mp hy;exact DS _ _ (by rw[r6 m k s hs,r6 m k t ht]) UZ
theorem Jv{α:Type}[DecidableEq α]:∀ {l m:List α},l.Nodup->(∀ x∈l,x∈m)->l.length<=m.length
 | [],m,_,_=>Yl _
 | x :: l,m,h,hs=>by
  obtain⟨h1,h2⟩:=QZ.mp h;have hx:=hs x Ye
  have:=Jv (l:=l) (m:=m.erase x) h2 λy hy=>(xc (λ(e:y=x)=>h1 (e ▸ hy))).mpr (hs y (Yi _ hy))
  rw[xk hx]at this
  have:=QB hx
  rw[YA];grind
end My
namespace L2
open PySem PySem.Spec PyProof.Rows
def rZ(i j:Int):Prop:=(-(10 ^ 200)<i/\i<10 ^ 200)/\(-(10 ^ 200)<j/\j<10 ^ 200)
theorem DR{a:Int}(h1:-(10 ^ 200)<a)(h2:a<10 ^ 200):Builtin.Int.intBits a<=1000:=by
 have h:a.natAbs<10 ^ 200:=by omega
 exact PySem.intBits_le_iff.mpr (Nat.lt_trans h (by decide))
section
variable{X:Cx}
theorem DQ:WD X (binaryOp .Mult) (rI rZ λi j=>.int (i * j)):=Kk λ_ _ _ _ _ _ _ hc q=>mul_int q (.of_bits (Yv (DR hc.1.1 hc.1.2) (by decide)) (Yv (DR hc.2.1 hc.2.2) (by decide)))
end
end L2
namespace My
open PySem L2
theorem gq{n:Int}{ps:Aa}{T:Ac}{z:Int}(g:Zu n ps)(hT:Ze n ps T)(z0:0<=z)(z1:z<(ps.length:Int)):Conn (XT ps (UT n ps T z T)) (Zt ps z).1 (Zt ps z).2:=by
 have he:=UD (z:=z) g z0 z1;have key:∀ D:Ac,(∀ o∈D,o∈T/\z∉Vm n ps T o)->Conn (XT ps (T.filter λy=>decide (y∉D))) (Zt ps z).1 (Zt ps z).2:=by
  intro D
  induction D with
  | nil =>
   intro _;have e:(T.filter λy=>decide (y∉([]:Ac)))=T:=w9.mpr λy _=>by simp
   rw[e];exact hT.2.2 _ _ he.1 he.2
  | cons o D ih =>
   intro hD;have c:=ih λy hy=>hD y (Yi _ hy)
   obtain⟨yE,zv⟩:=hD o Ye;by_cases zk:o∈D
   .refine c.mono (ZA λy hy=>?_);obtain⟨h1,h2⟩:=Yc.mp hy;have h2:=Yu h2
    exact Yc.mpr ⟨h1,Yn λh=>(Yj.mp h).elim (λe=>h2 (e ▸ zk)) h2⟩
   .refine Yt λSq=>?_;have DP:∀ y,y∈(T.filter λy=>decide (y∉o :: D))->y∈wo T o:=λy hy=>by
     obtain⟨h1,h2⟩:=Yc.mp hy;have h2:=Yu h2
     exact Xq.mpr ⟨h1,λe=>h2 (by rw[e];exact Ye)⟩
    have c2:Conn (XT ps ((T.filter λy=>decide (y∉o :: D))++[o])) (Zt ps z).1 (Zt ps z).2:=(LJ λy=>by
     rw[Xx,Yc,Yc,XD];simp only [KY,Yj,not_or];constructor
     .rintro⟨h1,h2⟩;by_cases e:y=o
      .exact .inr e
      .exact .inl ⟨h1,e,h2⟩
     .rintro(⟨h1,_,h2⟩ | e)
      .exact⟨h1,h2⟩
      .rw[e];exact⟨yE,zk⟩).mp c
    have VP:∀ y∈(T.filter λy=>decide (y∉o :: D)),0<=y/\y<(ps.length:Int):=λy hy=>hT.1.all y (Yc.mp hy).1;obtain⟨o0,o1⟩:=hT.1.all o yE;have Wn:InN n.toNat (XT ps (T.filter λy=>decide (y∉o :: D))):=ZK g VP
    have rY:InN n.toNat (XT ps ((T.filter λy=>decide (y∉o :: D))++[o])):=ZK g λy hy=>by
     rcases Xx.mp hy with h | h
     .exact VP y h
     .rw[XD.mp h];exact⟨o0,o1⟩
    have Hr:=UD (z:=o) g o0 o1;have hl:=ZF n.toNat (XT ps (T.filter λy=>decide (y∉o :: D)))
    have own:¬ Conn (XT ps (wo T o)) (Zt ps o).1 (Zt ps o).2:=(ZU g hT o0 o1).mp ((RD g hT yE yE).mpr rfl);have cw:Conn (XT ps (wo T o)) (Zt ps z).1 (Zt ps z).2:=Yt λh=>zv ((ZU g hT z0 z1).mpr h)
    have up:∀ {i j:Nat},i<n.toNat->j<n.toNat->mk (WS n.toNat (XT ps (T.filter λy=>decide (y∉o :: D)))) i=mk (WS n.toNat (XT ps (T.filter λy=>decide (y∉o :: D)))) j->Conn (XT ps (wo T o)) i j:=λhi hj e=>((ZV Wn hi hj).mp e).mono (ZA DP);have m:=(ZV rY he.1 he.2).mpr c2
    rw[LI,NC,Em (by lia) (by lia)]at m;rcases m with m | ⟨m1,m2⟩
    .exact Sq ((ZV Wn he.1 he.2).mp m)
    .rcases m1 with m1 | m1 <;> rcases m2 with m2 | m2
     .exact Sq ((ZV Wn he.1 he.2).mp (m1.trans m2.symm))
     .exact own (((up he.1 Hr.1 m1).symm.trans cw).trans (up he.2 Hr.2 m2))
     .exact own (((up he.2 Hr.1 m2).symm.trans cw.symm).trans (up he.1 Hr.2 m1))
     .exact Sq ((ZV Wn he.1 he.2).mp (m1.trans m2.symm))
 have c:=key (T.filter λy=>decide (z∉Vm n ps T y)) λo ho=>by obtain⟨h1,h2⟩:=Yc.mp ho;exact⟨h1,Yu h2⟩
 refine c.mono (ZA λy hy=>?_);obtain⟨h1,h2⟩:=Yc.mp hy;have h2:=Yu h2
 exact VO.mpr ⟨h1,Yt λh=>h2 (Yc.mpr ⟨h1,Yn h⟩)⟩
inductive WP (n:Int) (ps:Aa) (W:Ac) (T0:Ac):Ac->Aa->Ac->Prop
 | nil:WP n ps W T0 [] [] T0
 | skip {l:Ac} {ws:Aa} {T:Ac} {z:Int}:WP n ps W T0 l ws T->z∈T->WP n ps W T0 (l++[z]) ws T
 | step {l:Ac} {ws:Aa} {T T':Ac} {z o:Int}:WP n ps W T0 l ws T->z∉T->o∈UT n ps T z T->o∉W->(∀ y∈UT n ps T z T,y∉W->o<=y)->T'.Perm (wo T o++[z])->T'.Pairwise (·<=·)->WP n ps W T0 (l++[z]) (ws++[(o,z)]) T'
theorem rX{a b:Ac}(ha:a.Pairwise (· < ·))(hb:b.Pairwise (· < ·))(h:∀ z,z∈a↔z∈b):a=b :=
 (Qb ha hb λz hz=>(h z).mp hz).eq_of_length (KG (Qb ha hb λz hz=>(h z).mp hz).length_le (Qb hb ha λz hz=>(h z).mpr hz).length_le)
theorem gp{xs:List V}{i:Int}(h0:0<=i):WJ xs (some i) none=xs.drop i.toNat:=by
 have e:HT.Vt xs.length 0 (some i)=min i.toNat xs.length:=by show(if i<0 then (i+(xs.length:Int)).toNat else min i.toNat xs.length)=_;rw[if_neg (by lia)]
 unfold WJ;rw[e,HT.Ug,UN (by rw[QF];exact XN _)];by_cases h:i.toNat<=xs.length
 .rw[GB h]
 .rw[wV (by lia),Ld (XN _),Ld (by omega)]
def cutz{α:Type}(l:List α)(z:Int):List α:=l.take z.toNat++l.drop (z.toNat+1)
theorem rW{xs:List V}{z:Int}(h0:0<=z):WJ xs none (some z)++WJ xs (some (z+1)) none=cutz xs z:=by rw[gx h0,gp (by lia),show(z+1).toNat=z.toNat+1 by lia];rfl
theorem rV{α:Type}(l:List α)(z:Int):(cutz l z).length<=l.length:=by unfold cutz;rw[Xt,Yy,QF];grind
def dn(lo hi i:Int):Int:=if i=hi then lo else if i<hi then i else i - 1
theorem gn(i:Nat):Wz (i+1)=Wz i++[(i:Int)]:=by unfold Wz;rw[HV,YL];rfl
end My
namespace L2
open PySem PySem.Spec PyProof.Rows
theorem SU{N a b:St->Hp->Prop}{r:VK}{σ:St}{H:Hp}(h:N σ H):Ends.nx { nx:=N,rt:=r,bk:=a,ct:=b } σ H:=h
end L2
namespace My
theorem DO{α:Type}{l:List α}(h:l.length=1):∃ a,l=[a]:=by
 cases l with
 | nil=>cases h
 | cons a l=>cases l with
  | nil=>exact⟨a,rfl⟩
  | cons b l=>simp at h
theorem DN{α:Type}{l:List α}(h:l.length=2):∃ a b,l=[a,b]:=by
 cases l with
 | nil=>cases h
 | cons a l =>
  obtain⟨b,rfl⟩:=DO (UL h);exact⟨a,b,rfl⟩
theorem DM{α:Type}{l:List α}(h:l.length=3):∃ a b c,l=[a,b,c]:=by
 cases l with
 | nil=>cases h
 | cons a l =>
  obtain⟨b,c,rfl⟩:=DN (UL h);exact⟨a,b,c,rfl⟩
theorem DL{α:Type}{l:List α}(h:l.length=4):∃ a b c d,l=[a,b,c,d]:=by
 cases l with
 | nil=>cases h
 | cons a l =>
  obtain⟨b,c,d,rfl⟩:=DM (UL h);exact⟨a,b,c,d,rfl⟩
end My
namespace My
open PySem L2
theorem Zz{l:Ac}{f:Int->Bool}{i:Nat}{y:Int}(h:l[i]?=some y):(l.take (i+1)).filter f=(l.take i).filter f++(if f y=true then [y] else []):=by
 rw[WB,h,QH];congr 1;by_cases e:f y=true
 .rw[if_pos e];show List.filter _ [y]=_;rw[YM,if_pos e];rfl
 .rw[if_neg e];show List.filter _ [y]=_;rw[YM,if_neg e];rfl
theorem Conn.lift{es fs:List (Nat × Nat)}(h:∀ e∈es,Conn fs e.1 e.2){i j:Nat}(c:Conn es i j):Conn fs i j:=by
 induction c with
 | refl i=>exact .refl i
 | edge e=>exact h _ e
 | symm _ ih=>exact ih.symm
 | trans _ _ Qa Tt=>exact Qa.trans Tt
theorem rT{n:Int}{ps:Aa}{T W:Ac}{z:Int}(g:Zu n ps)(hT:Ze n ps T)(hW:Ze n ps W)(hz:z∈T)(hzW:z∉W):∃ y,exg n ps T z y/\exg n ps W y z:=by
 obtain⟨z0,z1⟩:=hT.1.all z hz;refine Yt λSq=>?_;refine(ZU g hT z0 z1).mp ((RD g hT hz hz).mpr rfl) ((gq g hW z0 z1).lift λe he=>?_);unfold XT at he;obtain⟨y,hy,rfl⟩:=YD.mp he;obtain⟨rS,hyc⟩:=VO.mp hy;obtain⟨y0,y1⟩:=hW.1.all y rS;have gm:y≠z:=λe=>hzW (e ▸ rS)
 have:=(ZU (o:=z) g hT y0 y1)
 exact Yt λh=>Sq ⟨y,⟨hz,gm,this.mpr h⟩,⟨rS,YZ gm,hyc⟩⟩
theorem rR(l:Ac):∃ m:Ac,m.Perm l/\m.Pairwise (·<=·):=by
 induction l with
 | nil=>exact⟨[],.refl _,.nil⟩
 | cons x l ih =>
  obtain⟨m,h1,h2⟩:=ih;have key:∀ m:Ac,m.Pairwise (·<=·)->∃ k:Ac,k.Perm (x :: m)/\k.Pairwise (·<=·):=by
   intro m
   induction m with
   | nil=>intro _;exact⟨[x],.refl _,Ib _ _⟩
   | cons y m Tt =>
    intro hp;obtain⟨hy,hm⟩:=YO.mp hp;by_cases Nq:x<=y
    .refine⟨x :: y :: m,.refl _,YO.mpr ⟨λz hz=>?_,hp⟩⟩;rcases Yj.mp hz with e | e
     .rw[e];exact Nq
     .exact RU Nq (hy z e)
    .obtain⟨k,k1,k2⟩:=Tt hm;refine⟨y :: k,(k1.cons y).trans (List.Perm.swap x y m),YO.mpr ⟨λz hz=>?_,k2⟩⟩;rcases Yj.mp (k1.mem_iff.mp hz) with e | e
     .rw[e];lia
     .exact hy z e
  obtain⟨k,k1,k2⟩:=key m h2;exact⟨k,k1.trans (h1.cons x),k2⟩
inductive Wk (n:Int) (ps:Aa) (T0:Ac):Aa->Ac->Prop
 | nil:Wk n ps T0 [] T0
 | step {ws:Aa} {T T':Ac} {o z:Int}:Wk n ps T0 ws T->exg n ps T o z->T'.Perm (wo T o++[z])->T'.Pairwise (·<=·)->Wk n ps T0 (ws++[(o,z)]) T'
theorem rQ{M N:Ac}(s:SameP M N):cnt M=cnt N:=by
 unfold cnt VE;rw[<- s.1];refine Xw List.length (Ml λp hp=>?_);have hp:=YJ.mp hp
 rw[OU,XA,XA];constructor
 .intro h i hi e;exact h i hi ((s.2 i p (by lia) hp).mpr e)
 .intro h i hi e;exact h i hi ((s.2 i p (by lia) hp).mp e)
theorem gk{n:Int}{ps:Aa}{U:Ac}(g:Zu n ps)(hU:Ze n ps U):∀ V:Ac,V.Nodup->(∀ z∈V,z∈U)->WT n.toNat ps V=V:=by
 refine Nw (λ_ _=>rfl) λV z ih hn hs=>?_;have RS:=QP.mp hn
 have hV:∀ y∈V,y∈U:=λy hy=>hs y (Yb _ hy);have hz:z∈U:=hs z (Yf _ (XD.mpr rfl))
 have hzV:z∉V:=λh=>RS.2.2 z h z (XD.mpr rfl) rfl;obtain⟨z0,z1⟩:=hU.1.all z hz;have he:=UD (z:=z) g z0 z1
 rw[Nn,ih RS.1 hV];unfold RA;rw[if_neg];intro e;have c:=(ZV (ZK g λy hy=>hU.1.all y (hV y hy)) he.1 he.2).mp e
 exact(ZU g hU z0 z1).mp ((RD g hU hz hz).mpr rfl) (c.mono (ZA λy hy=>Xq.mpr ⟨hV y hy,λe'=>hzV (by rw[<- e'];exact hy)⟩))
theorem rP{n:Int}{ps:Aa}{as bs:Ac}{z:Int}(g:Zu n ps)(h:∀ y∈as,0<=y/\y<(ps.length:Int))(z0:0<=z)(z1:z<(ps.length:Int))(hz:z∉WT n.toNat ps (as++z :: bs)):Conn (XT ps (WT n.toNat ps as)) (Zt ps z).1 (Zt ps z).2:=by
 obtain⟨us,e,_⟩:=Nm n.toNat ps (as++[z]) bs;rw[QG]at e;have e:WT n.toNat ps (as++z :: bs)=WT n.toNat ps (as++[z])++us:=e
 rw[e,Nn]at hz;have he:=UD (z:=z) g z0 z1
 refine(ZV (Hn g h) he.1 he.2).mp (Yt λXH=>hz ?_);unfold RA;rw[if_neg XH];exact Yb _ (Yf _ (XD.mpr rfl))
theorem rO{n:Nat}{ps:Aa}{as bs:Ac}{y:Int}(h:y∈WT n ps as):y∈WT n ps (as++bs):=by obtain⟨us,e,_⟩:=Nm n ps as bs;rw[e];exact Yb _ h
theorem gj{α:Type}(p:α->Bool)(l:List α):(l.filter p).length+(l.filter λx=>!p x).length=l.length:=by
 induction l with
 | nil=>rfl
 | cons x l ih =>
  rw[YM,YM];cases p x with
  | true=>simp only [OT,Bool.not_true,GI,KH,YA];lia
  | false=>simp only [Bool.not_false,OT,GI,KH,YA];lia
def Fr(n:Nat)(ps:Aa)(l:Ac):Bool:=decide (WT n ps l=l)
def UJ(n:Nat)(ps:Aa)(k:Nat):Ab:=(Qc (ps.length:Int) k).filter (Fr n ps)
theorem rN{n:Int}{ps:Aa}(g:Zu n ps){l:Ac}:l∈UJ n.toNat ps (n - 1).toNat↔Ze n ps l:=by
 unfold UJ;rw[Yc,We];have g1:=g.1
 constructor
 .rintro⟨⟨h1,h2⟩,h3⟩;have e:WT n.toNat ps l=l:=Yu h3
  have c:=Nl g l h2.all;rw[e]at c;exact⟨h2,by lia,(Vn (by grind) (ZK g h2.all)).mp (by grind)⟩
 .intro h;exact⟨⟨by have:=h.2.1;lia,h.1⟩,Yn (gk g h l h.1.nodup λz hz=>hz)⟩
theorem Nj{n:Int}{ps:Aa}{T:Ac}(hT:Ze n ps T):T.Pairwise (· < ·):=(XX.mp hT.1).2
theorem Vl{a:Ac}(h:a.Pairwise (·<=·))(hn:a.Nodup):a.Pairwise (· < ·):=(h.and hn).imp λh=>by have:=h.1;have:=h.2;lia
theorem Zs8{n:Int}{ps:Aa}(g:Zu n ps):∀ zs:Ac,(∀ z∈zs,0<=z/\z<(ps.length:Int))->(WT n.toNat ps zs).Nodup:=by
 refine Nw (λ_=>List.Pairwise.nil) λzs z ih hb=>?_;have Qn:∀ y∈zs,0<=y/\y<(ps.length:Int):=λy hy=>hb y (Yb _ hy)
 obtain⟨z0,z1⟩:=hb z (Yf _ (XD.mpr rfl));have he:=UD (z:=z) g z0 z1
 rw[Nn];unfold RA;split
 .exact ih Qn
 .next XH =>
  refine QP.mpr ⟨ih Qn,by simp,λa ha b rM e=>?_⟩;rw[XD.mp rM]at e;subst e;refine XH ((ZV (Hn g Qn) he.1 he.2).mpr (.edge ?_));exact YD.mpr ⟨a,ha,rfl⟩
theorem ZO5{n:Int}{ps:Aa}{zs ms:Ac}(g:Zu n ps)(hb:∀ z∈zs,0<=z/\z<(ps.length:Int))(hl:¬ ((WT n.toNat ps zs).length:Int)<n - 1)(VN:ms.Perm (WT n.toNat ps zs))(Uc:ms.Pairwise (·<=·)):Ze n ps ms:=by
 have g1:=g.1;have h2:=Nl g zs hb
 have h3:=yJ (M:=WS n.toNat (XT ps (WT n.toNat ps zs))) (by rw[ZF];grind);have PZ:=(Vn (by grind) (Hn g hb)).mp (by grind)
 refine⟨XX.mpr ⟨λz hz=>hb z ((yG _ _ _).subset (VN.mem_iff.mp hz)),Vl Uc (VN.nodup_iff.mpr (Zs8 g zs hb))⟩,by rw[VN.length_eq];grind,λi j hi hj=>?_⟩;exact(LJ λy=>VN.mem_iff).mpr (PZ i j hi hj)
theorem DK{n:Int}{ps:Aa}{I os U:Ac}(g:Zu n ps)(hU:Ze n ps U)(hI:I.Nodup)(rL:∀ z∈I,z∈U)(rK:∀ z∈U,z∈I++os)(hb:∀ z∈I++os,0<=z/\z<(ps.length:Int)):(WT n.toNat ps (I++os)).take I.length=I/\¬ ((WT n.toNat ps (I++os)).length:Int)<n - 1:=by
 have g1:=g.1;obtain⟨us,e,_⟩:=Nm n.toNat ps I os;rw[gk g hU I hI rL]at e;refine⟨by rw[e,List.take_left],?_⟩;have PZ:∀ i j,i<n.toNat->j<n.toNat->Conn (XT ps (WT n.toNat ps (I++os))) i j:=λi j hi hj=>se g _ hb ((hU.2.2 i j hi hj).mono (ZA rK))
 have h1:=(Vn (by lia) (Hn g hb)).mpr PZ;have h2:=Nl g (I++os) hb
 grind
theorem yD{p r:Ac}{x:Int}(h:(p++x :: r).Pairwise (· < ·)):(∀ z∈p,z<x)/\∀ z∈x :: r,x<=z:=by
 have a:=Vh.mp h;refine⟨λz hz=>a.2.2 z hz x Ye,λz hz=>?_⟩;rcases Yj.mp hz with h | h
 .rw[h];exact Ma _
 .exact Md ((YO.mp a.2.1).1 z h)
theorem rJ{n:Int}{ps:Aa}{I os U F:Ac}(g:Zu n ps)(hU:Ze n ps U)(rL:∀ z∈I,z∈U)(rK:∀ z∈U,z∈I++os)(hb:∀ z∈I++os,0<=z/\z<(ps.length:Int))(ho:os.Pairwise (· < ·))(hF:Ze n ps F)(hf:F.Perm (WT n.toNat ps (I++os)))(hIF:∀ z∈I,z∈F):HT.lexLt U F=false:=by
 cases OD:HT.lexLt U F with
 | false=>rfl
 | true =>
  exfalso;obtain⟨p,x,y,r,s,eU,ef,Nq⟩:=sr (by have:=hF.2.1;have:=hU.2.1;lia) OD
  have Ju:x∈U:=by rw[eU];exact Yf _ Ye
  obtain⟨x0,x1⟩:=hU.1.all x Ju;have aU:=yD (eU ▸ Nj hU)
  have aF:=yD (ef ▸ Nj hF);have rH:x∉F:=λh=>by
   rw[ef]at h;rcases Xx.mp h with h | h
   .have:=aU.1 x h
    lia
   .have:=aF.2 x h
    lia
  have hxI:x∉I:=λh=>rH (hIF x h);have hxo:x∈os:=(Xx.mp (rK x Ju)).resolve_left hxI
  obtain⟨as,bs,eo⟩:=List.append_of_mem hxo;have ao:=yD (eo ▸ ho)
  have Qn:∀ z∈I++as,0<=z/\z<(ps.length:Int):=λz hz=>hb z ((Xx.mp hz).elim (λh=>Yb _ h) λh=>Yf _ (by rw[eo];exact Yb _ h));have hxG:x∉WT n.toNat ps ((I++as)++x :: bs):=by rw[QG,<- eo];exact λh=>rH (hf.mem_iff.mpr h)
  have c:=rP g Qn x0 x1 hxG;refine(ZU g hU x0 x1).mp ((RD g hU Ju Ju).mpr rfl) (c.mono (ZA λz hz=>?_));have Hm:z∈F:=hf.mem_iff.mpr (by
   have:=rO (bs:=x :: bs) hz
   rw[QG,<- eo]at this;exact this)
  have hzx:z≠x:=λe=>rH (e ▸ Hm);refine Xq.mpr ⟨?_,hzx⟩;rcases Xx.mp ((yG _ _ _).subset hz) with h | h
  .exact rL z h
  .have h1:=ao.1 z h;rw[ef]at Hm;rcases Xx.mp Hm with h | h
   .rw[eU];exact Yb _ h
   .have:=aF.2 z h
    lia
def With(n:Int)(ps:Aa)(I O U:Ac):Prop:=Ze n ps U/\(∀ z∈I,z∈U)/\∀ z∈O,z∉U
theorem With.sub{n:Int}{ps:Aa}{I O U os:Ac}(h:With n ps I O U)(ho:∀ z,z∈os↔(0<=z/\z<(ps.length:Int))/\z∉O):∀ z∈U,z∈I++os:=λz hz=>Yf _ ((ho z).mpr ⟨h.1.1.all z hz,λh2=>h.2.2 z h2 hz⟩)
def DJ(H:Hp)(v:V)(o:Option Ac):Prop:=match o with | none=>v=.non | some l=>WR H v l
def TC(n:Int)(ps:Aa)(c:Nat):Prop:=∃ L:Ab,L.Nodup/\(∀ l,l∈L↔Ze n ps l)/\L.length=c
theorem TC.uniq{n:Int}{ps:Aa}{c d:Nat}(h1:TC n ps c)(h2:TC n ps d):c=d:=by obtain⟨L,a1,a2,rfl⟩:=h1;obtain⟨M,b1,b2,rfl⟩:=h2;exact((Uk a1 b1).mpr λl=>by rw[a2,b2]).length_eq
theorem PY{m:Nat}{T:Ac}:IsSet (m+1) (T++[(m:Int)])↔IsSet m T:=by
 constructor
 .intro h;have a:=XX.mp h
  have b:=Vh.mp a.2;refine XX.mpr ⟨λz hz=>?_,b.1⟩;have c:=a.1 z (Yb _ hz)
  have d:=b.2.2 z hz m (XD.mpr rfl);omega
 .exact λh=>h.snoc
theorem gf{m:Nat}{T:Ac}(h:IsSet (m+1) T):IsSet m T\/∃ T',T=T'++[(m:Int)]/\IsSet m T':=by
 have a:=XX.mp h;by_cases hm:(m:Int)∈T
 .obtain⟨p,r,e⟩:=List.append_of_mem hm;have b:=yD (e ▸ a.2)
  cases r with
  | nil=>exact .inr ⟨p,e,PY.mp (e ▸ h)⟩
  | cons y r =>
   have h1:=a.1 y (by rw[e];simp);have h2:=(YO.mp (Vh.mp (e ▸ a.2)).2.1).1 y Ye
   omega
 .refine .inl (XX.mpr ⟨λz hz=>?_,a.2⟩);have h1:=a.1 z hz
  have h2:z≠(m:Int):=λe=>hm (e ▸ hz);lia
theorem gd{es:List (Nat × Nat)}{a b i j:Nat}(c:Conn (es++[(a,b)]) i j):Conn (es++[(b,a)]) i j:=c.lift λe he=>by
 rcases Xx.mp he with q | q
 .exact .edge (Yb _ q)
 .rw[XD.mp q];exact .symm (.edge (by simp))
theorem Zk4 {K:Ad}:PySem.W.kitOne K (.type "int") (.type "bool")=some false:=by unfold PySem.W.kitOne;rw[if_neg (by decide)];rfl
theorem gc{a b M N:Int}(a0:0<=a)(aM:a<M)(b0:0<=b)(bN:b<N):0<=a * b/\a * b<M * N:=⟨Int.mul_nonneg a0 b0,Int.lt_of_le_of_lt (Int.mul_le_mul_of_nonneg_left (Md bN) a0) (Int.mul_lt_mul_of_pos_right aM (by lia))⟩
end My
namespace L2
open PySem PySem.Spec PyProof.Rows
def Hl(K:Ad)(a b:Addr):It :=
 ⟨λi H=>∃ xs ys x y,SqL K H a xs/\SqL K H b ys/\xs[i]?=some x/\ys[i]?=some y,λi H v H'=>∃ T x y,H T=none/\v=.ref T/\H'=upd H T (.tup [x,y])/\(∀ xs,SqL K H a xs->xs[i]?=some x)/\∀ ys,SqL K H b ys->ys[i]?=some y,
  λi H=>∃ xs ys,SqL K H a xs/\SqL K H b ys/\(xs.length<=i\/ys.length<=i)⟩
theorem Zu9{P:Program}{w:World}{K:Ad}{elts:List Expr}{x1:Nat}{pos:Pos}(a b z TI TO i1 i2:Addr)(D:ZipApart z TI TO i1 i2 a b) :
  Turn P w K (.Tuple elts x1 pos) (Hl K a b) [z,TI,TO,i1,i2] z (λi h=>IsZip h z TI TO .none/\IsPair h TI (.ref i1) (.ref i2)/\(∃ c d,IsPair h TO c d)/\h.IsListIter i1 a i/\h.IsListIter i2 b i) where
 mem:=by simp
 obj:=λi h st c hc=>by
  obtain⟨hz,PX,⟨u,v,OC⟩,⟨o1,e1,_,d1⟩,⟨o2,e2,_,d2⟩⟩:=st;have WE:c=z\/c=TI\/c=TO\/c=i1\/c=i2:=by simpa using hc
  rcases WE with rfl | rfl | rfl | rfl | rfl
  .exact⟨_,hz,λv q=>by have q':Data.fields _=Data.cell v:=q;cases q'⟩
  .exact⟨_,PX,λv q=>by have q':Data.seq _ _=Data.cell v:=q;cases q'⟩
  .exact⟨_,OC,λv q=>by have q':Data.seq _ _=Data.cell v:=q;cases q'⟩
  .exact⟨o1,e1,λv q=>by rw[d1]at q;cases q⟩
  .exact⟨o2,e2,λv q=>by rw[d2]at q;cases q⟩
 keep:=λi h h' st k=>by obtain⟨hz,PX,⟨u,v,OC⟩,h1,h2⟩:=st;exact⟨k z (by simp) _ hz,k TI (by simp) _ PX,⟨u,v,k TO (by simp) _ OC⟩,h1.at λo e=>k i1 (by simp) o e,h2.at λo e=>k i2 (by simp) o e⟩
 item:=by
  intro X hP hw hK hc i pins s σ H E I hf st hg;subst hP hw hK;obtain⟨xs,ys,x,y,hq,LG,hx,hy⟩:=hg;obtain⟨hz,PX,⟨u0,v0,OC⟩,h1,h2⟩:=st;obtain⟨XW,rv,p,_⟩:=I.list hq;obtain⟨u,hu,ru⟩:=rv.get hx;obtain⟨VR,yC,p2,_⟩:=I.list LG;obtain⟨v,hv,rG⟩:=yC.get hy;have fz:=hf z (by simp)
  have Rz:=hf TO (by simp);have Ry:=hf i1 (by simp)
  have Rx:=hf i2 (by simp);have tT:H s.heap.objs.size=none:=I.hok.fresh (XN _)
  refine wpAny_pyNext_zip_item D hz PX OC h1 h2 p.isList p2.isList (x:=u) (y:=v) (by simpa using hu) (by simpa using hv) λh' a1 a2 a3 a4 a5 hsz hk=>?_;have OK:∀ b ob,s.heap.get? b=some ob->b≠s.heap.objs.size:=λb ob z=>Yx (Yo z)
  have Ql:∀ b ob,H b=some ob->b≠s.heap.objs.size:=λb ob z=>Yx (I.hok.lt z);have OJ:∀ c ob,H c=some ob->c≠z/\c≠TO/\c≠i1/\c≠i2:=λc ob q=>⟨λe=>(by rw[e,fz.1]at q;cases q),λe=>(by rw[e,Rz.1]at q;cases q),λe=>(by rw[e,Ry.1]at q;cases q),λe=>(by rw[e,Rx.1]at q;cases q)⟩
  have LF:∀ c o,c∉[z,TO,i1,i2]->s.heap.get? c=some o->h'.get? c=some o:=λc o Wo q=>hk c o (λe=>Wo (by simp[e])) (λe=>Wo (by simp[e])) (λe=>Wo (by simp[e])) (λe=>Wo (by simp[e])) q;have I1:Inv X pins σ (upd H s.heap.objs.size (.tup [x,y])) { s with heap:=h' }:=by
   refine I.step (g':=s.gens) (d':=s.drawn) (t':=s.toks) (ch:=[z,TO,i1,i2]) (λc hb=>?_) (λc o _ _ Wo q _=>LF c o Wo q) (λc o _ _ Wo q _=>⟨o.slots,LF c o Wo q⟩)
    (λc o _ q n=>by rw[Zb (OK c o q)];exact n) (λc o Wo q=>⟨o,LF c o Wo q⟩) (λc ys q=>by rw[Zb (Ql c _ q)];exact q) (λc o v q=>by rw[Zb (Ql c _ q)];exact q)
    (λc ps q=>⟨#[],by rw[Zb (Ql c _ q),q];simp⟩) (λm hm=>?_) (λc v' q=>?_) I.bare
   .have WE:c=z\/c=TO\/c=i1\/c=i2:=by simpa using hb
    rcases WE with rfl | rfl | rfl | rfl
    .exact⟨fz.2.2.2.1,fz.2.1,fz.2.2.2.2.1,fz.2.2.2.2.2⟩
    .exact⟨Rz.2.2.2.1,Rz.2.1,Rz.2.2.2.2.1,Rz.2.2.2.2.2⟩
    .exact⟨Ry.2.2.2.1,Ry.2.1,Ry.2.2.2.2.1,Ry.2.2.2.2.2⟩
    .exact⟨Rx.2.2.2.1,Rx.2.1,Rx.2.2.2.2.1,Rx.2.2.2.2.2⟩
   .obtain⟨o,es,ep,Vz,r⟩:=hm;exact⟨o,es,ep,hk _ o (YZ fz.2.1) (YZ Rz.2.1) (YZ Ry.2.1) (YZ Rx.2.1) Vz,r⟩
   .by_cases hb:c=s.heap.objs.size
    .subst hb;rw[XR]at q;cases q;exact⟨by show 2<=sizeLine;decide,[u,v],.cons ru (.cons rG .nil),⟨_,a5,rfl,_,rfl⟩⟩
    .rw[Zb hb]at q;refine(I.hok c v' q).stay (λe w' WE q'=>?_) (λe q=>by rw[Zb (Ql e _ q)];exact q) λe ys q=>by rw[Zb (Ql e _ q)];exact q
     rcases WE with rfl | WE
     .have:=OJ e _ q
      exact hk e w' this.1 this.2.1 this.2.2.1 this.2.2.2 q'
     .have:=OJ e _ WE
      exact hk e w' this.1 this.2.1 this.2.2.1 this.2.2.2 q'
  refine⟨_,rfl,wpAny_letOwnedTupleGo_zip a1 λh2 sf RQ=>?_⟩;have fT:z≠s.heap.objs.size:=OK z _ hz
  have I2:Inv X pins σ (upd H s.heap.objs.size (.tup [x,y])) { s with heap:=h2 }:=Inv.turned (s:={ s with heap:=h' }) (h':=h2) (t':=s.toks) (it:=z) I1 (λb o hb q=>RQ.extBut b o hb q) (by rw[Zb fT];exact fz.1) fz.2.1 fz.2.2.2.1 fz.2.2.2.2.1 fz.2.2.2.2.2;refine⟨.ref s.heap.objs.size,_,I2,rfl,⟨_,x,y,tT,rfl,rfl,λys JQ=>by rw[I.list_inj JQ hq];exact hx,λys JQ=>by rw[I.list_inj JQ LG];exact hy⟩,
   ⟨sf,RQ.extBut _ _ D.TIz (LF _ _ (by have:=D.TIz;have:=D.TITO;have:=D.TIi1;have:=D.TIi2;simp;exact⟨D.TIz,D.TITO,D.TIi1,D.TIi2⟩) PX),⟨u,v,RQ.extBut _ _ D.TOz a2⟩,a3.at λo q=>RQ.extBut i1 o D.i1z q,a4.at λo q=>RQ.extBut i2 o D.i2z q⟩,λc hc=>?_⟩
  have WE:c=z\/c=TI\/c=TO\/c=i1\/c=i2:=by simpa using hc
  have hn:=(hf c hc).1;rcases WE with rfl | rfl | rfl | rfl | rfl
  .rw[Zb fT];exact hn
  .rw[Zb (OK _ _ PX)];exact hn
  .rw[Zb (OK _ _ OC)];exact hn
  .obtain⟨o,eo,_⟩:=h1;rw[Zb (OK _ o eo)];exact hn
  .obtain⟨o,eo,_⟩:=h2;rw[Zb (OK _ o eo)];exact hn
 done:=by
  intro X hP hw hK hc i pins s σ H E I hf st hg;subst hP hw hK;obtain⟨xs,ys,hq,LG,rF⟩:=hg;obtain⟨hz,PX,⟨u0,v0,OC⟩,h1,h2⟩:=st;obtain⟨XW,rv,p,_⟩:=I.list hq;obtain⟨VR,yC,p2,_⟩:=I.list LG;have l1:=rv.length
  have l2:=yC.length;have fz:=hf z (by simp)
  have Rz:=hf TO (by simp);have Ry:=hf i1 (by simp)
  have Rx:=hf i2 (by simp);refine wpAny_pyNext_zip_end (I.ok.hd hc) D hz PX OC h1 h2 p.isList p2.isList (by
   rcases rF with e | e
   .exact .inl (by simp;lia)
   .exact .inr (by simp;lia)) λh' hk=>⟨rfl,?_⟩
  have LF:∀ c o,c∉[z,TO,i1,i2]->s.heap.get? c=some o->h'.get? c=some o:=λc o Wo q=>hk c o (λe=>Wo (by simp[e])) (λe=>Wo (by simp[e])) (λe=>Wo (by simp[e])) (λe=>Wo (by simp[e])) q;have OJ:∀ c ob,H c=some ob->c≠z/\c≠TO/\c≠i1/\c≠i2:=λc ob q=>⟨λe=>(by rw[e,fz.1]at q;cases q),λe=>(by rw[e,Rz.1]at q;cases q),λe=>(by rw[e,Ry.1]at q;cases q),λe=>(by rw[e,Rx.1]at q;cases q)⟩
  refine I.step (g':=s.gens) (d':=s.drawn) (t':=s.toks) (ch:=[z,TO,i1,i2]) (λc hb=>?_) (λc o _ _ Wo q _=>LF c o Wo q) (λc o _ _ Wo q _=>⟨o.slots,LF c o Wo q⟩)
   (λc o _ q n=>n) (λc o Wo q=>⟨o,LF c o Wo q⟩) (λc ys q=>q) (λc o v q=>q)
   (λc ps q=>⟨#[],by rw[q];simp⟩) (λm hm=>?_) (λc v' q=>?_) I.bare
  .have WE:c=z\/c=TO\/c=i1\/c=i2:=by simpa using hb
   rcases WE with rfl | rfl | rfl | rfl
   .exact⟨fz.2.2.2.1,fz.2.1,fz.2.2.2.2.1,fz.2.2.2.2.2⟩
   .exact⟨Rz.2.2.2.1,Rz.2.1,Rz.2.2.2.2.1,Rz.2.2.2.2.2⟩
   .exact⟨Ry.2.2.2.1,Ry.2.1,Ry.2.2.2.2.1,Ry.2.2.2.2.2⟩
   .exact⟨Rx.2.2.2.1,Rx.2.1,Rx.2.2.2.2.1,Rx.2.2.2.2.2⟩
  .obtain⟨o,es,ep,Vz,r⟩:=hm;exact⟨o,es,ep,hk _ o (YZ fz.2.1) (YZ Rz.2.1) (YZ Ry.2.1) (YZ Rx.2.1) Vz,r⟩
  .refine(I.hok c v' q).stay (λe w' WE q'=>?_) (λe q=>q) λe ys q=>q;rcases WE with rfl | WE
   .have:=OJ e _ q
    exact hk e w' this.1 this.2.1 this.2.2.1 this.2.2.2 q'
   .have:=OJ e _ WE
    exact hk e w' this.1 this.2.1 this.2.2.1 this.2.2.2 q'
 self:=λ_ _ _ _ _ st h=>wpAny_pyIter_zip st.1 h
def rE(K:Ad)(ta:TA):TI:=λσ H R=>ta σ H λvs H1=>∃ a b,vs=[.ref a,.ref b]/\(∃ xs ys,SqL K H1 a xs/\SqL K H1 b ys)/\R (Hl K a b) H1
section
variable{X:Cx}
theorem DI (K:Ad) {elts:List Expr} {x1:Nat} {Tg:Pos} {e f:Expr} {ta:TA} {p pos:Pos} (hg:Gl X "zip") (hm:X.mg "zip"=none) (ha:PA X [e,f] ta) (hs:starEach [e,f] X.env=(false,eval e X.env) :: starEach [f] X.env:=by rfl) (UX:(backTo pos (starEach [f] X.env)).any (·.1)=false:=by rfl) (hk:X.K=K:=by rfl) :
  PI X (.Tuple elts x1 Tg) (.Call (.Name "zip" p) [e,f] [] pos) (rE K ta):=by
 subst hk;intro pins s σ H R I h;refine Call_ (QW I hg hm Boot.«zip» (Le (thn (ha pos pins s σ H _ I h) λus s1 Xv=>?_) hs UX));obtain⟨vs,H1,I1,r1,q1⟩:=Xv;obtain⟨a,b,ev,⟨xs,ys,hq,LG⟩,q⟩:=q1;subst ev;obtain⟨u,u',rfl,ru,ru'⟩:=Kg r1;obtain rfl:u=Value.ref a:=ru;obtain rfl:u'=Value.ref b:=ru';obtain⟨XW,rv,pl,_⟩:=I1.list hq;obtain⟨VR,yC,gb,_⟩:=I1.list LG;have lt1:a<s1.heap.objs.size:=let ⟨_,_,e,_⟩:=pl;Yo e
 have lt2:b<s1.heap.objs.size:=let ⟨_,_,e,_⟩:=gb;Yo e
 have D:ZipApart (s1.heap.objs.size+4) (s1.heap.objs.size+2) (s1.heap.objs.size+3) s1.heap.objs.size (s1.heap.objs.size+1) a b:=by
  have key:∀ n x y:Nat,x<n->y<n->ZipApart (n+4) (n+2) (n+3) n (n+1) x y:=λn x y h1 h2=>by constructor <;> (intro q;have q':(_:Nat)=_:=q;lia)
  exact key _ _ _ lt1 lt2
 refine call_zip_2 pl.isList gb.isList λh' hz PX OC rD VM hsz hk=>?_;refine wpAny_pyIter_zip (s:={ s1 with heap:=h' }) hz ?_;refine⟨s1.heap.objs.size+4,[s1.heap.objs.size+4,s1.heap.objs.size+2,s1.heap.objs.size+3,s1.heap.objs.size,s1.heap.objs.size+1],_,_,H1,rfl,I1.kept (t':=s1.toks) hk,Zu9 a b _ _ _ _ _ D,⟨hz,PX,⟨_,_,OC⟩,rD,VM⟩,λc hc=>?_,q⟩;have hle:s1.heap.objs.size<=c:=by
  have WE:c=s1.heap.objs.size+4\/c=s1.heap.objs.size+2\/c=s1.heap.objs.size+3\/c=s1.heap.objs.size\/c=s1.heap.objs.size+1:=by simpa using hc
  rcases WE with e | e | e | e | e <;> rw[e] <;> first | exact XN _ | exact Nat.le_add_right _ _
 exact I1.fpOk hle (I1.hok.fresh hle)
end
end L2
namespace My
open PySem L2
section
variable{K:Ad}{a b:Addr}{xs ys:List V}{g:TG}{tt:TT}{te:TE}{o:Nat}{fr:List Nat}{σ:St}{H:Hp}{Q:VK}
theorem rC(Pv:Nat->List V->Hp->Prop)(h0:Pv 0 [] H)(Nq:xs.length=ys.length)(hz:xs.length<sizeLine)(hl:∀ i zs H,i<=xs.length->Pv i zs H->SqL K H a xs/\SqL K H b ys/\zs.length<=i)
  (hs:∀(i:Nat) x y zs H (p:Addr),H p=none->xs[i]?=some x->ys[i]?=some y->Pv i zs H->Hy Pv g tt te o fr σ i (.ref p) zs (upd H p (.tup [x,y]))) (hd:∀ zs H,Pv xs.length zs H->∀ p,H p=none->Q (.ref p) (upd H p (.lst zs))):LP (Hl K a b) g tt te o fr σ H Q:=by
 refine⟨λi m zs H=>m=xs.length - i/\i<=xs.length/\Pv i zs H,⟨xs.length,by simp,Yl _,h0⟩,?_⟩;rintro i m zs H ⟨rfl,hi,p⟩;obtain⟨q,q2,hy⟩:=hl i zs H hi p;by_cases Xd:i<xs.length
 .refine .inr ⟨⟨xs,ys,xs[i],ys[i]'(by lia),q,q2,by simp[Xd],Xn (by omega)⟩,by lia,λx H' ⟨T,u,v,hT,ex,eH,hu,hv⟩=>?_⟩;subst ex eH;exact hs i u v zs H T hT (hu xs q) (hv ys q2) p (λj zs H=>∃ m',m'<xs.length - i/\m'=xs.length - j/\j<=xs.length/\Pv j zs H) λzs H p'=>⟨xs.length - (i+1),by grind,rfl,Xd,p'⟩
 .have e:i=xs.length:=by lia
  subst e;exact .inl ⟨⟨xs,ys,q,q2,.inl (XN _)⟩,by lia,hd zs H p⟩
end
end My
namespace My
abbrev Mx:=Nat->Nat->Int
def sm:Nat->(Nat->Int)->Int
 | 0,_=>0
 | n+1,f=>sm n f+f n
theorem ZD{f g:Nat->Int}:∀ {n:Nat},(∀ i,i<n->f i=g i)->sm n f=sm n g
 | 0,_=>rfl
 | n+1,h=>by show sm n f+f n=sm n g+g n;rw[ZD λi hi=>h i (by lia),h n (by lia)]
theorem Jt{f g:Nat->Int}:∀ {n:Nat},sm n (λi=>f i+g i)=sm n f+sm n g
 | 0=>rfl
 | n+1=>by show sm n (λi=>f i+g i)+(f n+g n)=sm n f+f n+(sm n g+g n);rw[Jt];lia
theorem Hk{c:Int}{f:Nat->Int}:∀ {n:Nat},sm n (λi=>c * f i)=c * sm n f
 | 0=>(Sz c).symm
 | n+1=>by show sm n (λi=>c * f i)+c * f n=c * (sm n f+f n);rw[Hk,KP]
theorem UB:∀ {n:Nat},sm n (λ_=>0)=0
 | 0=>rfl
 | n+1=>by show sm n (λ_=>0)+0=0;rw[UB];rfl
theorem Jr{f:Nat->Int}{n:Nat}(h:∀ i,i<n->f i=0):sm n f=0:=by rw[ZD h];exact UB
theorem DH{f:Nat->Int}:∀ {n:Nat},sm (n+1) f=f 0+sm n (λi=>f (i+1))
 | 0=>by show 0+f 0=f 0+0;lia
 | n+1=>by show sm (n+1) f+f (n+1)=f 0+(sm n (λi=>f (i+1))+f (n+1));rw[DH];lia
theorem rB{f:Nat->Nat->Int}{m:Nat}:∀ {n:Nat},sm n (λi=>sm m (f i))=sm m (λj=>sm n (λi=>f i j))
 | 0=>UB.symm
 | n+1=>by show sm n (λi=>sm m (f i))+sm m (f n)=sm m (λj=>sm n (λi=>f i j)+f n j);rw[rB,Jt]
def sk(j k:Nat):Nat:=if k<j then k else k+1
def mn(A:Mx)(j:Nat):Mx:=λi k=>A (i+1) (sk j k)
def sg(j:Nat):Int:=if j % 2=0 then 1 else -1
theorem yB(j:Nat):sg (j+1)=- sg j:=by
 unfold sg;by_cases h:j % 2=0
 .rw[if_pos h,if_neg (by omega)]
 .rw[if_neg h,if_pos (by lia)];rfl
def det:Nat->Mx->Int
 | 0,_=>1
 | n+1,A=>sm (n+1) λj=>sg j * A 0 j * det n (mn A j)
theorem PV{j k n:Nat}(h:k<n):sk j k<n+1:=by unfold sk;split <;> lia
theorem Zm:∀ {n:Nat} {A B:Mx},(∀ i j,i<n->j<n->A i j=B i j)->det n A=det n B
 | 0,_,_,_=>rfl
 | n+1,A,B,h=>ZD λj hj=>by rw[h 0 j (by lia) hj,Zm (A:=mn A j) (B:=mn B j) λi k hi hk=>h (i+1) (sk j k) (by lia) (PV hk)]
theorem Jq:∀ {n:Nat} {A B C:Mx} {c:Int} {i:Nat},i<n->(∀ r j,r<n->j<n->r≠i->A r j=B r j/\A r j=C r j)->(∀ j,j<n->A i j=c * B i j+C i j)->det n A=c * det n B+det n C
 | 0,_,_,_,_,_,hi,_,_=>absurd hi (Wy _)
 | n+1,A,B,C,c,i,hi,h1,h2=>by
  show sm (n+1) (λj=>sg j * A 0 j * det n (mn A j))=c * sm (n+1) (λj=>sg j * B 0 j * det n (mn B j))+sm (n+1) (λj=>sg j * C 0 j * det n (mn C j));rw[<- Hk,<- Jt];refine ZD λj hj=>?_;cases i with
  | zero =>
   have e1:det n (mn B j)=det n (mn A j):=Zm λr k hr hk=>(h1 (r+1) (sk j k) (by omega) (PV hk) (by lia)).1.symm;have e2:det n (mn C j)=det n (mn A j):=Zm λr k hr hk=>(h1 (r+1) (sk j k) (by lia) (PV hk) (by lia)).2.symm
   rw[e1,e2,h2 j hj];generalize det n (mn A j)=d;generalize sg j=s;rw[KP,zB,<- SD s c,QC s c,SD c s,SD c]
  | succ i =>
   have e:=Jq (n:=n) (A:=mn A j) (B:=mn B j) (C:=mn C j) (c:=c) (i:=i) (by lia) (λr k hr hk XH=>h1 (r+1) (sk j k) (by lia) (PV hk) (by lia)) (λk hk=>h2 (sk j k) (PV hk));have e0:=h1 0 j (by lia) hj (by lia)
   rw[e,<- e0.1,<- e0.2];generalize det n (mn B j)=d;generalize det n (mn C j)=d';generalize sg j * A 0 j=s;rw[KP,<- SD,<- SD,QC s c]
theorem DG{A:Mx}{j k i l:Nat}(h:j<=k):mn (mn A j) k i l=mn (mn A (k+1)) j i l:=by
 show A (i+1+1) (sk j (sk k l))=A (i+1+1) (sk (k+1) (sk j l));refine Xw _ ?_;unfold sk;by_cases h1:l<j
 .rw[if_pos (show l<k by lia),if_pos h1,if_pos (show l<k+1 by lia)]
 .rw[if_neg h1];by_cases h2:l<k
  .rw[if_pos h2,if_neg h1,if_pos (show l+1<k+1 by lia)]
  .rw[if_neg h2,if_neg (show ¬ l+1<j by lia),if_neg (show ¬ l+1<k+1 by lia)]
theorem rq:∀ {n:Nat} {A:Mx} {i:Nat},i+1<n->(∀ j,j<n->A i j=A (i+1) j)->det n A=0
 | 0,_,_,hi,_=>absurd hi (Wy _)
 | n+1,A,i+1,hi,h=>Jr λj hj=>by rw[rq (A:=mn A j) (i:=i) (by lia) λk hk=>h (sk j k) (PV hk),Sz]
 | 1,_,0,hi,_=>absurd hi (by omega)
 | n+2,A,0,_,h=>by
  obtain⟨t,ht⟩:∃ t:Nat->Nat->Int,t=λj k=>sg j * A 0 j * (sg k * A 1 (sk j k) * det n (mn (mn A j) k)):=⟨_,rfl⟩;have e1:det (n+2) A=sm (n+2) λj=>sm (n+1) (t j):=ZD λj hj=>by rw[ht,Hk];rfl
  have e2:∀ j k,j<=k->k<n+1->t (k+1) j=- t j k:=λj k hjk hk=>by
   rw[ht];show sg (k+1) * A 0 (k+1) * (sg j * A 1 (sk (k+1) j) * det n (mn (mn A (k+1)) j))=- (sg j * A 0 j * (sg k * A 1 (sk j k) * det n (mn (mn A j) k)))
   have f1:sk (k+1) j=j:=by unfold sk;rw[if_pos (by lia)]
   have f2:sk j k=k+1:=by unfold sk;rw[if_neg (by lia)]
   have f3:det n (mn (mn A (k+1)) j)=det n (mn (mn A j) k):=Zm λi l _ _=>(DG hjk).symm;rw[f1,f2,f3,yB,<- h j (by lia),<- h (k+1) (by lia)];generalize det n (mn (mn A j) k)=d;generalize A 0 j=x;generalize A 0 (k+1)=y;generalize sg j=s;generalize sg k=u;simp only [Oa,Int.neg_inj];simp only [QC,Od,SD]
  have e3:sm (n+2) (λj=>sm (n+1) (t j))=sm (n+2) (λj=>sm (n+1) λk=>if k<j then t j k else 0)+sm (n+2) (λj=>sm (n+1) λk=>if k<j then 0 else t j k):=by rw[<- Jt];refine ZD λj _=>?_;rw[<- Jt];refine ZD λk _=>?_;split <;> lia
  have e4:sm (n+2) (λj=>sm (n+1) λk=>if k<j then t j k else 0)=sm (n+1) (λk=>sm (n+1) λj=>if k<=j then t (j+1) k else 0):=by
   rw[rB];refine ZD λk _=>?_;rw[DH,if_neg (by lia),RV];refine ZD λj _=>?_;by_cases c:k<=j
   .rw[if_pos c,if_pos (by omega)]
   .rw[if_neg c,if_neg (by lia)]
  have e5:sm (n+2) (λj=>sm (n+1) λk=>if k<j then 0 else t j k)=sm (n+1) (λj=>sm (n+1) λk=>if j<=k then t j k else 0):=by
   show sm (n+1) (λj=>sm (n+1) λk=>if k<j then 0 else t j k)+sm (n+1) (λk=>if k<n+1 then 0 else t (n+1) k)=_;rw[Jr (f:=λk=>if k<n+1 then 0 else t (n+1) k) λk hk=>if_pos hk,RZ];refine ZD λj _=>ZD λk _=>?_;by_cases c:j<=k
   .rw[if_pos c,if_neg (by lia)]
   .rw[if_neg c,if_pos (by lia)]
  rw[e1,e3,e4,e5,<- Jt];refine Jr λj hj=>?_;rw[<- Jt];refine Jr λk hk=>?_;by_cases c:j<=k
  .rw[if_pos c,if_pos c,e2 j k c hk];lia
  .rw[if_neg c,if_neg c];rfl
def put2(A:Mx)(i:Nat)(x y:Nat->Int):Mx:=λr=>if r=i then x else if r=i+1 then y else A r
theorem rp{n:Nat}{A:Mx}{i:Nat}{x x' y:Nat->Int}(hi:i+1<n):det n (put2 A i (λj=>x j+x' j) y)=det n (put2 A i x y)+det n (put2 A i x' y):=by
 have:=Jq (n:=n) (A:=put2 A i (λj=>x j+x' j) y) (B:=put2 A i x y) (C:=put2 A i x' y) (c:=1) (i:=i) (by lia) (λr j _ _ XH=>by unfold put2;rw[if_neg XH,if_neg XH,if_neg XH];exact⟨rfl,rfl⟩) (λj _=>by unfold put2;rw[if_pos rfl,if_pos rfl,if_pos rfl,To])
 rw[this,To]
theorem f9{n:Nat}{A:Mx}{i:Nat}{x y y':Nat->Int}(hi:i+1<n):det n (put2 A i x (λj=>y j+y' j))=det n (put2 A i x y)+det n (put2 A i x y'):=by
 have ne:¬ i+1=i:=by lia
 have:=Jq (n:=n) (A:=put2 A i x (λj=>y j+y' j)) (B:=put2 A i x y) (C:=put2 A i x y') (c:=1) (i:=i+1) (by lia) (λr j _ _ XH=>by unfold put2;rw[if_neg XH,if_neg XH,if_neg XH];exact⟨rfl,rfl⟩) (λj _=>by unfold put2;rw[if_neg ne,if_neg ne,if_neg ne,if_pos rfl,if_pos rfl,if_pos rfl,To])
 rw[this,To]
theorem rn{n:Nat}{A:Mx}{i:Nat}{x:Nat->Int}(hi:i+1<n):det n (put2 A i x x)=0:=rq hi λj _=>by unfold put2;rw[if_pos rfl,if_neg (by lia),if_pos rfl]
theorem rm{n:Nat}{A:Mx}{i:Nat}{x y:Nat->Int}(hi:i+1<n):det n (put2 A i y x)=- det n (put2 A i x y):=by have h:=rn (A:=A) (x:=λj=>x j+y j) hi;rw[rp hi,f9 hi,f9 hi,rn hi,rn hi]at h;lia
theorem ZQ9{A:Mx}{i:Nat}:put2 A i (A i) (A (i+1))=A:=by
 funext r
 unfold put2;by_cases h:r=i
 .rw[if_pos h,h]
 .rw[if_neg h];by_cases h2:r=i+1
  .rw[if_pos h2,h2]
  .rw[if_neg h2]
theorem f7{n:Nat}{A:Mx}{i:Nat}(hi:i+1<n):det n (put2 A i (A (i+1)) (A i))=- det n A:=by
 have:=rm (A:=A) (x:=A i) (y:=A (i+1)) hi
 rw[ZQ9]at this;exact this
theorem yA{n:Nat}{a:Nat}:∀ {d:Nat} {A:Mx},a+d+1<n->(∀ j,j<n->A a j=A (a+d+1) j)->det n A=0
 | 0,A,hn,h=>rq hn h
 | d+1,A,hn,h=>by
  have e:=f7 (n:=n) (A:=A) (i:=a+d+1) (by lia);have z:det n (put2 A (a+d+1) (A (a+d+1+1)) (A (a+d+1)))=0:=by refine yA (a:=a) (d:=d) (by lia) λj hj=>?_;unfold put2;rw[if_neg (by lia),if_neg (by lia),if_pos rfl];exact h j hj
  lia
def rotN(k t i:Nat):Nat:=if i<k then i else if i=k then k+t else if i<=k+t then i - 1 else i
theorem ZW7(k i:Nat):rotN k 0 i=i:=by
 unfold rotN;by_cases h:i<k
 .rw[if_pos h]
 .rw[if_neg h];by_cases h2:i=k
  .rw[if_pos h2,h2];rfl
  .rw[if_neg h2,if_neg (by lia)]
theorem rj{n k:Nat}:∀ {t:Nat} {A:Mx},k+t<n->det n (λi=>A (rotN k t i))=sg t * det n A
 | 0,A,_=>by rw[show sg 0=1 from rfl,To];exact Zm λi j _ _=>by rw[ZW7]
 | t+1,A,h=>by
  have e:=rj (n:=n) (k:=k) (t:=t) (A:=put2 A (k+t) (A (k+t+1)) (A (k+t))) (by lia);rw[f7 (by lia)]at e;have f:det n (λi=>A (rotN k (t+1) i))=det n (λi=>put2 A (k+t) (A (k+t+1)) (A (k+t)) (rotN k t i)):=Zm λi j _ _=>by
   refine congrFun ?_ j;have r1:rotN k (t+1) i=if i<k then i else if i=k then k+(t+1) else if i<=k+(t+1) then i - 1 else i:=rfl
   have r2:rotN k t i=if i<k then i else if i=k then k+t else if i<=k+t then i - 1 else i:=rfl
   unfold put2;by_cases h1:i<k
   .rw[if_pos h1]at r1 r2;rw[r1,r2,if_neg (by lia),if_neg (by lia)]
   .rw[if_neg h1]at r1 r2;by_cases h2:i=k
    .rw[if_pos h2]at r1 r2;rw[r1,r2,if_pos rfl];rfl
    .rw[if_neg h2]at r1 r2;by_cases h3:i<=k+t
     .rw[if_pos (by lia)]at r1;rw[if_pos h3]at r2;rw[r1,r2,if_neg (by lia),if_neg (by lia)]
     .rw[if_neg h3]at r2;by_cases h4:i=k+t+1
      .rw[if_pos (by lia)]at r1;rw[r1,r2,if_neg (by grind),if_pos h4];exact Xw A (by lia)
      .rw[if_neg (by lia)]at r1;rw[r1,r2,if_neg (by lia),if_neg h4]
  rw[f,e,yB,Int.mul_neg,Oa]
theorem rh:∀ {n:Nat} {A:Mx},(∀ i,i<n+1->A i 0=0)->det (n+1) A=0
 | 0,A,h=>by show 0+sg 0 * A 0 0 * 1=0;rw[h 0 (by omega),Sz];rfl
 | n+1,A,h=>Jr λj hj=>by
  cases j with
  | zero=>rw[h 0 (by lia),Sz,Gy]
  | succ j =>
   rw[rh (A:=mn A (j+1)) λi hi=>?_,Sz];show A (i+1) (sk (j+1) 0)=0
   rw[show sk (j+1) 0=0 from rfl];exact h (i+1) (by lia)
theorem ZC8{n:Nat}{A:Mx}(h:∀ i,i<n->A (i+1) 0=0):det (n+1) A=A 0 0 * det n (λi j=>A (i+1) (j+1)):=by
 show sm (n+1) (λj=>sg j * A 0 j * det n (mn A j))=_;rw[DH,Jr λj hj=>?_]
 .rw[RZ,show sg 0=1 from rfl,To];refine Xw (A 0 0 * ·) (Zm λi j _ _=>?_);rfl
 .cases n with
  | zero=>exact absurd hj (Wy _)
  | succ n =>
   rw[rh (A:=mn A (j+1)) λi hi=>?_,Sz];exact h i hi
theorem fZ{n:Nat}{A:Mx}{i:Nat}(hi:i<n)(h:∀ j,j<n->A i j=0):det n A=0:=by
 have:=Jq (A:=A) (B:=A) (C:=A) (c:=1) hi (λr j _ _ _=>⟨rfl,rfl⟩) (λj hj=>by rw[h j hj];rfl)
 grind
theorem fY{c:Int}:∀ {n:Nat} {A:Mx},det n (λi j=>c * A i j)=c ^ n * det n A
 | 0,_=>by show(1:Int)=c ^ 0 * 1;rw[KQ];rfl
 | n+1,A=>by
  show sm (n+1) (λj=>sg j * (c * A 0 j) * det n (mn (λi j=>c * A i j) j))=c ^ (n+1) * sm (n+1) (λj=>sg j * A 0 j * det n (mn A j));rw[<- Hk];refine ZD λj _=>?_;have e:det n (mn (λi j=>c * A i j) j)=c ^ n * det n (mn A j):=fY (A:=mn A j)
  rw[e,Gx];generalize det n (mn A j)=d;generalize c ^ n=p;generalize sg j=s;generalize A 0 j=x;simp only [QC,Od,SD]
def offN(R:Mx):Mx:=λi j=>R 0 0 * R (i+1) (j+1) - R (i+1) 0 * R 0 (j+1)
def WQ(R:Mx)(k:Nat):Mx:=λr j=>if r=0 then R 0 j else if r<=k then R 0 0 * R r j - R r 0 * R 0 j else R r j
theorem fX{m:Nat}{R:Mx}:∀ {k:Nat},k<m+1->det (m+1) (WQ R k)=R 0 0 ^ k * det (m+1) R
 | 0,_=>by
  rw[KQ,To];refine Zm λi j _ _=>?_;unfold WQ;by_cases h:i=0
  .rw[if_pos h,h]
  .rw[if_neg h,if_neg (by lia)]
 | k+1,hk=>by
  have ih:=fX (m:=m) (R:=R) (k:=k) (by lia);obtain⟨C,hC⟩:∃ C:Mx,C=λr j=>if r=k+1 then - R (k+1) 0 * R 0 j else WQ R k r j:=⟨_,rfl⟩
  obtain⟨B,hB⟩:∃ B:Mx,B=λr j=>if r=k+1 then R 0 j else WQ R k r j:=⟨_,rfl⟩
  obtain⟨Z,hZ⟩:∃ Z:Mx,Z=λr j=>if r=k+1 then 0 else WQ R k r j:=⟨_,rfl⟩
  have hBz:det (m+1) B=0:=yA (n:=m+1) (a:=0) (d:=k) (by lia) λj hj=>by
   rw[hB];show(if 0=k+1 then _ else WQ R k 0 j)=if 0+k+1=k+1 then _ else _
   rw[if_neg (by lia),if_pos (by lia)];rfl
  have hZz:det (m+1) Z=0:=fZ (i:=k+1) hk λj hj=>by rw[hZ];exact if_pos rfl
  have hCz:det (m+1) C=0:=by
   have:=Jq (A:=C) (B:=B) (C:=Z) (c:=- R (k+1) 0) hk (λr j _ _ XH=>by
    rw[hC,hB,hZ];show(if r=k+1 then _ else WQ R k r j)=(if r=k+1 then _ else WQ R k r j)/\(if r=k+1 then _ else WQ R k r j)=(if r=k+1 then _ else WQ R k r j)
    rw[if_neg XH,if_neg XH,if_neg XH];exact⟨rfl,rfl⟩) (λj _=>by
    rw[hC,hB,hZ];show(if k+1=k+1 then _ else _)=_ * (if k+1=k+1 then _ else _)+(if k+1=k+1 then _ else _)
    rw[if_pos rfl,if_pos rfl,if_pos rfl,RZ])
   rw[this,hBz,hZz,Sz];rfl
  have:=Jq (A:=WQ R (k+1)) (B:=WQ R k) (C:=C) (c:=R 0 0) hk (λr j _ _ XH=>by
   have e1:WQ R (k+1) r j=WQ R k r j:=by
    unfold WQ;by_cases h0:r=0
    .rw[if_pos h0,if_pos h0]
    .rw[if_neg h0,if_neg h0];by_cases h1:r<=k
     .rw[if_pos h1,if_pos (by lia)]
     .rw[if_neg h1,if_neg (by lia)]
   refine⟨e1,?_⟩;rw[hC,e1];show _=if r=k+1 then _ else _
   rw[if_neg XH]) (λj _=>by
   have e1:WQ R (k+1) (k+1) j=R 0 0 * R (k+1) j - R (k+1) 0 * R 0 j:=by unfold WQ;rw[if_neg (by lia),if_pos (by lia)]
   have e2:WQ R k (k+1) j=R (k+1) j:=by unfold WQ;rw[if_neg (by omega),if_neg (by lia)]
   rw[e1,e2,hC];show _=_+(if k+1=k+1 then - R (k+1) 0 * R 0 j else _)
   rw[if_pos rfl,Oa]
   rfl)
  rw[this,hCz,ih,RZ,Gx];rw[<- SD,QC (R 0 0)]
theorem rg{m:Nat}{R:Mx}:R 0 0 * det m (offN R)=R 0 0 ^ m * det (m+1) R:=by
 rw[<- fX (k:=m) (by lia),ZC8 λi hi=>?_]
 .have e0:WQ R m 0 0=R 0 0:=if_pos rfl;rw[e0];refine Xw (R 0 0 * ·) (Zm λi j hi hj=>?_);unfold WQ offN;rw[if_neg (by lia),if_pos (by lia)]
 .unfold WQ;rw[if_neg (by lia),if_pos (by lia),QC];lia
def ex(k:Nat)(r:Nat->Nat)(i:Nat):Nat:=if i<k then i else k+r (i - k)
def Sn(A:Mx)(k M:Nat)(R:Mx)(last:Int):Prop:=last≠0/\∀(m:Nat) (r c:Nat->Nat),(∀ i,i<m+1->r i<M/\c i<M) ->
 det (m+1) (λi j=>R (r i) (c j))=det (k+m+1) (λi j=>A (ex k r i) (ex k c j)) * last ^ m
theorem ZF8(A:Mx)(n:Nat):Sn A 0 n A 1:=⟨by decide,λm r c _=>by rw[Int.one_pow,Og,Mf];refine Zm λi j _ _=>?_;unfold ex;rw[if_neg (Wy _),if_neg (Wy _),Mf,Mf,Nat.sub_zero,Nat.sub_zero]⟩
theorem rf{p:Int}(h:p≠0):∀ n:Nat,p ^ n≠0
 | 0=>by rw[KQ];decide
 | n+1=>by rw[Gx];exact Int.mul_ne_zero (rf h n) h
def PU(r:Nat->Nat):Nat->Nat
 | 0=>0
 | i+1=>r i+1
theorem DF(k:Nat)(r:Nat->Nat)(i:Nat):ex k (PU r) i=ex (k+1) r i:=by
 unfold ex;by_cases h:i<k
 .rw[if_pos h,if_pos (by lia)]
 .rw[if_neg h];by_cases h2:i=k
  .rw[if_pos (by lia),h2,UK];rfl
  .rw[if_neg (by lia)];obtain⟨d,rfl⟩:∃ d,i=k+d+1:=⟨i - k - 1,by grind⟩;rw[show k+d+1 - k=d+1 by lia,show k+d+1 - (k+1)=d by lia];show k+(r d+1)=k+1+r d
   lia
theorem fW{A:Mx}{k M:Nat}{R:Mx}{last:Int}(h:Sn A k (M+1) R last)(hp:R 0 0≠0){m:Nat}{r c:Nat->Nat}(hb:∀ i,i<m+1->r i<M/\c i<M) :
  det (m+1) (λi j=>offN R (r i) (c j))=R 0 0 ^ m * (last ^ (m+1) * det (k+1+m+1) (λi j=>A (ex (k+1) r i) (ex (k+1) c j))):=by
 have e1:=rg (m:=m+1) (R:=λi j=>R (PU r i) (PU c j));have e2:=h.2 (m+1) (PU r) (PU c) λi hi=>by
  cases i with
  | zero=>exact⟨Nat.succ_pos _,Nat.succ_pos _⟩
  | succ i=>have:=hb i (by lia);exact⟨Nat.succ_lt_succ this.1,Nat.succ_lt_succ this.2⟩
 have e3:det (m+1) (offN λi j=>R (PU r i) (PU c j))=det (m+1) (λi j=>offN R (r i) (c j)):=rfl;have e4:det (k+(m+1)+1) (λi j=>A (ex k (PU r) i) (ex k (PU c) j))=det (k+1+m+1) (λi j=>A (ex (k+1) r i) (ex (k+1) c j)):=by rw[show k+(m+1)+1=k+1+m+1 by lia];exact Zm λi j _ _=>by rw[DF,DF]
 rw[e3]at e1;rw[e4]at e2;have e5:R (PU r 0) (PU c 0)=R 0 0:=rfl
 rw[e5,e2]at e1;generalize det (m+1) (λi j=>offN R (r i) (c j))=x at *;generalize det (k+1+m+1) (λi j=>A (ex (k+1) r i) (ex (k+1) c j))=y at *;rw[Gx]at e1;refine Gq hp ?_;rw[e1,QC y,QC (R 0 0 ^ m),SD]
theorem q9(A:Mx):det 1 A=A 0 0:=by show 0+sg 0 * A 0 0 * 1=A 0 0;rw[show sg 0=1 from rfl];lia
theorem q8{A:Mx}{k M:Nat}{R:Mx}{last:Int}(h:Sn A k (M+1) R last)(hp:R 0 0≠0){i j:Nat}(hi:i<M)(hj:j<M) :
  offN R i j=last * det (k+2) (λa b=>A (ex (k+1) (λ_=>i) a) (ex (k+1) (λ_=>j) b)):=by
 have:=fW h hp (m:=0) (r:=λ_=>i) (c:=λ_=>j) λ_ _=>⟨hi,hj⟩
 rw[q9,KQ,To,Gx,KQ,To]at this;exact this
theorem qZ{A:Mx}{k M:Nat}{R R':Mx}{last:Int}(h:Sn A k (M+1) R last)(hp:R 0 0≠0)(hR:∀ i j,i<M->j<M->R' i j=(offN R i j).fdiv last):Sn A (k+1) M R' (R 0 0):=by
 refine⟨hp,λm r c hb=>?_⟩;have qY:∀ i j,i<M->j<M->offN R i j=last * R' i j:=λi j hi hj=>by rw[hR i j hi hj,q8 h hp hi hj,Int.mul_fdiv_cancel_left _ h.1]
 have e1:=fW h hp hb;have e2:det (m+1) (λi j=>offN R (r i) (c j))=last ^ (m+1) * det (m+1) (λi j=>R' (r i) (c j)):=by rw[<- fY];exact Zm λi j hi hj=>qY _ _ (hb i hi).1 (hb j hj).2
 rw[e2]at e1;refine Gq (rf h.1 (m+1)) ?_;rw[e1];generalize det (k+1+m+1) (λi j=>A (ex (k+1) r i) (ex (k+1) c j))=y;rw[Od,QC y]
theorem qX{A:Mx}{k M t:Nat}{R:Mx}{last:Int}(h:Sn A k M R last)(ht:t<M):Sn (λi=>A (rotN k t i)) k M (λi=>R (rotN 0 t i)) last:=by
 refine⟨h.1,λm r c hb=>?_⟩;have e:=h.2 m (λi=>rotN 0 t (r i)) c λi hi=>⟨by
  have:=(hb i hi).1
  unfold rotN;rw[if_neg (by lia)];split
  .lia
  .split <;> lia,(hb i hi).2⟩
 rw[e];refine Xw (· * last ^ m) (Zm λi j _ _=>?_);refine Xw (λa=>A a (ex k c j)) ?_;unfold ex;by_cases hi:i<k
 .rw[if_pos hi,if_pos hi];unfold rotN;rw[if_pos hi]
 .rw[if_neg hi,if_neg hi];show k+rotN 0 t (r (i - k))=rotN k t (k+r (i - k))
  generalize r (i - k)=a;have r1:rotN 0 t a=if a<0 then a else if a=0 then 0+t else if a<=0+t then a - 1 else a:=rfl
  have r2:rotN k t (k+a)=if k+a<k then k+a else if k+a=k then k+t else if k+a<=k+t then k+a - 1 else k+a:=rfl
  rw[if_neg (by lia)]at r1 r2;by_cases h1:a=0
  .rw[if_pos h1]at r1;rw[if_pos (by lia)]at r2;rw[r1,r2];lia
  .rw[if_neg h1]at r1;rw[if_neg (by lia)]at r2;by_cases h2:a<=t
   .rw[if_pos (by lia)]at r1;rw[if_pos (by lia)]at r2;rw[r1,r2];lia
   .rw[if_neg (by lia)]at r1;rw[if_neg (by lia)]at r2;rw[r1,r2]
theorem Ni(k i:Nat):ex k (λi=>i) i=i:=by
 unfold ex;by_cases h:i<k
 .rw[if_pos h]
 .rw[if_neg h];show k+(i - k)=i
  grind
theorem qW{A:Mx}{k M:Nat}{R:Mx}{last:Int}(h:Sn A k (M+1) R last)(h0:∀ i,i<M+1->R i 0=0):det (k+M+1) A=0:=by
 have e:=h.2 M (λi=>i) (λi=>i) λi hi=>⟨hi,hi⟩;rw[rh (A:=λi j=>R i j) h0]at e;have e2:det (k+M+1) (λi j=>A (ex k (λi=>i) i) (ex k (λi=>i) j))=det (k+M+1) A:=Zm λi j _ _=>by rw[Ni,Ni]
 rw[e2]at e;rcases Int.mul_eq_zero.mp e.symm with z | z
 .exact z
 .exact absurd z (rf h.1 M)
theorem qV{A:Mx}{k:Nat}{R:Mx}{last:Int}(h:Sn A k 1 R last):R 0 0=det (k+1) A:=by
 have e:=h.2 0 (λi=>i) (λi=>i) λi hi=>⟨by lia,by omega⟩;rw[q9,KQ,Og]at e;have e2:det (k+0+1) (λi j=>A (ex k (λi=>i) i) (ex k (λi=>i) j))=det (k+1) A:=Zm λi j _ _=>by rw[Ni,Ni]
 rw[e2]at e;exact e
end My
namespace L2
open PySem PySem.Spec PyProof.Rows
def qU(i j:Int):Prop:=i.natAbs<2 ^ 9000/\j.natAbs<2 ^ 9000
def qT(i j:Int):Prop:=j≠0/\j.natAbs<2 ^ 9000
theorem fV{a:Int}(h:a.natAbs<2 ^ 9000):Builtin.Int.intBits a<=9000:=PySem.intBits_le_iff.mpr h
section
variable{X:Cx}
theorem qS:WD X (binaryOp .Mult) (rI qU λi j=>.int (i * j)):=Kk λ_ _ _ _ _ _ _ hc q=>mul_int q (.of_bits (Yv (fV hc.1) (by decide)) (Yv (fV hc.2) (by decide)))
theorem DE:WD X (binaryOp .FloorDiv) (rI qT λi j=>.int (i.fdiv j)):=Kk λ_ _ _ _ _ _ _ hc q=>floordiv_int hc.1 q (.inl (PyProof.noPylong_of_log2 ((Nat.log2_lt (by have:=hc.1;lia)).mpr hc.2)))
end
end L2
namespace My
def fnL(L:Ab):Mx:=λi j=>(L.getD i []).getD j 0
theorem OB{L:Ab}{l:Ac}{i j:Nat}{x:Int}(h:L[i]?=some l)(h2:l[j]?=some x):fnL L i j=x:=by
 have e:L.getD i []=l:=by rw[WG,h];rfl
 unfold fnL;rw[e,WG,h2];rfl
def yy(B:Nat):Nat->Nat
 | 0=>1
 | n+1=>(n+1) * (B * yy B n)
theorem DD{f:Nat->Int}{C:Nat}:∀ {n:Nat},(∀ i,i<n->(f i).natAbs<=C)->(sm n f).natAbs<=n * C
 | 0,_=>by show(0:Int).natAbs<=0 * C;rw[Nat.zero_mul];exact XN 0
 | n+1,h=>by
  have h1:=DD (n:=n) λi hi=>h i (by lia);have h2:=h n (by lia)
  have h3:(sm n f+f n).natAbs<=(sm n f).natAbs+(f n).natAbs:=Int.natAbs_add_le ..;show(sm n f+f n).natAbs<=(n+1) * C
  rw[Nat.succ_mul];lia
theorem fU{B:Nat}:∀ {n:Nat} {A:Mx},(∀ i j,i<n->j<n->(A i j).natAbs<=B)->(det n A).natAbs<=yy B n
 | 0,_,_=>XN 1
 | n+1,A,h=>by
  refine DD λj hj=>?_;have e:(sg j).natAbs=1:=by unfold sg;split <;> rfl
  rw[wI,wI,e,Nat.one_mul];exact KU (h 0 j (by lia) hj) (fU λi k hi hk=>h (i+1) (sk j k) (by lia) (PV hk))
theorem DC{b:Nat}:∀ {n:Nat},n<=16->yy (2 ^ b) n<=2 ^ ((b+4) * n)
 | 0,_=>by show 1<=2 ^ ((b+4) * 0);rw[Nat.mul_zero];exact XN 1
 | n+1,h=>by
  have ih:=DC (b:=b) (n:=n) (by lia);have e:2 ^ ((b+4) * (n+1))=16 * (2 ^ b * 2 ^ ((b+4) * n)):=by rw[Nat.mul_succ,Nat.pow_add,Nat.pow_add,zE (2 ^ ((b+4) * n)),zE (2 ^ b) (2 ^ 4),Nat.mul_assoc]
  rw[e];show(n+1) * (2 ^ b * yy (2 ^ b) n)<=_
  exact KU h (KU (XN _) ih)
theorem ZB8{n:Nat}{A:Mx}(hn:n<=16)(h:∀ i j,i<n->j<n->(A i j).natAbs<=2 ^ 400):(det n A).natAbs<2 ^ 9000:=by
 have h1:=fU h;have h2:=DC (b:=400) hn
 have h3:2 ^ ((400+4) * n)<=2 ^ (404 * 16):=xg (by decide) (KU (XN _) hn);have h4:2 ^ (404 * 16)<2 ^ 9000:=Nat.pow_lt_pow_right (by decide) (by decide)
 exact GK (Yv h1 (Yv h2 h3)) h4
theorem qR{A:Mx}{k M:Nat}{R:Mx}{last:Int}(h:Sn A k M R last){i j:Nat}(hi:i<M)(hj:j<M):R i j=det (k+1) (λa b=>A (ex k (λ_=>i) a) (ex k (λ_=>j) b)):=by
 have:=h.2 0 (λ_=>i) (λ_=>j) λ_ _=>⟨hi,hj⟩
 rw[q9,KQ,Og]at this;exact this
theorem ZG8{A:Mx}{k M n:Nat}{R:Mx}{last:Int}(h:Sn A k M R last)(hn:k+M=n)(hn16:n<=16)(hA:∀ i j,i<n->j<n->(A i j).natAbs<=2 ^ 400){i j:Nat}(hi:i<M)(hj:j<M):(R i j).natAbs<2 ^ 9000:=by
 rw[qR h hi hj];refine ZB8 (by lia) λa b ha hb=>hA _ _ ?_ ?_
 .have e:ex k (λ_=>i) a=if a<k then a else k+i:=rfl
  rw[e];split <;> lia
 .have e:ex k (λ_=>j) b=if b<k then b else k+j:=rfl
  rw[e];split <;> lia
theorem qQ{L:Ab}{l:Ac}{t:Nat}(h:L[t]?=some l)(i:Nat):(l :: L.eraseIdx t)[i]?=L[rotN 0 t i]?:=by
 have ht:=(Xs.mp h).1;have r:rotN 0 t i=if i<0 then i else if i=0 then 0+t else if i<=0+t then i - 1 else i:=rfl
 rw[if_neg (by lia)]at r;cases i with
 | zero =>
  rw[if_pos rfl,Mf]at r;rw[r,h];rfl
 | succ i =>
  rw[if_neg (by lia),Mf]at r;rw[r,List.getElem?_cons_succ,xj];by_cases c:i+1<=t
  .rw[if_pos c,if_pos (by lia)];rfl
  .rw[if_neg c,if_neg (by lia)]
theorem qP{L:Ab}{l:Ac}{t:Nat}(h:L[t]?=some l):fnL (l :: L.eraseIdx t)=λi=>fnL L (rotN 0 t i):=by
 funext i j
 show((l :: L.eraseIdx t).getD i []).getD j 0=(L.getD (rotN 0 t i) []).getD j 0;refine Xw (λr:Ac=>r.getD j 0) ?_;rw[WG,WG,qQ h]
def PR(y:Int)(p:Ac)(last:Int)(l:Ac):Ac:=List.zipWith (λown other=>(y * own - l.headD 0 * other).fdiv last) l.tail p
theorem fS{y last:Int}{p l:Ac}(h:l.length=p.length+1):(PR y p last l).length=p.length:=by unfold PR;rw[GL,List.length_tail];grind
theorem qO{y last:Int}{p:Ac}{L:Ab}{M:Nat}(hp:p.length=M)(hL:L.length=M)(hl:∀ l∈L,l.length=M+1){i j:Nat}(hi:i<M)(hj:j<M) :
  fnL (L.map (PR y p last)) i j=(offN (fnL ((y :: p) :: L)) i j).fdiv last:=by
 obtain⟨l,LD⟩:∃ l,L[i]?=some l:=⟨_,Xn (by lia)⟩;have Hj:=hl l (Xg LD)
 obtain⟨x,l',rfl⟩:∃ x l',l=x :: l':=by
  cases l with
  | nil=>cases Hj
  | cons x l'=>exact⟨x,l',rfl⟩
 have Sy:l'.length=M:=by rw[YA]at Hj;lia
 obtain⟨u,hu⟩:∃ u,l'[j]?=some u:=⟨_,Xn (by lia)⟩;obtain⟨v,hv⟩:∃ v,p[j]?=some v:=⟨_,Xn (by lia)⟩;have e1:fnL (L.map (PR y p last)) i j=(y * u - x * v).fdiv last:=OB (l:=PR y p last (x :: l')) (by rw[Yq,LD];rfl) (by
  show(List.zipWith _ l' p)[j]?=_;rw[Ia,hu,hv]
  rfl)
 have e2:fnL ((y :: p) :: L) 0 0=y:=rfl;have e3:fnL ((y :: p) :: L) (i+1) (j+1)=u:=OB (l:=x :: l') LD hu
 have e4:fnL ((y :: p) :: L) (i+1) 0=x:=OB (l:=x :: l') LD rfl;have e5:fnL ((y :: p) :: L) 0 (j+1)=v:=OB (l:=y :: p) rfl hv
 rw[e1];unfold offN;rw[e2,e3,e4,e5]
end My
namespace My
open PySem L2
def DB(K:Ad)(H:Hp)(v:V)(l:Ac):Prop:=∃(r:Addr) (k:Bool),v=.ref r/\SqK k K H r (IL l)
def LiV(d:Addr)(H:Hp)(v:V)(l:Ac):Prop:=∃ r,v=.ref r/\H r=some (.lst (IL l))/\r≠d
theorem LiV.same{d:Addr}{H H':Hp}{v:V}{l:Ac}(s:Same H H')(h:LiV d H v l):LiV d H' v l:=by obtain⟨r,e,h,n⟩:=h;exact⟨r,e,s _ _ h,n⟩
theorem LiV.mut{d:Addr}{H:Hp}{v:V}{l:Ac}{o:HO}(h:LiV d H v l):LiV d (upd H d o) v l:=by obtain⟨r,e,h,n⟩:=h;exact⟨r,e,by rw[Zb n];exact h,n⟩
theorem LiV.list{d:Addr}{H:Hp}{v:V}{l:Ac}(h:LiV d H v l):OF H v l:=by obtain⟨r,e,h,_⟩:=h;exact⟨r,e,h⟩
theorem Bears.erase{α:Type}[DecidableEq α]{R:V->α->Prop}{xs:List V}{l:List α}(h:Bears R xs l)(t:Nat):Bears R (xs.eraseIdx t) (l.eraseIdx t):=by
 have hl:=h.1;refine⟨by rw[zZ,zZ,hl],λi a e=>?_⟩;rw[xj]at e;rw[xj];split at e
 .next c=>rw[if_pos c];exact h.2 _ _ e
 .next c=>rw[if_neg c];exact h.2 _ _ e
theorem fR(x:Int)(l:Ac):WJ (IL (x :: l)) (some 1) none=IL l:=by rw[gp (by decide)];rfl
theorem qN(t:Nat):sg t * sg t=1:=by unfold sg;split <;> rfl
end My
namespace My
theorem ZD9{f:Nat->Nat->Int}{n m:Nat}:sm n (λi=>sm m (λj=>f i j))=sm m (λj=>sm n (λi=>f i j)):=rB
theorem fQ:∀ {n:Nat} {A:Mx},det (n+1) A=sm (n+1) λi=>sg i * A i 0 * det n (λr c=>A (sk i r) (c+1))
 | 0,A=>rfl
 | n+1,A=>by
  have e1:det (n+2) A=sg 0 * A 0 0 * det (n+1) (mn A 0)+sm (n+1) λj=>sg (j+1) * A 0 (j+1) * det (n+1) (mn A (j+1)):=DH;have e2:sm (n+2) (λi=>sg i * A i 0 * det (n+1) (λr c=>A (sk i r) (c+1)))=sg 0 * A 0 0 * det (n+1) (λr c=>A (sk 0 r) (c+1))+sm (n+1) λi=>sg (i+1) * A (i+1) 0 * det (n+1) (λr c=>A (sk (i+1) r) (c+1)):=DH
  rw[e1,e2];have e3:det (n+1) (mn A 0)=det (n+1) (λr c=>A (sk 0 r) (c+1)):=Zm λr c _ _=>rfl
  rw[e3];refine Xw (λz:Int=>sg 0 * A 0 0 * det (n+1) (λr c=>A (sk 0 r) (c+1))+z) ?_;obtain⟨D,hD⟩:∃ D:Nat->Nat->Int,D=λi j=>det n (λr c=>A (sk i r+1) (sk (j+1) (c+1))):=⟨_,rfl⟩;have e4:∀ j,j<n+1->det (n+1) (mn A (j+1))=sm (n+1) λi=>sg i * A (i+1) 0 * D i j:=λj _=>by rw[fQ,hD];rfl
  have e5:∀ i,i<n+1->det (n+1) (λr c=>A (sk (i+1) r) (c+1))=sm (n+1) λj=>sg j * A 0 (j+1) * D i j:=λi hi=>by
   show sm (n+1) (λj=>sg j * A (sk (i+1) 0) (j+1) * det n (mn (λr c=>A (sk (i+1) r) (c+1)) j))=_;refine ZD λj _=>?_;rw[hD];show sg j * A (sk (i+1) 0) (j+1) * det n (mn (λr c=>A (sk (i+1) r) (c+1)) j)=sg j * A 0 (j+1) * det n (λr c=>A (sk i r+1) (sk (j+1) (c+1)))
   rw[show sk (i+1) 0=0 from rfl];refine Xw (sg j * A 0 (j+1) * ·) (Zm λr c _ _=>?_);show A (sk (i+1) (r+1)) (sk j c+1)=A (sk i r+1) (sk (j+1) (c+1))
   have f1:sk (i+1) (r+1)=sk i r+1:=by
    unfold sk;by_cases h:r<i
    .rw[if_pos h,if_pos (by lia)]
    .rw[if_neg h,if_neg (by lia)]
   have f2:sk j c+1=sk (j+1) (c+1):=by
    unfold sk;by_cases h:c<j
    .rw[if_pos h,if_pos (by lia)]
    .rw[if_neg h,if_neg (by lia)]
   rw[f1,f2]
  have e6:sm (n+1) (λj=>sg (j+1) * A 0 (j+1) * det (n+1) (mn A (j+1)))=sm (n+1) λj=>sm (n+1) λi=>sg (j+1) * A 0 (j+1) * (sg i * A (i+1) 0 * D i j):=ZD λj hj=>by rw[e4 j hj,Hk]
  have e7:sm (n+1) (λi=>sg (i+1) * A (i+1) 0 * det (n+1) (λr c=>A (sk (i+1) r) (c+1)))=sm (n+1) λi=>sm (n+1) λj=>sg (i+1) * A (i+1) 0 * (sg j * A 0 (j+1) * D i j):=ZD λi hi=>by rw[e5 i hi,Hk]
  rw[e6,e7,ZD9];refine ZD λi _=>ZD λj _=>?_;rw[yB,yB];generalize D i j=d;generalize A 0 (j+1)=x;generalize A (i+1) 0=y;generalize sg i=s;generalize sg j=u;simp only [Oa,Int.neg_inj];simp only [QC,Od,SD]
theorem PQ:∀ {n:Nat} {A:Mx},det n (λi j=>A j i)=det n A
 | 0,_=>rfl
 | n+1,A=>by
  rw[fQ (A:=A)];refine ZD λj _=>?_;show sg j * A j 0 * det n (λi k=>A (sk j k) (i+1))=sg j * A j 0 * det n (λr c=>A (sk j r) (c+1))
  rw[<- PQ (A:=λr c=>A (sk j r) (c+1))]
theorem qM{n a b:Nat}{A:Mx}(ha:a<n)(hb:b<n)(XH:a≠b)(h:∀ j,j<n->A a j=A b j):det n A=0:=by
 rcases Nat.lt_or_gt_of_ne XH with c | c
 .obtain⟨d,rfl⟩:∃ d,b=a+d+1:=⟨b - a - 1,by grind⟩;exact yA hb h
 .obtain⟨d,rfl⟩:∃ d,a=b+d+1:=⟨a - b - 1,by grind⟩;exact yA ha λj hj=>(h j hj).symm
def putr(A:Mx)(i:Nat)(x:Nat->Int):Mx:=λr=>if r=i then x else A r
theorem fP{n i:Nat}{A:Mx}{c:Int}{x y:Nat->Int}(hi:i<n):det n (putr A i (λj=>c * x j+y j))=c * det n (putr A i x)+det n (putr A i y) :=
 Jq hi (λr j _ _ XH=>by unfold putr;rw[if_neg XH,if_neg XH,if_neg XH];exact⟨rfl,rfl⟩) (λj _=>by unfold putr;rw[if_pos rfl,if_pos rfl,if_pos rfl])
theorem fO{A:Mx}{i:Nat}:putr A i (A i)=A:=by
 funext r
 unfold putr;by_cases h:r=i
 .rw[if_pos h,h]
 .rw[if_neg h]
theorem fN{n a b:Nat}{A:Mx}{c:Int}(ha:a<n)(hb:b<n)(XH:a≠b):det n (putr A a (λj=>A a j+c * A b j))=det n A:=by
 have e:(λj=>A a j+c * A b j)=λj=>c * A b j+A a j:=by funext j;lia
 rw[e,fP ha,fO,qM ha hb XH (A:=putr A a (A b)) λj _=>?_,Sz,RV];unfold putr;rw[if_pos rfl,if_neg (YZ XH)]
theorem qL(a i:Nat):rotN 0 a (i+1)=sk a i:=by
 have r:rotN 0 a (i+1)=if i+1<0 then i+1 else if i+1=0 then 0+a else if i+1<=0+a then i+1 - 1 else i+1:=rfl
 rw[if_neg (by lia),if_neg (by lia)]at r;rw[r];unfold sk;by_cases h:i<a
 .rw[if_pos h,if_pos (by lia)];lia
 .rw[if_neg h,if_neg (by lia)]
theorem fM{f:Nat->Int}{a:Nat}:∀ {n:Nat},a<n->(∀ j,j<n->j≠a->f j=0)->sm n f=f a
 | 0,h,_=>absurd h (Wy _)
 | n+1,h,h0=>by
  show sm n f+f n=f a;by_cases c:a=n
  .rw[Jr λi hi=>h0 i (by grind) (by lia),c,RV]
  .rw[fM (n:=n) (by lia) λj hj XH=>h0 j (by lia) XH,h0 n (by lia) (by lia),RZ]
theorem qK{n a:Nat}{A:Mx}(ha:a<n+1):det (n+1) (putr A a (λj=>if j=a then 1 else 0))=det n (λi j=>A (sk a i) (sk a j)):=by
 have e:=rj (n:=n+1) (k:=0) (t:=a) (A:=putr A a (λj=>if j=a then 1 else 0)) (by lia);have r0:rotN 0 a 0=a:=by show(if 0<0 then 0 else if 0=0 then 0+a else _)=a;rw[if_neg (by lia),if_pos rfl,Mf]
 have top:det (n+1) (λi=>putr A a (λj=>if j=a then 1 else 0) (rotN 0 a i))=sg a * det n (λi j=>A (sk a i) (sk a j)):=by
  show sm (n+1) (λj=>sg j * putr A a (λj=>if j=a then 1 else 0) (rotN 0 a 0) j * det n (mn (λi=>putr A a (λj=>if j=a then 1 else 0) (rotN 0 a i)) j))=_;rw[fM ha λj _ XH=>?_]
  .rw[r0];have e1:putr A a (λj=>if j=a then 1 else 0) a a=1:=by unfold putr;rw[if_pos rfl,if_pos rfl]
   rw[e1,Og];refine Xw (sg a * ·) (Zm λi j _ _=>?_);show putr A a (λj=>if j=a then 1 else 0) (rotN 0 a (i+1)) (sk a j)=A (sk a i) (sk a j)
   rw[qL];unfold putr;rw[if_neg (by unfold sk;split <;> lia)]
  .rw[r0];have e1:putr A a (λj=>if j=a then 1 else 0) a j=0:=by unfold putr;rw[if_pos rfl,if_neg XH]
   rw[e1,Sz,Gy]
 rw[top]at e;have h:=Xw (sg a * ·) e
 simp only [<- SD]at h;rw[show sg a * sg a=1 by unfold sg;split <;> rfl,To,To]at h
 exact h.symm
theorem fL{n a:Nat}{A:Mx}{w:Int}(ha:a<n+1):det (n+1) (λi j=>A i j+w * ((if i=a then 1 else 0) * (if j=a then 1 else 0)))=det (n+1) A+w * det n (λi j=>A (sk a i) (sk a j)):=by
 have e:det (n+1) (λi j=>A i j+w * ((if i=a then 1 else 0) * (if j=a then 1 else 0)))=det (n+1) (putr A a (λj=>w * (λj=>if j=a then 1 else 0) j+A a j)):=Zm λi j _ _=>by
  unfold putr;by_cases h:i=a
  .subst h;rw[if_pos rfl,if_pos rfl,To];show A i j+w * (if j=i then 1 else 0)=w * (if j=i then 1 else 0)+A i j
   exact Int.add_comm ..
  .rw[if_neg h,if_neg h,Gy,Sz,RZ]
 rw[e,fP ha,fO,qK ha];lia
def ind(u v i:Nat):Int:=(if i=u then 1 else 0) - (if i=v then 1 else 0)
def VD(A:Mx)(a b:Nat):Mx:=λi j=>(A i j+(if i=b then A a j else 0))+(if j=b then A i a+(if i=b then A a a else 0) else 0)
theorem fK{n a b:Nat}{A:Mx}(ha:a<n)(hb:b<n)(XH:a≠b):det n (VD A a b)=det n A:=by
 have e1:det n A=det n (putr A b (λj=>A b j+1 * A a j)):=(fN hb ha (YZ XH)).symm;obtain⟨R,hR⟩:∃ R:Mx,R=putr A b (λj=>A b j+1 * A a j):=⟨_,rfl⟩;have e2:det n R=det n (putr (λi j=>R j i) b (λj=>(λi j=>R j i) b j+1 * (λi j=>R j i) a j)):=by rw[fN (A:=λi j=>R j i) hb ha (YZ XH)];exact PQ.symm
 rw[e1,<- hR,e2,<- PQ (A:=putr (λi j=>R j i) b (λj=>(λi j=>R j i) b j+1 * (λi j=>R j i) a j))];refine Zm λi j _ _=>?_;have rv:∀ r c,R r c=A r c+(if r=b then A a c else 0):=λr c=>by
  rw[hR];unfold putr;by_cases h:r=b
  .rw[if_pos h,if_pos h,h];lia
  .rw[if_neg h,if_neg h];lia
 unfold VD;show _=(putr (λi j=>R j i) b (λj=>R j b+1 * R j a)) j i
 unfold putr;by_cases h:j=b
 .rw[if_pos h,if_pos h,rv,rv,h];by_cases h2:i=b
  .rw[if_pos h2,if_pos h2];lia
  .rw[if_neg h2,if_neg h2];lia
 .rw[if_neg h,if_neg h];show _=R i j
  rw[rv];lia
theorem qJ{n a b:Nat}{A:Mx}{w:Int}(ha:a<n+1)(hb:b<n+1)(XH:a≠b):det (n+1) (λi j=>A i j+w * (ind a b i * ind a b j))=det (n+1) A+w * det n (λi j=>VD A a b (sk a i) (sk a j)):=by
 have e1:=fK (A:=λi j=>A i j+w * (ind a b i * ind a b j)) ha hb XH;have e2:det (n+1) (VD (λi j=>A i j+w * (ind a b i * ind a b j)) a b)=det (n+1) (λi j=>VD A a b i j+w * ((if i=a then 1 else 0) * (if j=a then 1 else 0))):=Zm λi j _ _=>by
  have na:¬ a=b:=XH;have nb:¬ b=a:=YZ XH
  unfold VD ind;by_cases hi:i=b
  .subst hi;by_cases hj:j=i
   .subst hj;simp[na,nb];lia
   .by_cases QN:j=a
    .subst QN;simp[na,nb,hj];lia
    .simp[na,nb,hj,QN]
  .by_cases VM:i=a
   .subst VM;by_cases hj:j=b
    .subst hj;simp[na,nb];lia
    .by_cases QN:j=i
     .subst QN;simp[na,nb]
     .simp[na,nb,hj,QN]
   .by_cases hj:j=b
    .subst hj;simp[na,nb,hi,VM]
    .by_cases QN:j=a
     .subst QN;simp[na,nb,hi,VM]
     .simp[na,nb,hi,VM,hj,QN]
 rw[<- e1,e2,fL ha,fK ha hb XH]
end My
namespace My
open PySem L2
abbrev Ed:=Nat × Nat × Int
def lapE:List Ed->Mx
 | []=>λ_ _=>0
 | e :: E=>λi j=>e.2.2 * (ind e.1 e.2.1 i * ind e.1 e.2.1 j)+lapE E i j
theorem qI(E:List Ed)(e:Ed)(i j:Nat):lapE (E++[e]) i j=lapE E i j+e.2.2 * (ind e.1 e.2.1 i * ind e.1 e.2.1 j):=by
 induction E with
 | nil=>show _+0=0+_;lia
 | cons f E ih =>
  show _+lapE (E++[e]) i j=_+lapE E i j+_;rw[ih];lia
def Ul(E:List Ed)(z:Int):Nat × Nat:=((E.getD z.toNat (0,0,0)).1,(E.getD z.toNat (0,0,0)).2.1)
def Vb(E:List Ed):Ac->Int
 | []=>1
 | z :: T=>(E.getD z.toNat (0,0,0)).2.2 * Vb E T
theorem qH(E:List Ed)(S T:Ac):Vb E (S++T)=Vb E S * Vb E T:=by
 induction S with
 | nil=>show _=1 * _;rw[To];rfl
 | cons z S ih=>show _ * Vb E (S++T)=_ * _ * _;rw[ih,SD]
def IsT(k:Nat)(E:List Ed)(T:Ac):Prop:=IsSet E.length T/\T.length=k/\∀ i j,i<k+1->j<k+1->Conn (T.map (Ul E)) i j
def TW(k:Nat)(E:List Ed)(s:Int):Prop:=∃ L:Ab,L.Nodup/\(∀ T,T∈L↔IsT k E T)/\(L.map (Vb E)).sum=s
theorem fJ{E:List Ed}{e:Ed}{z:Int}(h0:0<=z)(h1:z<(E.length:Int)):(E++[e]).getD z.toNat (0,0,0)=E.getD z.toNat (0,0,0):=by rw[WG,WG,Ys (by lia)]
theorem DA(E:List Ed)(e:Ed):(E++[e]).getD (E.length:Int).toNat (0,0,0)=e:=by rw[WG,YC,Yp (XN _),UK];rfl
theorem PN{E:List Ed}{e:Ed}{T:Ac}(h:IsSet E.length T):T.map (Ul (E++[e]))=T.map (Ul E):=YT λz hz=>by
 have:=h.all z hz
 unfold Ul;rw[fJ this.1 this.2]
theorem Jp{E:List Ed}{e:Ed}{T:Ac}(h:∀ z∈T,0<=z/\z<(E.length:Int)):Vb (E++[e]) T=Vb E T:=by
 induction T with
 | nil=>rfl
 | cons z T ih =>
  have hz:=h z Ye;show _ * Vb (E++[e]) T=_ * Vb E T
  rw[fJ hz.1 hz.2,ih λy hy=>h y (Yi _ hy)]
theorem yx{k:Nat}{E:List Ed}{e:Ed}{T:Ac}(h:IsSet E.length T):IsT k (E++[e]) T↔IsT k E T:=by
 have h2:IsSet (E++[e]).length T:=by rw[Xt];exact h.up
 constructor
 .rintro⟨_,a,b⟩;exact⟨h,a,by rw[PN h]at b;exact b⟩
 .rintro⟨_,a,b⟩;exact⟨h2,a,by rw[PN h];exact b⟩
theorem fI{E:List Ed}{e:Ed}{T:Ac}(h:IsSet E.length T):(T++[(E.length:Int)]).map (Ul (E++[e]))=T.map (Ul E)++[(e.1,e.2.1)]:=by
 rw[YL,PN h];show _++[Ul (E++[e]) (E.length:Int)]=_
 unfold Ul;rw[DA]
def sh(a x:Nat):Nat:=if x<a then x else x - 1
def dl(a b x:Nat):Nat:=if x=a then sh a b else sh a x
theorem Jo(a y:Nat):sh a (sk a y)=y:=by
 unfold sk;by_cases h:y<a
 .rw[if_pos h];unfold sh;rw[if_pos h]
 .rw[if_neg h];unfold sh;rw[if_neg (by lia)];lia
theorem Dz(a y:Nat):sk a y≠a:=by unfold sk;split <;> lia
theorem Nh{a x:Nat}(h:x≠a):sk a (sh a x)=x:=by
 unfold sh;by_cases c:x<a
 .rw[if_pos c];unfold sk;rw[if_pos c]
 .rw[if_neg c];unfold sk;rw[if_neg (by lia)];lia
theorem Ng(a b y:Nat):dl a b (sk a y)=y:=by unfold dl;rw[if_neg (Dz a y),Jo]
theorem qG{a x y:Nat}(hx:x≠a)(hy:y≠a)(h:sh a x=sh a y):x=y:=by
 have:=Xw (sk a) h
 rw[Nh hx,Nh hy]at this;exact this
theorem Dy{a b x y:Nat}(XH:b≠a)(h:dl a b x=dl a b y):x=y\/(x=a/\y=b)\/(x=b/\y=a):=by
 unfold dl at h;by_cases hx:x=a
 .rw[if_pos hx]at h;by_cases hy:y=a
  .exact .inl (hx.trans hy.symm)
  .rw[if_neg hy]at h;exact .inr (.inl ⟨hx,(qG XH hy h).symm⟩)
 .rw[if_neg hx]at h;by_cases hy:y=a
  .rw[if_pos hy]at h;exact .inr (.inr ⟨qG hx XH h,hy⟩)
  .rw[if_neg hy]at h;exact .inl (qG hx hy h)
theorem qF(a b:Nat)(XH:b≠a):dl a b a=dl a b b:=by unfold dl;rw[if_pos rfl,if_neg XH]
theorem qE{a b:Nat}{es:List (Nat × Nat)}{i j:Nat}(XH:b≠a)(c:Conn (es++[(a,b)]) i j):Conn (es.map λe=>(dl a b e.1,dl a b e.2)) (dl a b i) (dl a b j):=by
 induction c with
 | refl i=>exact .refl _
 | edge q =>
  rcases Xx.mp q with q | q
  .exact .edge (YD.mpr ⟨_,q,rfl⟩)
  .have e:=XD.mp q;injection e with e1 e2
   rw[e1,e2,qF a b XH];exact .refl _
 | symm _ ih=>exact .symm ih
 | trans _ _ a b=>exact .trans a b
theorem qD{a b:Nat}{es:List (Nat × Nat)}{u v:Nat}(XH:b≠a)(c:Conn (es.map λe=>(dl a b e.1,dl a b e.2)) u v):∀ i j,dl a b i=u->dl a b j=v->Conn (es++[(a,b)]) i j:=by
 have he:Conn (es++[(a,b)]) a b:=.edge (by simp);have same:∀ i j,dl a b i=dl a b j->Conn (es++[(a,b)]) i j:=λi j e=>by
  rcases Dy XH e with e | ⟨e1,e2⟩ | ⟨e1,e2⟩
  .rw[e];exact .refl _
  .rw[e1,e2];exact he
  .rw[e1,e2];exact he.symm
 induction c with
 | refl u=>exact λi j e1 e2=>same i j (e1.trans e2.symm)
 | edge q =>
  intro i j e1 e2;obtain⟨⟨x,y⟩,Nq,e⟩:=YD.mp q;injection e with x1 x2
  exact(same i x (e1.trans x1.symm)).trans (.trans (.edge (Yb _ Nq)) (same y j (x2.trans e2.symm)))
 | symm _ ih=>exact λi j e1 e2=>(ih j i e2 e1).symm
 | @trans x y z _ _ Qa Tt=>exact λi j e1 e2=>(Qa i (sk a y) e1 (Ng a b y)).trans (Tt (sk a y) j (Ng a b y) e2)
theorem Nf{a b x k:Nat}(ha:a<k+1)(hb:b<k+2)(XH:b≠a)(hx:x<k+2):dl a b x<k+1:=by
 unfold dl sh;by_cases h:x=a
 .rw[if_pos h];split <;> grind
 .rw[if_neg h];split <;> grind
theorem fH{a b k:Nat}{es:List (Nat × Nat)}(ha:a<k+1)(hb:b<k+2)(XH:b≠a):(∀ i j,i<k+2->j<k+2->Conn (es++[(a,b)]) i j)↔∀ i j,i<k+1->j<k+1->Conn (es.map λe=>(dl a b e.1,dl a b e.2)) i j:=by
 constructor
 .intro c i j h1 h2
  have:=qE XH (c (sk a i) (sk a j) (PV h1) (PV h2))
  rw[Ng,Ng]at this;exact this
 .exact λc i j h1 h2=>qD XH (c _ _ (Nf ha hb XH h1) (Nf ha hb XH h2)) i j rfl rfl
def Ts(a b:Nat)(E:List Ed):List Ed:=E.map λe=>(dl a b e.1,dl a b e.2.1,e.2.2)
theorem fG{a b:Nat}{E:List Ed}{z:Int}(h0:0<=z)(h1:z<(E.length:Int)):(Ts a b E).getD z.toNat (0,0,0)=(dl a b (E.getD z.toNat (0,0,0)).1,dl a b (E.getD z.toNat (0,0,0)).2.1,(E.getD z.toNat (0,0,0)).2.2):=by unfold Ts;rw[WG,WG,Yq,Xn (by omega)];rfl
theorem fF{a b:Nat}{E:List Ed}{T:Ac}(h:IsSet E.length T):T.map (Ul (Ts a b E))=(T.map (Ul E)).map λe=>(dl a b e.1,dl a b e.2):=by
 rw[Me];refine YT λz hz=>?_
 have:=h.all z hz
 unfold Ul;rw[fG this.1 this.2];rfl
theorem qC{a b:Nat}{E:List Ed}{T:Ac}(h:∀ z∈T,0<=z/\z<(E.length:Int)):Vb (Ts a b E) T=Vb E T:=by
 induction T with
 | nil=>rfl
 | cons z T ih =>
  have hz:=h z Ye;show _ * Vb (Ts a b E) T=_ * Vb E T
  rw[fG hz.1 hz.2,ih λy hy=>h y (Yi _ hy)]
theorem LC{k a b:Nat}{E:List Ed}{e:Ed}{T:Ac}(ha:a<k+1)(hb:b<k+2)(XH:b≠a)(he:(e.1=a/\e.2.1=b)\/(e.1=b/\e.2.1=a))(h:IsSet E.length T):IsT (k+1) (E++[e]) (T++[(E.length:Int)])↔IsT k (Ts a b E) T:=by
 have hl:(Ts a b E).length=E.length:=Yd ..;have hc:(∀ i j,i<k+2->j<k+2->Conn ((T++[(E.length:Int)]).map (Ul (E++[e]))) i j)↔∀ i j,i<k+2->j<k+2->Conn (T.map (Ul E)++[(a,b)]) i j:=by
  rw[fI h];rcases he with ⟨e1,e2⟩ | ⟨e1,e2⟩
  .rw[e1,e2]
  .rw[e1,e2];exact⟨λc i j x y=>gd (c i j x y),λc i j x y=>gd (c i j x y)⟩
 have h2:IsSet (E++[e]).length (T++[(E.length:Int)]):=by rw[Xt];exact h.snoc
 constructor
 .rintro⟨_,x,y⟩;refine⟨hl ▸ h,?_,?_⟩
  .rw[Xt,Yh]at x;lia
  .rw[fF h];exact(fH ha hb XH).mp (hc.mp y)
 .rintro⟨_,x,y⟩;rw[fF h]at y;refine⟨h2,by rw[Xt,Yh,x],hc.mpr ((fH ha hb XH).mpr y)⟩
theorem qB{k:Nat}{E:List Ed}{e:Ed}{T:Ac}(hE:∀ f∈E,f.1<k+1/\f.2.1<k+1)(he:e.1=e.2.1)(h:IsSet E.length T):¬ IsT k (E++[e]) (T++[(E.length:Int)]):=by
 rintro⟨_,x,y⟩;rw[fI h]at y;have PZ:∀ i j,i<k+1->j<k+1->Conn (T.map (Ul E)) i j:=λi j hi hj=>(y i j hi hj).lift λf hf=>by
  rcases Xx.mp hf with q | q
  .exact .edge q
  .rw[XD.mp q,he];exact .refl _
 have Wn:InN (k+1) (T.map (Ul E)):=λf hf=>by
  obtain⟨z,hz,rfl⟩:=YD.mp hf
  have:=h.all z hz
  unfold Ul;rw[WG,Xn (by lia)];exact hE _ (Mi _)
 have h2:=(Vn (by lia) Wn).mpr PZ;have h3:=yK _ Wn
 rw[Yd]at h3;rw[Xt,Yh]at x;lia
theorem qA{k:Nat}{E:List Ed}{e:Ed}{s:Int}(hE:∀ f∈E,f.1<k+1/\f.2.1<k+1)(he:e.1=e.2.1)(h:TW k E s):TW k (E++[e]) s:=by
 obtain⟨L,a1,a2,a3⟩:=h;refine⟨L,a1,λT=>?_,?_⟩
 .rw[a2];constructor
  .exact λh=>(yx h.1).mpr h
  .intro h;have hs:=h.1
   rw[Xt]at hs;rcases gf hs with c | ⟨T',c,c2⟩
   .exact(yx c).mp h
   .exact absurd (c ▸ h) (qB hE he c2)
 .rw[<- a3];refine Xw List.sum (YT λT hT=>Jp ((a2 T).mp hT).1.all)
theorem qz(a b:Ac):(a++b).sum=a.sum+b.sum:=by
 induction a with
 | nil=>rw[OV,List.sum_nil,RV]
 | cons x a ih=>rw[HX,QA,QA,ih];lia
theorem ZR7(w:Int)(l:Ab)(f:Ac->Int):(l.map λT=>f T * w).sum=w * (l.map f).sum:=by
 induction l with
 | nil=>rw[zD,zD,List.sum_nil,Sz]
 | cons x l ih=>rw[YV,YV,QA,QA,ih,KP,QC]
theorem qy{k a b:Nat}{E:List Ed}{e:Ed}{s1 s2:Int}(ha:a<k+1)(hb:b<k+2)(XH:b≠a)(he:(e.1=a/\e.2.1=b)\/(e.1=b/\e.2.1=a))(h1:TW (k+1) E s1)(h2:TW k (Ts a b E) s2):TW (k+1) (E++[e]) (s1+e.2.2 * s2):=by
 obtain⟨L,a1,a2,a3⟩:=h1;obtain⟨M,b1,b2,b3⟩:=h2;have hl:(Ts a b E).length=E.length:=Yd ..
 refine⟨L++M.map (·++[(E.length:Int)]),QP.mpr ⟨a1,?_,λx hx y hy c=>?_⟩,λT=>?_,?_⟩
 .exact List.Pairwise.map _ (λx y h c=>h (List.append_cancel_right c)) b1
 .obtain⟨z,hz,c2⟩:=YD.mp hy
  have:=((a2 x).mp hx).1.all (E.length:Int) (by rw[c,<- c2];simp)
  lia
 .rw[Xx,a2,YD];constructor
  .rintro(h | ⟨T',hT,rfl⟩)
   .exact(yx h.1).mpr h
   .have:=(b2 T').mp hT
    exact(LC ha hb XH he (hl ▸ this.1)).mpr this
  .intro h;have hs:=h.1
   rw[Xt]at hs;rcases gf hs with c | ⟨T',c,c2⟩
   .exact .inl ((yx c).mp h)
   .exact .inr ⟨T',(b2 T').mpr ((LC ha hb XH he c2).mp (c ▸ h)),c.symm⟩
 .rw[YL,qz,Me];have e1:L.map (Vb (E++[e]))=L.map (Vb E):=YT λT hT=>Jp ((a2 T).mp hT).1.all
  have e2:M.map (Vb (E++[e]) ∘ (·++[(E.length:Int)]))=M.map λT=>Vb (Ts a b E) T * e.2.2:=YT λT hT=>by
   have hs:IsSet E.length T:=hl ▸ ((b2 T).mp hT).1;show Vb (E++[e]) (T++[(E.length:Int)])=_
   rw[qH,Jp hs.all,qC hs.all];show _ * (((E++[e]).getD (E.length:Int).toNat (0,0,0)).2.2 * 1)=_
   rw[DA,Og]
  rw[e1,e2,a3,ZR7,b3]
theorem LB{a b u v i:Nat}(XH:b≠a):ind (dl a b u) (dl a b v) i=ind u v (sk a i)+(if sk a i=b then ind u v a else 0):=by
 have key:∀ x:Nat,((if i=dl a b x then 1 else 0:Int))=(if sk a i=x then 1 else 0)+(if sk a i=b then (if a=x then 1 else 0) else 0):=λx=>by
  unfold dl;by_cases hx:x=a
  .rw[if_pos hx,if_neg (show ¬ sk a i=x from hx ▸ Dz a i),RV];by_cases h:sk a i=b
   .rw[if_pos h,if_pos hx.symm,if_pos];rw[<- h,Jo]
   .rw[if_neg h,if_neg];intro e;exact h (by rw[e,Nh XH])
  .rw[if_neg hx];have e2:(if sk a i=b then (if a=x then 1 else 0:Int) else 0)=0:=by rw[if_neg (YZ hx)];split <;> rfl
   rw[e2,RZ];by_cases h:sk a i=x
   .rw[if_pos h,if_pos];rw[<- h,Jo]
   .rw[if_neg h,if_neg];intro e;exact h (by rw[e,Nh hx])
 unfold ind;rw[key u,key v];by_cases h:sk a i=b
 .rw[if_pos h,if_pos h,if_pos h];lia
 .rw[if_neg h,if_neg h,if_neg h];lia
theorem Dx{a b:Nat}(XH:b≠a)(i j:Nat):∀ E:List Ed,lapE (Ts a b E) i j=VD (lapE E) a b (sk a i) (sk a j)
 | []=>by
  show(0:Int)=_;unfold VD lapE;by_cases h:sk a i=b
  .by_cases h2:sk a j=b
   .rw[if_pos h,if_pos h2];rfl
   .rw[if_pos h,if_neg h2];rfl
  .by_cases h2:sk a j=b
   .rw[if_neg h,if_pos h2];rfl
   .rw[if_neg h,if_neg h2];rfl
 | e :: E=>by
  have ih:=Dx XH i j E;show e.2.2 * (ind (dl a b e.1) (dl a b e.2.1) i * ind (dl a b e.1) (dl a b e.2.1) j)+lapE (Ts a b E) i j=_
  rw[ih,LB XH,LB XH];unfold VD;show _=(e.2.2 * (ind e.1 e.2.1 (sk a i) * ind e.1 e.2.1 (sk a j))+lapE E (sk a i) (sk a j)+(if sk a i=b then e.2.2 * (ind e.1 e.2.1 a * ind e.1 e.2.1 (sk a j))+lapE E a (sk a j) else 0))+(if sk a j=b then (e.2.2 * (ind e.1 e.2.1 (sk a i) * ind e.1 e.2.1 a)+lapE E (sk a i) a)+(if sk a i=b then e.2.2 * (ind e.1 e.2.1 a * ind e.1 e.2.1 a)+lapE E a a else 0) else 0)
  generalize ind e.1 e.2.1 (sk a i)=x;generalize ind e.1 e.2.1 (sk a j)=y;generalize ind e.1 e.2.1 a=z;generalize e.2.2=w;by_cases h:sk a i=b
  .by_cases h2:sk a j=b
   .simp only [if_pos h,if_pos h2,KP,zB];lia
   .simp only [if_pos h,if_neg h2,KP,zB,RZ,Sz];lia
  .by_cases h2:sk a j=b
   .simp only [if_neg h,if_pos h2,KP,zB,RZ,Gy];lia
   .simp only [if_neg h,if_neg h2,RZ]
theorem Dw(u v i:Nat):ind v u i=- ind u v i:=by unfold ind;lia
theorem qx{k a b:Nat}{E:List Ed}{e:Ed}(ha:a<k+1)(hb:b<k+2)(XH:b≠a)(he:(e.1=a/\e.2.1=b)\/(e.1=b/\e.2.1=a)):det (k+1) (lapE (E++[e]))=det (k+1) (lapE E)+e.2.2 * det k (lapE (Ts a b E)):=by
 have e1:det (k+1) (lapE (E++[e]))=det (k+1) (λi j=>lapE E i j+e.2.2 * (ind a b i * ind a b j)):=Zm λi j _ _=>by
  rw[qI];rcases he with ⟨x,y⟩ | ⟨x,y⟩
  .rw[x,y]
  .rw[x,y,Dw a b i,Dw a b j,Int.neg_mul_neg]
 have e2:det k (lapE (Ts a b E))=det k (λi j=>VD (lapE E) a b (sk a i) (sk a j)):=Zm λi j _ _=>Dx XH i j E;rw[e1,e2];by_cases hk:b<k+1
 .exact qJ ha hk (YZ XH)
 .have e3:det (k+1) (λi j=>lapE E i j+e.2.2 * (ind a b i * ind a b j))=det (k+1) (λi j=>lapE E i j+e.2.2 * ((if i=a then 1 else 0) * (if j=a then 1 else 0))):=Zm λi j hi hj=>by unfold ind;rw[if_neg (show ¬ i=b by lia),if_neg (show ¬ j=b by lia),zC,zC]
  have e4:det k (λi j=>VD (lapE E) a b (sk a i) (sk a j))=det k (λi j=>lapE E (sk a i) (sk a j)):=Zm λi j hi hj=>by
   have h1:=PV (j:=a) hi;have h2:=PV (j:=a) hj
   unfold VD;rw[if_neg (show ¬ sk a i=b by lia),if_neg (show ¬ sk a j=b by lia),RZ,RZ]
  rw[e3,e4];exact fL ha
theorem fE{E:List Ed}{e:Ed}(he:e.1=e.2.1):lapE (E++[e])=lapE E:=by
 funext i j
 rw[qI,he];unfold ind;rw[Int.sub_self,Gy,Sz,RZ]
theorem yw:∀(m k:Nat) (E:List Ed),E.length=m->(∀ e∈E,e.1<k+1/\e.2.1<k+1)->TW k E (det k (lapE E))
 | 0,k,E,hm,_=>by
  obtain rfl:=YQ.mp hm;cases k with
  | zero =>
   refine⟨[[]],by simp,λT=>?_,rfl⟩;rw[XD];constructor
   .rintro rfl;exact⟨IsSet.nil _,rfl,λi j hi hj=>by
     have:i=j:=by lia
     rw[this];exact .refl j⟩
   .intro h;exact YQ.mp h.2.1
  | succ k =>
   refine⟨[],.nil,λT=>⟨λh=>(by cases h),λh=>?_⟩,?_⟩
   .have h1:=h.1.len;have h2:=h.2.1
    rw[Mg]at h1;lia
   .exact(fZ (i:=0) (by lia) λj _=>rfl).symm
 | m+1,k,E,hm,hE=>by
  obtain⟨E',e,rfl⟩:∃ E' e,E=E'++[e]:=⟨E.dropLast,E.getLast (λh=>by rw[h]at hm;cases hm),(jt _).symm⟩;have LK:E'.length=m:=by rw[Xt]at hm;simpa using hm
  have qw:∀ f∈E',f.1<k+1/\f.2.1<k+1:=λf hf=>hE f (Yb _ hf);have he:=hE e (by simp)
  have ih:=yw m k E' LK qw;by_cases hl:e.1=e.2.1
  .rw[fE hl];exact qA qw hl ih
  .obtain⟨k',rfl⟩:∃ k',k=k'+1:=⟨k - 1,by lia⟩;obtain⟨a,b,ha,hb,XH,VI⟩:∃ a b,a<k'+1/\b<k'+2/\b≠a/\((e.1=a/\e.2.1=b)\/(e.1=b/\e.2.1=a)):=by
    by_cases c:e.1<k'+1
    .exact⟨e.1,e.2.1,c,he.2,λh=>hl h.symm,.inl ⟨rfl,rfl⟩⟩
    .exact⟨e.2.1,e.1,by lia,he.1,hl,.inr ⟨rfl,rfl⟩⟩
   have Tt:=yw m k' (Ts a b E') (by unfold Ts;rw[Yd];exact LK) λf hf=>by
    obtain⟨g,hg,rfl⟩:=YD.mp hf
    have:=qw g hg
    exact⟨Nf ha hb XH this.1,Nf ha hb XH this.2⟩
   rw[qx ha hb XH VI];exact qy ha hb XH VI ih Tt
def VH(ps:Aa)(ws:Ac):List Ed:=List.zipWith (λp w=>(p.1.toNat,p.2.toNat,w)) ps ws
theorem Dv{n:Int}{ps:Aa}{ws:Ac}{T:Ac}(h1:1<=n)(hw:ws.length=ps.length):IsT (n - 1).toNat (VH ps ws) T↔Ze n ps T:=by
 have hl:(VH ps ws).length=ps.length:=by unfold VH;rw[GL];grind
 have hm:IsSet ps.length T->T.map (Ul (VH ps ws))=XT ps T:=λhs=>YT λz hz=>by
  have:=hs.all z hz
  unfold Ul VH;rw[WG,Ia,Xn (by lia),Xn (show z.toNat<ws.length by lia),WG,Xn (by omega)];rfl
 unfold IsT Ze;rw[hl];constructor
 .rintro⟨a,b,c⟩;rw[hm a]at c;exact⟨a,by lia,λi j hi hj=>c i j (by lia) (by grind)⟩
 .rintro⟨a,b,c⟩;rw[hm a];exact⟨a,by lia,λi j hi hj=>c i j (by lia) (by lia)⟩
theorem Du{E:List Ed}(h:∀ e∈E,e.2.2=1):∀ {T:Ac},(∀ z∈T,0<=z/\z<(E.length:Int))->Vb E T=1
 | [],_=>rfl
 | z :: T,hb=>by
  have hz:=hb z Ye;show(E.getD z.toNat (0,0,0)).2.2 * Vb E T=1
  rw[Du h λy hy=>hb y (Yi _ hy),Og,WG,Xn (by lia)];exact h _ (Mi _)
theorem Zy9{l:Ab}{f:Ac->Int}(h:∀ T∈l,f T=1):(l.map f).sum=(l.length:Int):=by
 induction l with
 | nil=>rfl
 | cons x l ih =>
  rw[YV,QA,ih λT hT=>h T (Yi _ hT),h x Ye,YA];lia
theorem Dt{n:Int}{ps:Aa}(g:Zu n ps)(ws:Ac):∀ e∈VH ps ws,e.1<(n - 1).toNat+1/\e.2.1<(n - 1).toNat+1:=λe he=>by
 unfold VH at he;obtain⟨i,hi⟩:=VF he;rw[Ia]at hi;have g1:=g.1
 cases h1:ps[i]? with
 | none=>rw[h1]at hi;cases hi
 | some p =>
  cases h2:ws[i]? with
  | none=>rw[h1,h2]at hi;cases hi
  | some w =>
   rw[h1,h2]at hi;obtain rfl:=Yg hi;obtain⟨a,b,c,d⟩:=g.2.2.2 p (Xg h1);exact⟨by show p.1.toNat<_;grind,by show p.2.toNat<_;lia⟩
theorem Zw9{n:Int}{ps:Aa}(g:Zu n ps){L:Ab}(hL:L.Nodup)(hm:∀ l,l∈L↔Ze n ps l):det (n - 1).toNat (lapE (VH ps (List.replicate ps.length 1)))=(L.length:Int):=by
 have g1:=g.1;have hw:(List.replicate ps.length (1:Int)).length=ps.length:=YH
 obtain⟨M,a1,a2,a3⟩:=yw _ (n - 1).toNat (VH ps (List.replicate ps.length 1)) rfl (Dt g _);have hl:(VH ps (List.replicate ps.length 1)).length=ps.length:=by unfold VH;rw[GL,hw];grind
 have w1:∀ e∈VH ps (List.replicate ps.length (1:Int)),e.2.2=1:=λe he=>by
  unfold VH at he;obtain⟨i,hi⟩:=VF he;rw[Ia]at hi;cases h1:ps[i]? with
  | none=>rw[h1]at hi;cases hi
  | some p =>
   cases h2:(List.replicate ps.length (1:Int))[i]? with
   | none=>rw[h1,h2]at hi;cases hi
   | some w =>
    rw[h1,h2]at hi;obtain rfl:=Yg hi;exact z8 (Xg h2)
 rw[<- a3,Zy9 λT hT=>Du w1 ((a2 T).mp hT).1.all];have hp:M.Perm L:=(Uk a1 hL).mpr λl=>by rw[a2,hm,Dv g1 hw]
 rw[hp.length_eq]
end My
namespace L2
open PySem PySem.Spec PyProof.Rows
section
variable{X:Cx}
def qv(K:Ad):V->V->Hp->VK->Prop:=λx y H Q=>∃ p xs i v,x=.ref p/\y=.int i/\SqL K H p xs/\0<=i/\xs[i.toNat]?=some v/\Q v H
theorem yt(K:Ad)(hk:X.K=K:=by rfl):FT X (qv K):=by
 subst hk;intro pins s σ H o i ov iv Q I ro ri h;obtain⟨p,xs,j,z,rfl,rfl,hq,h0,he,q⟩:=h;cases ro;obtain⟨t,rfl⟩:=ri;obtain⟨XW,r,pl,hz⟩:=I.list hq;obtain⟨w,ew,Qr⟩:=r.get he;have hl:=r.length
 have hn:=FG;have Xd:=(Xs.mp he).1
 exact wpAny_getItem_list pl.isList h0 (by lia) (by simpa using ew) ⟨z,H,I,Qr,q⟩
end
end L2
namespace My
open PySem L2
theorem qu{K:Ad}{a b:Addr}{xs ys:List V}{g:TG}{tb:TS}{D:Ends}{σ:St}{H:Hp}(Nq:xs.length=ys.length)(Pv:Nat->St->Hp->Prop)(h0:Pv 0 σ H)(hl:∀ i σ H,i<=xs.length->Pv i σ H->SqL K H a xs/\SqL K H b ys)
  (hs:∀(i:Nat) x y σ H (p:Addr),H p=none->xs[i]?=some x->ys[i]?=some y->Pv i σ H->g (.ref p) σ (upd H p (.tup [x,y])) λσ2 H2=>tb { D with nx:=Pv (i+1),ct:=Pv (i+1),bk:=D.nx } σ2 H2) (hd:∀ σ H,Pv xs.length σ H->D.nx σ H) :
  ∃ W:Nat->Nat->St->Hp->Prop,(∃ m,W 0 m σ H)/\∀ i m σ H,W i m σ H ->
   ((Hl K a b).stop i H/\D.nx σ H)\/((Hl K a b).go i H/\∃ N:St->Hp->Prop,(∀ σ' H',N σ' H'->∃ m',m'<m/\W (i+1) m' σ' H')/\∀ x H',(Hl K a b).yld i H x H'->g x σ H' λσ2 H2=>tb { D with nx:=N,ct:=N,bk:=D.nx } σ2 H2):=by
 refine⟨λi m σ H=>m=xs.length - i/\i<=xs.length/\Pv i σ H,⟨xs.length,by simp,Yl _,h0⟩,?_⟩;rintro i m σ H ⟨rfl,hi,p⟩;obtain⟨q,q2⟩:=hl i σ H hi p;by_cases Xd:i<xs.length
 .refine .inr ⟨⟨xs,ys,xs[i],ys[i]'(by lia),q,q2,by simp[Xd],Xn (by omega)⟩,Pv (i+1),λσ' H' p'=>⟨xs.length - (i+1),by grind,rfl,Xd,p'⟩,λx H' ⟨T,u,v,hT,ex,eH,hu,hv⟩=>?_⟩;subst ex eH;exact hs i u v σ H T hT (hu xs q) (hv ys q2) p
 .have e:i=xs.length:=by lia
  subst e;exact .inl ⟨⟨xs,ys,q,q2,.inl (XN _)⟩,hd σ H p⟩
structure TabAt (H0:Hp) (r:Addr) (n:Nat) (H:Hp) (ys:List V) (L:Ab):Prop where
 tab:H r=some (.lst ys)
 rows:Bears (LiV r H) ys L
 len:L.length=n
 all:∀ l∈L,l.length=n
 nd:ys.Nodup
 new:∀ A,V.ref A∈ys->H0 A=none
theorem TabAt.same{H0 H H':Hp}{r:Addr}{n:Nat}{ys:List V}{L:Ab}(s:Same H H')(h:TabAt H0 r n H ys L):TabAt H0 r n H' ys L:=⟨s _ _ h.tab,h.rows.imp λ_ _ q=>q.same s,h.len,h.all,h.nd,h.new⟩
theorem TabAt.at{H0 H:Hp}{r:Addr}{n:Nat}{ys:List V}{L:Ab}(h:TabAt H0 r n H ys L){i:Nat}(hi:i<n):∃(A:Addr) (l:Ac),ys[i]?=some (.ref A)/\L[i]?=some l/\H A=some (.lst (IL l))/\l.length=n/\H0 A=none/\A≠r:=by have hl:=h.len;obtain⟨l,e⟩:∃ l,L[i]?=some l:=⟨_,Xn (by lia)⟩;obtain⟨v,e1,A,rfl,e2,e3⟩:=h.rows.2 i l e;exact⟨A,l,e1,e,e2,h.all l (Xg e),h.new A (Xg e1),e3⟩
theorem TabAt.put{H0 H:Hp}{r:Addr}{n:Nat}{ys:List V}{L:Ab}(h:TabAt H0 r n H ys L){i:Nat}{A:Addr}{l l':Ac}(e1:ys[i]?=some (.ref A))(e2:L[i]?=some l)(e3:A≠r)(hl:l'.length=n):TabAt H0 r n (upd H A (.lst (IL l'))) ys (L.set i l'):=by
 have hi:=(Xs.mp e2).1;have VG:=(Xs.mp e1).1
 refine⟨by rw[Zb (YZ e3)];exact h.tab,⟨by rw[Ti];exact h.rows.1,λj m em=>?_⟩,by rw[Ti];exact h.len,λm hm=>?_,h.nd,h.new⟩
 .rw[GG]at em;by_cases c:i=j
  .subst c;rw[if_pos rfl,if_pos hi]at em;obtain rfl:=Yg em;exact⟨_,e1,A,rfl,XR,e3⟩
  .rw[if_neg c]at em;obtain⟨v,f1,B,rfl,f2,f3⟩:=h.rows.2 j m em;refine⟨_,f1,B,rfl,?_,f3⟩;rw[Zb]
   .exact f2
   .intro e;rw[e]at f1;exact c (Hx h.nd e1 f1)
 .rcases List.mem_or_eq_of_mem_set hm with e | e
  .exact h.all m e
  .rw[e];exact hl
theorem qt{L:Ab}{l:Ac}{i j:Nat}{x:Int}(hi:L[i]?=some l)(hj:j<l.length)(a b:Nat):fnL (L.set i (l.set j x)) a b=if a=i/\b=j then x else fnL L a b:=by
 have VG:=(Xs.mp hi).1;unfold fnL;by_cases ha:a=i
 .subst ha;have e1:(L.set a (l.set j x)).getD a []=l.set j x:=by rw[WG,GG,if_pos rfl,if_pos VG];rfl
  have e2:L.getD a []=l:=by rw[WG,hi];rfl
  rw[e1,e2];by_cases hb:b=j
  .subst hb;rw[if_pos ⟨rfl,rfl⟩,WG,GG,if_pos rfl,if_pos hj];rfl
  .rw[if_neg (λh=>hb h.2),WG,GG,if_neg (YZ hb),<- WG]
 .have e1:(L.set i (l.set j x)).getD a []=L.getD a []:=by rw[WG,WG,GG,if_neg (YZ ha)]
  rw[e1,if_neg (λh=>ha h.1)]
theorem four{A:Mx}{u v:Nat}{w:Int}(XH:u≠v)(a b:Nat){B C D E:Mx}(h1:∀ a b,B a b=if a=u/\b=u then A u u+w else A a b)(h2:∀ a b,C a b=if a=v/\b=v then B v v+w else B a b)(h3:∀ a b,D a b=if a=u/\b=v then C u v - w else C a b)(h4:∀ a b,E a b=if a=v/\b=u then D v u - w else D a b):E a b=A a b+w * (ind u v a * ind u v b):=by
 have nv:¬ v=u:=YZ XH;unfold ind;by_cases x1:a=u
 .subst x1;by_cases y1:b=a
  .subst y1;simp[h4,h3,h2,h1,XH,nv]
  .by_cases y2:b=v
   .subst y2;simp[h4,h3,h2,h1,XH,nv];lia
   .simp[h4,h3,h2,h1,XH,nv,y1,y2]
 .by_cases x2:a=v
  .subst x2;by_cases y1:b=u
   .subst y1;simp[h4,h3,h2,h1,XH,nv];omega
   .by_cases y2:b=a
    .subst y2;simp[h4,h3,h2,h1,XH,nv]
    .simp[h4,h3,h2,h1,XH,nv,y1,y2]
  .simp[h4,h3,h2,h1,XH,nv,x1,x2]
theorem qr{ps:Aa}{ws:Ac}{i:Nat}{p:Int × Int}{w:Int}(hp:ps[i]?=some p)(hw:ws[i]?=some w):VH (ps.take (i+1)) (ws.take (i+1))=VH (ps.take i) (ws.take i)++[(p.1.toNat,p.2.toNat,w)]:=by
 have h1:=(Xs.mp hp).1;have h2:=(Xs.mp hw).1
 unfold VH;rw[WB,WB,hp,hw];rw[List.zipWith_append (by rw[Yy,Yy];grind)];rfl
theorem Conn.image{es fs:List (Nat × Nat)}{f:Nat->Nat}(h:∀ e∈es,Conn fs (f e.1) (f e.2)){i j:Nat}(c:Conn es i j):Conn fs (f i) (f j):=by
 induction c with
 | refl i=>exact .refl _
 | edge e=>exact h _ e
 | symm _ ih=>exact ih.symm
 | trans _ _ Qa Tt=>exact Qa.trans Tt
theorem qq{n:Int}{ps:Aa}{T:Ac}(g:Zu n ps)(h:IsSet ps.length T)(c:∀ i j,i<n.toNat->j<n.toNat->Conn (XT ps T) i j):n - 1<=(T.length:Int):=by
 have g1:=g.1;have Wn:=ZK (ns:=T) g h.all
 have h2:=(Vn (by lia) Wn).mpr c;have h3:=yK _ Wn
 rw[show(XT ps T).length=T.length from Yd ..]at h3;lia
end My
namespace L2
open PySem
def Rw(t:SetTable):Prop:=t.place.toList.Pairwise (· < ·)
theorem yr{xs:Array Nat}(h:xs.toList.Pairwise (· < ·)){i k a b:Nat}(qp:i<k)(ha:xs[i]?=some a)(hb:xs[k]?=some b):a<b:=by rw[<- YR]at ha hb;obtain⟨h1,e1⟩:=Xs.mp ha;obtain⟨h2,e2⟩:=Xs.mp hb;rw[<- e1,<- e2];exact Ic.mp h i k h1 h2 qp
theorem qo{xs:Array Nat}{j:Nat}(h:xs.toList.Pairwise (· < ·)):∀(f lo hi:Nat),hi - lo<=f->lo<=hi->hi<=xs.size->(∀ i v,xs[i]?=some v->i<lo->v<j)->(∀ i v,xs[i]?=some v->hi<=i->j<=v) ->
  SetTable.below.go xs j f lo hi<=xs.size/\∀ i v,xs[i]?=some v->(i<SetTable.below.go xs j f lo hi↔v<j)
 | 0,lo,hi,hf,hl,hs,a,b=>by
  have e:lo=hi:=by grind
  unfold SetTable.below.go;refine⟨by lia,λi v hv=>⟨a i v hv,λhvj=>Nat.lt_of_not_le λhc=>?_⟩⟩
  have:=b i v hv (by lia)
  lia
 | f+1,lo,hi,hf,hl,hs,a,b=>by
  unfold SetTable.below.go;by_cases c:lo<hi
  .rw[if_pos c];dsimp only;obtain⟨m,hm⟩:∃ m,xs[(lo+hi) / 2]?=some m:=⟨_,YG (by lia)⟩;have em:xs.getD ((lo+hi) / 2) j=m:=by rw[Yz,hm];rfl
   rw[em];by_cases d:m<j
   .rw[if_pos d];refine qo h f _ hi (by grind) (by lia) hs (λi v hv VM=>?_) b;by_cases e:i=(lo+hi) / 2
    .rw[e,hm]at hv;exact Yg hv ▸ d
    .have:=yr h (show i<(lo+hi) / 2 by lia) hv hm
     lia
   .rw[if_neg d];refine qo h f lo _ (by grind) (by lia) (by lia) a λi v hv VM=>?_;by_cases e:i=(lo+hi) / 2
    .rw[e,hm]at hv
     have:=Yg hv
     lia
    .have:=yr h (show(lo+hi) / 2<i by lia) hm hv
     lia
  .rw[if_neg c];refine⟨by grind,λi v hv=>⟨a i v hv,λhvj=>Nat.lt_of_not_le λhc=>?_⟩⟩
   have:=b i v hv (by lia)
   lia
theorem yq{xs:Array Nat}(h:xs.toList.Pairwise (· < ·))(j:Nat):SetTable.below xs j<=xs.size/\∀ i v,xs[i]?=some v->(i<SetTable.below xs j↔v<j) :=
 qo h xs.size 0 xs.size (by lia) (Yl _) (XN _) (λi v _ h=>absurd h (Wy _)) λi v hv hi=>by rw[z6 hi]at hv;cases hv
theorem qm{xs:Array Nat}(h:xs.toList.Pairwise (· < ·)){i v:Nat}(hv:xs[i]?=some v):SetTable.below xs v=i:=by
 obtain⟨h1,h2⟩:=yq h v;have a:¬ i<SetTable.below xs v:=λq=>by have:=(h2 i v hv).mp q;lia
 refine KG (by lia) (Ob λq=>?_);have Xd:=(Array.getElem?_eq_some_iff.mp hv).1
 obtain⟨u,hu⟩:∃ u,xs[SetTable.below xs v]?=some u:=⟨_,YG (by lia)⟩;have b:=yr h q hu hv
 have:=(h2 _ u hu).mpr b
 lia
theorem ZI7{xs:Array Nat}(h:xs.toList.Pairwise (· < ·)){i v:Nat}(hv:xs[i]?=some v):SetTable.below xs (v+1)=i+1:=by
 obtain⟨h1,h2⟩:=yq h (v+1);have a:=(h2 i v hv).mpr (OW v)
 refine KG (Ob λq=>?_) a;obtain⟨u,hu⟩:∃ u,xs[i+1]?=some u:=⟨_,YG (by lia)⟩;have b:=(h2 _ u hu).mp q
 have:=yr h (OW i) hv hu
 lia
theorem ZH7{xs:Array Nat}(h:xs.toList.Pairwise (· < ·)):SetTable.below xs 0=0:=by obtain⟨h1,h2⟩:=yq h 0;refine Nat.le_zero.mp (Ob λq=>?_);obtain⟨u,hu⟩:∃ u,xs[0]?=some u:=⟨_,YG (by lia)⟩;exact Wy _ ((h2 _ u hu).mp q)
def Hi(t:SetTable)(j:Nat):Prop:=t.place[SetTable.below t.place j]?≠some j
theorem ql{t:SetTable}{j:Nat}(h:Rw t)(hn:Hi t j):Rw (t.put j).1:=by
 obtain⟨h1,h2⟩:=yq h j;have up:∀ i v,t.place[i]?=some v->SetTable.below t.place j<=i->j<v:=λi v hv hi=>by
  have a:¬ v<j:=λq=>by have:=(h2 i v hv).mpr q;lia
  have b:v≠j:=λe=>hn (by rw[e]at hv;rw[qm h hv];exact hv);lia
 show(SetTable.insertAt t.place (SetTable.below t.place j) j).toList.Pairwise (· < ·);rw[SetTable.toList_insertAt];have dn:∀ x∈t.place.toList.take (SetTable.below t.place j),x<j:=λx hx=>by
  obtain⟨i,hi⟩:=VF hx;rw[GJ]at hi;split at hi
  .rename_i q;rw[YR]at hi;exact(h2 i x hi).mp q
  .cases hi
 have ub:∀ x∈t.place.toList.drop (SetTable.below t.place j),j<x:=λx hx=>by obtain⟨i,hi⟩:=VF hx;rw[w4,YR]at hi;exact up _ x hi (Nat.le_add_right _ _)
 refine Vh.mpr ⟨i9 (List.take_sublist _ _) h,YO.mpr ⟨ub,i9 (List.drop_sublist _ _) h⟩,λa ha b hb=>?_⟩;rcases Yj.mp hb with e | e
 .rw[e];exact dn a ha
 .exact Nat.lt_trans (dn a ha) (ub b e)
theorem fD{t:SetTable}{j:Nat}(h:t.slot j=.empty\/t.slot j=.dummy):Hi t j:=λe=>by
 have e2:t.slot j=.live (SetTable.below t.place j):=by unfold SetTable.slot;dsimp only;rw[if_pos (by rw[e];simp)]
 rw[e2]at h;rcases h with h | h <;> cases h
theorem qk{t:SetTable}{f:Nat->Int}{h:Int}:∀(n:Nat) (p:SetTable.Probe) (j:Nat) (d:Option Nat),(∀ e,p.dummy=some e->Hi t e)->SetTable.probe.go t f h n p=some (.empty j d)->Hi t j/\∀ e,d=some e->Hi t e
 | 0,p,j,d,_,h=>by cases h
 | n+1,p,j,d,hp,h=>by
  have fC:∀ q:SetTable.Probe,(t.advance q).dummy=q.dummy:=λq=>by unfold SetTable.advance;split <;> rfl
  unfold SetTable.probe.go at h;split at h
  .rename_i hs;cases h;exact⟨fD (.inl hs),hp⟩
  .rename_i hs;exact qk n _ j d (λe he=>by rw[fC]at he;cases he;exact fD (.inr hs)) h
  .split at h
   .cases h
   .exact qk n _ j d (λe he=>hp e (by rw[fC]at he;exact he)) h
theorem Zw8{t:SetTable}{h:Int}{s:Nat}{b:Bool}(e:t.freeSlot h=some (s,b)):Hi t s:=by
 unfold SetTable.freeSlot at e;split at e
 .rename_i j d hp;obtain⟨a1,a2⟩:=qk _ _ j d (λe he=>by cases he) hp;have e1:=Xw Prod.fst (Yg e)
  dsimp only at e1;rw[<- e1];cases d with
  | none=>exact a1
  | some x=>exact a2 x rfl
 .cases e
theorem yp(t:SetTable)(n:Nat):Rw (t.standIn n):=by show(Array.range n).toList.Pairwise (· < ·);rw[Array.toList_range];exact GP
theorem qj{t:SetTable}(h:Rw t)(es:Array (Int × Value))(k:Int)(x:Value):Rw (layNew t es k x).2.1/\(layNew t es k x).2.1.led=t.led:=by
 unfold layNew;split
 .rename_i s b e;dsimp only;unfold SetTable.orStandIn;split
  .exact⟨ql h (Zw8 e),rfl⟩
  .exact⟨yp _ _,rfl⟩
 .exact⟨yp _ _,rfl⟩
theorem ZY7{t:SetTable}(h:Rw t)(es:Array (Int × Value))(n:Nat):Rw (relayAll t es n).2.1/\(relayAll t es n).2.1.led=t.led:=by
 unfold relayAll;split
 .rename_i t' order e;dsimp only;split
  .unfold SetTable.relaid SetTable.laid at e;cases ho:SetTable.layClean (SetTable.sizeAbove n - 1) (es.map (·.1)) with
   | none=>rw[ho]at e;cases e
   | some owner =>
    rw[ho]at e;have e1:=Xw Prod.fst (Yg e)
    dsimp only at e1;rw[<- e1];refine⟨?_,rfl⟩;show(List.map _ (List.filterMap _ _)).toArray.toList.Pairwise (· < ·)
    rw[List.toList_toArray,Mm,List.pairwise_filterMap];refine GP.imp λ{a b} VI x hx y hy=>?_;have ex:x.1=a:=by
     cases q:owner.getD a none with
     | none=>rw[q]at hx;cases hx
     | some z=>rw[q]at hx;cases hx;rfl
    have ey:y.1=b:=by
     cases q:owner.getD b none with
     | none=>rw[q]at hy;cases hy
     | some z=>rw[q]at hy;cases hy;rfl
    rw[ex,ey];exact VI
  .exact⟨yp _ _,rfl⟩
 .exact⟨yp _ _,rfl⟩
end L2
namespace L2
open PySem PySem.Spec PyProof.Rows
def SetR(P:Program)(w:World)(h:Heap)(a:Addr)(led:Bool)(S:Int->Bool)(n:Nat):Prop :=
 ∃(o:Obj) (es:Array (Int × Value)) (ep:Nat) (t:SetTable),h.get? a=some o/\o.ExactSet/\o.data=.set es ep t/\ElemsOf (intKind P w) es.toList/\(∀ z,S z=true↔∃ y∈es.toList,(intKind P w).is z y.2=true)/\es.size<scanBound/\t.fits es.size=true/\es.size=n/\Rw t/\t.led=led
theorem SetR.at{P:Program}{w:World}{h h':Heap}{a:Addr}{led:Bool}{S:Int->Bool}{n:Nat}(q:SetR P w h a led S n)(k:∀ o,h.get? a=some o->h'.get? a=some o):SetR P w h' a led S n :=
 let ⟨o,es,ep,t,ho,r⟩:=q
 ⟨o,es,ep,t,k o ho,r⟩
section
variable{prog:Program}{w:World}{A:Around}{E:Ae}{s:Shared}
theorem fB{h:Heap}{a:Addr}{o:Obj}{es:Array (Int × Value)}{ep:Nat}{t:SetTable}(ho:h.get? a=some o)(hx:o.ExactSet)(hd:o.data=.set es ep t)(fs:Array (Int × Value))(u:SetTable) :
  (h.update a (Obj.putSet fs u)).get? a=some { o with data:=.set fs (ep+1) u }/\({ o with data:=.set fs (ep+1) u }:Obj).ExactSet:=by have q:=Vw (Obj.putSet fs u) ho (by rw[putSet_of fs u hd];rfl);rw[putSet_of fs u hd]at q;exact⟨q,hx⟩
theorem qi{gv:Bool->Sem Unit}(hgv:∀(b:Bool) (s1:Shared) (R:Unit->Shared->Prop),R () s1->wpAny (model prog w) A (gv b) R E s1)
  {a:Addr} {o:Obj} {es fs:Array (Int × Value)} {ep:Nat} {t u:SetTable} (ho:s.heap.get? a=some o) (hx:o.ExactSet) (hd:o.data=.set es ep t)
  {S:Int->Bool} (he:ElemsOf (intKind prog w) fs.toList) (hm:∀ z,S z=true↔∃ y∈fs.toList,(intKind prog w).is z y.2=true) (hb:fs.size<scanBound) (hf:u.fits fs.size=true) (hr:Rw u) {dm:Bool} {R:Option Bool->Shared->Prop}
  (k:∀ h',Heap.SameBut a s.heap h'->SetR prog w h' a u.led S fs.size->R (some true) { s with heap:=h' }) :
  wpAny (model prog w) A (do
   storeSet a fs u
   if (!dm && u.tooFull)=true then do
    gv (relayAll u fs (SetTable.grown fs.size)).2.2
    storeSet a (relayAll u fs (SetTable.grown fs.size)).1 (relayAll u fs (SetTable.grown fs.size)).2.1
    pure (some true)
   else pure (some true)) R E s:=by
 obtain⟨h1,x1⟩:=fB ho hx hd fs u;have b1:=Mn s.heap a (Obj.putSet fs u)
 refine XU (wpAny_storeSet_of ho hd ?_ (fits_of_scanBound hb));by_cases c:(!dm && u.tooFull)=true
 .rw[if_pos c];have p:=relayAll_perm u fs (SetTable.grown fs.size)
  have f:=relayAll_fits u fs (SetTable.grown fs.size);obtain⟨r,l⟩:=ZY7 hr fs (SetTable.grown fs.size);generalize relayAll u fs (SetTable.grown fs.size)=Z at p f r l ⊢;obtain⟨gs,v,gave⟩:=Z;dsimp only at p f r l ⊢;have ez:gs.size=fs.size:=by rw[<- YE,p.length_eq,YE]
  obtain⟨h2,x2⟩:=fB h1 x1 rfl gs v;refine XU (hgv _ _ _ (XU (wpAny_storeSet_of h1 rfl (Yk ?_) (fits_of_scanBound (by rw[ez];exact hb)))));exact k _ (b1.trans (Mn _ a _)) ⟨_,gs,_,v,h2,x2,rfl,he.perm p,λz=>(hm z).trans ⟨λ⟨y,hy,q⟩=>⟨y,p.mem_iff.mpr hy,q⟩,λ⟨y,hy,q⟩=>⟨y,p.mem_iff.mp hy,q⟩⟩,by rw[ez];exact hb,f,ez,r,l⟩
 .rw[if_neg c];exact Yk (k _ b1 ⟨_,fs,_,u,h1,x1,rfl,he,hm,hb,hf,rfl,hr,rfl⟩)
theorem qh{a:Addr}{S:Int->Bool}{n:Nat}{z:Int}{x:Value}{led:Bool}{R:Bool->Shared->Prop}(hz:(intKind prog w).is z x=true)(QS:x.scannable=true)(hS:SetR prog w s.heap a led S n)(room:n+1<scanBound)
  (k:∀ h',Heap.SameBut a s.heap h'->SetR prog w h' a led (λy=>S y || decide (y=z)) (if S z then n else n+1)->R (!S z) { s with heap:=h' }) :
  wpAny (model prog w) A (setAddHashed a x ((intKind prog w).hash z)) R E s:=by
 obtain⟨o,es,ep,t,ho,hx,hd,he,hm,hb,hf,hn,hr,hl⟩:=hS;unfold setAddHashed setAddHashedIn;refine SA (XU (HW ho hd hf ?_));dsimp only;rw[if_pos (byScan_of QS hb he)];unfold setAddByScan;refine XU (XU (Gp (XU (wpAny_setScan_of hz ho hd hf he ?_))));cases hw:List.findIdx? (λy=>(intKind prog w).is z y.2) es.toList with
 | some j =>
  obtain⟨j1,j2,_⟩:=List.findIdx?_eq_some_iff_getElem.mp hw;have yes:S z=true:=(hm z).mpr ⟨es.toList[j],Mi j1,j2⟩
  have fin:=k s.heap (Heap.SameBut.refl a s.heap) ⟨o,es,ep,t,ho,hx,hd,he,λy=>by rw[Ky,KY,<- hm y];exact⟨λq=>q.elim id λq=>q ▸ yes,.inl⟩,hb,hf,by rw[yes];exact hn,hr,hl⟩
  rw[yes]at fin;dsimp only;exact Yk (Yk fin)
 | none =>
  have no:S z=false:=Bool.eq_false_iff.mpr λq=>by
   obtain⟨y,hy,hp⟩:=(hm z).mp q
   have:=List.findIdx?_eq_none_iff.mp hw y hy
   rw[hp]at this;cases this
  dsimp only;have p:=layNew_perm t es ((intKind prog w).hash z) x
  have f:=layNew_fits t es ((intKind prog w).hash z) x;obtain⟨r,l⟩:=qj hr es ((intKind prog w).hash z) x;generalize layNew t es ((intKind prog w).hash z) x=Z at p f r l ⊢;obtain⟨fs,u,dm,gave⟩:=Z;dsimp only at p f r l ⊢;rw[wY]at p;have ez:fs.size=n+1:=by rw[<- YE,p.length_eq,Xt,YE,hn];rfl
  have gw:∀(b:Bool) {s1:Shared} {R':Unit->Shared->Prop},R' () s1->wpAny (model prog w) A (match b with | true=>rule "set.scan.the-table-gave-way" | false=>pure ()) R' E s1:=λb s1 R' q=>by
   cases b
   .exact Yk q
   .exact Gp q
  have fin:∀ h',Heap.SameBut a s.heap h'->SetR prog w h' a led (λy=>S y || decide (y=z)) fs.size->R true { s with heap:=h' }:=λh' q1 q2=>by have q:=k h' q1;rw[no]at q;rw[ez]at q2;exact q q2
  have Ds:=(he.push hz QS).perm p;have TZ:∀ y,(S y || decide (y=z))=true↔∃ v∈fs.toList,(intKind prog w).is y v.2=true:=mem_push_iff hz hm p
  have Jn:fs.size<scanBound:=by lia
  refine XU (gw _ ?_);have tail:∀ v:SetTable,v.fits fs.size=true->Rw v->v.led=led->wpAny (model prog w) A (do
    storeSet a fs v
    if (!dm && v.tooFull)=true then do
     (match (relayAll v fs (SetTable.grown fs.size)).2.2 with | true=>rule "set.scan.the-table-gave-way" | false=>pure ())
     storeSet a (relayAll v fs (SetTable.grown fs.size)).1 (relayAll v fs (SetTable.grown fs.size)).2.1
     pure (some true)
    else pure (some true)) (λy s1=>wpAny (model prog w) A (match y with | some added=>pure added | none=>setAddHashedIn a x ((intKind prog w).hash z) 99999) R E s1) E s:=λv a1 a2 a3 =>
   qi (gv:=λb=>match b with | true=>rule "set.scan.the-table-gave-way" | false=>pure ()) (λb s1 R' q=>gw b q) ho hx hd Ds TZ Jn a1 a2 λh' q1 q2=>Yk (fin h' q1 (a3 ▸ q2))
  split
  .refine XU ?_;rw[hashByValue_scannable 8 QS];refine Yk ?_;split
   .exact tail u f r (l.trans hl)
   .exact tail _ (SetTable.fits_plain_off f) r (l.trans hl)
  .refine XU (Yk ?_);rw[if_pos rfl];exact tail u f r (l.trans hl)
end
section
variable{prog:Program}{w:World}{A:Around}{R:Result->Shared->Prop}{I:Addr}{fp wr:List Addr}{G:Array GenState->Array GenState->Prop}{n:Nat}{P:Nat->Value->Prop}{St:Nat->Shared->Prop}
theorem fw(W:WalksS prog w A.in1 I fp wr G n P St)(b:Addr)(LA:b∉fp){led:Bool}(val:Nat->Int)(hv:∀ i v,P i v->∃ t,v=.int (val i) t)(hn:n+1<scanBound) :
  ∀(k i:Nat) (s:Shared),n - i=k->i<=n->St i s->SetR prog w s.heap b led (λz=>(firstMet val i).any (· == z)) (firstMet val i).length ->
   (∀ s',Moved (b :: wr) G s s'->SetR prog w s'.heap b led (λz=>(firstMet val n).any (· == z)) (firstMet val n).length->R (.ok (.ret .none)) s') ->
   codeAny (model prog w) A (.builtin "set.update.loop" ⟨[.ref b,.ref I],[]⟩) R s
 | 0,i,s,hk,hi,st,hS,q=>by
  have e:i=n:=by grind
  subst e;refine SE F.entry_set_update_loop ?_;rw[KZ wX _];show wpAny _ A.in1 (pyNext (.ref I) >>= _) _ _ s
  refine XU (W.done s _ _ st λs1 m=>?_);show wpAny _ A.in1 (ret Value.none) _ _ s1
  exact Yk (q s1 (m.mono λc hc=>.tail _ hc) (hS.at λo ho=>m.heap b o (λhc=>LA (W.sub _ hc)) ho))
 | k+1,i,s,hk,hi,st,hS,q=>by
  have Xd:i<n:=by grind
  refine SE F.entry_set_update_loop ?_;rw[KZ wX _];show wpAny _ A.in1 (pyNext (.ref I) >>= _) _ _ s
  refine XU (W.item i s _ _ Xd st λv s1 hP JO m=>?_);obtain⟨t,rfl⟩:=hv i v hP;have Dr:=hS.at (h':=s1.heap) λo ho=>m.heap b o (λhc=>LA (W.sub _ hc)) ho
  show wpAny _ A.in1 (holding [Value.int (val i) t] (setAdd b (.int (val i) t)) >>= _) _ _ s1;refine XU (SA ?_);unfold setAdd;refine SA (XU ((intKind prog w).pyHash (k:=val i) (intKind_is _ _ _ _) ?_));have fm:=firstMet_length_le val i
  refine qh (s:={ s1 with toks:=s1.toks+1 }) (intKind_is _ _ _ _) rfl Dr (by lia) λh2 sb Eh=>?_;have hS3:SetR prog w h2 b led (λz=>(firstMet val (i+1)).any (· == z)) (firstMet val (i+1)).length:=by
   have e1:(λz=>(firstMet val (i+1)).any (· == z))=λy=>((firstMet val i).any (· == y) || decide (y=val i)):=funext λy=>by rw[firstMet_succ,step_any]
   rw[e1,firstMet_succ,step_length];exact Eh
  have kept:∀ c o,c≠b->s1.heap.get? c=some o->h2.get? c=some o:=λc o hc e=>(sb.2 c hc).trans e;refine Yk ⟨UM wX _,fw W b LA val hv hn k (i+1) _ (by grind) Xd (W.frame _ s1 _ _ JO (Us _) λc hc o e=>kept c o (λe'=>LA (e' ▸ hc)) e) hS3 λs2 m2 hS4=>?_⟩;exact q s2 (Moved.trans W.gtrans ((m.mono λc hc=>.tail _ hc).then_heap (Us _) λc o hc e=>kept c o (λe'=>hc (e' ▸ .head _)) e) m2) hS4
end
section
variable{prog:Program}{w:World}{A:Around}{E:Ae}{s:Shared}
def Lz (w:World):Obj:={ cls:=.type "set",dict:=none,data:=.set #[] 0 (.fresh 0 0 (!w.params.followText "set-order")) }
theorem qg(a:Value){Q:Ae}(k:Q (.ref s.heap.objs.size) { s with heap:=s.heap.push (Lz w) }) :
  codeAny (model prog w) A (.call (.builtin "set.__new__") ⟨[.type "set",a],[]⟩) (wants Q E) s:=by
 refine codeAny_of_tree ?_;show wpAny _ A.in1 (checkBuiltinCall "set.__new__" ⟨[.type "set",a],[]⟩ >>= λ_=>again (.builtin "set.__new__" ⟨[.type "set",a],[]⟩)) _ _ s
 refine XU (Of (F.newCall_set_1 a) (Yk ⟨UM F.plain_set_new _,SE F.entry_set_new ?_⟩));rw[KZ F.plain_set_new _];have DP:=sub_set_self
 unfold Builtin.«set.__new__» Builtin.Frozenset.newClass;obtain⟨hp,g,d,tk,os⟩:=s;dsimp only
 wp_walk
 refine HS (Yk ?_);simp only [newObj];refine XU (wpAny_alloc (Yk (Yk k)))
theorem ZZ7 {h:Heap} {a:Addr} (e:h.get? a=some (Lz w)):SetR prog w h a (!w.params.followText "set-order") (λz=>(firstMet (λ_=>0) 0).any (· == z)) 0:=by refine⟨_,#[],0,_,e,⟨rfl,rfl,rfl⟩,rfl,λy hy=>(by cases hy),λz=>⟨λq=>(by cases q),λ⟨y,hy,_⟩=>(by cases hy)⟩,by decide,by simp[SetTable.fits,SetTable.fresh,SetTable.fill],rfl,.nil,rfl⟩
theorem ZM9{l:Addr}{items:Array Value}{ns:Ac}{h0:Heap}{b:Addr}{Q:Ae}(hh:A.handled=none)(Nd:h0.get? b=some (Lz w))(hl:h0.IsList l items)(XH:l≠b)(hi:IntsAre items.toList ns)(hn:items.size+1<scanBound)
  (k:∀ h' tk,SetR prog w h' b (!w.params.followText "set-order") (λz=>(firstMet (λi=>ns.getD i 0) items.size).any (· == z)) (firstMet (λi=>ns.getD i 0) items.size).length->(∀ c o,c≠b->h0.get? c=some o->h'.get? c=some o)->Q .none { s with heap:=h',toks:=tk }) :
  wpAny (model prog w) A.in1 (Builtin.«set.__init__» ⟨[.ref b,.ref l],[]⟩) (λfin s'=>match fin with | .done f=>wants Q E (.ok f) s' | .again c'=>c'.quiet=true/\codeAny (model prog w) A c' (wants Q E) s') (λe s'=>wants Q E (.error e) s') { s with heap:=h0 }:=by
 have hT:Shared.TypeIs { s with heap:=h0 } (.ref b) "set":=⟨_,Nd,rfl⟩;have QM:=hl
 obtain⟨⟨ocls,ft,fq,qf⟩,Sr,QL,nl,yn⟩:=hl;simp only at QL yn;subst QL yn;have q1:=F.sub_list_set
 have q2:=F.sub_list_frozenset;have q3:(Value.type "list" == Value.type "dict")=false:=by decide
 unfold Lz at Nd;unfold Builtin.«set.__init__» noKeywords Builtin.Frozenset.updateFrom;generalize hPI:pyIter=PI
 wp_walk
 subst hPI;refine wL QM ?_;refine XU (zK ?_);have qd:l<h0.objs.size:=Yo Sr
 have ltb:b<h0.objs.size:=Yo Nd;have bf:b∉[h0.objs.size,l]:=λq=>by
  rcases Yj.mp q with e | e
  .exact Yx ltb e
  .exact XH (XD.mp e).symm
 refine fw ((Walks.list (A:=A.in1.in1) (by simp [hh]) _ l (Yx qd) items).toS) b bf (led:=!w.params.followText "set-order") (λi=>ns.getD i 0) (λi v hv=>IntsAre.int_at hi i v (by rw [YR];exact hv)) hn (items.size - 0) 0 _ (by lia) (Yl _)
  ⟨⟨_,Ym _ rfl,rfl,rfl⟩,QM.push _⟩ ?_ ?_
 .exact ZZ7 (WZ _ Nd)
 .rintro⟨h',g',d',tk',HJ⟩ m hS;have e1:g'=s.gens:=m.gens
  have e2:d'=s.drawn:=m.drawn;have e3:HJ=s.os:=m.os
  subst e1 e2 e3;show wpAny _ _ _ _ _ _
  refine Yk ?_;show wpAny _ _ (ret Value.none) _ _ _
  refine Yk (k h' tk' hS λc o hc e=>m.heap c o (λq=>?_) (WZ _ e));rcases Yj.mp q with e' | e'
  .exact hc e'
  .exact Yx (Yo e) (XD.mp e')
set_option maxRecDepth 100000 in
set_option maxHeartbeats 3000000 in
theorem qc{l:Addr}{items:Array Value}{ns:Ac}{Q:Ae}(hh:A.handled=none)(hl:s.heap.IsList l items)(hi:IntsAre items.toList ns)(hn:items.size+1<scanBound)
  (k:∀ h' tk,SetR prog w h' s.heap.objs.size (!w.params.followText "set-order") (λz=>(firstMet (λi=>ns.getD i 0) items.size).any (· == z)) (firstMet (λi=>ns.getD i 0) items.size).length->(∀ c o,s.heap.get? c=some o->h'.get? c=some o)->Q (.ref s.heap.objs.size) { s with heap:=h',toks:=tk }) :
  wpAny (model prog w) A (call (.type "set") [.ref l]) Q E s:=by
 obtain⟨c,tl,hmro⟩:=Mb.mro;have a1:=Mb.made
 have a2:=Mb.sub;have a3:=Mb.notType
 have a4:=Mb.canCreate;have a5:=F.typeCall_set_1 (.ref l)
 refine Gm (codeAny_of_tree ?_);show wpAny _ _ (callAny (.type "set") _) _ _ _
 refine Yk ⟨zW _ (by decide +kernel),SE F.entry_type_call ?_⟩;rw [Around.under_plain (weight_type_call_type "set" [.ref l] []) rfl]
 repeat any_goals first | assumption | wp_step
 refine Mc (qg (.ref l) (E:=E) (Q:=λob s1=>ob=.ref s.heap.objs.size/\s1={ s with heap:=s.heap.push (Lz w) }) ⟨rfl,rfl⟩) λr s1 hr=>?_
 match r,hr with
 | .error e,hr=>exact hr
 | .ok (.ret ob),hr =>
  obtain⟨rfl,rfl⟩:=hr;have Nd:(s.heap.push (Lz w)).get? s.heap.objs.size=some (Lz w):=Ym _ rfl
  have hT:Shared.TypeIs { s with heap:=s.heap.push (Lz w) } (.ref s.heap.objs.size) "set":=⟨_,Nd,rfl⟩;have a6:=Mb.init.lookup
  have a7:=Mb.init.bind (.ref s.heap.objs.size)
  repeat any_goals first | assumption | wp_step
  have qd:l<s.heap.objs.size:=let ⟨_,e,_⟩:=hl;Yo e
  refine Mc (codeAny_call_builtin (R:=wants (λr s2=>r=.none/\Q (.ref s.heap.objs.size) s2) E) Mb.init.plain F.entry_set_init (check_set_init_1 hT (ZM9 (A:=_) (s:=s) ?_ Nd (hl.push _) (Yx qd) hi hn λh' tk hS kp=>⟨rfl,k h' tk hS λc o e=>kp c o (Yx (Yo e)) (WZ _ e)⟩))) λr2 s2 Wd=>?_
  .simp[hh]
  .match r2,Wd with
   | .error e,Wd=>exact Wd
   | .ok (.ret v),Wd =>
    obtain⟨rfl,q⟩:=Wd
    repeat any_goals first | assumption | wp_step
end
theorem fo:Manifest.owners.lookup (String.ofList ['r','o','t','a','r','e','t','i','_','t','e','s'].reverse)=some Manifest.sig_set_iterator:=by kernel_rfl
theorem Xa:PySem.Slot "set_iterator" "__next__" "set_iterator.__next__" :=
 .of (owner:="set_iterator") (n:="__next__") (by rw [HR,HZ];kernel_rfl) (by decide +kernel) (by decide +kernel) (by decide +kernel)
  (by first | exact .inl (by decide +kernel) | exact .inr (by decide +kernel)) (by rw[zH];kernel_rfl)
theorem Nc:entryFor table "set_iterator.__next__"=some Builtin.«set_iterator.__next__»:=entryFor_of_tree (by kernel_rfl)
theorem ym (a:Value):argsOk "set_iterator.__next__" ⟨[a],[]⟩:=by unfold argsOk;rw [signature?_of (id:="set_iterator.__next__") (n:=['_','_','t','x','e','n','_','_']) (o:=['r','o','t','a','r','e','t','i','_','t','e','s']) (by kernel_rfl) fo];kernel_rfl
theorem fk:PySem.Slot "set_iterator" "__iter__" "set_iterator.__iter__" :=
 .of (owner:="set_iterator") (n:="__iter__") (by rw [HR,HZ];kernel_rfl) (by decide +kernel) (by decide +kernel) (by decide +kernel)
  (by first | exact .inl (by decide +kernel) | exact .inr (by decide +kernel)) (by rw[zH];kernel_rfl)
theorem ZG9 (a:Value):argsOk "set_iterator.__iter__" ⟨[a],[]⟩:=by unfold argsOk;rw [signature?_of (id:="set_iterator.__iter__") (n:=['_','_','r','e','t','i','_','_']) (o:=['r','o','t','a','r','e','t','i','_','t','e','s']) (by kernel_rfl) fo];kernel_rfl
theorem ZF9:entryFor table "set_iterator.__iter__"=some Builtin.«dict_keyiterator.__iter__» :=
 entryFor_alias (id':="dict_keyiterator.__iter__") (by kernel_rfl) (by first | rfl | decide +kernel | (unfold String.splitOn;simp +decide [String.splitOnAux])) (by decide +kernel) (by kernel_rfl)
theorem ZA9:Manifest.owners.lookup (String.ofList ['t','e','s'].reverse)=some Manifest.sig_set:=by kernel_rfl
theorem fj:PySem.Slot "set" "__iter__" "set.__iter__" :=
 .of (owner:="set") (n:="__iter__") (by rw [HR,HZ];kernel_rfl) (by decide +kernel) (by decide +kernel) (by decide +kernel)
  (by first | exact .inl (by decide +kernel) | exact .inr (by decide +kernel)) (by rw[zH];kernel_rfl)
theorem ZC9 (a:Value):argsOk "set.__iter__" ⟨[a],[]⟩:=by unfold argsOk;rw [signature?_of (id:="set.__iter__") (n:=['_','_','r','e','t','i','_','_']) (o:=['t','e','s']) (by kernel_rfl) ZA9];kernel_rfl
theorem ZB9:entryFor table "set.__iter__"=some Builtin.«frozenset.__iter__» :=
 entryFor_alias (id':="frozenset.__iter__") (by kernel_rfl) (by first | rfl | decide +kernel | (unfold String.splitOn;simp +decide [String.splitOnAux])) (by decide +kernel) (by kernel_rfl)
def IsSi (h:Heap) (I a:Addr) (f:Value) (i n ep:Nat):Prop:=∃ o,h.get? I=some o/\o.cls=.type "set_iterator"/\o.data=.fields #[f,rawInt (i:Int),.ref a,rawInt (n:Int),rawInt (ep:Int)]
theorem IsSi.ty {s:Shared} {I a:Addr} {f:Value} {i n ep:Nat} (x:IsSi s.heap I a f i n ep):s.TypeIs (.ref I) "set_iterator":=let ⟨o,p,q,_⟩:=x;⟨o,p,q⟩
theorem IsSi.keep{h h':Heap}{I a:Addr}{f:Value}{i n ep:Nat}(x:IsSi h I a f i n ep)(e:∀ o,h.get? I=some o->h'.get? I=some o):IsSi h' I a f i n ep:=let ⟨o,p,q⟩:=x;⟨o,e _ p,q⟩
def SetIs(h:Heap)(a:Addr)(es:Array (Int × Value))(ep:Nat)(t:SetTable):Prop:=∃ o,h.get? a=some o/\o.ExactSet/\o.data=.set es ep t
theorem SetIs.keep{h h':Heap}{a:Addr}{es:Array (Int × Value)}{ep:Nat}{t:SetTable}(x:SetIs h a es ep t)(e:∀ o,h.get? a=some o->h'.get? a=some o):SetIs h' a es ep t:=let ⟨o,p,q⟩:=x;⟨o,e _ p,q⟩
section
variable{prog:Program}{w:World}{A:Around}{E:Ae}{s:Shared}
theorem ZE7{M:Model}{src:Source}{n:Nat}{Q:Nat->Shared->Prop}(hn:n≠0)(k:∀ i,i<n->∀ d,Q i { s with drawn:=d }):wpAny M A (choose src n) Q E s :=
 λΓ p _=>⟨hn,k _ (Nat.mod_lt _ (Nat.pos_of_ne_zero hn)) _⟩
theorem qb{α:Type}:∀ {l:List α} {i:Nat} {y:α},l[i]?=some y->(y :: l.eraseIdx i).Perm l
 | [],_,_,h=>by simp at h
 | x :: l,0,y,h=>by obtain rfl:x=y:=Yg h;exact .rfl
 | x :: l,i+1,y,h=>(List.Perm.swap x y (l.eraseIdx i)).trans ((qb (l:=l) (i:=i) h).cons x)
theorem fi{M:Model}{α:Type}:∀(n:Nat) (xs:List α) (s:Shared) (Q:List α->Shared->Prop),n=xs.length->(∀ ys d,ys.Perm xs->Q ys { s with drawn:=d })->wpAny M A (drawOrder n xs) Q E s
 | 0,xs,s,Q,h,k=>by have e:xs=[]:=YQ.mp h.symm;subst e;exact Yk (k [] s.drawn .rfl)
 | n+1,[],s,Q,h,k=>by cases h
 | n+1,x :: xs,s,Q,h,k=>by show wpAny M A (choose .order (x :: xs).length >>= _) Q E s;refine XU (ZE7 (by simp) λi hi d=>?_);obtain⟨y,hy⟩:∃ y,(x :: xs)[i]?=some y:=⟨_,Xn hi⟩;rw[hy];dsimp only;refine XU (fi n ((x :: xs).eraseIdx i) _ _ (by rw[Gs hi];lia) λys d' hp=>Yk (k (y :: ys) d' ?_));exact(hp.cons y).trans (qb hy)
theorem fh{α:Type}{f:Nat->Nat}:∀(n k:Nat) (l:List α) (out:Array α),n=l.length->(pickOrder.go f n k l out).toList.Perm (out.toList++l)
 | 0,k,l,out,h=>by rw[YQ.mp h.symm,YF];exact .rfl
 | n+1,k,l,out,h=>by have hi:f k % l.length<l.length:=Nat.mod_lt _ (by lia);obtain⟨y,hy⟩:∃ y,l[f k % l.length]?=some y:=⟨_,Xn hi⟩;unfold pickOrder.go;rw[hy];dsimp only;refine(fh n (k+1) _ _ (by rw[Gs hi];lia)).trans ?_;rw[wY,QG];refine List.Perm.append_left _ ?_;exact qb hy
theorem fg{I a:Addr}{f:Value}{i n ep:Nat}{Q:Ae}(hr:IsSi s.heap I a f i n ep)(h:Q (.ref I) s):wpAny (model prog w) A (pyIter (.ref I)) Q E s:=by
 refine wpAny_pyIter_slot hr.ty fk (Mh fk hr.ty ZF9 ?_ (ZG9 _));show wpAny _ _ (ret (.ref I)) _ _ s
 exact Yk ⟨_,rfl,"set_iterator",_,hr.ty,Xa.lookup,h⟩
def Hh(prog:Program)(w:World)(a:Addr)(es:Array (Int × Value))(ep:Nat)(t:SetTable)(ord:Ag)(sl:Nat->Nat):Prop :=
 ∀(A:Around) (E:Ae) (s:Shared) (i:Nat) (Q:Option (Value × Nat)->Shared->Prop),SetIs s.heap a es ep t->i<=ord.length->Q ((ord[i]?).map λx=>(x,sl (i+1))) s->wpAny (model prog w) A (setNext a (sl i) i ep) Q E s
theorem qa{I a:Addr}{es:Array (Int × Value)}{ep:Nat}{t:SetTable}{ord:Ag}{sl:Nat->Nat}{i:Nat}{x:Value}{Q:Option Value->Shared->Prop}(hN:Hh prog w a es ep t ord sl)(hS:SetIs s.heap a es ep t)(hf:t.fits es.size=true)(hi:IsSi s.heap I a (rawInt (sl i:Nat)) i es.size ep)(hx:ord[i]?=some x)
  (k:∀ h',IsSi h' I a (rawInt (sl (i+1):Nat)) (i+1) es.size ep->Heap.SameBut I s.heap h'->Q (some x) { s with heap:=h' }):wpAny (model prog w) A (pyNext (.ref I)) Q E s:=by
 obtain⟨o,ho,hc,hd⟩:=id hi;obtain⟨oa,Ly,p9,Rv⟩:=id hS;unfold pyNext;refine XU (Gw (z5 (name:=Str.ofString "__next__") hi.ty Xa (Mh Xa hi.ty Nc ?_ (ym _))));unfold Builtin.«set_iterator.__next__»;refine XU (Of (a:=(Value.ref I,[])) rfl ?_);dsimp only;refine XU (zJ ho hd ?_);dsimp only [rawInt];refine XU (GH Ly Rv hf ?_);rw[if_neg (by simp)];rw[YC,YC,YC];refine XU (hN _ _ s i _ hS (Oh (Xs.mp hx).1) ?_);rw[hx];dsimp only [Option.map_some];refine XU (HQ ho hd (by simp) ?_);have Ta:=Vw (Obj.mapFields (λvs=>vs.setIfInBounds 0 (rawInt (sl (i+1):Nat)))) ho (zY (OY hd _))
 refine XU (HQ Ta (OY hd _) (by simp) ?_);refine Yk ⟨x,rfl,Yk (k _ ⟨_,Vw _ Ta (zY (OY (OY hd _) _)),?_,?_⟩ ((Mn ..).trans (Mn ..)))⟩
 .rw[wK,wK];exact hc
 .rw[OY (OY hd _)];simp;rfl
theorem p8{I a:Addr}{es:Array (Int × Value)}{ep:Nat}{t:SetTable}{ord:Ag}{sl:Nat->Nat}{Q:Option Value->Shared->Prop}(hh:A.handled=none)(hN:Hh prog w a es ep t ord sl)(hS:SetIs s.heap a es ep t)(hf:t.fits es.size=true)(hi:IsSi s.heap I a (rawInt (sl ord.length:Nat)) ord.length es.size ep)
  (k:∀ h',Heap.ExtBut I s.heap h'->Q none { s with heap:=h' }):wpAny (model prog w) A (pyNext (.ref I)) Q E s:=by
 obtain⟨o,ho,hc,hd⟩:=id hi;obtain⟨oa,Ly,p9,Rv⟩:=id hS;unfold pyNext;refine XU (Gw (z5 (name:=Str.ofString "__next__") hi.ty Xa (Mh Xa hi.ty Nc ?_ (ym _))));unfold Builtin.«set_iterator.__next__»;refine XU (Of (a:=(Value.ref I,[])) rfl ?_);dsimp only;refine XU (zJ ho hd ?_);dsimp only [rawInt];refine XU (GH Ly Rv hf ?_);rw[if_neg (by simp)];rw[YC,YC,YC];refine XU (hN _ _ s ord.length _ hS (XN _) ?_);rw[YW (XN _)];dsimp only [Option.map_none];refine XU (HQ ho hd (by simp) ?_);show wpAny _ _ (newExc (.type "StopIteration") [] >>= _) _ _ _
 refine XU ?_;simp only [newExc,newTuple];refine XU (Om ?_ (by size_fits));refine XU (m:=firstArgMember _ _) (Of (a:=Value.none) (by first | rfl | (simp only [firstArgMember];rfl)) ?_)
 refine Om ?_ (by size_fits);simp only [raiseNew];refine XU (wpAny_handled ?_);rw[show A.in1.handled=none from hh];refine XU (Yk (wpAny_throw ?_));refine XU (zR (T:="StopIteration") (b:=true) ⟨_,Ym _ rfl,rfl⟩ isSubtype_stop ?_);exact Yk (k _ ((((Mn ..).extBut).push _).push _))
theorem ZE9{I a:Addr}{es:Array (Int × Value)}{ep:Nat}{t:SetTable}{ord:Ag}{sl:Nat->Nat}(hh:A.handled=none)(hN:Hh prog w a es ep t ord sl)(hf:t.fits es.size=true)(XH:a≠I) :
  Walks prog w A I [I,a] [I] ord.length (λi v=>ord[i]?=some v) (λi h=>i<=ord.length/\IsSi h I a (rawInt (sl i:Nat)) i es.size ep/\SetIs h a es ep t) where
 sub:=λb hb=>Yj.mpr (.inl (XD.mp hb))
 frame:=λ_ _ _ x hk=>⟨x.1,x.2.1.keep λo e=>hk I (by simp) o e,x.2.2.keep λo e=>hk a (by simp) o e⟩
 item:=λi s Q E hi ⟨_,x1,x2⟩ hQ=>by have hx:ord[i]?=some (ord[i]'hi):=Xn hi;exact qa hN x2 hf x1 hx λh' y hs=>hQ _ h' s.toks hx ⟨hi,y,x2.keep λo e=>(hs.2 a XH).trans e⟩ λb o hb eo=>hs.extBut b o (λe=>hb (by simp[e])) eo
 done:=λs Q E ⟨_,x1,x2⟩ hQ=>p8 hh hN x2 hf x1 λh' he=>hQ h' s.toks λb o hb eo=>he b o (λe=>hb (by simp[e])) eo
 self:=λ_ _ _ _ x hQ=>fg x.2.1 hQ
theorem Dq {a:Addr} {es:Array (Int × Value)} {ep:Nat} {t:SetTable} (hf:t.fits es.size=true) (hr:Rw t) (hb:w.params.followText "set-order"=false) (hl:t.led=true) (hd:(!t.plain && decide (es.size > 1))=false) :
  Hh prog w a es ep t (es.toList.map (·.2)) (λi=>if i=0 then 0 else (t.place.getD (i - 1) 0)+1):=by
 intro A E s i Q ⟨o,ho,hx,Rv⟩ hi q;have hps:t.place.size=es.size:=by unfold SetTable.fits at hf;simp only [Tn,RY]at hf;exact hf.1
 rw[Yd,YE]at hi;unfold setNext;refine XU (HW ho Rv hf ?_);dsimp only;refine XU ?_;unfold setsByText;refine XU (HS (Yk ?_));show wpAny _ _ (if (w.params.followText "set-order")=true then _ else _) _ _ _
 rw[if_neg (by rw[hb];decide)];show wpAny _ _ (if (!t.plain && decide (es.size > 1))=true then _ else _) _ _ _
 rw[if_neg (by rw[hd];decide)];refine XU ?_;show wpAny _ _ (if (!t.led && !es.isEmpty)=true then _ else _) _ _ _
 rw[if_neg (by rw[hl];simp)];refine Yk ?_;have eb:SetTable.below t.place (if i=0 then 0 else (t.place.getD (i - 1) 0)+1)=i:=by
  by_cases c:i=0
  .rw[if_pos c,c];exact ZH7 hr
  .rw[if_neg c];obtain⟨v,hv⟩:∃ v,t.place[i - 1]?=some v:=⟨_,YG (by lia)⟩;have e:t.place.getD (i - 1) 0=v:=by rw[Yz,hv];rfl
   rw[e,ZI7 hr hv];lia
 rw[eb];refine Yk ?_;by_cases c:i<es.size
 .obtain⟨v,hv⟩:∃ v,t.place[i]?=some v:=⟨_,YG (by lia)⟩;obtain⟨y,hy⟩:∃ y,es[i]?=some y:=⟨_,YG c⟩;have e:t.place.getD i 0=v:=by rw[Yz,hv];rfl
  rw[Yq,YR,hy]at q;rw[hv,hy];simp only [Tj,w5,e,if_neg (Nat.succ_ne_zero i)]at q;exact q
 .have e1:es[i]?=none:=z6 (by lia);rw[Yq,YR,e1]at q;rw[e1];exact q
theorem p7 {a:Addr} {es:Array (Int × Value)} {ep:Nat} {t:SetTable} (hf:t.fits es.size=true) (hb:w.params.followText "set-order"=true) :
  Hh prog w a es ep t ((pickOrder (w.params.setOrder a ep) es).toList.map (·.2)) (λ_=>0):=by
 intro A E s i Q ⟨o,ho,hx,Rv⟩ hi q;unfold setNext;refine XU (HW ho Rv hf ?_);dsimp only;refine XU ?_;unfold setsByText;refine XU (HS (Yk ?_));show wpAny _ _ (if (w.params.followText "set-order")=true then _ else _) _ _ _
 rw[if_pos hb,if_neg (by simp)];refine XU ?_;unfold setWalk;refine XU (HW ho Rv hf ?_);dsimp only;refine XU ?_;unfold setsByText;refine XU (HS (Yk ?_));show wpAny _ _ (if (w.params.followText "set-order")=true then _ else _) _ _ _
 rw[if_pos hb];refine XU (HS (Yk ?_));rw[Yq,YR,Option.map_map]at q;exact Yk q
def IsPl(h:Heap)(b:Addr)(pl:List Nat):Prop:=∃ o n,h.get? b=some o/\o.data=.seq (pl.map λ(i:Nat)=>rawInt (i:Int)).toArray n
theorem IsPl.keep{h h':Heap}{b:Addr}{pl:List Nat}(x:IsPl h b pl)(e:∀ o,h.get? b=some o->h'.get? b=some o):IsPl h' b pl:=let ⟨o,n,p,q⟩:=x;⟨o,n,e _ p,q⟩
theorem p6{I a b:Addr}{es:Array (Int × Value)}{ep:Nat}{t:SetTable}{pl:List Nat}{i j:Nat}{x:Int × Value}{Q:Option Value->Shared->Prop}(hS:SetIs s.heap a es ep t)(hf:t.fits es.size=true)(hi:IsSi s.heap I a (.ref b) i es.size ep)(hb:IsPl s.heap b pl)(hj:pl[i]?=some j)(hx:es[j]?=some x)
  (k:∀ h',IsSi h' I a (.ref b) (i+1) es.size ep->Heap.SameBut I s.heap h'->Q (some x.2) { s with heap:=h' }):wpAny (model prog w) A (pyNext (.ref I)) Q E s:=by
 obtain⟨o,ho,hc,hd⟩:=id hi;obtain⟨oa,Ly,p9,Rv⟩:=id hS;obtain⟨ob,nb,Qm,RP⟩:=hb;unfold pyNext;refine XU (Gw (z5 (name:=Str.ofString "__next__") hi.ty Xa (Mh Xa hi.ty Nc ?_ (ym _))));unfold Builtin.«set_iterator.__next__»;refine XU (Of (a:=(Value.ref I,[])) rfl ?_);dsimp only;refine XU (zJ ho hd ?_);dsimp only [rawInt];refine XU (GH Ly Rv hf ?_);rw[if_neg (by simp)];refine XU (KS Qm RP ?_);dsimp only;have e:(pl.map λ(i:Nat)=>rawInt (i:Int)).toArray[(i:Int).toNat]?=some (.int (j:Int) 0):=by rw[YC,ja,Yq,hj];rfl
 rw[e];dsimp only;rw[YC,YC];refine XU ?_;unfold setNextDrawn;refine XU (HW Ly Rv hf ?_);dsimp only;rw[if_neg (by simp),hx];refine Yk ?_;refine XU (HQ ho hd (by simp) ?_);refine Yk ⟨x.2,rfl,Yk (k _ ⟨_,Vw _ ho (zY (OY hd _)),?_,?_⟩ (Mn ..))⟩
 .rw[wK];exact hc
 .rw[OY hd];simp;rfl
theorem pZ{I a b:Addr}{es:Array (Int × Value)}{ep:Nat}{t:SetTable}{pl:List Nat}{Q:Option Value->Shared->Prop}(hh:A.handled=none)(hS:SetIs s.heap a es ep t)(hf:t.fits es.size=true)(hi:IsSi s.heap I a (.ref b) pl.length es.size ep)(hb:IsPl s.heap b pl)
  (k:∀ h',Heap.ExtBut I s.heap h'->Q none { s with heap:=h' }):wpAny (model prog w) A (pyNext (.ref I)) Q E s:=by
 obtain⟨o,ho,hc,hd⟩:=id hi;obtain⟨oa,Ly,p9,Rv⟩:=id hS;obtain⟨ob,nb,Qm,RP⟩:=hb;unfold pyNext;refine XU (Gw (z5 (name:=Str.ofString "__next__") hi.ty Xa (Mh Xa hi.ty Nc ?_ (ym _))));unfold Builtin.«set_iterator.__next__»;refine XU (Of (a:=(Value.ref I,[])) rfl ?_);dsimp only;refine XU (zJ ho hd ?_);dsimp only [rawInt];refine XU (GH Ly Rv hf ?_);rw[if_neg (by simp)];refine XU (KS Qm RP ?_);dsimp only;have e:(pl.map λ(i:Nat)=>rawInt (i:Int)).toArray[(pl.length:Int).toNat]?=none:=by rw[YC,ja];exact YW (by simp)
 rw[e];dsimp only;refine XU (HQ ho hd (by simp) ?_);have Ta:=Vw (Obj.mapFields (λvs=>vs.setIfInBounds 0 (rawInt 0))) ho (zY (OY hd _))
 refine XU (HQ Ta (OY hd _) (by simp) ?_);show wpAny _ _ (newExc (.type "StopIteration") [] >>= _) _ _ _
 refine XU ?_;simp only [newExc,newTuple];refine XU (Om ?_ (by size_fits));refine XU (m:=firstArgMember _ _) (Of (a:=Value.none) (by first | rfl | (simp only [firstArgMember];rfl)) ?_)
 refine Om ?_ (by size_fits);simp only [raiseNew];refine XU (wpAny_handled ?_);rw[show A.in1.handled=none from hh];refine XU (Yk (wpAny_throw ?_));refine XU (zR (T:="StopIteration") (b:=true) ⟨_,Ym _ rfl,rfl⟩ isSubtype_stop ?_);exact Yk (k _ (((((Mn ..).trans (Mn ..)).extBut).push _).push _))
theorem ZJ9{I a b:Addr}{es:Array (Int × Value)}{ep:Nat}{t:SetTable}{pl:List Nat}(hh:A.handled=none)(hp:pl.Perm (List.range es.size))(hf:t.fits es.size=true)(XH:a≠I)(hnb:b≠I) :
  Walks prog w A I [I,a,b] [I] pl.length (λi v=>(pl.filterMap λj=>(es[j]?).map (·.2))[i]?=some v) (λi h=>i<=pl.length/\IsSi h I a (.ref b) i es.size ep/\SetIs h a es ep t/\IsPl h b pl) where
 sub:=λc hc=>Yj.mpr (.inl (XD.mp hc))
 frame:=λ_ _ _ x hk=>⟨x.1,x.2.1.keep λo e=>hk I (by simp) o e,x.2.2.1.keep λo e=>hk a (by simp) o e,x.2.2.2.keep λo e=>hk b (by simp) o e⟩
 item:=λi s Q E hi ⟨_,x1,x2,x3⟩ hQ=>by
  have hj:pl[i]?=some (pl[i]'hi):=Xn hi;have Xd:=YJ.mp (hp.mem_iff.mp (Xg hj))
  have hx:es[pl[i]'hi]?=some (es[pl[i]'hi]'Xd):=YG Xd;have fm:∀(l:List Nat),(∀ j∈l,j<es.size)->l.filterMap (λj=>(es[j]?).map (·.2))=l.map λj=>(es.getD j (0,.none)).2:=λl hl=>by
   induction l with
   | nil=>rfl
   | cons y l ih =>
    have hy:=hl y Ye;rw[zX,YV,ih λj h=>hl j (Yi _ h),YG hy,Yz,YG hy];rfl
  have hv:(pl.filterMap λj=>(es[j]?).map (·.2))[i]?=some (es[pl[i]'hi]'Xd).2:=by rw[fm pl λj hj=>YJ.mp (hp.mem_iff.mp hj),Yq,hj,Tj,Yz,hx];rfl
  exact p6 x2 hf x1 x3 hj hx λh' y hs=>hQ _ h' s.toks hv ⟨hi,y,x2.keep λo e=>(hs.2 a XH).trans e,x3.keep λo e=>(hs.2 b hnb).trans e⟩ λc o hc eo=>hs.extBut c o (λe=>hc (by simp[e])) eo
 done:=λs Q E ⟨_,x1,x2,x3⟩ hQ=>pZ hh x2 hf x1 x3 λh' he=>hQ h' s.toks λc o hc eo=>he c o (λe=>hc (by simp[e])) eo
 self:=λ_ _ _ _ x hQ=>fg x.2.1 hQ
end
section
variable{prog:Program}{w:World}{A B:Around}{E:Ae}{s:Shared}
theorem SetIs.ty {a:Addr} {es:Array (Int × Value)} {ep:Nat} {t:SetTable} (x:SetIs s.heap a es ep t):s.TypeIs (.ref a) "set":=let ⟨o,p,q,_⟩:=x;⟨o,p,q.1⟩
theorem ZI9 {a:Addr} {es:Array (Int × Value)} {ep:Nat} {t:SetTable} {Q:Ae} (hh:A.handled=none) (hS:SetIs s.heap a es ep t) (hf:t.fits es.size=true) (hr:Rw t) (hl:t.led=!w.params.followText "set-order") (hz:es.size<=sizeLine)
  (k:∀(I:Addr) (h':Heap) d (ord:Ag) (fp:List Addr) (St:Nat->Heap->Prop),ord.Perm (es.toList.map (·.2))->Walks prog w A I fp [I] ord.length (λi v=>ord[i]?=some v) St->St 0 h'->(∀ b∈fp,b<h'.objs.size/\(b=a\/s.heap.objs.size<=b))->I∈fp->s.heap.objs.size<=I->(∀ c o,s.heap.get? c=some o->h'.get? c=some o)->Q (.ref I) { s with heap:=h',drawn:=d }) :
  wpAny (model prog w) B (pyIter (.ref a)) Q E s:=by
 obtain⟨o,ho,hx,hd⟩:=id hS;have Lx:a<s.heap.objs.size:=Yo ho
 refine wpAny_pyIter_slot hS.ty fj (Mh fj hS.ty ZB9 ?_ (ZC9 _));unfold Builtin.«frozenset.__iter__»;refine XU (Of (a:=a) rfl ?_);refine XU ?_;unfold Builtin.Frozenset.sizeOf;refine XU (GH ho hd hf (Yk ?_));refine XU ?_;unfold setDrawn;refine XU (HW ho hd hf ?_);dsimp only;refine XU ?_;unfold setsByText;refine XU (HS (Yk (Yk ?_)));have num:∀(ord:Ag) (sl:Nat->Nat),sl 0=0->Hh prog w a es ep t ord sl->ord.Perm (es.toList.map (·.2))->wpAny (model prog w) B.in1 (pure (rawInt 0) >>= λfirst=>setEpoch a >>= λe=>newFields "set_iterator" [first,rawInt 0,.ref a,rawInt (es.size:Int),rawInt (e:Int)] >>= λit=>ret it)
   (λfin s'=>∃ v,fin=Fin.done (Flow.ret v)/\∃ T' r,s'.TypeIs v T'/\typeLookup (Value.type T') (Str.ofString "__next__")=pure (some r)/\Q v s') E s:=λord sl h0 hN hp=>by
  refine XU (Yk (XU (wpAny_setEpoch_of ho hd hf (XU ?_))));unfold newFields;refine Om ?_ (by size_fits);have hI:IsSi (s.heap.push { cls:=.type "set_iterator",data:=.fields [rawInt 0,rawInt 0,.ref a,rawInt (es.size:Int),rawInt (ep:Int)].toArray }) s.heap.objs.size a (rawInt (sl 0:Nat)) 0 es.size ep:=⟨_,Ym _ rfl,rfl,by rw [h0];rfl⟩
  refine Yk ⟨_,rfl,"set_iterator",_,IsSi.ty (s:={ s with heap:=_ }) hI,Xa.lookup,?_⟩;have ne:a≠s.heap.objs.size:=Yx Lx
  refine k _ _ s.drawn ord _ _ hp (ZE9 hh hN hf ne) ⟨Yl _,hI,hS.keep λo e=>WZ _ e⟩ (λb hb=>?_) (by simp) (XN _) λc o e=>WZ _ e;rw[Oj];rcases Yj.mp hb with e | e
  .rw[e];exact⟨OW _,.inr (XN _)⟩
  .rw[XD.mp e];exact⟨RX Lx,.inl rfl⟩
 by_cases hb:w.params.followText "set-order"=true
 .rw [if_neg (by show ¬ (!w.params.followText "set-order" && _)=true;rw [hb];simp)];refine num _ (λ_=>0) rfl (p7 hf hb) ?_
  have:=fh (f:=w.params.setOrder a ep) es.size 0 es.toList #[] (by rw[YE])
  exact this.map _
 .have Qn:w.params.followText "set-order"=false:=by simpa using hb
  rw[Qn]at hl;by_cases c:(!t.plain && decide (es.size > 1))=true
  .rw [if_pos (by show(!w.params.followText "set-order" && (!t.plain && decide (es.size > 1)))=true;rw [Qn,c];rfl)];refine XU (fi es.size (List.range es.size) s _ (by rw[OX]) λpl d hp=>?_);have UX:pl.length=es.size:=by rw[hp.length_eq,OX]
   refine XU (wpAny_newTuple ?_ (by rw[Yd,UX];exact hz));have hoS:∀(h:Heap) o,h.get? a=some o->(h.push { cls:=.type "tuple",data:=.seq (List.map (λi=>rawInt ((i:Nat):Int)) pl).toArray }).get? a=some o:=λh o e=>WZ _ e
   refine XU (wpAny_setEpoch_of (hoS s.heap o ho) hd hf (XU ?_));unfold newFields;refine Om ?_ (by size_fits);have ne:a≠s.heap.objs.size:=Yx Lx
   generalize DX:s.heap.push { cls:=.type "tuple",data:=.seq (List.map (λi=>rawInt ((i:Nat):Int)) pl).toArray }=h1;have s1:h1.objs.size=s.heap.objs.size+1:=by rw[<- DX];exact Oj ..
   have Dp:∀ c o,s.heap.get? c=some o->h1.get? c=some o:=λc o e=>by rw[<- DX];exact WZ _ e
   have Nb:IsPl h1 s.heap.objs.size pl:=by rw[<- DX];exact⟨_,0,Ym _ rfl,rfl⟩
   have hI:IsSi (h1.push { cls:=.type "set_iterator",data:=.fields [Value.ref s.heap.objs.size,rawInt 0,.ref a,rawInt (es.size:Int),rawInt (ep:Int)].toArray }) h1.objs.size a (.ref s.heap.objs.size) 0 es.size ep:=⟨_,Ym _ rfl,rfl,rfl⟩;refine Yk ⟨_,rfl,"set_iterator",_,IsSi.ty (s:={ s with heap:=_,drawn:=d }) hI,Xa.lookup,?_⟩;have PM:(pl.filterMap λj=>(es[j]?).map (·.2)).Perm (es.toList.map (·.2)):=by refine(hp.filterMap _).trans ?_;rw[<- filterMap_getElem?_range es,List.map_filterMap]
   have Sr:(pl.filterMap λj=>(es[j]?).map (·.2)).length=pl.length:=by rw[PM.length_eq,Yd,YE,UX]
   have W:=ZJ9 (prog:=prog) (w:=w) (A:=A) (I:=h1.objs.size) (a:=a) (b:=s.heap.objs.size) (es:=es) (ep:=ep) (t:=t) hh hp hf (by rw[s1];exact Yx (RX Lx)) (by rw[s1];exact Yx (OW _));rw[<- Sr]at W;refine k _ _ d _ _ _ PM W ⟨Yl _,hI,hS.keep λo e=>WZ _ (Dp _ o e),Nb.keep λo e=>WZ _ e⟩ (λb hb=>?_) (by simp) (by rw[s1];exact Us _) λc o e=>WZ _ (Dp c o e);rw[Oj,s1];rcases Yj.mp hb with e | e
   .rw[e,s1];exact⟨OW _,.inr (Us _)⟩
   .rcases Yj.mp e with e | e
    .rw[e];exact⟨RX (RX Lx),.inl rfl⟩
    .rw[XD.mp e];exact⟨RX (OW _),.inr (XN _)⟩
  .have c':(!t.plain && decide (es.size > 1))=false:=by simpa using c
   rw [if_neg (by show ¬ (!w.params.followText "set-order" && (!t.plain && decide (es.size > 1)))=true;rw [c'];simp)];exact num _ _ rfl (Dq hf hr Qn hl c') .rfl
end
theorem pY:typeLookup (.type "set") "__len__"=pure (some (.builtin "set.__len__")):=by rw [HR,HZ];kernel_rfl
section
variable{prog:Program}{w:World}{A:Around}{E:Ae}{s:Shared}
theorem pX {r:Addr} {Q:Bool->Shared->Prop} (hT:s.TypeIs (.ref r) "set") (h:Q false s):wpAny (model prog w) A (Builtin.List.listLengthHint (.ref r)) Q E s:=by
 unfold Builtin.List.listLengthHint;refine XU (wpAny_specialOf hT pY ?_);generalize Ei:("set.__len__":String)=sR
 wp_delta
 rw [show splitId sR=some ("set","__len__") from by subst Ei;decide +kernel];subst Ei;refine XU (zR (T:="set") (b:=true) hT sub_set_self ?_);show wpAny _ A (typeOf (Value.ref r) >>= _) _ _ _
 exact XU (Gv (T:="set") hT (Yk h))
theorem ZT5 {a:Addr} {es:Array (Int × Value)} {ep:Nat} {t:SetTable} {Q:List Value->Shared->Prop} (hh:A.handled=none) (hS:SetIs s.heap a es ep t) (hf:t.fits es.size=true) (hr:Rw t) (hl:t.led=!w.params.followText "set-order") (hz:es.size<=sizeLine)
  (k:∀(out:Ag) h' tk d,out.Perm (es.toList.map (·.2))->s.heap.objs.size<=h'.objs.size->(∀ c o,s.heap.get? c=some o->h'.get? c=some o)->Q out { s with heap:=h',toks:=tk,drawn:=d }):wpAny (model prog w) A (collect (.ref a)) Q E s:=by
 have JA:(s.heap.push (seqObj "list" #[] 0)).get? s.heap.objs.size=some (seqObj "list" #[] 0):=Ym _ rfl;have Dr:SetIs (s.heap.push (seqObj "list" #[] 0)) a es ep t:=hS.keep λo e=>WZ _ e
 have Lx:a<s.heap.objs.size:=let ⟨_,e,_⟩:=hS;Yo e
 unfold collect;refine XU (zK (SE wH ?_));show wpAny _ _ (newList [] >>= λv=>again (.builtin "list.__iadd__" ⟨[v,.ref a],[]⟩)) _ _ s
 refine XU (KR (Yk ⟨zW _ (by decide +kernel),SE entry_list_iadd' ?_⟩));show wpAny _ _ (Builtin.List.listExtendWith (.ref s.heap.objs.size) (.ref a) (.ref s.heap.objs.size)) _ _ { s with heap:=s.heap.push (seqObj "list" #[] 0) }
 unfold Builtin.List.listExtendWith;refine XU (Gv (T:="set") (SetIs.ty (s:={ s with heap:=s.heap.push (seqObj "list" #[] 0) }) Dr) ?_);have e1:Builtin.List.listSameRef (.ref s.heap.objs.size) (.ref a)=false:=by show(s.heap.objs.size == a)=false;exact wN (Sa Lx)
 rw[if_neg (by rw[e1];decide)];refine XU (ZI9 (A:=A.in1) (by simp[hh]) Dr hf hr hl hz λI h' d ord fp St PM W Hu yk hI PL kp=>?_);have hT':Shared.TypeIs { s with heap:=h',drawn:=d } (.ref a) "set":=SetIs.ty (s:={ s with heap:=h',drawn:=d }) (Dr.keep λo e=>kp a o e)
 refine XU (SA (pX hT' ?_));rw[if_pos (by decide +kernel)];have ff:=kp _ _ JA
 refine XU (Gp (XU ?_));unfold Builtin.List.listTouch;refine XU (KO (xs:=#[]) (n:=0) ff rfl ?_ (Yl _) (by show 1<=sizeLine+1;lia));have fe:=Vw (Obj.mapSeq (·.push Value.none)) ff rfl
 refine KO (xs:=#[].push Value.none) (n:=1) fe rfl ?_ (by show 1<=sizeLine;decide) (by show 0<=sizeLine+1;lia);have hL4:=Vw (Obj.mapSeq Array.pop) fe rfl
 have old:∀ c o,c≠s.heap.objs.size->h'.get? c=some o->((h'.update s.heap.objs.size (Obj.mapSeq (·.push Value.none))).update s.heap.objs.size (Obj.mapSeq Array.pop)).get? c=some o:=λc o hc e=>by rw[YN _ _ (YZ hc),YN _ _ (YZ hc)];exact e
 generalize (h'.update s.heap.objs.size (Obj.mapSeq (·.push Value.none))).update s.heap.objs.size (Obj.mapSeq Array.pop)=h4 at *;have SV:s.heap.objs.size∉fp:=λq=>by
  rcases(yk _ q).2 with e | e
  .exact Sa Lx e
  .rw [show({ s with heap:=s.heap.push (seqObj "list" #[] 0) }:Shared).heap.objs.size=s.heap.objs.size+1 from Oj ..] at e;exact Nat.not_succ_le_self _ e
 have pW:ord.length=es.size:=by rw[PM.length_eq,Yd,YE]
 refine Yk ⟨UM Gr _,codeAny_extend_loopS W.toS (by rw[pW];exact hz) s.heap.objs.size SV _ ord.length 0 _ #[] _ rfl (Yl _) (W.frame 0 _ _ Hu λb hb o e=>old b o (λq=>SV (q ▸ hb)) e) hL4 (ItemsOf.nil _) λs2 acc c m fc Wf=>?_⟩;have eo:acc.toList=ord:=by
  refine RW λi=>?_;rw[YR];by_cases hi:i<ord.length
  .have q:acc[i]?=some (acc[i]'(by rw[Wf.1];exact hi)):=YG _;rw[q,Wf.2 i _ q]
  .rw[YW (by grind),z6 (by rw[Wf.1];omega)]
 show wpAny _ A (load s.heap.objs.size >>= _) Q E s2;refine XU (Gn fc ?_);refine Yk ?_;rw[eo,Moved.eq_with m];refine k ord s2.heap s2.toks d PM (Oh (Yo fc)) λc o e=>?_;have lt:=Yo e
 refine m.heap c o (λq=>?_) (old c o (Yx lt) (kp c o (WZ _ e)));rcases Yj.mp q with e' | e'
 .exact Yx lt e'
 .rw[XD.mp e']at lt
  have:=Yr lt (Yv (Us _) (Oj .. ▸ PL))
  exact QY _ this
end
theorem Dn{m:Ac}:∀ {l:Ac},m.Nodup->l.length=m.length->(∀ x∈m,x∈l)->l.Perm m:=by
 induction m with
 | nil=>intro l _ h _;rw[YQ.mp h]
 | cons x m ih =>
  intro l hn hl hs;have hx:=hs x Ye
  have RS:=QZ.mp hn;refine(List.perm_cons_erase hx).trans ((ih RS.2 (by rw[xk hx,hl];rfl) λy hy=>?_).cons x);have ne:y≠x:=λe=>RS.1 (by rw[<- e];exact hy)
  exact(xc ne).mpr (hs y (Yi _ hy))
theorem Zp8{us vs:Ag}(p:us.Perm vs):∀ {ns:Ac},IntsAre vs ns->∃ ms,IntsAre us ms/\ms.Perm ns:=by
 induction p with
 | nil=>intro ns h;exact⟨ns,h,.rfl⟩
 | cons x _ ih =>
  intro ns h;cases h with
  | cons n t h =>
   obtain⟨ms,h1,h2⟩:=ih h;exact⟨n :: ms,.cons n t h1,h2.cons n⟩
 | swap x y l =>
  intro ns h;cases h with
  | cons n t h =>
   cases h with
   | cons m u h=>exact⟨m :: n :: _,.cons m u (.cons n t h),.swap n m _⟩
 | trans _ _ Qa Tt =>
  intro ns h;obtain⟨ms,h1,h2⟩:=Tt h;obtain⟨ls,h3,h4⟩:=Qa h1;exact⟨ls,h3,h4.trans h2⟩
theorem pV{vs:Ag}{ns:Ac}(h:IntsAre vs ns):vs.length=ns.length:=by
 induction h with
 | nil=>rfl
 | cons n t _ ih=>rw[YA,YA,ih]
theorem yj(val:Nat->Int):∀ i,(firstMet val i).Nodup
 | 0=>.nil
 | i+1=>by
  rw[firstMet_succ];unfold step_dedup;split
  .exact yj val i
  .rename_i h;refine QP.mpr ⟨yj val i,by simp,λa ha b hb e=>?_⟩;rw[XD.mp hb]at e;exact h (wR.mpr ⟨a,ha,by rw[e];simp⟩)
section
variable{prog:Program}{w:World}{A:Around}{E:Ae}{s:Shared}
theorem fb:∀ {l:List (Int × Value)},ElemsOf (intKind prog w) l->∃ ms,IntsAre (l.map (·.2)) ms/\∀ z,z∈ms↔∃ y∈l,(intKind prog w).is z y.2=true
 | [],_=>⟨[],.nil,λz=>⟨λh=>(by cases h),λ⟨y,h,_⟩=>(by cases h)⟩⟩
 | y :: l,h=>by
  obtain⟨ms,h1,h2⟩:=fb h.tail;obtain⟨⟨z,hz,_⟩,_⟩:=h.head;obtain⟨hy,v⟩:=y;obtain⟨u,rfl⟩:=Value.isInt_shape (show Value.isInt z v=true from hz);refine⟨z :: ms,.cons z u h1,λx=>?_⟩;rw[Yj,h2];constructor
  .rintro(e | ⟨y,hy,q⟩)
   .exact⟨_,Ye,e ▸ hz⟩
   .exact⟨y,Yi _ hy,q⟩
  .rintro⟨y,hy,q⟩;rcases Yj.mp hy with e | e
   .rw[e]at q;exact .inl ((intKind prog w).inj _ _ _ q hz)
   .exact .inr ⟨y,e,q⟩
theorem Zg6 {a:Addr} {led:Bool} {S:Int->Bool} {n:Nat} {Q:Ae} (hh:A.handled=none) (hS:SetR prog w s.heap a (!w.params.followText "set-order") S n) (QO:n<64)
  (k:∀(ms:Ac) (out:Ag) r h' tk d c,IntsAre out ms->ms.Pairwise (·<=·)->ms.length=n->(∀ z,z∈ms↔S z=true)->s.heap.objs.size<=r->h'.get? r=some (seqObj "list" out.toArray c)->(∀ c o,s.heap.get? c=some o->h'.get? c=some o)->Q (.ref r) { s with heap:=h',toks:=tk,drawn:=d }) :
  wpAny (model prog w) A (call (.builtin "sorted") [.ref a]) Q E s:=by
 obtain⟨o,es,ep,t,ho,hx,hd,he,hm,hb,hf,hn,hr,hl⟩:=hS;obtain⟨ns,hI,hmem⟩:=fb he;have Ee:sizeLine=16777216:=Uj
 refine Calls.call_function_entry kind_sorted plain_sorted entry_sorted (args_sorted1 _) ?_;unfold Builtin.«sorted»;refine XU (m:=checkCount "sorted" 1 1 _) (Yk ?_);refine XU (ZT5 (A:=A.in1) (by simp[hh]) ⟨o,ho,hx,hd⟩ hf hr hl (by lia) λout h1 tk d hp PL kp=>?_);obtain⟨ls,e9,Wm⟩:=Zp8 hp hI;have lo:=pV e9
 have ll:ls.length=n:=by rw[<- lo,hp.length_eq,Yd,YE,hn]
 refine XU (KR ?_);have hL:(h1.push (seqObj "list" out.toArray 0)).get? h1.objs.size=some (seqObj "list" out.toArray 0):=Ym _ rfl
 refine XU (SA (Mh slot_list_sort ⟨_,hL,rfl⟩ entry_list_sort (list_sort_tree hL e9 (by lia) λres ms b1 b2 b3=>⟨_,rfl,?_⟩) (args_list_sort _)));obtain⟨c,hc⟩:=sortedHeap_at (out:=res) hL;refine Yk ⟨_,rfl,k ms res.toList h1.objs.size _ tk d c b1 b3 (by rw[b2.length_eq,ll]) (λz=>by rw[b2.mem_iff,Wm.mem_iff,hmem,hm]) PL (by rw[Array.toArray_toList];exact hc) λb ob e=>?_⟩;have lt:=Yo (kp b ob e)
 rw[sortedHeap_old (Yx lt) (by rw[size_push'];exact RX lt)];exact WZ _ (kp b ob e)
end
section
variable{X:Cx}{p p2 pos Vp:Pos}{e:Expr}{t:TA}
theorem Inv.drew{X:Cx}{pins:List (Addr × Obj)}{σ:St}{H:Hp}{s:Shared}(I:Inv X pins σ H s)(d:Drawn):Inv X pins σ H { s with drawn:=d } :=
 I.step (g':=s.gens) (d':=d) (t':=s.toks) (h':=s.heap) (ch:=[]) (λb hb=>(by cases hb)) (λb o _ _ _ q _=>q) (λb o _ _ _ q _=>⟨o.slots,q⟩) (λb o _ _ n=>n) (λb o _ q=>⟨o,q⟩) (λb xs q=>q) (λb o u q=>q) (λb ps q=>⟨#[],by rw[q];simp⟩) (λm hm=>hm) I.hok I.bare
def Zd6(K:Ad)(t:TA):TE:=λσ H Q=>t σ H λvs H1=>∃(a:Addr) (ns:Ac),vs=[.ref a]/\SqL K H1 a (ns.map V.int)/\ns.length<64/\∀ ms:Ac,ms.Pairwise (· < ·)->(∀ z,z∈ms↔z∈ns)->∀ l,H1 l=none->Q (.ref l) (upd H1 l (.lst (ms.map V.int)))
theorem Ze4 (K:Ad) (hc:X.calm=true) (g1:Gl X "sorted") (m1:X.mg "sorted"=none) (g2:Gl X "set") (m2:X.mg "set"=none) (ha:PA X [e] t) (hk:X.K=K:=by rfl)
  (he:starEach [e] X.env=[(false,eval e X.env)]:=by rfl)
  (Qk:starEach [.Call (.Name "set" p2) [e] [] Vp] X.env=[(false,eval (.Call (.Name "set" p2) [e] [] Vp) X.env)]:=by rfl) :
  PE X (.Call (.Name "sorted" p) [.Call (.Name "set" p2) [e] [] Vp] [] pos) (Zd6 K t):=by
 subst hk;intro pins s σ H Q I h;refine OZ (QW I g1 m1 Boot.«sorted» ?_);refine jv ?_ (by rw[Qk];rfl) rfl;rw[Qk];show wpAny _ _ (spliced ((false,eval (.Call (.Name "set" p2) [e] [] Vp) X.env) :: backTo pos [])) _ _ s
 refine GC ?_;refine OZ (QW I g2 m2 Boot.«set» ?_);refine Le (thn (ha Vp pins s σ H _ I h) λus s1 ⟨vs,H1,I1,r1,q1⟩=>?_) (by rw[he];rfl) rfl;obtain⟨a,ns,rfl,hq,hn,q⟩:=q1;obtain⟨u,rfl,ru⟩:=Sw r1;obtain rfl:u=Value.ref a:=ru;obtain⟨XW,rv,pl,hz⟩:=I1.list hq;have hi:=ZT rv
 have el:XW.toArray.size=ns.length:=by rw[Ya,<- rv.length,Yd]
 have sb:scanBound=4096:=rfl;refine qc (I.ok.hd hc) pl.isList (ns:=ns) (by simpa using hi) (by lia) λh2 tk hS kp=>?_;refine zS ?_;have fl:=firstMet_length_le (λi=>ns.getD i 0) XW.toArray.size
 refine Zg6 (led:=true) (s:={ s1 with heap:=h2,toks:=tk }) (I.ok.hd hc) hS (by lia) λms out r h3 tk3 d c hI hs hl hmem PL hr kp3=>?_;have em:∀ z,z∈ms↔z∈ns:=λz=>by
  rw[hmem,firstMet_any,el];have e1:(List.range ns.length).map (λi=>ns.getD i 0)=ns:=by
   refine RW λi=>?_;rw[Yq];by_cases c:i<ns.length
   .rw[xa c,Xn c,Tj,WG,Xn c];rfl
   .rw[YW (by rw[OX];lia),YW (by omega)];rfl
  rw[e1];simp
 have TY:ms.Nodup:=(Dn (yj _ _) hl λx hx=>(hmem x).mpr (wR.mpr ⟨x,hx,by simp⟩)).nodup_iff.mpr (yj _ _);have Xd:s1.heap.objs.size<=h2.objs.size:=let ⟨_,_,_,_,e,_⟩:=hS;Oh (Yo e)
 have Dm:s1.heap.objs.size<=r:=Yv Xd PL;have Ny:ms.length<=ns.length:=by rw[hl,<- el];exact fl
 have I2:=(I1.laid (o:=.lst (ms.map V.int)) (h':=h3) (t':=tk3) (λb o e=>kp3 b o (kp b o e)) Dm ⟨by rw[Yd];have:sizeLine=16777216:=Uj;lia,out,c,Qe hI,hr⟩).drew d;exact⟨.ref r,_,I2,rfl,q ms (My.Vl hs TY) em r (I1.hok.fresh Dm)⟩
end
end L2
namespace My
open PySem L2
theorem Yz7{A B:List (Nat × Nat)}{f g:Nat->Nat}{N k:Nat}(hf:∀ i j,i<N->j<N->(f i=f j↔Conn A i j))(hk:∀ i,i<N->f i<k)(hg:∀ a,a<k->g a<N/\f (g a)=a)(hA:InN N A)(hB:InN N B) :
  (∀ i j,i<N->j<N->Conn (A++B) i j)↔∀ a b,a<k->b<k->Conn (B.map λe=>(f e.1,f e.2)) a b:=by
 have gi:∀ i,i<N->Conn A (g (f i)) i:=λi hi=>by obtain⟨h1,h2⟩:=hg (f i) (hk i hi);exact(hf _ _ h1 hi).mp h2
 constructor
 .intro c a b ha hb;obtain⟨a1,a2⟩:=hg a ha;obtain⟨b1,b2⟩:=hg b hb;have q:=(c (g a) (g b) a1 b1).image (f:=f) (fs:=B.map λe=>(f e.1,f e.2)) λe he=>by
   rcases Xx.mp he with q | q
   .obtain⟨e1,e2⟩:=hA e q;rw[(hf _ _ e1 e2).mpr (.edge q)];exact .refl _
   .exact .edge (YD.mpr ⟨e,q,rfl⟩)
  rw[a2,b2]at q;exact q
 .intro c i j hi hj;have up:∀ {i j:Nat},Conn A i j->Conn (A++B) i j:=λq=>q.mono λe he=>Yb _ he
  have q:=(c (f i) (f j) (hk i hi) (hk j hj)).image (f:=g) (fs:=A++B) λe he=>by obtain⟨d,hd,rfl⟩:=YD.mp he;obtain⟨d1,d2⟩:=hB d hd;exact(up (gi _ d1)).trans ((Conn.edge (Yf _ hd)).trans (up (gi _ d2)).symm)
  exact(up (gi i hi)).symm.trans (q.trans (up (gi j hj)))
def PC(n:Int)(ps:Aa)(I O:Ac)(c:Nat):Prop:=∃ L:Ab,L.Nodup/\(∀ l,l∈L↔Ze n ps l/\(∀ z∈I,z∈l)/\∀ z∈O,z∉l)/\L.length=c
theorem PC.uniq{n:Int}{ps:Aa}{I O:Ac}{c d:Nat}(h1:PC n ps I O c)(h2:PC n ps I O d):c=d:=by
 obtain⟨L,a1,a2,a3⟩:=h1;obtain⟨M,b1,b2,b3⟩:=h2
 have:L.Perm M:=(Uk a1 b1).mpr λl=>by rw[a2,b2]
 rw[<- a3,<- b3,this.length_eq]
def XC(m:Nat)(gone:Ac):Ac:=(Wz m).filter λz=>decide (z∉gone)
theorem WX{m:Nat}{gone:Ac}{z:Int}:z∈XC m gone↔(0<=z/\z<(m:Int))/\z∉gone:=by unfold XC;rw[Yc,YS,XE]
theorem e8(m:Nat)(gone:Ac):(XC m gone).Pairwise (· < ·):=(XX.mp (Ho m)).2.filter _
def TX(f:Nat->Nat)(ps:Aa)(R:Ac):Aa:=R.map λz=>((f (Zt ps z).1:Int),(f (Zt ps z).2:Int))
def Ru(R:Ac)(S:Ac):Ac:=S.map λt=>R.getD t.toNat 0
theorem Dl{R S:Ac}(hR:R.Pairwise (· < ·))(hS:IsSet R.length S):(Ru R S).Pairwise (· < ·):=by
 obtain⟨a1,a2⟩:=XX.mp hS;refine Mm.mpr (a2.imp_of_mem λ{a b} ha hb VI=>?_);have h1:=a1 a ha
 have h2:=a1 b hb;rw[WG,WG,Xn (by lia),Xn (by lia)];exact Ic.mp hR a.toNat b.toNat (by omega) (by omega) (by grind)
theorem Dk{R S:Ac}(hS:IsSet R.length S){z:Int}(h:z∈Ru R S):z∈R:=by
 obtain⟨t,ht,rfl⟩:=YD.mp h;have h1:=hS.all t ht
 rw[WG,Xn (by lia)];exact Mi _
theorem pU{f:Nat->Nat}{ps:Aa}{R S:Ac}(hS:IsSet R.length S):XT (TX f ps R) S=(XT ps (Ru R S)).map λe=>(f e.1,f e.2):=by
 unfold XT Ru;rw[Me,Me];refine YT λt ht=>?_;have h1:=hS.all t ht
 have e:(TX f ps R).getD t.toNat (0,0)=((f (Zt ps (R.getD t.toNat 0)).1:Int),(f (Zt ps (R.getD t.toNat 0)).2:Int)):=by unfold TX;rw[WG,Yq,WG,Xn (by omega)];rfl
 rw[e];rfl
def Sm(m:Nat)(I R S:Ac):Ac:=(Wz m).filter λz=>decide (z∈I\/z∈Ru R S)
theorem pT(m:Nat)(I R S:Ac):(Sm m I R S).Pairwise (· < ·):=(XX.mp (Ho m)).2.filter _
theorem WY{m:Nat}{I R S:Ac}{z:Int}:z∈Sm m I R S↔(0<=z/\z<(m:Int))/\(z∈I\/z∈Ru R S):=by unfold Sm;rw[Yc,YS,XE]
section
variable{n:Int}{ps:Aa}{I O S:Ac}{f g:Nat->Nat}{k:Nat}
theorem pS(hI:IsSet ps.length I)(hS:IsSet (XC ps.length (I++O)).length S):(Sm ps.length I (XC ps.length (I++O)) S).Perm (I++Ru (XC ps.length (I++O)) S):=by
 have ua:=Dl (e8 ps.length (I++O)) hS;refine(Uk (JB (pT _ _ _ _)) (QP.mpr ⟨hI.nodup,JB ua,λa ha b hb e=>?_⟩)).mpr λz=>?_
 .have:=(WX.mp (Dk hS hb)).2
  exact this (Yb _ (e ▸ ha))
 .rw[WY,Xx];refine⟨λh=>h.2,λh=>⟨?_,h⟩⟩;rcases h with q | q
  .exact hI.all z q
  .exact(WX.mp (Dk hS q)).1
theorem eZ(g0:Zu n ps)(hI:IsSet ps.length I)(hf:∀ i j,i<n.toNat->j<n.toNat->(f i=f j↔Conn (XT ps I) i j))(hk:∀ i,i<n.toNat->f i<k)(hg:∀ a,a<k->g a<n.toNat/\f (g a)=a)(hS:IsSet (XC ps.length (I++O)).length S) :
  ((∀ i j,i<n.toNat->j<n.toNat->Conn (XT ps (Sm ps.length I (XC ps.length (I++O)) S)) i j)↔∀ a b,a<k->b<k->Conn (XT (TX f ps (XC ps.length (I++O))) S) a b):=by
 have hp:=pS (O:=O) hI hS;have hA:=ZK (ns:=I) g0 hI.all
 have hB:=ZK (ns:=Ru (XC ps.length (I++O)) S) g0 λz hz=>(WX.mp (Dk hS hz)).1;have e:XT ps (I++Ru (XC ps.length (I++O)) S)=XT ps I++XT ps (Ru (XC ps.length (I++O)) S):=by unfold XT;exact YL
 rw[pU hS,<- Yz7 hf hk hg hA hB,<- e];exact⟨λc i j hi hj=>(LJ λz=>hp.mem_iff).mp (c i j hi hj),λc i j hi hj=>(LJ λz=>hp.mem_iff).mpr (c i j hi hj)⟩
theorem Dj{T:Ac}(hI:IsSet ps.length I)(hT:IsSet ps.length T)(h1:∀ z∈I,z∈T)(h2:∀ z∈O,z∉T):∃ S,IsSet (XC ps.length (I++O)).length S/\T=Sm ps.length I (XC ps.length (I++O)) S:=by
 refine⟨(Wz (XC ps.length (I++O)).length).filter λt=>decide ((XC ps.length (I++O)).getD t.toNat 0∈T),XX.mpr ⟨λt ht=>XE.mp (Yc.mp ht).1,(XX.mp (Ho _)).2.filter _⟩,rX (XX.mp hT).2 (pT _ _ _ _) λz=>?_⟩;rw[WY];constructor
 .intro hz;refine⟨hT.all z hz,?_⟩;by_cases c:z∈I
  .exact .inl c
  .right;have hR:z∈XC ps.length (I++O):=WX.mpr ⟨hT.all z hz,λq=>by
    rcases Xx.mp q with q | q
    .exact c q
    .exact h2 z q hz⟩
   obtain⟨t,ht⟩:=VF hR;have e:(XC ps.length (I++O)).getD ((t:Int)).toNat 0=z:=by rw[YC];exact ZW ht
   refine YD.mpr ⟨(t:Int),Yc.mpr ⟨XE.mpr ⟨by lia,by have:=(Xs.mp ht).1;omega⟩,Yn (by rw[e];exact hz)⟩,e⟩
 .rintro⟨_,q | q⟩
  .exact h1 z q
  .obtain⟨t,ht,rfl⟩:=YD.mp q;exact Yu (Yc.mp ht).2
theorem ZH8{S':Ac}(hS:IsSet (XC ps.length (I++O)).length S)(Tv:IsSet (XC ps.length (I++O)).length S')(e:Sm ps.length I (XC ps.length (I++O)) S=Sm ps.length I (XC ps.length (I++O)) S'):S=S':=by
 have key:∀ {A B:Ac},IsSet (XC ps.length (I++O)).length A->IsSet (XC ps.length (I++O)).length B->Sm ps.length I (XC ps.length (I++O)) A=Sm ps.length I (XC ps.length (I++O)) B->∀ t,t∈A->t∈B:=λ{A B} hA hB e t ht=>by
  have h1:=hA.all t ht;have hm:(XC ps.length (I++O)).getD t.toNat 0∈Ru (XC ps.length (I++O)) A:=YD.mpr ⟨t,ht,rfl⟩
  have hR:=WX.mp (Dk hA hm);have h2:(XC ps.length (I++O)).getD t.toNat 0∈Sm ps.length I (XC ps.length (I++O)) B:=e ▸ WY.mpr ⟨hR.1,.inr hm⟩
  rcases(WY.mp h2).2 with q | q
  .exact absurd (Yb _ q) hR.2
  .obtain⟨u,hu,e2⟩:=YD.mp q;have h3:=hB.all u hu
   rw[WG,WG,Xn (by lia),Xn (by lia)]at e2
   have:=Hx (JB (e8 ps.length (I++O))) (i:=u.toNat) (j:=t.toNat) (Xn (by omega)) (by rw[Xn (by omega)];exact Xw some e2.symm)
   have e3:u=t:=by lia
   exact e3 ▸ hu
 exact rX (XX.mp hS).2 (XX.mp Tv).2 λt=>⟨key hS Tv e t,key Tv hS e.symm t⟩
theorem yi(f:Nat->Nat)(ps:Aa)(R:Ac):(TX f ps R).length=R.length:=Yd ..
theorem Di(g0:Zu n ps)(hI:IsSet ps.length I)(Vk:∀ z∈I,z∉O)(hf:∀ i j,i<n.toNat->j<n.toNat->(f i=f j↔Conn (XT ps I) i j))(hk:∀ i,i<n.toNat->f i<k)(hg:∀ a,a<k->g a<n.toNat/\f (g a)=a)(hn:(k:Int)+(I.length:Int)=n){c:Nat}(h:TC k (TX f ps (XC ps.length (I++O))) c):PC n ps I O c:=by
 obtain⟨L,h1,h2,h3⟩:=h;have hs:∀ l∈L,IsSet (XC ps.length (I++O)).length l:=λl hl=>yi f ps _ ▸ ((h2 l).mp hl).1
 have len:∀ {S:Ac},IsSet (XC ps.length (I++O)).length S->(Sm ps.length I (XC ps.length (I++O)) S).length=I.length+S.length:=λ{S} hS=>by rw[(pS hI hS).length_eq,Xt];unfold Ru;rw[Yd]
 have iff:∀ {S:Ac},IsSet (XC ps.length (I++O)).length S->(Ze n ps (Sm ps.length I (XC ps.length (I++O)) S)↔Ze k (TX f ps (XC ps.length (I++O))) S):=λ{S} hS=>by
  have l:=len hS;have q:=eZ (O:=O) g0 hI hf hk hg hS
  constructor
  .rintro⟨a1,a2,a3⟩;exact⟨by rw[yi];exact hS,by lia,λa b ha hb=>q.mp a3 a b (by lia) (by lia)⟩
  .rintro⟨a1,a2,a3⟩;exact⟨XX.mpr ⟨λz hz=>(WY.mp hz).1,pT _ _ _ _⟩,by lia,q.mpr λa b ha hb=>a3 a b (by lia) (by lia)⟩
 refine⟨L.map (Sm ps.length I (XC ps.length (I++O))),Mm.mpr (h1.imp_of_mem λ{a b} ha hb VI e=>VI (ZH8 (hs a ha) (hs b hb) e)),λT=>?_,by rw[Yd,h3]⟩;rw[YD];constructor
 .rintro⟨S,hS,rfl⟩;refine⟨(iff (hs S hS)).mpr ((h2 S).mp hS),λz hz=>WY.mpr ⟨hI.all z hz,.inl hz⟩,λz hz q=>?_⟩;rcases(WY.mp q).2 with q | q
  .exact Vk z q hz
  .exact(WX.mp (Dk (hs S hS) q)).2 (Yf _ hz)
 .rintro⟨hT,q1,q2⟩;obtain⟨S,hS,rfl⟩:=Dj hI hT.1 q1 q2;exact⟨S,(h2 S).mpr ((iff hS).mp hT),rfl⟩
theorem eY(g0:Zu n ps)(gone:Ac)(hk:∀ i,i<n.toNat->f i<k)(k1:1<=k)(kn:k<=n.toNat):Zu k (TX f ps (XC ps.length gone)):=by
 obtain⟨g1,g2,g3,g4⟩:=g0;refine⟨by lia,by lia,?_,λp hp=>?_⟩
 .rw[yi]
  have:(XC ps.length gone).length<=(Wz ps.length).length:=YB ..
  have:=(Ho ps.length).len
  lia
 .obtain⟨z,hz,rfl⟩:=YD.mp hp;have hz1:=(WX.mp hz).1
  obtain⟨q,hq⟩:∃ q,ps[z.toNat]?=some q:=⟨_,Xn (by lia)⟩;obtain⟨e1,e2,e3,e4⟩:=g4 q (Xg hq);have ee:Zt ps z=(q.1.toNat,q.2.toNat):=by unfold Zt;rw[ZW hq]
  rw[ee];have a:=hk q.1.toNat (by grind)
  have b:=hk q.2.toNat (by grind);exact⟨by show(0:Int)<=(f q.1.toNat:Int);lia,by show(f q.1.toNat:Int)<(k:Int);grind,by show(0:Int)<=(f q.2.toNat:Int);lia,by show(f q.2.toNat:Int)<(k:Int);grind⟩
theorem pR(g0:Zu n ps)(hI:IsSet ps.length I)(hf:∀ i j,i<n.toNat->j<n.toNat->(f i=f j↔Conn (XT ps I) i j))(hk:∀ i,i<n.toNat->f i<k)(hg:∀ a,a<k->g a<n.toNat/\f (g a)=a)(k1:1<=k)(kn:k<=n.toNat)(hn:n<(k:Int)+(I.length:Int)):PC n ps I O 0:=by
 refine⟨[],.nil,λT=>⟨λh=>(by cases h),λ⟨hT,q1,q2⟩=>?_⟩,rfl⟩;obtain⟨S,hS,rfl⟩:=Dj hI hT.1 q1 q2;have q:=(eZ (O:=O) g0 hI hf hk hg hS).mp hT.2.2
 have gg:=eY (f:=f) g0 (I++O) hk k1 kn;have l:=qq gg (by rw[yi];exact hS) λa b ha hb=>q a b (by grind) (by grind)
 have l2:=hT.2.1;rw[(pS hI hS).length_eq,Xt]at l2;unfold Ru at l2;rw[Yd]at l2;omega
end
def Vj:Ac->Int->Nat
 | [],_=>0
 | x :: l,z=>if x=z then 0 else Vj l z+1
theorem Jm:∀ {l:Ac} {z:Int},z∈l->l[Vj l z]?=some z
 | x :: l,z,h=>by
  unfold Vj;by_cases c:x=z
  .rw[if_pos c,c];rfl
  .rw[if_neg c];exact Jm ((Yj.mp h).resolve_left λe=>c e.symm)
theorem pQ{l:Ac}{z:Int}(h:z∈l):Vj l z<l.length:=(Xs.mp (Jm h)).1
theorem pP{l:Ac}{z y:Int}(hz:z∈l)(hy:y∈l):Vj l z=Vj l y↔z=y:=by
 refine⟨λe=>?_,λe=>by rw[e]⟩;have h1:=Jm hz
 rw[e,Jm hy]at h1;exact(Yg h1).symm
theorem pO{l:Ac}(hn:l.Nodup){i:Nat}{z:Int}(h:l[i]?=some z):Vj l z=i:=Hx hn (Jm (Xg h)) h
theorem Dh{M:Ac}{i:Nat}(h:i<M.length):mk M i∈M:=by unfold mk;rw[WG,Xn h];exact Mi h
section
variable{N:Nat}{es:List (Nat × Nat)}{F:Ac}
theorem Dg(h:InN N es)(hF:F.Pairwise (· < ·))(hm:∀ z,z∈F↔z∈Xu N es) :
  ∃ g:Nat->Nat,(∀ i j,i<N->j<N->(Vj F (mk (Xu N es) i)=Vj F (mk (Xu N es) j)↔Conn es i j))/\(∀ i,i<N->Vj F (mk (Xu N es) i)<F.length)/\∀ a,a<F.length->g a<N/\Vj F (mk (Xu N es) (g a))=a:=by
 have hl:=ZB N es;have pN:∀ i,i<N->mk (Xu N es) i∈F:=λi hi=>(hm _).mpr (Dh (by lia))
 have ex:∀ a,∃ i,a<F.length->i<N/\Vj F (mk (Xu N es) i)=a:=λa=>by
  by_cases c:a<F.length
  .have q:=(hm _).mp (Mi c);obtain⟨i,hi⟩:=VF q;have VM:=(Xs.mp hi).1
   refine⟨i,λ_=>⟨by lia,?_⟩⟩;have e:mk (Xu N es) i=F[a]:=by unfold mk;exact ZW hi
   rw[e];exact pO (JB hF) (Xn c)
  .exact⟨0,λh=>absurd h c⟩
 refine⟨λa=>Classical.choose (ex a),λi j hi hj=>?_,λi hi=>pQ (pN i hi),λa ha=>Classical.choose_spec (ex a) ha⟩;rw[pP (pN i hi) (pN j hj)];exact RH h hi hj
theorem pM{M:Ac}:∀(i:Nat),∃ p,p<=i/\Wu M p=true/\mk M p=mk M i:=by
 intro i
 induction i using Nat.strongRecOn with
 | _ i ih =>
  by_cases c:Wu M i=true
  .exact⟨i,XN _,c,rfl⟩
  .obtain⟨j,hj,e⟩:∃ j,j<i/\mk M j=mk M i:=Yt λno=>c (XA.mpr λj hj e=>no ⟨j,hj,e⟩);obtain⟨p,h1,h2,h3⟩:=ih j hj;exact⟨p,by lia,h2,h3.trans e⟩
theorem Zx8{M:Ac}(hF:F.Pairwise (· < ·))(hm:∀ z,z∈F↔z∈M):F.length=cnt M:=by
 have e:F.Perm ((VE M M.length).map (mk M)):=by
  refine(Uk (JB hF) ?_).mpr λz=>?_
  .refine Mm.mpr ?_;unfold VE;refine(GP.filter (Wu M)).imp_of_mem λ{a b} ha hb VI=>?_;exact XA.mp (Yc.mp hb).2 a VI
  .rw[hm,YD];constructor
   .intro hz;obtain⟨i,hi⟩:=VF hz;have VM:=(Xs.mp hi).1
    obtain⟨p,h1,h2,h3⟩:=pM (M:=M) i;refine⟨p,Yc.mpr ⟨YJ.mpr (by lia),h2⟩,h3.trans ?_⟩;unfold mk;exact ZW hi
   .rintro⟨p,hp,rfl⟩;exact Dh (YJ.mp (Yc.mp hp).1)
 rw[e.length_eq,Yd];rfl
theorem Zq4(h:InN N es)(hN:1<=N)(hF:F.Pairwise (· < ·))(hm:∀ z,z∈F↔z∈Xu N es):1<=F.length/\F.length<=N/\N<=F.length+es.length:=by
 have e:=Zx8 hF hm;have hl:=ZB N es
 have e2:=rQ (yY (n:=N) (es:=es) h);have e3:=yK es h
 have e4:=yJ (M:=Xu N es) (by lia);have e5:cnt (Xu N es)<=N:=by unfold cnt VE;refine Yv (YB ..) ?_;rw[OX];lia
 grind
end
def FD(A B:Ac)(t:Int):Prop:=t∈A/\t∉B/\∀ s,s<t->(s∈A↔s∈B)
theorem pL:∀ {A B:Ac},A.Pairwise (· < ·)->B.Pairwise (· < ·)->A.length=B.length->(HT.lexLt A B=true↔∃ t,FD A B t)
 | [],[],_,_,_=>⟨λh=>(by cases h),λ⟨t,h,_⟩=>(by cases h)⟩
 | x :: A,y :: B,hA,hB,hl=>by
  obtain⟨a1,a2⟩:=YO.mp hA;obtain⟨b1,b2⟩:=YO.mp hB;have Sy:A.length=B.length:=UL hl
  show(if x=y then HT.lexLt A B else decide (x<y))=true↔_;by_cases c:x=y
  .subst c;rw[if_pos rfl,pL a2 b2 Sy];constructor
   .rintro⟨t,h1,h2,h3⟩;have tx:=a1 t h1
    refine⟨t,Yi _ h1,λq=>?_,λs hs=>?_⟩
    .rcases Yj.mp q with e | e
     .lia
     .exact h2 e
    .rw[Yj,Yj,h3 s hs]
   .rintro⟨t,h1,h2,h3⟩;have tx:t≠x:=λe=>h2 (e ▸ Ye)
    have Hg:=(Yj.mp h1).resolve_left tx;refine⟨t,Hg,λq=>h2 (Yi _ q),λs hs=>?_⟩
    have:=h3 s hs
    rw[Yj,Yj]at this;by_cases e:s=x
    .rw[e];exact⟨λq=>absurd (a1 x q) (Int.lt_irrefl x),λq=>absurd (b1 x q) (Int.lt_irrefl x)⟩
    .exact⟨λq=>(this.mp (.inr q)).resolve_left e,λq=>(this.mpr (.inr q)).resolve_left e⟩
  .rw[if_neg c,YS];constructor
   .intro h;refine⟨x,Ye,λq=>?_,λs hs=>⟨λq=>?_,λq=>?_⟩⟩
    .rcases Yj.mp q with e | e
     .exact c e
     .have:=b1 x e;lia
    .rcases Yj.mp q with e | e
     .lia
     .have:=a1 s e;lia
    .rcases Yj.mp q with e | e
     .lia
     .have:=b1 s e;lia
   .rintro⟨t,h1,h2,h3⟩;have tx:x<=t:=by
     rcases Yj.mp h1 with e | e
     .lia
     .have:=a1 t e;lia
    refine Yt λhc=>?_;have hyx:y<x:=by lia
    have:=(h3 y (by grind)).mpr Ye
    rcases Yj.mp this with e | e
    .lia
    .have:=a1 y e;grind
theorem eX{α:Type}[DecidableEq α]:∀ {l m:List α},l.Nodup->(∀ x∈l,x∈m)->l.length<=m.length
 | [],_,_,_=>Yl _
 | x :: l,m,hn,hs=>by
  have hx:=hs x Ye;obtain⟨h1,h2⟩:=QZ.mp hn
  have:=eX (m:=m.erase x) h2 λy hy=>(xc λe=>h1 (by rw[<- e];exact hy)).mpr (hs y (Yi _ hy))
  rw[xk hx]at this
  have:=QB hx
  rw[YA];grind
theorem PK{s rest:TS}{D:Ends}{σ:L2.St}{H:Hp}(P:L2.St->Hp->Prop)(h1:∀ σ' H',P σ' H'->rest D σ' H')(h2:∀ K:L2.St->Hp->Prop,(∀ σ' H',P σ' H'->K σ' H')->s { D with nx:=K } σ H):Vv s rest D σ H:=h2 _ h1
theorem eW{m:Nat}(hm:m<=30):∀ k,(Qc (m:Int) k).length<=30 ^ k
 | 0=>XN 1
 | k+1=>by
  have h1:=gy (m:=m) (Qc (m:Int) k) λs hs=>(We.mp hs).2;have h2:=eW hm k
  have h3:m * (Qc (m:Int) k).length<=30 * 30 ^ k:=KU hm h2;rw[Nat.pow_succ,zE];exact Yv h1 h3
theorem Jl{n:Int}{ps:Aa}{c:Nat}(g:Zu n ps)(h:TC n ps c):c<10 ^ 20:=by
 obtain⟨L,hn,hm,rfl⟩:=h;obtain⟨g1,g2,g3,_⟩:=g;refine GK (m:=30 ^ 13) (Yv (eX (m:=Qc (ps.length:Int) (n - 1).toNat) hn λx hx=>We.mpr ⟨?_,((hm x).mp hx).1⟩) (Yv (eW (by lia) _) (xg (by decide) (by omega)))) (by decide)
 have:=((hm x).mp hx).2.1
 lia
theorem pK{n:Int}{ps:Aa}(g:Zu n ps):∃ L:Ab,(∀ l,l∈L↔Ze n ps l)/\L.Pairwise Nk:=⟨UJ n.toNat ps (n - 1).toNat,λ_=>rN g,(gr _ _).filter _⟩
def Df(ps:Aa):List (Nat × Nat):=ps.map λp=>(p.1.toNat,p.2.toNat)
theorem eV(ps:Aa){e:Nat × Nat}:e∈XT ps (Wz ps.length)↔e∈Df ps:=by
 unfold XT Df;rw[YD,YD];constructor
 .rintro⟨z,hz,rfl⟩;obtain⟨z0,z1⟩:=XE.mp hz;have hp:ps[z.toNat]?=some (ps[z.toNat]'(by lia)):=Xn (by omega)
  refine⟨_,Xg hp,?_⟩;rw[ZW hp]
 .rintro⟨p,hp,rfl⟩;obtain⟨i,hi⟩:=VF hp
  have:=(Xs.mp hi).1
  refine⟨(i:Int),XE.mpr (by lia),?_⟩;rw[YC,ZW hi]
theorem Rt{n:Int}{ps:Aa}:Np n ps↔∀ i j,i<n.toNat->j<n.toNat->Conn (Df ps) i j :=
 ⟨λh i j hi hj=>(h i j hi hj).mono λe he=>(eV ps).mp he,λh i j hi hj=>(h i j hi hj).mono λe he=>(eV ps).mpr he⟩
end My
namespace L2
open PySem PySem.Spec PyProof.Rows
structure CompScopeD (sc0:Scope) (N N':List Str) (o:Nat) (fr:List Nat) (scope:Scope) (xo:Str):Prop where
 kind:scope.kind=.function
 one:(scope.names.filter λy=>y.2 == .cell)=[(xo,.cell)]
 loc:(scope.names.all λy=>y.2 != .local || scope.names.lookup y.1 == some .local)=true
 free:(scope.names.all λy=>y.2 != .free || (y.1 != xo && (sc0.names.lookup y.1 == some .cell || sc0.names.lookup y.1 == some .free)))=true
 len:N'.length=o+fr.length
 sees:((List.range fr.length).all λj=>match fr[j]? with
  | none=>false
  | some y=>match N[y]? with
   | none=>false
   | some x=>N'[o+j]? == some x && scope.names.lookup x == some .free)=true
end L2
namespace My
open PySem L2
def ev(b:Int):Ac->Int
 | []=>0
 | d :: l=>d+b * ev b l
abbrev Jk(ls:Ac)(z:Int):Int:=ls.getD z.toNat 0
def lwS(ls:Ac)(x:Int):Ac:=(Wz ls.length).filter λz=>decide (Jk ls z<x)
def mA(N:Nat)(ps:Aa)(ls:Ac)(x:Int):Ac:=Xu N (XT ps (lwS ls x))
def lvl(ls:Ac)(x:Int)(i:Nat):Ac:=(Wz i).filter λz=>decide (Jk ls z=x)
def De(ls T:Ac):Int:=(T.map (Jk ls)).sum
section
variable{n:Int}{ps:Aa}{T:Ac}(g:Zu n ps)
include g
theorem Zv9{W:Ac}(hT:Ze n ps T)(hW:Ze n ps W)(h:∀ z∈T,z∈W):T.Perm W:=by
 have:=Dn (l:=W) hT.1.nodup (by have:=hT.2.1;have:=hW.2.1;lia) h
 exact this.symm
end
theorem Yz8{n:Int}{ps:Aa}{T W:Ac}(hT:Ze n ps T)(hW:Ze n ps W):(T.filter λy=>decide (y∉W)).length=(W.filter λy=>decide (y∉T)).length:=by
 have e1:=gj (λy=>decide (y∈W)) T;have e2:=gj (λy=>decide (y∈T)) W
 have p:(T.filter λy=>decide (y∈W)).Perm (W.filter λy=>decide (y∈T)):=(Uk (hT.1.nodup.filter _) (hW.1.nodup.filter _)).mpr λy=>by rw[Yc,Yc,YS,YS];exact And.comm
 have f1:(T.filter λy=>decide (y∉W))=T.filter λy=>!decide (y∈W):=Ml λy _=>by simp
 have f2:(W.filter λy=>decide (y∉T))=W.filter λy=>!decide (y∈T):=Ml λy _=>by simp
 have:=p.length_eq
 have h1:=hT.2.1;have h2:=hW.2.1
 rw[f1,f2];lia
end My
namespace HT
open PySem PyProof.Rows
section
def ltP(x y:Int × Ac):Bool:=decide (x.1<y.1) || (decide (x.1=y.1) && lexLt x.2 y.2)
end
end HT
namespace My
open PySem L2
def bkD(d:Int):Int:=if d % 2=0 then d+1 else d - 1
def eS(ps:Aa)(p:Int):Nat->Ac
 | 0=>[]
 | i+1=>eS ps p i++(if (ps.getD i (0,0)).1=p then [2 * (i:Int)] else [])++(if (ps.getD i (0,0)).2=p then [2 * (i:Int)+1] else [])
def dts(ps:Aa)(p:Int):Ac:=eS ps p ps.length
def VT(n:Nat)(ps:Aa)(ts:Ab):Prop:=ts.length=n/\∀(p:Nat) (row:Ac),ts[p]?=some row->row.Perm (dts ps (p:Int))
def bhR(row:Ac)(k:Nat):Aa:=(List.range k).map λi=>(bkD (row.getD i 0),row.getD ((i+1) % row.length) 0)
def bhL(ts:Ab):Aa:=ts.flatMap λrow=>bhR row row.length
def Orb(B:Aa)(d:Int)(row:Ac):Prop:=row[0]?=some d/\row.Nodup/\(∀ i x y,row[i]?=some x->row[i+1]?=some y->(x,y)∈B)/\∀ x,row[row.length - 1]?=some x->(x,d)∈B
def eR(B:Aa):Nat->Ab->Prop
 | 0,R=>R=[]
 | k+1,R=>∃ R',eR B k R'/\(((k:Int)∈R'.flatten/\R=R')\/((k:Int)∉R'.flatten/\∃ row,Orb B k row/\R=R'++[row]))
structure JagAt (H0:Hp) (r:Addr) (H:Hp) (ys:List V) (L:Ab):Prop where
 tab:H r=some (.lst ys)
 rows:Bears (LiV r H) ys L
 nd:ys.Nodup
 new:∀ A,V.ref A∈ys->H0 A=none
def RdW(ps:Aa)(ts:Ab)(R:Ab):Prop:=(ps.length=0/\R=[[]])\/(0<ps.length/\eR (bhL ts) (2 * ps.length) R)
def plR(row:Ac)(k:Int):Aa:=row.map λd=>(d,k)
def eQ(ts:Ab):Nat->Aa
 | 0=>[]
 | i+1=>eQ ts i++plR (ts.getD i []) i
def Flat(n:Int)(ps:Aa)(R:Ab):Prop:=Np n ps/\n - (ps.length:Int)+(R.length:Int)=2
def eO(R:Ab)(d:Int):Int:=((eQ R R.length).find? λp=>decide (p.1=d)).elim 0 (·.2)
def Hf(R:Ab)(m:Nat):Aa:=(List.range m).map λ(k:Nat)=>(eO R (2 * (k:Int)),eO R (2 * (k:Int)+1))
section
variable{one d0 d1:Int}{other:Option Int}
def iI(one:Int)(other:Option Int)(d0 d1 y:Int):Int:=if y=one then d0 else if some y=other then d1 else y
end
structure Back (n:Nat) (ps:Aa) (ts R D:Ab):Prop where
 flat:Flat n ps R
 few:R.length<=14
 rows:∀ l∈R,l.length<64
 good:Zu R.length (Hf R ps.length)
 vt:VT R.length (Hf R ps.length) R
 rds:RdW (Hf R ps.length) R D
 eN:Flat R.length (Hf R ps.length) D
 len:D.length=n
 good2:Zu n (Hf D ps.length)
 tc:∀ c,TC n ps c->TC n (Hf D ps.length) c
 nd:D.flatten.Nodup
 all:∀ x:Int,0<=x->x<2 * (ps.length:Int)->x∈D.flatten
 small:D.flatten.length<=100
def jn(c:Nat):List (List Nat)->List Nat
 | []=>[]
 | [a]=>a
 | a :: b :: l=>a++c :: jn c (b :: l)
def Told(l:Ac):Prop:=∀ z∈l,-(10 ^ 60)<z/\z<(10:Int) ^ 60
abbrev Tr:=Int × Aa × Ac
def eM(T:Tr):Prop:=Zu T.1 T.2.1/\T.2.2.length=T.2.1.length/\Told T.2.2
def pJ(C:Addr)(H:Hp)(v:V)(T:Tr):Prop:=∃ t w a,v=.ref t/\H t=some (.tup [.ref w,.ref a])/\WebAt C H w T.1 T.2.1/\H a=some (.lst (IL T.2.2))
def pI(H:Hp)(v:V)(T:Tr):Prop:=∃ p l b xs,v=.ref p/\H p=some (.tup [.int T.1,.ref l,.ref b])/\H l=some (.lst xs)/\PairsV H xs T.2.1/\H b=some (.lst (IL T.2.2))
def pH (C:Addr) (H:Hp) (x d:Addr) (zs:List V):Prop:=∃ dx,H x=some (.ins C dx (XO "stages" (.ref d) []))/\H d=some (.lst zs)
structure DSt (CD C:Addr) (H:Hp) (x d pA:Addr) (zs ys:List V) (L M:List Tr):Prop where
 desk:pH CD H x d zs
 st:Bears (pJ C H) zs L
 pst:H pA=some (.lst ys)
 past:Bears (pI H) ys M
 okL:∀ T∈L,eM T
 okM:∀ T∈M,eM T
 posL:0<L.length
 posM:0<M.length
end My
namespace L2
open PySem PySem.Spec PyProof.Rows
section
variable{H:Hp}{e C:Addr}{fl:Value}{h0:Heap}
structure FlyM (h0:Heap) (H:Hp) (e C:Addr) (fl:Value) (h:Heap):Prop where
 ex:∃ oe vs T oT ts a0,h.get? e=some oe/\oe.cls=.ref C/\oe.data=.fields vs/\vs[0]?=some a0/\vs[1]?=some (.ref T)/\T≠e/\h.get? T=some oT/\oT.data=.fields ts/\ts[3]?=some fl/\h0.get? T=none/\H T=none
 new:h0.get? e=none
 free:H e=none
end
end L2
namespace My
open PySem PySem.W PyProof.Rows
def US{α:Type}(c:Nat->Nat->Bool):KasT α->α
 | .ret a=>a
 | .ask i j k=>US c (k (c i j))
theorem Rr{α β:Type}{c:Nat->Nat->Bool}{f:α->KasT β}:∀ t:KasT α,US c (t.bind f)=US c (f (US c t))
 | .ret _=>rfl
 | .ask i j k=>Rr (k (c i j))
section
variable{n:Nat}{key:Nat->Int}
def Ahd(key:Nat->Int)(i j:Nat):Prop:=key i<key j\/(key i=key j/\i<j)
theorem Ahd.trans{i j k:Nat}(h1:Ahd key i j)(h2:Ahd key j k):Ahd key i k:=by unfold Ahd at *;grind
structure Ord (n m:Nat) (p:Array Nat):Prop where
 perm:p.Perm (List.range n).toArray
 suf:∀ i,m<=i->i<n->p.getD i 0=i
theorem Ord.size{m:Nat}{p:Array Nat}(h:Ord n m p):p.size=n:=by rw[h.perm.size_eq];simp
theorem Na{p:Array Nat}{i:Nat}(h:i<p.size):p[i]?=some (p.getD i 0):=by rw[Yz,YG h];rfl
theorem Ord.inj{m:Nat}{p:Array Nat}(h:Ord n m p){i j:Nat}(hi:i<n)(hj:j<n)(e:p.getD i 0=p.getD j 0):i=j:=by
 have hn:p.toList.Nodup:=(Oi.mp h.perm).nodup_iff.mpr List.nodup_range;have hs:=h.size
 have e1:=Na (p:=p) (i:=i) (by lia);have e2:=Na (p:=p) (i:=j) (by lia)
 rw[<- YR]at e1 e2;exact(GF (i:=i) (j:=j) (by rw[YE];omega) hn).mp (by rw[e1,e2,e])
theorem Ord.lt{m:Nat}{p:Array Nat}(h:Ord n m p)(hm:m<=n){i:Nat}(hi:i<m):p.getD i 0<m:=by
 by_cases hc:p.getD i 0<m
 .exact hc
 .have hs:=h.size;have hb:p.getD i 0<n:=by have e1:=Na (p:=p) (i:=i) (by grind);rw[<- YR]at e1;exact YJ.mp ((Oi.mp h.perm).mem_iff.mp (Xg e1))
  have e:=h.inj (by lia) hb (h.suf _ (by omega) hb).symm;grind
theorem Ord.mono{m k:Nat}{p:Array Nat}(h:Ord n m p)(hk:m<=k):Ord n k p:=⟨h.perm,λi hi=>h.suf i (by lia)⟩
theorem OA{p:Array Nat}{i j k:Nat}(hj:j<=p.size):(kas_rev p i j).getD k 0=if i<=k/\k<j then p.getD (i+j - 1 - k) 0 else p.getD k 0:=by unfold kas_rev;rw[Yz,getElem?_mirror_all hj,apply_ite (λo:Option Nat=>o.getD 0),<- Yz,<- Yz]
theorem Ord.rev{m i j:Nat}{p:Array Nat}(h:Ord n m p)(hj:j<=m)(hm:m<=n):Ord n m (kas_rev p i j):=by have hs:=h.size;refine⟨(mirror_perm _ _ _ _).trans h.perm,λk hk hn=>?_⟩;rw[OA (by lia),if_neg (by lia)];exact h.suf k hk hn
def Asc(key:Nat->Int)(m:Nat)(p:Array Nat):Prop:=∀ i j,i<j->j<m->Ahd key (p.getD i 0) (p.getD j 0)
theorem Asc.more{m:Nat}{p:Array Nat}(hm:1<=m)(h:Asc key m p)(h2:Ahd key (p.getD (m - 1) 0) (p.getD m 0)):Asc key (m+1) p:=λi j UE hj=>by
 by_cases e:j=m
 .subst e;by_cases e2:i=j - 1
  .rw[e2];exact h2
  .exact(h i (j - 1) (by lia) (by omega)).trans h2
 .exact h i j UE (by lia)
theorem Jj:∀(f m:Nat) (p:Array Nat),m+f=n->1<=m->Ord n m p->Asc key m p->∃ k,US (λi j=>decide (key i<key j)) (kas_asc p f m)=k/\m<=k/\k<=n/\Asc key k p/\(k<n->key (p.getD k 0)<key (p.getD (k - 1) 0))
 | 0,m,p,hf,h1,ho,ha=>⟨m,rfl,XN _,by lia,ha,λh=>by lia⟩
 | f+1,m,p,hf,h1,ho,ha=>by
  show ∃ k,US _ (if decide (key (p.getD m 0)<key (p.getD (m - 1) 0))=true then KasT.ret m else kas_asc p f (m+1))=k/\_;by_cases hc:key (p.getD m 0)<key (p.getD (m - 1) 0)
  .rw[if_pos (Yn hc)];exact⟨m,rfl,XN _,by lia,ha,λ_=>hc⟩
  .rw[if_neg (λz=>hc (Yu z))];have e:=ho.suf m (XN _) (by lia)
   have l:=ho.lt (by lia) (i:=m - 1) (by lia);obtain⟨k,e1,e2,e3,e4,e5⟩:=Jj f (m+1) p (by lia) (by lia) (ho.mono (by lia)) (ha.more h1 (by unfold Ahd;rw[e]at hc ⊢;lia));exact⟨k,e1,by lia,e3,e4,e5⟩
structure Dsc (key:Nat->Int) (m g:Nat) (p:Array Nat):Prop where
 le:g+1<=m
 old:∀ i j,i<j->j<m - (g+1)->Ahd key (p.getD j 0) (p.getD i 0)
 mid:∀ i j,i<m - (g+1)->m - (g+1)<=j->j<m->key (p.getD j 0)<key (p.getD i 0)
 own:∀ i j,m - (g+1)<=i->i<j->j<m->key (p.getD i 0)=key (p.getD j 0)/\p.getD i 0<p.getD j 0
def Fall(key:Nat->Int)(m:Nat)(p:Array Nat):Prop:=∀ i j,i<j->j<m->Ahd key (p.getD j 0) (p.getD i 0)
theorem Dsc.turn{m g:Nat}{p:Array Nat}(h:Dsc key m g p)(hs:m<=p.size):Fall key m (kas_rev p (m - (g+1)) m):=λi j UE hj=>by
 have hl:=h.le;rw[OA hs,OA hs];by_cases c1:m - (g+1)<=j
 .rw[if_pos ⟨c1,hj⟩];by_cases c2:m - (g+1)<=i
  .rw[if_pos ⟨c2,by lia⟩];exact .inr (h.own (m - (g+1)+m - 1 - j) (m - (g+1)+m - 1 - i) (by omega) (by omega) (by lia))
  .rw[if_neg (by lia)];exact .inl (h.mid i _ (by lia) (by lia) (by lia))
 .rw[if_neg (by lia),if_neg (by lia)];exact h.old i j UE (by lia)
theorem Dsc.last{m g:Nat}{p:Array Nat}(h:Dsc key m g p)(hs:m<=p.size):key ((kas_rev p (m - (g+1)) m).getD (m - 1) 0)=key (p.getD (m - 1) 0):=by
 have hl:=h.le;rw[OA hs,if_pos (by grind)];by_cases e:g=0
 .congr 2;grind
 .exact(h.own (m - (g+1)+m - 1 - (m - 1)) (m - 1) (by omega) (by omega) (by lia)).1
theorem Dsc.fall{m:Nat}{p:Array Nat}(h:Dsc key m 0 p):Fall key m p:=λi j UE hj=>by
 have hl:=h.le;by_cases e:j<m - (0+1)
 .exact h.old i j UE e
 .exact .inl (h.mid i j (by grind) (by lia) hj)
theorem Fall.new{m:Nat}{p:Array Nat}(hm:1<=m)(h:Fall key m p)(hk:key (p.getD m 0)<key (p.getD (m - 1) 0)):Dsc key (m+1) 0 p:=by
 refine⟨by lia,λi j UE hj=>h i j UE (by lia),λi j hi h1 h2=>?_,λi j h1 h2 h3=>by grind⟩;have e:j=m:=by lia
 subst e;by_cases c:i=j - 1
 .rw[c];exact hk
 .have:=h i (j - 1) (by lia) (by omega)
  unfold Ahd at this;omega
theorem Fall.rev{m:Nat}{p:Array Nat}(h:Fall key m p)(hs:m<=p.size):Asc key m (kas_rev p 0 m):=λi j UE hj=>by rw[OA hs,OA hs,if_pos ⟨Yl _,by lia⟩,if_pos ⟨Yl _,hj⟩];exact h _ _ (by omega) (by omega)
theorem Asc.rev{m:Nat}{p:Array Nat}(h:Asc key m p)(hs:m<=p.size):Fall key m (kas_rev p 0 m):=λi j UE hj=>by rw[OA hs,OA hs,if_pos ⟨Yl _,hj⟩,if_pos ⟨Yl _,by omega⟩];exact h _ _ (by omega) (by omega)
theorem yh:∀(f m g:Nat) (p:Array Nat),m+f=n->Ord n m p->Dsc key m g p->∃ p' m' g',US (λi j=>decide (key i<key j)) (kas_desc f p m g)=(p',m',g')/\m<=m'/\m'<=n/\Ord n m' p'/\Dsc key m' g' p'
 | 0,m,g,p,hf,ho,hd=>⟨p,m,g,rfl,XN _,by omega,ho,hd⟩
 | f+1,m,g,p,hf,ho,hd=>by
  have hl:=hd.le;have hs:=ho.size
  have em:=ho.suf m (XN _) (by lia);have ll:=ho.lt (by lia) (i:=m - 1) (by lia)
  show ∃ p' m' g',US _ (if decide (key (p.getD m 0)<key (p.getD (m - 1) 0))=true then (if g > 0 then kas_desc f (kas_rev p (m - (g+1)) m) (m+1) 0 else kas_desc f p (m+1) 0) else KasT.ask (p.getD (m - 1) 0) (p.getD m 0) λd=>if d=true then .ret (p,m,g) else kas_desc f p (m+1) (g+1))=_/\_;by_cases hc:key (p.getD m 0)<key (p.getD (m - 1) 0)
  .rw[if_pos (Yn hc)];by_cases hg:g > 0
   .rw[if_pos hg];have hr:=ho.rev (i:=m - (g+1)) (XN m) (by lia)
    have em2:=hr.suf m (XN _) (by lia);obtain⟨p',m',g',e1,e2,e3,e4,e5⟩:=yh f (m+1) 0 (kas_rev p (m - (g+1)) m) (by lia) (hr.mono (by lia)) ((hd.turn (by lia)).new (by lia) (by rw[hd.last (by omega),em2];rw[em]at hc;exact hc));exact⟨p',m',g',e1,by lia,e3,e4,e5⟩
   .rw[if_neg hg];obtain rfl:g=0:=by lia
    obtain⟨p',m',g',e1,e2,e3,e4,e5⟩:=yh f (m+1) 0 p (by omega) (ho.mono (by omega)) (hd.fall.new (by lia) hc);exact⟨p',m',g',e1,by lia,e3,e4,e5⟩
  .rw[if_neg (λz=>hc (Yu z))];show ∃ p' m' g',US _ (if decide (key (p.getD (m - 1) 0)<key (p.getD m 0))=true then KasT.ret (p,m,g) else kas_desc f p (m+1) (g+1))=_/\_
   by_cases Vf:key (p.getD (m - 1) 0)<key (p.getD m 0)
   .rw[if_pos (Yn Vf)];exact⟨p,m,g,rfl,XN _,by omega,ho,hd⟩
   .rw[if_neg (λz=>Vf (Yu z))];have ek:key (p.getD (m - 1) 0)=key (p.getD m 0):=by lia
    obtain⟨p',m',g',e1,e2,e3,e4,e5⟩:=yh f (m+1) (g+1) p (by omega) (ho.mono (by omega)) ⟨by lia,λi j h1 h2=>hd.old i j h1 (by lia),λi j h1 h2 h3=>by
     by_cases c:j=m
     .rw[c,<- ek];exact hd.mid i (m - 1) (by lia) (by grind) (by lia)
     .exact hd.mid i j (by lia) (by lia) (by lia),λi j h1 h2 h3=>by
     by_cases c:j=m
     .rw[c];by_cases c2:i=m - 1
      .rw[c2,em];rw[em]at ek;exact⟨ek,ll⟩
      .have:=hd.own i (m - 1) (by lia) (by lia) (by omega)
       rw[em];rw[em]at ek;exact⟨this.1.trans ek,by lia⟩
     .exact hd.own i j (by lia) h2 (by omega)⟩
    exact⟨p',m',g',e1,by lia,e3,e4,e5⟩
theorem eK{m:Nat}{p:Array Nat}(hm:1<=m)(hn:m<=n)(ho:Ord n m p)(hf:Fall key m p):∃ k p',US (λi j=>decide (key i<key j)) (kas_tail3 m n p)=(k,p')/\1<=k/\k<=n/\Ord n k p'/\Asc key k p':=by
 have hs:=ho.size;unfold kas_tail3;rw[Rr];have hr:=ho.rev (i:=0) (XN m) hn
 obtain⟨k,e1,e2,e3,e4,_⟩:=Jj (n - m) m (kas_rev p 0 m) (by grind) hm hr (hf.rev (by lia));rw[e1];exact⟨k,_,rfl,by lia,e3,hr.mono e2,e4⟩
theorem eJ{m:Nat}{p:Array Nat}(hm:1<=m)(hn:m<n)(ho:Ord n m p)(hf:Fall key m p)(hk:key (p.getD m 0)<key (p.getD (m - 1) 0)):∃ k p',US (λi j=>decide (key i<key j)) (kas_descPart m n p)=(k,p')/\1<=k/\k<=n/\Ord n k p'/\Asc key k p':=by
 unfold kas_descPart;rw[Rr];obtain⟨p',m',g',e1,e2,e3,e4,e5⟩:=yh (n - (m+1)) (m+1) 0 p (by grind) (ho.mono (by lia)) (hf.new hm hk);rw[e1];have hs:=e4.size
 show ∃ k q,US _ (if g' > 0 then kas_tail3 m' n (kas_rev p' (m' - (g'+1)) m') else kas_tail3 m' n p')=_/\_;by_cases hg:g' > 0
 .rw[if_pos hg];exact eK (by lia) e3 (e4.rev (XN _) e3) (e5.turn (by lia))
 .rw[if_neg hg];obtain rfl:g'=0:=by lia
  exact eK (by lia) e3 e4 e5.fall
theorem pG{p:Array Nat}(hn:1<=n)(ho:Ord n 1 p):∃ k p',US (λi j=>decide (key i<key j)) (kas_count n p)=(k,p')/\1<=k/\k<=n/\Ord n k p'/\Asc key k p':=by
 unfold kas_count;rw[Rr];obtain⟨k,e1,e2,e3,e4,e5⟩:=Jj (key:=key) (n - 1) 1 p (by lia) (XN _) ho λi j h1 h2=>by lia
 rw[e1];have hs:=ho.size
 have hk:=ho.mono e2;by_cases c:k=n
 .rw[if_pos (by rw[c];exact Oc n)];exact⟨k,p,rfl,e2,e3,hk,e4⟩
 .rw[if_neg (λz=>c (RY.mp z))];have Xd:k<n:=by lia
  have h5:=e5 Xd;by_cases c1:k > 1
  .rw[if_pos c1];show ∃ k' p',US _ (if decide (key (p.getD 0 0)<key (p.getD (k - 1) 0))=true then KasT.ret (k,p) else kas_descPart k n (kas_rev p 0 k))=_/\_
   by_cases c2:key (p.getD 0 0)<key (p.getD (k - 1) 0)
   .rw[if_pos (Yn c2)];exact⟨k,p,rfl,e2,e3,hk,e4⟩
   .rw[if_neg (λz=>c2 (Yu z))];have a0:=e4 0 (k - 1) (by lia) (by lia)
    have eq:key (p.getD 0 0)=key (p.getD (k - 1) 0):=by unfold Ahd at a0;grind
    have hr:=hk.rev (i:=0) (XN k) (by lia);refine eJ e2 Xd hr (e4.rev (by lia)) ?_;rw[OA (by omega),OA (by omega),if_neg (by lia),if_pos (by lia),show 0+k - 1 - (k - 1)=0 by lia,eq];exact h5
  .rw[if_neg c1];obtain rfl:k=1:=by lia
   exact eJ (XN _) Xd hk (λi j h1 h2=>by lia) h5
theorem pF{p:Array Nat}{k:Nat}(hk:Asc key k p):∀(f l r:Nat),r - l<=f->l<=r->r<=k->(∀ i,i<l->¬ key (p.getD k 0)<key (p.getD i 0))->(∀ i,r<=i->i<k->key (p.getD k 0)<key (p.getD i 0))->∃ l',US (λi j=>decide (key i<key j)) (kas_place p k f l r)=l'/\l'<=k/\(∀ i,i<l'->¬ key (p.getD k 0)<key (p.getD i 0))/\(∀ i,l'<=i->i<k->key (p.getD k 0)<key (p.getD i 0))
 | 0,l,r,hf,h1,h2,ha,hb=>⟨l,rfl,by lia,ha,λi hi=>hb i (by grind)⟩
 | f+1,l,r,hf,h1,h2,ha,hb=>by
  have mono:∀ i j,i<=j->j<k->key (p.getD i 0)<=key (p.getD j 0):=λi j UE hj=>by
   by_cases e:i=j
   .rw[e];exact Ma _
   .have:=hk i j (by lia) hj
    unfold Ahd at this;lia
  unfold kas_place;by_cases c:l >= r
  .rw[if_pos c];exact⟨l,rfl,by lia,ha,λi hi=>hb i (by lia)⟩
  .rw[if_neg c];show ∃ l',US _ (if decide (key (p.getD k 0)<key (p.getD ((l+r) / 2) 0))=true then kas_place p k f l ((l+r) / 2) else kas_place p k f ((l+r) / 2+1) r)=l'/\_
   by_cases c2:key (p.getD k 0)<key (p.getD ((l+r) / 2) 0)
   .rw[if_pos (Yn c2)];exact pF hk f l ((l+r) / 2) (by grind) (by lia) (by lia) ha λi hi qp=>by
     have:=mono ((l+r) / 2) i hi qp
     omega
   .rw[if_neg (λz=>c2 (Yu z))];exact pF hk f ((l+r) / 2+1) r (by grind) (by lia) (by lia) (λi hi=>by
     have:=mono i ((l+r) / 2) (by lia) (by lia)
     omega) hb
theorem Ji{p:Array Nat}{k d x:Nat}(hk:k<p.size)(hd:d<=k):(bubble p k d).getD x 0=if x=k - d then p.getD k 0 else if k - d<x/\x<=k then p.getD (x - 1) 0 else p.getD x 0:=by rw[Yz,getElem?_bubble hk d hd,apply_ite (λo:Option Nat=>o.getD 0),apply_ite (λo:Option Nat=>o.getD 0),<- Yz,<- Yz,<- Yz]
theorem Dc:∀(f k:Nat) (p:Array Nat),k+f=n->Ord n k p->Asc key k p->∃ p',US (λi j=>decide (key i<key j)) (kas_bin f p k)=p'/\Ord n n p'/\Asc key n p'
 | 0,k,p,hf,ho,ha=>by
  obtain rfl:k=n:=by lia
  exact⟨p,rfl,ho,ha⟩
 | f+1,k,p,hf,ho,ha=>by
  have hs:=ho.size;have ek:=ho.suf k (XN _) (by lia)
  unfold kas_bin;rw[Rr];obtain⟨l,e1,e2,e3,e4⟩:=pF ha k 0 k (by lia) (by lia) (XN _) (λi hi=>by lia) λi hi VM=>by grind
  rw[e1];refine Dc f (k+1) (bubble p k (k - l)) (by lia) ⟨(bubble_perm _ _ _).trans ho.perm,λi hi hn=>?_⟩ λi j UE hj=>?_
  .rw[Ji (by lia) (by grind),if_neg (by lia),if_neg (by lia)];exact ho.suf i (by lia) hn
  .have low:∀ x,x<k->p.getD x 0<k:=λx hx=>ho.lt (by lia) hx;rw[Ji (by lia) (by grind),Ji (by omega) (by omega)];have ekl:k - (k - l)=l:=by grind
   rw[ekl];by_cases c1:i=l
   .rw[if_pos c1,if_neg (by lia),if_pos (by lia)];exact .inl (e4 (j - 1) (by grind) (by grind))
   .rw[if_neg c1];by_cases c2:j=l
    .rw[if_pos c2,if_neg (by lia)];have a:=e3 i (by grind)
     have b:=low i (by lia);rw[ek]at a ⊢;unfold Ahd;lia
    .rw[if_neg c2];by_cases c3:l<i
     .rw[if_pos ⟨c3,by lia⟩,if_pos ⟨by lia,by lia⟩];exact ha _ _ (by grind) (by grind)
     .rw[if_neg (by lia)];by_cases c4:l<j
      .rw[if_pos ⟨c4,by omega⟩];exact ha _ _ (by lia) (by grind)
      .rw[if_neg (by lia)];exact ha _ _ UE (by lia)
theorem MZ(hn:1<=n):∃ p,US (λi j=>decide (key i<key j)) (kas_sort n)=p/\p.toList.Perm (List.range n)/\p.toList.Pairwise (Ahd key):=by
 have fin:∀ p,Ord n n p->Asc key n p->p.toList.Perm (List.range n)/\p.toList.Pairwise (Ahd key):=λp ho ha=>by
  have hs:=ho.size;refine⟨Oi.mp ho.perm,Ic.mpr λi j hi hj UE=>?_⟩;rw[YE]at hi hj
  have:=ha i j UE (by lia)
  rw[Yz,Yz,YG hi,YG hj]at this;exact this
 unfold kas_sort;rw[Rr];obtain⟨k,p,e1,e2,e3,e4,e5⟩:=pG (key:=key) hn (p:=(List.range n).toArray) ⟨Array.Perm.refl _,λi _ hi=>by simp[Array.getD,hi]⟩;rw[e1];show ∃ q,US _ (if k<n then kas_bin (n - max k 1) p (max k 1) else .ret p)=q/\_
 by_cases c:k<n
 .rw[if_pos c,Nat.max_eq_left e2];obtain⟨q,h1,h2,h3⟩:=Dc (n - k) k p (by grind) e4 e5;exact⟨q,h1,fin q h2 h3⟩
 .rw[if_neg c];obtain rfl:k=n:=by lia
  exact⟨p,rfl,fin p e4 e5⟩
end
end My
namespace L2
open PySem PySem.Spec PyProof.Rows
def PJ(P:Program)(w:World)(K:Ad)(mg:Af)(base:Heap)(N:List Str)(qual:Str)(scope:Scope)(f:Addr)(cd:Value)(cl:List (Str × Addr))(A:Around)(outer:List Env)(s:Shared)(H:Hp):Cx where
 prog:=P
 w:=w
 K:=K
 mg:=mg
 base:=base
 A:=A.deeper (PySem.W.envX qual scope s.heap.objs.size f cd cl)
 N:=N
 s₀:=s
 H₀:=H
 env:=PySem.W.envX qual scope s.heap.objs.size f cd cl
 outer:=outer
 stack:=PySem.W.envX qual scope s.heap.objs.size f cd cl :: outer
 ex:=[]
 calm:=true
 fn:=λ_=>false
 pn:=[]
 xe:=λ_ _=>False
structure LamScope (v x:Str) (sc:Scope):Prop where
 kind:sc.kind=.function
 co:sc.isCoroutine=false
 gen:sc.isGenerator=false
 nocell:∀ y∈sc.names,y.2≠.cell
 par:sc.names.lookup v=some .local
 free:sc.names.lookup x=some .free
 only:∀ y,sc.names.lookup y=some .free->y=x
 ne:v≠x
section
variable{P:Program}{w:World}{K:Ad}{mg:Af}{base:Heap}{qual name v x:Str}{scope:Scope}{f c c':Addr}{cd pm Sl u ux:Value}{A:Around}{outer:List Env}{s:Shared}{H:Hp}{vv vx:V}{params:Arguments}{body:Expr}{k:Nat}{t:TE}{Q:VK}
theorem yg{y:Str}{c2:Addr}(h:List.lookup y [(x,c)]=some c2):y=x/\c2=c:=by
 unfold List.lookup at h;split at h
 .rename_i e;exact⟨RY.mp e,(Yg h).symm⟩
 .cases h
theorem CZ(S:LamScope v x scope)(hd:A.handled=none)(e0:Env0 P w K mg base A outer s H)(hc:s.heap.IsCell c (some ux))(rx:RelV vx ux)(pE:H c=none)(rv:RelV vv u){h1:Heap}{tk:Nat}
  (Sk:h1.Ns s.heap.objs.size λy=>[(v,u)].reverse.lookup y) (hk:∀ b o,s.heap.get? b=some o->h1.get? b=some o) :
  Inv (PJ P w K mg base [v,x] qual scope f cd [(x,c)] A outer s H) [] [some vv,some vx] H { s with heap:=h1,toks:=tk }:=by
 have Kc:∀ b:Addr,b∉(PJ P w K mg base [v,x] qual scope f cd [(x,c)] A outer s H).ex:=λb z=>absurd (show b∈([]:List Addr) from z) (by simp);have eE:h1.IsCell c (some ux):=by obtain⟨o,e,d⟩:=hc;exact⟨o,hk _ _ e,d⟩
 have lk:List.lookup x [(x,c)]=some c:=by unfold List.lookup;rw[Oc]
 refine⟨⟨e0.mod,S.kind,rfl,rfl,XN _,λy z c2 h1 h2=>?_,λy hy=>?_,λy c2 z _=>(nomatch z),λ_=>hd,Around.frames_deeper e0.frames,.inr ⟨rfl,rfl⟩,λb z=>absurd z (Kc b),e0.bs,e0.bsz,λb _ _=>Kc b,λb z=>absurd z (Kc b),e0.funs,e0.frf⟩,
  rfl,e0.bare,Un.kept hk,⟨_,Sk,λi y v' h1 h2 h3=>?_⟩,λy c2 h=>?_,e0.hok.fresh (XN _),λy c2 h=>?_,λp hp=>absurd (show p∈([]:List (Addr × Obj)) from hp) (by simp),e0.hok.kept hk,rfl⟩
 .rw[(yg h1).1,(yg h2).1]
 .have hy:scope.names.lookup y=some .cell\/scope.names.lookup y=some .free:=hy;rcases hy with hy | hy
  .exact absurd rfl (S.nocell _ (Lb hy))
  .rw[S.only y hy];exact⟨c,lk⟩
 .match i,h1,h2 with
  | 0,h1,h2 =>
   obtain rfl:v=y:=Yg h1;obtain rfl:vv=v':=Yg (Yg h2);refine⟨u,rv,.inl ⟨S.par,?_⟩⟩;show List.lookup v [(v,u)]=some u
   unfold List.lookup;rw[Oc]
  | 1,h1,h2 =>
   obtain rfl:x=y:=Yg h1;obtain rfl:vx=v':=Yg (Yg h2);exact⟨ux,rx,.inr ⟨.inr S.free,c,lk,eE⟩⟩
  | i+2,h1,h2=>cases h1
 .rw[(yg h).2];exact⟨_,eE⟩
 .rw[(yg h).2];exact pE
theorem pD(S:LamScope v x scope)(hr:Room (k+1) A)(e0:Env0 P w K mg base A outer s H)(ho:s.heap.get? f=some (PySem.W.kla_obj name qual params body scope [(x,c)] pm c' Sl))(TB:s.heap.CodeRec (.ref c') qual)
  (TV:bindArgs (PySem.W.kla_fn name qual params body scope [(x,c)] pm (.ref c') Sl) ⟨[u],[]⟩=pure [(v,u)]) (hc:s.heap.IsCell c (some ux)) (rx:RelV vx ux) (pE:H c=none) (rv:RelV vv u)
  (hb:PE (PJ P w K mg base [v,x] qual scope f (.ref c') [(x,c)] A outer s H) body t) (hq:t [some vv,some vx] H Q) :
  codeAny (model P w) A (.call (.ref f) ⟨[u],[]⟩) (λr s'=>∃ u',r=.ok (.ret u')/\CE outer P w H s Q u' s') s:=by
 have lim:s.heap.NoLimit:=e0.mod.nolimit.keeps λb o e=>(e0.bs b o e).1;refine PySem.W.kla_callFunE hr.depth ho rfl S.co S.gen rfl TB ?_;rw[TV];refine Yk (wpAny_newFunctionEnv S.nocell (λy hy=>?_) (λh1 Sk eD=>⟨lim.fresh _ eD,?_⟩) S.kind)
 .rw[XD.mp hy];exact S.par
 have hk:∀ b o,s.heap.get? b=some o->h1.get? b=some o:=λb o e=>eD.extBut b o (Yx (Yo e)) (WZ _ e);have I:Inv (PJ P w K mg base [v,x] qual scope f (.ref c') [(x,c)] A outer s H) [] [some vv,some vx] H { s with heap:=h1,toks:=s.toks+[(v,u)].length }:=CZ S hr.hd e0 hc rx pE rv Sk hk
 refine PySem.W.kla_codeExpr (TF (hb [] _ _ H _ I hq) (λu' s' h=>?_) λe s' h=>False.elim h);obtain⟨y,H',J,r,q⟩:=h;exact⟨u',rfl,y,H',J.os,J.bare,J.base,J.hok,r,q⟩
end
end L2
namespace My
open PySem PySem.W PyProof.Rows
def Asks{α:Type}(n:Nat)(R:α->Prop):KasT α->Prop
 | .ret a=>R a
 | .ask i j k=>i<n/\j<n/\∀ b,Asks n R (k b)
theorem Asks.bind{α β:Type}{n:Nat}{R:α->Prop}{S:β->Prop}{f:α->KasT β}:∀ {t:KasT α},Asks n R t->(∀ a,R a->Asks n S (f a))->Asks n S (t.bind f)
 | .ret a,h,hf=>hf a h
 | .ask _ _ _,h,hf=>⟨h.1,h.2.1,λb=>Asks.bind (h.2.2 b) hf⟩
theorem goT_wp'{α:Type}{n:Nat}{R:α->Prop}{c:Nat->Nat->Bool}{cmp:Nat->Nat->(Bool->Shared->Prop)->Shared->Prop}{J:Shared->Prop}(h:∀ i j C s,i<n->j<n->J s->(∀ s',J s'->C (c i j) s')->cmp i j C s){Q:α->Shared->Prop}:∀(t:KasT α) (s:Shared),Asks n R t->J s->(∀ s',J s'->Q (US c t) s')->t.kasWp cmp Q s
 | .ret _,s,_,hs,q=>q s hs
 | .ask i j k,s,ha,hs,q=>h i j _ s ha.1 ha.2.1 hs λs' OL=>goT_wp' h (k (c i j)) s' (ha.2.2 _) OL q
section
variable{n:Nat}
def Bd(n:Nat)(p:Array Nat):Prop:=p.Perm (List.range n).toArray
theorem Bd.lt{p:Array Nat}(h:Bd n p)(hn:1<=n)(i:Nat):p.getD i 0<n:=by
 by_cases hi:i<p.size
 .have e1:=Na (p:=p) hi;rw[<- YR]at e1;exact YJ.mp ((Oi.mp h).mem_iff.mp (Xg e1))
 .rw[Yz,z6 (by lia)];exact hn
theorem Bd.rev{p:Array Nat}(h:Bd n p)(i j:Nat):Bd n (kas_rev p i j):=(mirror_perm _ _ _ _).trans h
theorem pC(hn:1<=n){p:Array Nat}(hp:Bd n p):∀ f m:Nat,Asks n (λ_=>True) (kas_asc p f m)
 | 0,m=>trivial
 | f+1,m=>⟨hp.lt hn _,hp.lt hn _,λb=>by
  cases b with
  | true=>exact trivial
  | false=>exact pC hn hp f (m+1)⟩
theorem yf(hn:1<=n):∀(f:Nat) (p:Array Nat) (m q:Nat),Bd n p->Asks n (λr=>Bd n r.1) (kas_desc f p m q)
 | 0,p,m,q,hp=>hp
 | f+1,p,m,q,hp=>⟨hp.lt hn _,hp.lt hn _,λb=>by
  cases b with
  | true =>
   show Asks n _ (if q > 0 then kas_desc f (kas_rev p (m - (q+1)) m) (m+1) 0 else kas_desc f p (m+1) 0);split
   .exact yf hn f _ _ _ (hp.rev _ _)
   .exact yf hn f _ _ _ hp
  | false =>
   refine⟨hp.lt hn _,hp.lt hn _,λd=>?_⟩;cases d with
   | true=>exact hp
   | false=>exact yf hn f _ _ _ hp⟩
theorem eC(hn:1<=n){p:Array Nat}(hp:Bd n p)(m r:Nat):Asks n (λz=>Bd n z.2) (kas_tail3 m r p) :=
 (pC hn (hp.rev _ _) _ _).bind λ_ _=>hp.rev _ _
theorem eB(hn:1<=n){p:Array Nat}(hp:Bd n p)(m r:Nat):Asks n (λz=>Bd n z.2) (kas_descPart m r p) :=
 (yf hn _ p _ _ hp).bind λz hz=>by
  split
  .exact eC hn (hz.rev _ _) _ _
  .exact eC hn hz _ _
theorem Zy7(hn:1<=n){p:Array Nat}(hp:Bd n p)(r:Nat):Asks n (λz=>Bd n z.2) (kas_count r p) :=
 (pC hn hp _ _).bind λz _=>by
  split
  .exact hp
  .split
   .refine⟨hp.lt hn _,hp.lt hn _,λb=>?_⟩;cases b with
    | true=>exact hp
    | false=>exact eB hn (hp.rev _ _) _ _
   .exact eB hn hp _ _
theorem pB(hn:1<=n){p:Array Nat}(hp:Bd n p)(k:Nat):∀ f l r:Nat,Asks n (λ_=>True) (kas_place p k f l r)
 | 0,l,r=>trivial
 | f+1,l,r=>by
  unfold kas_place;split
  .exact trivial
  .refine⟨hp.lt hn _,hp.lt hn _,λb=>?_⟩;cases b with
   | true=>exact pB hn hp k f _ _
   | false=>exact pB hn hp k f _ _
theorem eA(hn:1<=n):∀(f:Nat) (p:Array Nat) (k:Nat),Bd n p->Asks n (λz=>Bd n z) (kas_bin f p k)
 | 0,p,k,hp=>hp
 | f+1,p,k,hp=>(pB hn hp k _ _ _).bind λl _=>eA hn f _ _ ((bubble_perm _ _ _).trans hp)
theorem Rq(hn:1<=n):Asks n (λz=>Bd n z) (kas_sort n) :=
 (Zy7 hn (p:=(List.range n).toArray) (Array.Perm.refl _) n).bind λz hz=>by
  split
  .exact eA hn _ _ _ hz
  .exact hz
end
end My
namespace L2
open PySem PySem.Spec PyProof.Rows PySem.W
def Sj(key:Int->Int)(ns ms:Ac):Prop:=∃ p:List Nat,p.Perm (List.range ns.length)/\p.Pairwise (My.Ahd λi=>key (ns.getD i 0))/\ms=p.map λi=>ns.getD i 0
section
variable{X:Cx}{pins:List (Addr × Obj)}{σ:St}{H:Hp}{s:Shared}{b:Addr}{o:Obj}
theorem Inv.pin1(I:Inv X pins σ H s)(F:FpOk X pins H b)(e:s.heap.get? b=some o)(hd:∀ v,o.data≠.cell v):Inv X (pins++[(b,o)]) σ H s:=I.pins_of λp hp=>by
 rcases Xx.mp hp with hp | hp
 .exact I.pin p (Yf _ hp)
 .rw[XD.mp hp];exact⟨e,F.1,F.2.1,F.2.2.1,hd⟩
theorem FpOk.more{pl:List (Addr × Obj)}(F:FpOk X pins H b)(hn:∀ p∈pl,p.1≠b):FpOk X (pins++pl) H b:=⟨F.1,F.2.1,F.2.2.1,F.2.2.2.1,F.2.2.2.2.1,λp hp=>by
 rcases Xx.mp hp with hp | hp
 .exact F.2.2.2.2.2 p (Yb _ hp)
 .rcases Xx.mp hp with hp | hp
  .exact F.2.2.2.2.2 p (Yf _ hp)
  .exact hn p hp⟩
theorem Inv.changed{h':Heap}{t':Nat}(I:Inv X pins σ H s)(F:FpOk X pins H b)(k:∀ c o,c≠b->s.heap.get? c=some o->h'.get? c=some o):Inv X pins σ H { s with heap:=h',toks:=t' } :=
 I.turned k F.1 F.2.1 F.2.2.2.1 F.2.2.2.2.1 F.2.2.2.2.2
theorem Inv.adopt{u:HO}(I:Inv X pins σ H s)(hex:X.ex=[])(F:FpOk X pins H b)(new:ObjOk X.prog X.w (upd H b u) s.heap b u):Inv X pins σ (upd H b u) s:=by
 have f4:X.s₀.heap.objs.size<=b:=F.2.2.2.1.resolve_left (by rw[hex];simp);have hn:=F.1
 refine⟨I.ok,I.os,I.bare,⟨I.base.keep,I.base.slot,λc o e n hc=>?_,I.base.there,λc xs q=>?_,λc o w q=>?_,λc ps q=>?_⟩,I.loc,I.cell,?_,λx c e=>?_,λp hp=>?_,λc w e=>?_,I.len⟩
 .rw[Zb (Yx (Yr (Yo e) f4))];exact I.base.free c o e n hc
 .have:=I.base.tups c xs q
  rw[Zb (Zc this hn)];exact this
 .have:=I.base.frzs c o w q
  rw[Zb (Zc this hn)];exact this
 .obtain⟨m,this⟩:=I.base.tbls c ps q;exact⟨m,by rw[Zb (Zc this hn)];exact this⟩
 .rw[Zb (YZ F.2.1)];exact I.free
 .rw[Zb (F.2.2.2.2.1 x c e)];exact I.freeC x c e
 .have:=I.pin p hp
  exact⟨this.1,by rw[Zb (F.2.2.2.2.2 p hp)];exact this.2.1,this.2.2⟩
 .by_cases hb:c=b
  .subst hb;rw[XR]at e;cases e;exact new
  .rw[Zb hb]at e;exact(I.hok c w e).stay (λ_ _ _ q=>q) (λd q=>by rw[Zb (Zc q hn)];exact q) λd xs q=>by rw[Zb (Zc q hn)];exact q
end
section
variable{X:Cx}{pins:List (Addr × Obj)}{σ:St}{H:Hp}{s:Shared}{a kS:Addr}{A:Around}{E:Ae}{P:PySem.Fin->Shared->Prop}{kA:Array Value}{e e1:Nat}{ns:Ac}{vs:Ag}
theorem eh {st:SortSt} {out:Ag} (I:Inv X (pins++[(a,seqObj "list" #[] e1),(kS,seqObj "list" kA e)]) σ H s) (Fa:FpOk X pins H a) (Fk:FpOk X pins H kS) (Oz:a≠kS) (hz:kA.size<64) (NJ:failedOf st=none)
  (Jh:(arrOf st).map (·.2)=out.toArray) (hlen:out.length<64) (h:∀ s' m,Inv X pins σ H s'->s'.heap.get? a=some (seqObj "list" out.toArray m)->P (.done (.ret .none)) s') :
  wpAny (model X.prog X.w) A (ksk_tail a false e1 (.ref kS) st) P E s:=by
 have Ee:sizeLine=16777216:=Uj;have pa:=(I.pin (a,seqObj "list" #[] e1) (by simp)).1
 have pk:=(I.pin (kS,seqObj "list" kA e) (by simp)).1;have I0:Inv X pins σ H s:=I.unpinned
 have pz:(s.heap.update kS (Obj.mapSeq λ_=>(#[]:Array Value))).get? a=some (seqObj "list" #[] e1):=(YN _ _ (YZ Oz)).trans pa;obtain⟨m,hm⟩:∃ m,((s.heap.update kS (Obj.mapSeq λ_=>(#[]:Array Value))).update a (Obj.mapSeq λ_=>out.toArray)).get? a=some (seqObj "list" out.toArray m):=⟨_,zz pz λ_=>out.toArray⟩;unfold ksk_tail;dsimp only;rw[Jh];refine XU (KO pk rfl ?_ (by lia) (Yl _));refine XU (HP ?_);refine XU (seqEpoch_at pz rfl ?_);refine XU (KO pz rfl ?_ (Yl _) (by simp;lia));rw[NJ];simp only [bne_self_eq_false,GI,KH];refine Yk (h _ m ?_ hm);have I1:Inv X pins σ H { s with heap:=s.heap.update kS (Obj.mapSeq λ_=>(#[]:Array Value)),toks:=s.toks }:=I0.changed Fk λc o hc q=>(YN _ _ (YZ hc)).trans q
 exact I1.changed (t':=s.toks) Fa λc o hc q=>(YN _ _ (YZ hc)).trans q
theorem Jg:∀ {vs:Ag} {ns:Ac},IntsAre vs ns->∀ i,i<ns.length->∃ t,vs[i]?=some (.int (ns.getD i 0) t)
 | _,_,.nil,i,h=>absurd h (Wy _)
 | _,_,.cons n t r,0,h=>⟨t,rfl⟩
 | _,_,.cons n t r,i+1,h=>Jg r i (by rw[YA]at h;lia)
end
def He(c:Addr)(qual:Str):HO:=.ext λh=>h.CodeRec (.ref c) qual
def TabH(H:Hp)(Pt:Addr)(pos:Pos)(qual:Str):Prop:=∃ ps:Array Value,H Pt=some (.tbl ps)/\TriplesOk ps.toList/\(codeAmong pos ps.toList=none\/∃ c,codeAmong pos ps.toList=some (.ref c)/\H c=some (He c qual))
def SameX(Pt:Addr)(H H':Hp):Prop:=∀ b o,b≠Pt->H b=some o->H' b=some o
theorem d9{c:Addr}{qual:Str}(h1 h2:Heap)(r:h1.CodeRec (.ref c) qual)(k:∀ o,h1.get? c=some o->h2.get? c=some o):h2.CodeRec (.ref c) qual:=by obtain⟨c2,o,vs,t,e,g,r⟩:=r;cases e;exact⟨c,o,vs,t,rfl,k _ g,r⟩
section
variable{X:Cx}{pins:List (Addr × Obj)}{σ:St}{H:Hp}{s:Shared}{c Pt cc:Addr}{x:Str}{params:Arguments}{body:Expr}{scope:Scope}{pos:Pos}{E:Ae}{Q:Ae}
theorem Inv.builtinsAt(I:Inv X pins σ H s)(hB:X.base.BuiltinsAt X.mg Pt):s.heap.BuiltinsAt X.mg Pt:=by obtain⟨bm,o,h1,h2,h3,h4,h5,h6⟩:=hB;exact⟨bm,o,h1,h2,h3,h4,I.bk _ _ h5,h6⟩
theorem pw (I:Inv X pins σ H s) (UR:X.env.code=.ref c) (hC:codeHdIn X.K c Pt=true) (hB:X.base.BuiltinsAt X.mg Pt) (hT:TabH H Pt pos (X.env.qual++Str.ofString "<lambda>")) (QL:closureFor scope X.env=pure [(x,cc)]) (Jf:defaultsOf params X.env=([],[])) (CY:mainGlobals≠Pt)
  (h:∀ f c' pm Sl s' H',SameX Pt H H'->TabH H' Pt pos (X.env.qual++Str.ofString "<lambda>")->FpOk X pins H' f->Inv X pins σ H' s'->s'.heap.get? f=some (kla_obj (Str.ofString "<lambda>") (X.env.qual++Str.ofString "<lambda>") params body scope [(x,cc)] pm c' Sl)->H' c'=some (He c' (X.env.qual++Str.ofString "<lambda>"))->Q (.ref f) s') :
  wpAny (model X.prog X.w) X.A (eval (.Lambda params body scope pos) X.env) Q E s:=by
 obtain⟨ps,hP,CW,CV⟩:=hT;have Vy:s.heap.get? Pt=some (tabObj ps):=I.hok Pt _ hP
 have Sk:s.heap.Ns mainGlobals X.mg:=I.mod.glob.keeps I.bk;have d8:=codeHd_of_K I.kIn hC
 refine kla_eval Jf ?_;rcases CV with d7 | ⟨c',hf,WE⟩
 .refine kla_makeFunction QL I.ok.glob Sk UR d8 Vy CW d7 CY (I.builtinsAt hB) λc' Sl h' tk hx PL Xd MY d6=>?_;have d5:Pt<s.heap.objs.size:=Yo Vy
  have ye:H c'=none:=I.hok.fresh PL;have d4:c'≠Pt:=Sa (Yr d5 PL)
  have keep:∀ b o,b≠Pt->s.heap.get? b=some o->(h'.push (kla_obj (Str.ofString "<lambda>") (X.env.qual++Str.ofString "<lambda>") params body scope [(x,cc)] ((X.mg "__name__").getD .none) c' Sl)).get? b=some o:=λb o hb e=>WZ _ (hx b o hb e);have sx:SameX Pt H (upd (upd H Pt (.tbl (ps++#[rawInt pos.line,rawInt pos.col,.ref c']))) c' (He c' (X.env.qual++Str.ofString "<lambda>"))):=λb o hb e=>by rw[Zb (Zc e ye),Zb hb];exact e
  have tb:TabH (upd (upd H Pt (.tbl (ps++#[rawInt pos.line,rawInt pos.col,.ref c']))) c' (He c' (X.env.qual++Str.ofString "<lambda>"))) Pt pos (X.env.qual++Str.ofString "<lambda>"):=by
   have et:(ps++#[rawInt pos.line,rawInt pos.col,Value.ref c']).toList=ps.toList++[rawInt pos.line,rawInt pos.col,.ref c']:=by simp
   refine⟨ps++#[rawInt pos.line,rawInt pos.col,.ref c'],by rw[Zb (YZ d4),XR],by rw[et];exact TriplesOk_snoc _ _ _ _ CW,.inr ⟨c',by rw[et];exact codeAmong_snoc _ CW d7,XR⟩⟩
  have Je:∀ b,H b=none->b≠Pt:=λb n z=>by rw[z,hP]at n;cases n
  refine h h'.objs.size c' _ Sl _ _ sx tb ?_ (I.un ⟨λb o e n _ _=>keep b o (Je b n) e,λb o e n _ _=>⟨o.slots,keep b o (Je b n) e⟩,λb o e n _=>?_,λb o e _=>?_,λb xs e=>?_,λb o u e=>?_,λb qs e=>?_⟩ λb u e=>?_) (Ym _ rfl) XR
  .have pq:s.heap.objs.size<=h'.objs.size:=by lia
   refine I.fpOk pq ?_;rw[Zb (Sa Xd),Zb (Sa (Yr d5 pq))];exact I.hok.fresh pq
  .rw[Zb (Yx (Yr (Yo e) PL)),Zb (Je b n)];exact n
  .by_cases hb:b=Pt
   .rw[hb];exact⟨_,WZ _ d6⟩
   .exact⟨o,keep b o hb e⟩
  .exact sx b _ (λz=>by rw[z,hP]at e;cases e) e
  .exact sx b _ (λz=>by rw[z,hP]at e;cases e) e
  .by_cases hb:b=Pt
   .subst hb;rw[hP]at e;obtain rfl:ps=qs:=by cases e;rfl
    exact⟨#[rawInt pos.line,rawInt pos.col,.ref c'],by rw[Zb (YZ d4),XR]⟩
   .exact⟨#[],by rw[sx b _ hb e];simp⟩
  .by_cases hb:b=c'
   .subst hb;rw[XR]at e;cases e;refine⟨d9 _ _ MY λo g=>WZ _ g,?_,d9⟩;obtain⟨c2,o,_,_,e2,g,_⟩:=MY;cases e2;exact⟨o,WZ _ g⟩
   .rw[Zb hb]at e;by_cases QK:b=Pt
    .subst QK;rw[XR]at e;cases e;exact WZ _ d6
    .rw[Zb QK]at e;refine(I.hok b u e).stay (λd o hd g=>keep d o (λz=>?_) g) (λd g=>sx d _ (λz=>by rw[z,hP]at g;cases g) g) λd xs g=>sx d _ (λz=>by rw[z,hP]at g;cases g) g;rcases hd with hd | hd
     .exact QK (hd.symm.trans z)
     .rw[z,hP]at hd;cases hd
 .refine kla_makeFunctionHit QL I.ok.glob Sk UR d8 Vy CW hf (I.builtinsAt hB) λSl h' tk hk hsz=>?_;refine h h'.objs.size c' _ Sl _ H (λ_ _ _ e=>e) ⟨ps,hP,CW,.inr ⟨c',hf,WE⟩⟩ (I.fpOk hsz (I.hok.fresh hsz)) (I.kept λb o e=>WZ _ (hk b o e)) (Ym _ rfl) WE
end
section
variable{Va:Pos}{Pt:Addr}
theorem SqT.samex{K:Ad}{H H2:Hp}{a:Addr}{xs:List V}{qual:Str}(h:SqT K H a xs)(t:TabH H Pt Va qual)(sx:SameX Pt H H2):SqT K H2 a xs:=by
 obtain⟨ps,hP,_⟩:=t;rcases h with (h | ⟨o,h⟩) | h
 .exact .inl (.inl (sx _ _ (λz=>by rw[z,hP]at h;cases h) h))
 .exact .inl (.inr ⟨o,sx _ _ (λz=>by rw[z,hP]at h;cases h) h⟩)
 .exact .inr h
end
def Jd(Pt:Addr)(H:Hp):Prop:=H Pt=some (.tbl #[])/\∀ b,b=Pt\/H b=none\/∃ o xs,H b=some (.frz o (.lst xs))
theorem Zg8{P:Program}{w:World}{K:Ad}{mg mb:Af}{CX:OP}{k:Nat}{fa a Pt c:Addr}{fd:FuncData}{x:Str}{sp:Sp}{s₁:Shared}{vs:Ag}{ns:Ac}
  (KX:K.In s₁.heap) (Sk:s₁.heap.Ns mainGlobals mg) (hb:s₁.heap.Ns builtinsNs mb) (rM:∀ x:Str,x≠"__name__"->mb x=bootBuiltins x) (pj:s₁.heap.NoLimit) (hg:s₁.gens=#[])
  (hT:s₁.heap.get? Pt=some (tabObj #[])) (hC:codeHdIn K c Pt=true) (ph:K.lookup Pt=none) (hbm:∃ bm ob,mg (Str.ofString "__builtins__")=some (.ref bm)/\bm≠builtinsNs/\s₁.heap.get? bm=some ob/\ob.cls=.type "module"/\ob.dict=some builtinsNs/\ob.data=.plain)
  (ha:s₁.heap.get? a=some { cls:=.type "list",data:=.seq vs.toArray }) (hi:IntsAre vs ns) (hl:ns.length<=sizeLine) (hr:Room k callerA)
  (F:∀ base:Heap,K.In base->base.Ns mainGlobals mg->base.BuiltinsAt mg Pt->FnOk P w K mg base CX k fa fd [x] sp) (TV:∀(s:Shared) (u:Value),BindsTo s fd ⟨[u],[]⟩ [(x,u)])
  (Su:∀ H:Hp,Jd Pt H->SqL K H a (ns.map V.int)->sp [.ref a] H (λv _=>v=.bl true) λ_ _ _=>False)
  (pf:∀ H e s',CX [] H s₁ (λ_ _ _=>False) e s'->False) :
  codeAny (model P w) callerA (.call (.ref fa) ⟨[.ref a],[]⟩) (λr s'=>r=.ok (.ret (.bool true))/\OldK s₁.heap s'.heap/\s'.os=s₁.os/\AllBare s'.gens) s₁:=by
 have rv:=h8 hi;have pe:=hi.length
 have d3:a≠Pt:=λz=>by rw[z,hT]at ha;cases ha
 have core:∀ H:Hp,Jd Pt H->SqL K H a (ns.map V.int)->HOk P w H s₁.heap->(∀ b,H b≠none->b=a\/b=Pt)->(H a≠none->K.lookup a=none) ->
   codeAny (model P w) callerA (.call (.ref fa) ⟨[.ref a],[]⟩) (λr s'=>r=.ok (.ret (.bool true))/\OldK s₁.heap s'.heap/\s'.os=s₁.os/\AllBare s'.gens) s₁:=by
  intro H hO hS hok hA hK;have base_of:∀ {b:Addr} {o:Obj},s₁.heap.get? b=some o->H b=none->(Vg s₁.heap H).get? b=some o:=λe n=>wq e n
  have free:∀ {b:Addr} {o:Obj},s₁.heap.get? b=some o->(∀ XW n,o.data≠.seq XW n)->(∀ vs,o.data≠.fields vs)->H b=none:=λ{b o} e d1 d2=>by
   cases q:H b with
   | none=>rfl
   | some u =>
    rcases hA b (by rw[q];simp) with e' | e'
    .subst e';rw[ha]at e;cases e;exact absurd rfl (d1 _ _)
    .subst e';rw[hT]at e;cases e;exact absurd rfl (d2 _)
  have yd:∀ {b:Addr} {m:Af},s₁.heap.Ns b m->(Vg s₁.heap H).Ns b m:=λ{b m} ⟨o,es,ep,e,d,r⟩=>⟨o,es,ep,base_of e (free e (λ_ _ z=>by rw[d]at z;cases z) λ_ z=>by rw[d]at z;cases z),d,r⟩;have dZ:K.In (Vg s₁.heap H):=λb o e=>base_of (KX b o e) (by
   cases q:H b with
   | none=>rfl
   | some u =>
    rcases hA b (by rw[q];simp) with e' | e'
    .subst e';rw[hK (by rw[q];simp)]at e;cases e
    .subst e';rw[ph]at e;cases e)
  have hM:Mod K mg (Vg s₁.heap H):=⟨dZ,yd Sk,⟨mb,yd hb,rM⟩,let ⟨mc,h1,h2⟩:=pj;⟨mc,yd h1,h2⟩⟩;have hB:(Vg s₁.heap H).BuiltinsAt mg Pt:=by
   obtain⟨bm,ob,b1,b2,b3,b4,b5,b6⟩:=hbm;refine⟨bm,ob,b1,b2,λz=>?_,λz=>?_,base_of b3 (free b3 (λ_ _ z=>by rw[b6]at z;cases z) λ_ z=>by rw[b6]at z;cases z),b4,b5,b6⟩
   .obtain⟨o,es,ep,e,d,_⟩:=Sk;rw[z,e]at b3;cases b3;rw[d]at b6;cases b6
   .rw[z,hT]at b3;cases b3;cases b4
  have e0:Env0 P w K mg (Vg s₁.heap H) callerA [] s₁ H:=⟨rfl,hM,λb o e=>wm e,Nat.le_of_eq (aY _ _),trivial,λb hb=>absurd (show b∈([]:List Addr) from hb) (by simp),hok,.of_eq hg⟩;refine Mc ((F _ dZ (yd Sk) hB).run callerA [] s₁ H ⟨[.ref a],[]⟩ [.ref a] [.ref a] _ _ hr e0 (TV s₁ (.ref a)) (.cons rfl .nil) (Su H hO hS)) λr s' h=>?_;cases r with
  | error e=>exact(pf H e s' h).elim
  | ok fl =>
   cases fl with
   | next=>exact False.elim h
   | brk=>exact False.elim h
   | cont=>exact False.elim h
   | ret u =>
    obtain⟨v,H',os,bare,un,CU,r',q⟩:=h;have q':v=.bl true:=q
    subst q';obtain rfl:u=Value.bool true:=r';obtain⟨more,eP⟩:=un.tbls Pt #[] hO.1;have dY:s'.heap.get? Pt=some { cls:=.none,data:=.fields (#[]++more) }:=CU Pt _ eP
    have kept:∀ b o,b≠Pt->s₁.heap.get? b=some o->s'.heap.get? b=some o:=λb o Wc e=>by
     cases q:H b with
     | none=>exact un.keep b o e q (by intro z;exact absurd (show b∈([]:List Addr) from z) (by simp)) (by simp)
     | some u =>
      rcases hO.2 b with z | z | ⟨ob,xs,z⟩
      .exact absurd z Wc
      .rw[q]at z;cases z
      .have z2:=un.frzs b ob _ z;obtain⟨e1,_⟩:=hok b _ z;obtain⟨e2,_⟩:=CU b _ z2;rw[e]at e1;cases e1;exact e2
    refine⟨rfl,⟨λb o e=>?_,λb o e=>?_⟩,os,bare⟩
    .by_cases Wc:b=Pt
     .subst Wc;rw[hT]at e;obtain rfl:=Yg e;obtain⟨oc,vsc,_,_,_,_,_,_,_,c1,c2,c3,c4,_⟩:=codeHd_of_K KX hC;exact .inr (.inl ⟨⟨c,oc,vsc,c1,c2,c3,c4⟩,rfl,#[],more,rfl,dY⟩)
     .exact .inl (kept b o Wc e)
    .by_cases Wc:b=Pt
     .rw[Wc];exact⟨_,dY⟩
     .exact⟨o,kept b o Wc e⟩
 cases hk:K.lookup a with
 | some o =>
  have e:=KX a o hk;rw[ha]at e;cases e;refine core (λb=>if b=Pt then some (.tbl #[]) else none) ⟨if_pos rfl,λb=>?_⟩ (.inr ⟨_,vs.toArray,_,hk,rfl,rfl,rfl,by rw[Ya,pe];exact hl,by simpa using rv⟩) (λb u z=>?_) (λb z=>?_) λz=>absurd (if_neg d3) z
  .by_cases Wc:b=Pt
   .exact .inl Wc
   .exact .inr (.inl (if_neg Wc))
  .by_cases Wc:b=Pt
   .have z':=(if_pos Wc).symm.trans z;cases z';subst Wc;exact hT
   .have z':=(if_neg Wc).symm.trans z;cases z'
  .by_cases Wc:b=Pt
   .exact .inr Wc
   .exact absurd (if_neg Wc) z
 | none =>
  refine core (λb=>if b=Pt then some (.tbl #[]) else if b=a then some (.frz { cls:=.type "list",data:=.seq vs.toArray } (.lst (ns.map V.int))) else none) ⟨if_pos rfl,λb=>?_⟩ (.inl (.inr ⟨{ cls:=.type "list",data:=.seq vs.toArray },(if_neg d3).trans (if_pos rfl)⟩)) (λb u z=>?_) (λb z=>?_) λ_=>hk
  .by_cases Wc:b=Pt
   .exact .inl Wc
   .by_cases hb:b=a
    .exact .inr (.inr ⟨_,_,(if_neg Wc).trans (if_pos hb)⟩)
    .exact .inr (.inl ((if_neg Wc).trans (if_neg hb)))
  .by_cases Wc:b=Pt
   .have z':=(if_pos Wc).symm.trans z;cases z';subst Wc;exact hT
   .by_cases hb:b=a
    .have z':=((if_neg Wc).trans (if_pos hb)).symm.trans z;cases z';subst hb;exact⟨ha,by rw[Yd];exact hl,vs,_,rv,ha⟩
    .have z':=((if_neg Wc).trans (if_neg hb)).symm.trans z;cases z'
  .by_cases Wc:b=Pt
   .exact .inr Wc
   .by_cases hb:b=a
    .exact .inl hb
    .exact absurd ((if_neg Wc).trans (if_neg hb)) z
theorem PH{l:PySem.W.OpenLaw}{n k:Nat}{q:Program}{loose:List Str}{XP:Af->Heap->Prop}{YP:World->Heap->Prop}{d:DefRec}{K:Params->Ad}{CX:OP}{sp:Ad->Sp}{x:Str}{c Pt:Addr}
  (hn:l.most=some n) (NT:n<=sizeLine) (ui:d.params.defaults=[]) (hr:Room k callerA)
  (hY:∀(w:World) (h:Heap),YP w h->(K w.params).In h/\h.get? Pt=some (tabObj #[])) (hC:∀ w:World,codeHdIn (K w.params) c Pt=true) (ph:∀ w:World,(K w.params).lookup Pt=none)
  (F:∀(w:World) (mg:Af) (fa:Addr) (h:Heap),(K w.params).In h->h.Ns mainGlobals mg->mg d.name=some (.ref fa) ->
   ∃ fd:FuncData,(∀(s:Shared) (u:Value),BindsTo s fd ⟨[u],[]⟩ [(x,u)]) /\
    ∀ base:Heap,(K w.params).In base->base.Ns mainGlobals mg->base.BuiltinsAt mg Pt->FnOk l.prog w (K w.params) mg base CX k fa fd [x] (sp (K w.params)))
  (Su:∀(w:World) (H:Hp) (a:Addr) (ns:Ac),ns.length<=n->Jd Pt H->SqL (K w.params) H a (ns.map V.int)->sp (K w.params) [.ref a] H (λv _=>v=.bl true) λ_ _ _=>False)
  (pf:∀(H:Hp) (s:Shared) (e:Value) (s':Shared),CX [] H s (λ_ _ _=>False) e s'->False) :
  PySem.W.WalkO q loose XP YP l.row.toRowW d [] (λf vs=>PySem.call f vs):=by refine Att.Ue hn ui λw s₀ s₁ mg mb fa o pm cd doc a vs ns G Y ho hd TB EO JT hints hlen hg=>?_;obtain⟨KX,hT⟩:=hY w _ Y;obtain⟨fd,hb,hF⟩:=F w mg fa _ KX G.T.g EO;exact Zg8 KX G.T.g G.T.b G.T.builtins G.T.nolimit hg hT (hC w) (ph w) G.T.bmain JT hints (Yv hlen NT) hr hF hb (λH hO hS=>Su w H a ns hlen hO hS) λH e s'=>pf H s₁ e s'
def SS(K:Ad)(mg:Af)(base:Heap)(fd:FuncData)(Pt:Addr):Prop:=∃ c,fd.code=.ref c/\codeHdIn K c Pt=true/\base.BuiltinsAt mg Pt/\mainGlobals≠Pt
theorem LamScope.of{v x:Str}{sc:Scope}(h1:sc.kind=.function)(h2:sc.isCoroutine=false)(h3:sc.isGenerator=false)(h4:sc.names=[(v,.local),(x,.free)]\/sc.names=[(x,.free),(v,.local)])(hn:v≠x):LamScope v x sc:=by
 have b1:(v == x)=false:=wN hn;have b2:(x == v)=false:=wN (YZ hn)
 refine⟨h1,h2,h3,λy hy=>?_,?_,?_,λy hy=>?_,hn⟩
 .have l1:NameKind.local≠NameKind.cell:=by decide
  have l2:NameKind.free≠NameKind.cell:=by decide
  rcases h4 with e | e <;> rw[e]at hy <;> rcases Yj.mp hy with rfl | hy
  .exact l1
  .rw[XD.mp hy];exact l2
  .exact l2
  .rw[XD.mp hy];exact l1
 .rcases h4 with e | e <;> rw[e] <;> simp[List.lookup,b1,b2]
 .rcases h4 with e | e <;> rw[e] <;> simp[List.lookup,b1,b2]
 .rcases h4 with e | e <;> rw[e]at hy <;> simp only [List.lookup]at hy
  .split at hy
   .cases hy
   .split at hy
    .rename_i q;exact RY.mp q
    .cases hy
  .split at hy
   .rename_i q;exact RY.mp q
   .split at hy
    .cases hy
    .cases hy
section
variable{P:Program}{w:World}{K:Ad}{mg:Af}{base:Heap}
theorem Fun.okL{x qual:Str}{st:Stmt}{f c:Addr}{fd:FuncData}{N ps:List Str}{k:Nat}{sp:Sp}(F:Fun K x qual st f fd)(hc:fd.code=.ref c)(S:FnScope N ps (XB st))(len:∀ vs H Q E,sp vs H Q E->vs.length=ps.length)
  (Uh:∀(A:Around) (outer:List Env) (s:Shared) (H:Hp) (vs:List V) (Q:VK) (E:XK),Room k (A.deeper (envOfC qual (XB st) s.heap.objs.size f (.ref c)))->sp vs H Q E ->
   ∃ t,PSs (Tb Xk P w K mg base N qual (XB st) f (.ref c) A outer s H E).nox (OO st) t/\t { nx:=λ_ H'=>Q .non H',rt:=Q } (start N vs) H):FnOk P w K mg base Xk (k+1) f fd ps sp:=by obtain⟨oc,od,kV,doc,pm,an,Xy,ct,Up,rfl,lk,TB⟩:=F.ex;obtain rfl:Xy=.ref c:=hc;refine Fv lk TB S len λA outer s H vs Q E hr Su=>?_;obtain⟨t,h,q⟩:=Uh A outer s H vs Q E hr Su;exact⟨t,h.nox,q⟩
end
end L2
namespace My
open PySem L2
def pd(n:Int)(ps:Aa)(I O W:Ac):Prop:=Ze n ps W/\(∀ z∈I,z∈W)/\∀ z∈O,z∉W
def pl(ls T U:Ac):Prop:=HT.ltP (De ls T,T) (De ls U,U)=true
def OrdL(ls:Ac)(m:Nat)(os:Ac):Prop:=os.Perm (Wz m)/\os.Pairwise λx y=>Jk ls x<Jk ls y\/(Jk ls x=Jk ls y/\x<y)
theorem MX{n:Int}{ps:Aa}{T W:Ac}(g:Zu n ps)(hT:Ze n ps T)(hW:Ze n ps W)(h:∀ z∈T,z∈W):T=W :=
 rX (Nj hT) (Nj hW) λz=>(Zv9 g hT hW h).mem_iff
structure Ent where
 T:Ac
 I:Ac
 O:Ac
deriving DecidableEq
def Oy(n:Int)(ps:Aa)(E:Ent)(W:Ac):Prop:=pd n ps E.I E.O W
structure EOk (n:Int) (ps:Aa) (ls:Ac) (E:Ent):Prop where
 own:Oy n ps E E.T
 min:∀ W,Oy n ps E W->W=E.T\/pl ls E.T W
 iN:E.I.Nodup
 oN:E.O.Nodup
 oR:∀ z∈E.O,0<=z/\z<(ps.length:Int)
def dX(n:Int)(ps:Aa)(E F:Ent):Prop:=∀ W,Oy n ps E W->¬ Oy n ps F W
structure FB (n:Int) (ps:Aa) (ls:Ac) (E:Ent) (l:Ac) (Es:List Ent):Prop where
 ok:∀ F∈Es,EOk n ps ls F
 sub:∀ F∈Es,∀ W,Oy n ps F W->Oy n ps E W
 cov:∀ W,Oy n ps E W->((∃ t∈l,t∉W)↔∃ F∈Es,Oy n ps F W)
 dsj:Es.Pairwise (dX n ps)
structure RI (n:Int) (ps:Aa) (ls:Ac) (L:Ab) (Es:List Ent):Prop where
 tr:∀ T∈L,Ze n ps T
 asc:L.Pairwise (pl ls)
 ok:∀ E∈Es,EOk n ps ls E
 cov:∀ W,Ze n ps W->W∈L\/∃ E∈Es,Oy n ps E W
 beh:∀ E∈Es,∀ W,Oy n ps E W->∀ T∈L,pl ls T W
 dsj:Es.Pairwise (dX n ps)
structure Rkd (n:Int) (ps:Aa) (ls:Ac) (most:Nat) (L:Ab):Prop where
 tr:∀ T∈L,Ze n ps T
 asc:L.Pairwise (pl ls)
 few:L.length<=most
 all:∀ W,Ze n ps W->W∈L\/(L.length=most/\∀ T∈L,pl ls T W)
end My
namespace L2
open PySem PySem.Spec PyProof.Rows PySem.W My
theorem SameX.same{Pt:Addr}{H H':Hp}(s:Same H H'):SameX Pt H H':=λb o _ e=>s b o e
theorem SameX.trans{Pt:Addr}{H H1 H2:Hp}(a:SameX Pt H H1)(b:SameX Pt H1 H2):SameX Pt H H2:=λc o hc e=>b c o hc (a c o hc e)
theorem TabH.same{H H':Hp}{Pt:Addr}{pos:Pos}{qual:Str}(t:TabH H Pt pos qual)(s:Same H H'):TabH H' Pt pos qual:=by
 obtain⟨ps,h1,h2,h3⟩:=t;refine⟨ps,s _ _ h1,h2,?_⟩;rcases h3 with h | ⟨c,h,h'⟩
 .exact .inl h
 .exact .inr ⟨c,h,s _ _ h'⟩
theorem TabH.ne{H:Hp}{Pt a:Addr}{pos:Pos}{qual:Str}{o:HO}(t:TabH H Pt pos qual)(h:H a=some o)(hn:∀ ps,o≠.tbl ps):a≠Pt:=λe=>by obtain⟨ps,h1,_⟩:=t;rw[e,h1]at h;exact hn ps (Yg h).symm
theorem TabH.put{H:Hp}{Pt r:Addr}{pos:Pos}{qual:Str}{zs:List V}{u:List V}(t:TabH H Pt pos qual)(hr:H r=some (.lst zs)):TabH (upd H r (.lst u)) Pt pos qual:=by
 obtain⟨ps,h1,h2,h3⟩:=t;refine⟨ps,by rw[Zb (QX h1 hr (by simp))];exact h1,h2,?_⟩;rcases h3 with h | ⟨c,h,h'⟩
 .exact .inl h
 .exact .inr ⟨c,h,by rw[Zb (QX h' hr (by unfold He;simp))];exact h'⟩
end L2
namespace My
open PySem L2
theorem SqK.samex{kd:Bool}{K:Ad}{H H2:Hp}{a Pt:Addr}{xs:List V}{pos:Pos}{qual:Str}(h:SqK kd K H a xs)(t:TabH H Pt pos qual)(sx:SameX Pt H H2):SqK kd K H2 a xs:=by
 cases kd with
 | true=>exact SqT.samex (show SqT K H a xs from h) t sx
 | false =>
  rcases(show SqL K H a xs from h) with (h | ⟨o,h⟩) | h
  .exact .inl (.inl (sx _ _ (t.ne h (by simp)) h))
  .exact .inl (.inr ⟨o,sx _ _ (t.ne h (by simp)) h⟩)
  .exact .inr h
theorem WebAt.samex{C w Pt:Addr}{H H2:Hp}{n:Int}{ps:Aa}{pos:Pos}{qual:Str}(h:WebAt C H w n ps)(t:TabH H Pt pos qual)(sx:SameX Pt H H2):WebAt C H2 w n ps:=by obtain⟨dx,tl,xs,h1,h2,h3⟩:=h;refine⟨dx,tl,xs,sx _ _ (t.ne h1 (by simp)) h1,sx _ _ (t.ne h2 (by simp)) h2,h3.1,λi p hp=>?_⟩;obtain⟨x,hx,q,e,hq⟩:=h3.2 i p hp;exact⟨x,hx,q,e,sx _ _ (t.ne hq (by simp)) hq⟩
end My
namespace My
theorem UA{α:Type}{P:List α->Prop}(h:∀ a,P [a])(l:List α)(e:l.length=1):P l:=by obtain⟨a,rfl⟩:=DO e;exact h a
theorem VW{α:Type}{P:List α->Prop}(h:∀ a b,P [a,b])(l:List α)(e:l.length=2):P l:=by obtain⟨a,b,rfl⟩:=DN e;exact h a b
theorem Rp{α:Type}{P:List α->Prop}(h:∀ a b c,P [a,b,c])(l:List α)(e:l.length=3):P l:=by obtain⟨a,b,c,rfl⟩:=DM e;exact h a b c
theorem dW{α:Type}{P:List α->Prop}(h:∀ a b c d,P [a,b,c,d])(l:List α)(e:l.length=4):P l:=by obtain⟨a,b,c,d,rfl⟩:=DL e;exact h a b c d
theorem un5{α:Type}{P:List α->Prop}(h:∀ a b c d e,P [a,b,c,d,e])(l:List α)(e:l.length=5):P l:=by
 cases l with
 | nil=>cases e
 | cons x r =>
  obtain⟨a,b,c,d,rfl⟩:=DL (UL e);exact h x a b c d
end My
namespace My
open PySem L2
theorem Jc{n:Int}{ps:Aa}{c:Nat}(h:TC n ps c):c=0↔∀ T,¬ Ze n ps T:=by
 obtain⟨L,a1,a2,a3⟩:=h;constructor
 .intro e T hT;rw[e]at a3
  have:=(a2 T).mpr hT
  rw[YQ.mp a3]at this;cases this
 .intro e;rw[<- a3,YQ];exact Ai.mpr λT hT=>e T ((a2 T).mp hT)
end My
namespace L2
open PySem PySem.Spec PyProof.Rows PySem.W
theorem CT:∀ bs:List Bool,(bs.map Value.bool).mapM firstOfTuple'=(pure ((bs.map Value.bool).map λ_=>none):Sem _)
 | []=>by simp
 | b :: bs=>by rw[YV,List.mapM_cons,CT bs];show(pure none >>= λb=>pure _ >>= λbs=>pure (b :: bs))=_;simp
theorem dU:∀ bs:List Bool,(bs.map Value.bool).mapM typeOf=(pure ((bs.map Value.bool).map λ_=>Value.type "bool"):Sem _)
 | []=>by simp
 | b :: bs=>by rw [YV,List.mapM_cons,dU bs];show(pure (Value.type "bool") >>= λb=>pure _ >>= λbs=>pure (b :: bs))=_;simp
theorem ZY6{kA:Array Value}{ns:Ac}{key:Int->Bool}(hk:kA.toList=ns.map λz=>Value.bool (key z))(h2:2<=ns.length):keyKind' kA=pure oneType':=by
 have e:kA=((ns.map key).map Value.bool).toArray:=by rw[<- Array.toArray_toList (xs:=kA),hk,Me];rfl
 rw[e];obtain⟨b1,b2,bs,eb⟩:∃ b1 b2 bs,ns.map key=b1 :: b2 :: bs:=by
  match ns,h2 with
  | x :: y :: l,_=>exact⟨_,_,_,rfl⟩
 rw[eb,keyKind'_eq,List.mapM_toArray,CT];simp only [map_pure,pure_bind];rw[if_neg (by simp),if_neg (by simp)];rw[oneTypeOnly'_eq,List.mapM_toArray,dU];simp only [map_pure,pure_bind];have VP:((List.map (λ_=>Value.type "bool") (List.map Value.bool (b1 :: b2 :: bs))).toArray.all λx=>x == Value.type "bool")=true:=by simp only [List.all_toArray,List.all_map,QE];intro _ _;rfl
 have h0:(List.map (λ_=>Value.type "bool") (List.map Value.bool (b1 :: b2 :: bs))).toArray[0]?=some (Value.type "bool"):=by simp
 rw[h0];simp only [VP,OT,pure_bind,Option.isSome_some]
theorem CS{prog:Program}{w:World}{A:Around}{E:Ae}{s:Shared}{p q:Bool}{Q:Bool->Shared->Prop}(h:Q (decide (b2i p<b2i q)) s):wpAny (model prog w) A (keyLt' oneType' (.bool p) (.bool q)) Q E s:=by rw[keyLt'_oneType,oneLt'_eq];simp only [OT];refine XU (wpAny_cRoomFor_byValue rfl ?_);refine XU (wpAny_callSpecialIfBound?_slot (typeIs_bool' s p) F.slot_bool_lt (call_gives F.slot_bool_lt (typeIs_bool' s p) F.entry_int_lt (F.args_int_lt_2 _ _) (gives_int_lt_bools p q) ?_));exact Oo h
section
variable{X:Cx}{pins:List (Addr × Obj)}{σ:St}{H:Hp}{s:Shared}{a kS:Addr}{A:Around}{E:Ae}{P:PySem.Fin->Shared->Prop}{kA:Array Value}{e e1:Nat}{f:Value}{key:Int->Bool}{ns:Ac}{vs:Ag}
theorem o9(hv:IntsAre vs ns)(hk:kA.toList=ns.map λz=>Value.bool (key z)){i:Nat}(hi:i<ns.length):∃ u,kas_item (kA.zip vs.toArray) i=(.bool (key (ns.getD i 0)),.int (ns.getD i 0) u):=by
 obtain⟨u,hu⟩:=Jg hv i hi;have ht:kA.toList[i]?=some (Value.bool (key (ns.getD i 0))):=by rw[hk,Yq,WG,Xn hi];rfl
 refine⟨u,?_⟩;unfold kas_item;rw[Yz,<- YR,ksk_zip,(List.getElem?_zip_eq_some (z:=(Value.bool (key (ns.getD i 0)),Value.int (ns.getD i 0) u))).mpr ⟨ht,hu⟩];rfl
theorem dS(hv:IntsAre vs ns)(hk:kA.toList=ns.map λz=>Value.bool (key z)):∀ l:List Nat,(∀ i∈l,i<ns.length)->IntsAre (l.map λi=>(kas_item (kA.zip vs.toArray) i).2) (l.map λi=>ns.getD i 0)
 | [],_=>.nil
 | i :: l,h=>by
  obtain⟨u,e⟩:=o9 hv hk (h i Ye);have r:=dS hv hk l λj hj=>h j (Yi _ hj)
  rw[YV,YV,e];exact .cons _ u r
theorem o8 (I:Inv X (pins++[(a,seqObj "list" #[] e1),(kS,seqObj "list" kA e)]) σ H s) (Fa:FpOk X pins H a) (Fk:FpOk X pins H kS) (Oz:a≠kS) (hv:IntsAre vs ns) (QO:ns.length<64) (hk:kA.toList=ns.map λz=>Value.bool (key z))
  (h:∀ s' m out ms,Inv X pins σ H s'->s'.heap.get? a=some (seqObj "list" out m)->IntsAre out.toList ms->Sj (λz=>b2i (key z)) ns ms->P (.done (.ret .none)) s') :
  wpAny (model X.prog X.w) A (ksk_end a false vs.toArray e1 (.ref kS) kA) P E s:=by
 have CQ:=hv.length;have dR:=Xw List.length hk
 rw[YE,Yd]at dR;have hzs:(kA.zip vs.toArray).size=ns.length:=by rw[Array.size_zip,show vs.toArray.size=vs.length from Ya];grind
 unfold ksk_end;dsimp only;rw[if_neg (by decide)];by_cases h2:vs.toArray.size<2
 .rw[if_pos h2,if_pos h2];rw[Ya]at h2;refine XU (Yk ?_);rw[StateT.run_pure];refine XU (Yk ?_);dsimp only;refine eh (out:=vs) I Fa Fk Oz (by lia) rfl ?_ (by grind) λs' m J e=>h s' m vs.toArray ns J e (by simpa using hv) ?_
  .show(if false=true then (kA.zip vs.toArray).reverse else kA.zip vs.toArray).map (·.2)=vs.toArray;rw[if_neg (by decide),Array.map_snd_zip (by rw[Ya];lia)]
  .refine⟨List.range ns.length,List.Perm.refl _,?_,?_⟩
   .match ns.length,(show ns.length<2 by lia) with
    | 0,_=>exact List.Pairwise.nil
    | 1,_=>exact Ib _ _
   .match ns,(show ns.length<2 by omega) with
    | [],_=>rfl
    | [x],_=>rfl
 .rw[if_neg h2,if_neg h2];rw[Ya]at h2;rw[ZY6 hk (by lia)];refine XU (Yk ?_);rw[if_neg (by decide)];obtain⟨p,Vi,Wm,PF⟩:=My.MZ (n:=ns.length) (key:=λi=>b2i (key (ns.getD i 0))) (by lia);have runs:=kas_runs (prog:=X.prog) (w:=X.w) (A:=A) (E:=E) (κ:=oneType') (it:=kA.zip vs.toArray) (n:=ns.length) (s:=s) (Q:=λ_ st s'=>s'=s/\failedOf st=none/\arrOf st=p.map (kas_item (kA.zip vs.toArray)))
   (G:=λq s'=>s'=s/\q=p) (by omega) QO (λq st s' _ e2 e3 e4=>⟨e4.1,e3,by rw[e2,e4.2]⟩)
   (My.goT_wp' (c:=λi j=>decide (b2i (key (ns.getD i 0))<b2i (key (ns.getD j 0)))) (J:=λs'=>s'=s) (λi j C s' hi hj hs hC=>by obtain⟨u,e⟩:=o9 hv hk hi;obtain⟨u',e'⟩:=o9 hv hk hj;unfold kas_cmp;rw[e,e'];exact CS (hC s' hs)) _ s (My.Rq (by omega)) rfl λs' hs=>⟨hs,Vi⟩)
  unfold kasC kas_st at runs;rw[<- hzs,kas_range]at runs;refine XU (TF runs ?_ λ_ _ z=>z);rintro⟨⟨⟩,st⟩ s' ⟨rfl,hf,ha⟩;dsimp only;have hb:∀ i∈p.toList,i<ns.length:=λi hi=>YJ.mp (Wm.mem_iff.mp hi)
  have UX:p.toList.length=ns.length:=by rw[Wm.length_eq,OX]
  refine eh (out:=p.toList.map λi=>(kas_item (kA.zip vs.toArray) i).2) I Fa Fk Oz (by lia) hf ?_ (by rw[Yd];lia) λTx m J e=>h Tx m _ _ J e (by simpa using dS hv hk p.toList hb) ⟨p.toList,Wm,PF,rfl⟩;have ha:arrOf st=p.map (kas_item (kA.zip vs.toArray)):=ha
  rw[ha,Array.map_map];exact Array.toList_inj.mp (by simp)
theorem Zi8 (I:Inv X (pins++[(a,seqObj "list" #[] e1),(kS,seqObj "list" #[] 0)]) σ H s) (Fa:FpOk X pins H a) (Fk:FpOk X pins H kS) (Oz:a≠kS) (hv:IntsAre vs ns) (QO:ns.length<64)
  (turn:∀(pl:List (Addr × Obj)) (z:Int) (t:Tok) (s':Shared),z∈ns->Inv X (pins++pl) σ H s'->wpAny (model X.prog X.w) A (call f [.int z t]) (λv Tx=>v=.bool (key z)/\Inv X (pins++pl) σ H Tx) (λ_ _=>False) s')
  (h:∀ s' m out ms,Inv X pins σ H s'->s'.heap.get? a=some (seqObj "list" out m)->IntsAre out.toList ms->Sj (λz=>b2i (key z)) ns ms->P (.done (.ret .none)) s') :
  wpAny (model X.prog X.w) A (ksk_rest a f false vs.toArray e1 (.ref kS)) P E s:=by
 have Ee:sizeLine=16777216:=Uj;have CQ:=hv.length
 unfold ksk_rest;refine XU (Gp ?_);rw[<- Array.forIn_toList];simp only [List.toList_toArray];refine XU (ksk_fold (λi s'=>∃(kA:Array Value) (e:Nat),Inv X (pins++[(a,seqObj "list" #[] e1),(kS,seqObj "list" kA e)]) σ H s'/\kA.toList=(ns.take i).map λz=>Value.bool (key z)) vs 0 s ⟨#[],0,I,rfl⟩ ?step ?done)
 case step =>
  rintro j x s' hx ⟨kA,e,J,hk⟩;rw[Mf]at hk ⊢;have hj:j<ns.length:=by rw[<- CQ];exact(Xs.mp hx).1
  obtain⟨t,ht⟩:=Jg hv j hj;rw[hx]at ht;obtain rfl:=Yg ht;have hz:kA.size<=j:=by have h1:=Xw List.length hk;rw[YE,Yd,Yy]at h1;lia
  have eg:ns.getD j 0=ns[j]:=by rw[WG,Xn hj];rfl
  have hmem:ns.getD j 0∈ns:=by rw[eg];exact Mi hj
  refine XU (Gw (TF (turn _ _ t s' hmem J) (λv Tx he=>?_) λ_ _ hF=>hF.elim));obtain⟨rfl,J2⟩:=he;dsimp only;have pk:=(J2.pin (kS,seqObj "list" kA e) (by simp)).1
  obtain⟨c2,Vf⟩:∃ c2,(Tx.heap.update kS (Obj.mapSeq (·.push (.bool (key (ns.getD j 0)))))).get? kS=some (seqObj "list" (kA.push (.bool (key (ns.getD j 0)))) c2):=⟨_,zz pk (·.push (.bool (key (ns.getD j 0))))⟩;refine XU (KO pk rfl ?_ (by lia) (by rw[Array.size_push];lia));refine Yk ⟨rfl,kA.push (.bool (key (ns.getD j 0))),c2,?_,?_⟩
  .have J3:Inv X (pins++[(a,seqObj "list" #[] e1)]) σ H Tx:=J2.pins_of λp hp=>J2.pin p (Yf _ (by
    rcases Xx.mp hp with hp | hp
    .exact Yb _ hp
    .exact Yf _ (by rw[XD.mp hp];exact Ye)))
   have dQ:FpOk X (pins++[(a,seqObj "list" #[] e1)]) H kS:=Fk.more λp hp=>by rw [XD.mp hp];exact Oz
   have J4:=(J3.changed (t':=Tx.toks) dQ λc o hc q=>(YN Tx.heap (Obj.mapSeq (·.push (.bool (key (ns.getD j 0))))) (YZ hc)).trans q).pin1 dQ Vf λv z=>by cases z
   rw[QG]at J4;exact J4
  .have ek:((ns.take (j+1)).map λz=>Value.bool (key z))=((ns.take j).map λz=>Value.bool (key z))++[Value.bool (key (ns.getD j 0))]:=by rw[List.take_add_one,Xn hj,YL,eg];rfl
   rw[wY,ek,hk]
 case done =>
  rintro s' ⟨kA,e,J,hk⟩;rw[Mf,CQ,YI]at hk;have pk:=(J.pin (kS,seqObj "list" kA e) (by simp)).1
  refine XU (listItems_at pk rfl ?_);exact o8 J Fa Fk Oz hv QO hk h
theorem Zh8 {n:Nat} (I:Inv X pins σ H s) (Fa:FpOk X pins H a) (ho:s.heap.get? a=some (seqObj "list" vs.toArray n)) (hv:IntsAre vs ns) (QO:ns.length<64)
  (turn:∀(pl:List (Addr × Obj)) (z:Int) (t:Tok) (s':Shared),z∈ns->Inv X (pins++pl) σ H s'->wpAny (model X.prog X.w) A (call f [.int z t]) (λv Tx=>v=.bool (key z)/\Inv X (pins++pl) σ H Tx) (λ_ _=>False) s')
  (h:∀ s' m out ms,Inv X pins σ H s'->s'.heap.get? a=some (seqObj "list" out m)->IntsAre out.toList ms->Sj (λz=>b2i (key z)) ns ms->P (.done (.ret .none)) s') :
  wpAny (model X.prog X.w) A (ksk_tree a f false) P E s:=by
 have Ee:sizeLine=16777216:=Uj;have CQ:=hv.length
 obtain⟨e1,dP⟩:∃ e1,(s.heap.update a (Obj.mapSeq λ_=>(#[]:Array Value))).get? a=some (seqObj "list" #[] e1):=⟨_,zz ho λ_=>#[]⟩;have I1:Inv X pins σ H { s with heap:=s.heap.update a (Obj.mapSeq λ_=>(#[]:Array Value)),toks:=s.toks }:=I.changed Fa λc o hc q=>(YN _ _ (YZ hc)).trans q
 have I2:Inv X pins σ H { s with heap:=(s.heap.update a (Obj.mapSeq λ_=>(#[]:Array Value))).push (seqObj "tuple" vs.toArray 0),toks:=s.toks }:=I1.kept λc o q=>WZ _ q;have Ta:((s.heap.update a (Obj.mapSeq λ_=>(#[]:Array Value))).push (seqObj "tuple" vs.toArray 0)).get? a=some (seqObj "list" #[] e1):=WZ _ dP
 unfold ksk_tree;refine XU (listItems_at ho rfl ?_);refine XU (KO ho rfl ?_ (by rw[Ya];lia) (Yl _));refine XU (seqEpoch_at dP rfl ?_);refine XU (wpAny_newTuple ?_ (by show vs.length<=_;omega));refine XU (KR ?_ (Yl _));refine SA ?_;have Fk:FpOk X pins H ((s.heap.update a (Obj.mapSeq λ_=>(#[]:Array Value))).push (seqObj "tuple" vs.toArray 0)).objs.size:=I2.fpOk (XN _) (I2.hok.fresh (XN _))
 have Oz:a≠((s.heap.update a (Obj.mapSeq λ_=>(#[]:Array Value))).push (seqObj "tuple" vs.toArray 0)).objs.size:=Yx (Yo Ta);have I3:Inv X pins σ H { s with heap:=((s.heap.update a (Obj.mapSeq λ_=>(#[]:Array Value))).push (seqObj "tuple" vs.toArray 0)).push (seqObj "list" #[] 0),toks:=s.toks }:=I2.kept λc o q=>WZ _ q
 have I4:=(I3.pin1 Fa (WZ _ Ta) λv z=>by cases z).pin1 (Fk.more (pl:=[(a,seqObj "list" #[] e1)]) λp hp=>by rw [XD.mp hp];exact Oz) (Ym _ rfl) λv z=>by cases z
 rw[QG]at I4;exact Zi8 I4 Fa Fk Oz hv QO turn h
theorem ZE5{tp q:Addr}{Q:Ae}(I:Inv X pins σ H s)(ht:s.heap.IsList tp vs.toArray)(hv:IntsAre vs ns)(QO:ns.length<64)
  (turn:∀(pl:List (Addr × Obj)) (z:Int) (t:Tok) (s':Shared),z∈ns->Inv X (pins++pl) σ H s'->wpAny (model X.prog X.w) A.in1.in1 (call (.ref q) [.int z t]) (λv Tx=>v=.bool (key z)/\Inv X (pins++pl) σ H Tx) (λ_ _=>False) s')
  (h:∀ s' a m out ms,FpOk X pins H a->Inv X pins σ H s'->s'.heap.get? a=some (seqObj "list" out m)->IntsAre out.toList ms->Sj (λz=>b2i (key z)) ns ms->Q (.ref a) s') :
  wpAny (model X.prog X.w) A (call (.builtin "sorted") [.ref tp] [(Str.ofString "key",.ref q)]) Q E s:=by
 have Ee:sizeLine=16777216:=Uj;have CQ:=hv.length
 refine call_function_entry_kw kind_sorted plain_sorted entry_sorted (ksk_s1 _ _) ?_;unfold Builtin.«sorted»;refine XU (m:=checkCount "sorted" 1 1 _) (Yk ?_);refine XU (collect_list ht ?_ (by omega));refine XU (KR ?_ (by omega));have hsz:((s.heap.push (seqObj "list" #[] 0)).update s.heap.objs.size (Obj.mapSeq (·++vs.toArray))).objs.size=s.heap.objs.size+1:=by rw[Heap.size_update,size_push']
 have Kw:(((s.heap.push (seqObj "list" #[] 0)).update s.heap.objs.size (Obj.mapSeq (·++vs.toArray))).push (seqObj "list" vs.toArray 0)).get? (s.heap.objs.size+1)=some (seqObj "list" vs.toArray 0):=by rw[<- hsz];exact Ym _ rfl
 have keep:∀ b o,s.heap.get? b=some o->(((s.heap.push (seqObj "list" #[] 0)).update s.heap.objs.size (Obj.mapSeq (·++vs.toArray))).push (seqObj "list" vs.toArray 0)).get? b=some o:=λb o q=>by have Xd:b<s.heap.objs.size:=Yo q;exact WZ _ ((YN _ _ (Sa Xd)).trans (WZ _ q))
 show wpAny _ _ _ _ _ { s with heap:=((s.heap.push (seqObj "list" #[] 0)).update s.heap.objs.size (Obj.mapSeq (·++vs.toArray))).push (seqObj "list" vs.toArray 0) };rw[hsz];have Fa:FpOk X pins H (s.heap.objs.size+1):=I.fpOk (Us _) (I.hok.fresh (Us _))
 refine XU (SA (wpAny_call_entry_kw slot_list_sort ⟨_,Kw,rfl⟩ entry_list_sort ?body (ksk_l1 _ _)));show wpAny (model X.prog X.w) A.in1.in1 (Builtin.«list.sort» ⟨[.ref (s.heap.objs.size+1)],[(Str.ofString "key",.ref q)]⟩) _ _ _
 rw[ksk_t1];refine Zh8 (s:={ s with heap:=((s.heap.push (seqObj "list" #[] 0)).update s.heap.objs.size (Obj.mapSeq (·++vs.toArray))).push (seqObj "list" vs.toArray 0),toks:=s.toks }) (I.kept keep) Fa Kw hv QO turn λs' m out ms J e hi hs=>⟨_,rfl,?_⟩;exact Yk ⟨_,rfl,h s' _ m out ms Fa J e hi hs⟩
end
def o7(K:Ad)(Pt:Addr)(Va:Pos)(qual:Str)(i:Nat)(te tb:TE):TE:=λσ H Q=>te σ H λy H1=>∃(p:Addr) (ns:Ac) (vx:V) (key:Int->Bool),y=.ref p/\SqL K H1 p (ns.map V.int)/\ns.length<64/\TabH H1 Pt Va qual/\σ[i]?=some (some vx) /\
 (∀ H2,SameX Pt H1 H2->∀ z∈ns,tb [some (.int z),some vx] H2 λr H3=>r=.bl (key z)/\H3=H2) /\
 ∀(ms:Ac) (l:Addr) (H2:Hp),Sj (λz=>b2i (key z)) ns ms->SameX Pt H1 H2->TabH H2 Pt Va qual->H2 l=none->Q (.ref l) (upd H2 l (.lst (ms.map V.int)))
section
variable{X:Cx}{p kp pos Va:Pos}{e body:Expr}{params:Arguments}{scope:Scope}{te tb:TE}{v x:Str}{i k:Nat}{c Pt cc:Addr}
theorem SqL.samexT{K:Ad}{H H2:Hp}{a:Addr}{xs:List V}{qual:Str}(h:SqL K H a xs)(t:TabH H Pt Va qual)(sx:SameX Pt H H2):SqL K H2 a xs:=by
 obtain⟨ps,hP,_⟩:=t;rcases h with (h | ⟨o,h⟩) | h
 .exact .inl (.inl (sx _ _ (λz=>by rw[z,hP]at h;cases h) h))
 .exact .inl (.inr ⟨o,sx _ _ (λz=>by rw[z,hP]at h;cases h) h⟩)
 .exact .inr h
theorem ZH5 (he:PE X e te) (hg:Gl X (Str.ofString "sorted")) (hm:X.mg (Str.ofString "sorted")=none) (hr:Room (k+3) X.A) (hex:X.ex=[]) (UR:X.env.code=.ref c) (hC:codeHdIn X.K c Pt=true) (hB:X.base.BuiltinsAt X.mg Pt) (CY:mainGlobals≠Pt)
  (S:LamScope v x scope) (QL:closureFor scope X.env=pure [(x,cc)]) (Jf:defaultsOf params X.env=([],[])) (TV:∀(c':Addr) (pm Sl u:Value),bindArgs (kla_fn (Str.ofString "<lambda>") (X.env.qual++Str.ofString "<lambda>") params body scope [(x,cc)] pm (.ref c') Sl) ⟨[u],[]⟩=pure [(v,u)])
  (hi:X.N[i]?=some x) (dO:X.env.kindOf x=some .cell) (Wo:X.env.cells.lookup x=some cc)
  (hb:∀(f c':Addr) (A:Around) (outer:List Env) (s:Shared) (H:Hp),Room k (A.deeper (envX (X.env.qual++Str.ofString "<lambda>") scope s.heap.objs.size f (.ref c') [(x,cc)]))->PE (PJ X.prog X.w X.K X.mg X.base [v,x] (X.env.qual++Str.ofString "<lambda>") scope f (.ref c') [(x,cc)] A outer s H) body tb) (hs:starEach [e] X.env=[(false,eval e X.env)]:=by rfl) :
  PE X (.Call (.Name (Str.ofString "sorted") p) [e] [⟨some (Str.ofString "key"),.Lambda params body scope Va,kp⟩] pos) (o7 X.K Pt Va (X.env.qual++Str.ofString "<lambda>") i te tb):=by
 intro pins s σ H Q I h;refine OZ (QW I hg hm Boot.«sorted» ?_ (by decide) (by decide));have ha:PA X [e] (Kd te Ke):=XZ he XY hs
 refine callWith_kw (thn (ha pos pins s σ H (λvs H1=>match vs with
  | [y]=>∃(p:Addr) (ns:Ac) (vx:V) (key:Int->Bool),y=.ref p/\SqL X.K H1 p (ns.map V.int)/\ns.length<64/\TabH H1 Pt Va (X.env.qual++Str.ofString "<lambda>")/\σ[i]?=some (some vx) /\
   (∀ H2,SameX Pt H1 H2->∀ z∈ns,tb [some (.int z),some vx] H2 λr H3=>r=.bl (key z)/\H3=H2) /\
   ∀(ms:Ac) (l:Addr) (H2:Hp),Sj (λz=>b2i (key z)) ns ms->SameX Pt H1 H2->TabH H2 Pt Va (X.env.qual++Str.ofString "<lambda>")->H2 l=none->Q (.ref l) (upd H2 l (.lst (ms.map V.int)))
  | _=>False) I h) λus s1 hh=>?_) (by rw[hs];rfl) (by rw[hs];rfl) rfl rfl
 obtain⟨vs,H1,I1,r,q⟩:=hh
 match vs,r,q with
 | [],_,q=>exact False.elim q
 | _ :: _ :: _,_,q=>exact False.elim q
 | [y],r,q =>
  obtain⟨p2,ns,vx,key,rfl,hq,QO,hT,hσ,hk,q⟩:=q;obtain⟨u,rfl,ru⟩:=Sw r;obtain rfl:u=Value.ref p2:=ru;refine kws_cons (pw I1 UR hC hB hT QL Jf CY λf c' pm Sl s2 H2 sx tab F I2 hf WE=>kws_nil ?_);have I3:=I2.pin1 F hf λv z=>by cases z
  have LG:=SqL.samexT hq hT sx;obtain⟨XW,rv,g1,hz⟩:=I2.list LG;have hv:=ZT rv
  refine ZE5 I3 g1.isList hv QO (key:=key) (λpl z t s3 hmem J=>?_) λs3 a m out ms Fa J MW Jh UZ=>?_
  .-- the lambda called
   have Qm:s3.heap.get? f=some (kla_obj (Str.ofString "<lambda>") (X.env.qual++Str.ofString "<lambda>") params body scope [(x,cc)] pm c' Sl):=(J.pin (f,_) (Yf _ (Yb _ (Yf _ Ye)))).1;obtain⟨mm,_,o6⟩:=J.loc;obtain⟨ux,rx,CO⟩:=o6 i x vx hi hσ (.inr (.inl dO));have Sx:s3.heap.IsCell cc (some ux):=by
    rcases CO with ⟨kz,_⟩ | ⟨_,c2,e2,Vf⟩
    .rw[dO]at kz;cases kz
    .rw[Wo]at e2;cases e2;exact Vf
   have MY:s3.heap.CodeRec (.ref c') (X.env.qual++Str.ofString "<lambda>"):=(J.hok c' _ WE).1;have Wd:Room (k+1) X.A.in1.in1:=(hr.in1).in1
   refine Gm (Mc (pD (u:=.int z t) (vv:=.int z) S Wd J.env0.in1.in1 Qm MY (TV c' pm Sl _) Sx rx (J.freeC x cc Wo) ⟨t,rfl⟩ (hb f c' _ _ s3 H2 (Wd.deeper _)) (hk H2 sx z hmem)) λrr s4 hh=>?_);obtain⟨u',rfl,ce⟩:=hh;obtain⟨v',H',J',rG,e1,e2⟩:=J.after ce;subst e1 e2;obtain rfl:=rG;exact⟨rfl,J'⟩
  .have J0:Inv X pins σ H2 s3:=J.unpinned;have Fa0:FpOk X pins H2 a:=⟨Fa.1,Fa.2.1,Fa.2.2.1,Fa.2.2.2.1,Fa.2.2.2.2.1,λp hp=>Fa.2.2.2.2.2 p (by
    rcases Xx.mp hp with hp | hp
    .exact Yb _ hp
    .exact Yf _ (Yb _ hp))⟩
   have Ny:ms.length=ns.length:=by obtain⟨pp,h1,_,rfl⟩:=UZ;rw[Yd,h1.length_eq,OX]
   refine⟨.ref a,_,J0.adopt hex Fa0 (u:=.lst (ms.map V.int)) ⟨?_,out.toList,m,Qe Jh,by simpa using MW⟩,rfl,q ms a H2 UZ sx tab Fa.1⟩;rw[Yd,Ny]
   have:sizeLine=16777216:=Uj
   lia
end
abbrev Ro:List (Str × Value):=[(Str.ofString "default",.none)]
section
variable{prog:Program}{w:World}{A:Around}{I S:Addr}{fp wr:List Addr}{n:Nat}{P:Nat->Value->Prop}{St:Nat->Heap->Prop}{R:Result->Shared->Prop}
theorem Za8(W:Walks prog w A.in1 I fp wr n P St)(lt:Nat->Nat->Bool)(C:Heap->Prop)(ck:∀ h h',C h->(∀ b o,b≠S->b∉wr->h.get? b=some o->h'.get? b=some o)->C h')(cc:∀(s:Shared) (i j:Nat) (v u:Value) (E:Ae) (Q:Ae),C s.heap->i≠j->P i v->P j u->Q (.bool (lt i j)) s->wpAny (model prog w) A.in1 (compareOp .Lt v u) Q E s)(SV:S∉fp):∀(k j:Nat) (s:Shared) (vb:Value) (c:Nat),n - (j+1)=k->j+1<=n->St (j+1) s.heap->P (argBest lt j) vb->C s.heap ->
  s.heap.get? S=some { cls:=.type "list",dict:=none,data:=.seq #[vb,vb] c,slots:=#[] } ->
  (∀ v h' tk,P (argBest lt (n - 1)) v->(∀ b o,b≠S->b∉wr->s.heap.get? b=some o->h'.get? b=some o)->R (.ok (.ret v)) { s with heap:=h',toks:=tk }) ->
  codeAny (model prog w) A (.builtin "min.loop" ⟨[.ref I,.none,.ref S],Ro⟩) R s:=by
 have x9:S∉wr:=λh=>SV (W.sub _ h);have nm:(toString "min"++toString ".loop":String)="min.loop":=by decide
 intro k
 induction k with
 | zero =>
  intro j s vb c hk hj st pb ta hS hR;have ej:j+1=n:=by grind
  refine SE zQ ?_;rw[KZ Ol _];show wpAny _ A.in1 (seqItems? (.ref S) >>= _) _ _ s
  refine XU (KS hS rfl ?_);show wpAny _ A.in1 (tryCatch (pyNext (.ref I)) _ >>= _) _ _ s
  refine XU (Gz (W.done s _ _ (ej ▸ st) λh' tk TU=>?_));have Tv:=TU S _ x9 hS
  show wpAny _ A.in1 (updateSeq S (λ_=>#[]) >>= _) _ _ _;refine XU (zP Tv rfl (XU (HP (Yk ?_))));exact hR vb _ tk (by rw[<- ej];exact pb) λb o b1 b2 e=>(YN _ _ (YZ b1)).trans (TU b o b2 e)
 | succ k ih =>
  intro j s vb c hk hj st pb ta hS hR;have Xd:j+1<n:=by omega
  refine SE zQ ?_;rw[KZ Ol _];show wpAny _ A.in1 (seqItems? (.ref S) >>= _) _ _ s
  refine XU (KS hS rfl ?_);show wpAny _ A.in1 (tryCatch (pyNext (.ref I)) _ >>= _) _ _ s
  refine XU (Gz (W.item (j+1) s _ _ Xd st λv h' tk pv Tz TU=>?_));have Tv:=TU S _ x9 hS
  have o5:=ck _ h' ta λb o _ b2 e=>TU b o b2 e;show wpAny _ A.in1 (tryCatch (holding [v,v] (richCompare .Lt (v) (vb) >>= _)) _ >>= _) _ _ _
  refine XU (Gz (SA (XU (show wpAny _ _ (compareOp .Lt (v) (vb)) _ _ _ from cc { s with heap:=h',toks:=tk } (j+1) _ v vb _ _ o5 (Sa (Nat.lt_succ_of_le (My.So _ _))) pv pb ?_))));refine XU (SA (Oo ?_));refine XU (HP (Yk ?_));cases hb:lt (j+1) (argBest lt j) with
  | true =>
   simp only [OT];refine XU (zP Tv rfl (XU (HP ?_)));rw[nm];have up:∀ b o,b≠S->h'.get? b=some o->(h'.update S (Obj.mapSeq λ_=>#[v,v])).get? b=some o:=λb o b1 e=>(YN _ _ (YZ b1)).trans e
   refine Yk ⟨UM Ol _,ih (j+1) _ (v) _ (by omega) Xd (W.frame _ h' _ Tz λb LA o e=>up b o (λh=>SV (h ▸ LA)) e) ?_ (ck _ _ o5 λb o b1 _ e=>up b o b1 e) (Vw _ Tv rfl) λv' CN PD CM CL=>?_⟩
   .unfold argBest;rw[if_pos hb];exact pv
   .exact hR v' CN PD CM λb o b1 b2 e=>CL b o b1 b2 (up b o b1 (TU b o b2 e))
  | false =>
   simp only [GI,KH];refine XU (HP ?_);rw[nm];refine Yk ⟨UM Ol _,ih (j+1) _ (vb) c (by omega) Xd Tz ?_ o5 Tv λv' CN PD CM CL=>?_⟩
   .unfold argBest;rw[if_neg (by rw[hb];decide)];exact pb
   .exact hR v' CN PD CM λb o b1 b2 e=>CL b o b1 b2 (TU b o b2 e)
theorem ZK6 (W:Walks prog w A.in1 I fp wr n P St) (lt:Nat->Nat->Bool) (C:Heap->Prop) (ck:∀ h h',C h->(∀ b o,b≠S->b∉wr->h.get? b=some o->h'.get? b=some o)->C h') (cc:∀(s:Shared) (i j:Nat) (v u:Value) (E:Ae) (Q:Ae),C s.heap->i≠j->P i v->P j u->Q (.bool (lt i j)) s->wpAny (model prog w) A.in1 (compareOp .Lt v u) Q E s) (SV:S∉fp) (hn:0<n) {s:Shared} {c:Nat} (st:St 0 s.heap) (ta:C s.heap) (hS:s.heap.get? S=some { cls:=.type "list",dict:=none,data:=.seq #[] c,slots:=#[] })
  (hR:∀ v h' tk,P (argBest lt (n - 1)) v->(∀ b o,b≠S->b∉wr->s.heap.get? b=some o->h'.get? b=some o)->R (.ok (.ret v)) { s with heap:=h',toks:=tk }) :
  codeAny (model prog w) A (.builtin "min.loop" ⟨[.ref I,.none,.ref S],Ro⟩) R s:=by
 have x9:S∉wr:=λh=>SV (W.sub _ h);have nm:(toString "min"++toString ".loop":String)="min.loop":=by decide
 refine SE zQ ?_;rw[KZ Ol _];show wpAny _ A.in1 (seqItems? (.ref S) >>= _) _ _ s
 refine XU (KS hS rfl ?_);show wpAny _ A.in1 (tryCatch (pyNext (.ref I)) _ >>= _) _ _ s
 refine XU (Gz (W.item 0 s _ _ hn st λv h' tk pv Tz TU=>?_));have Tv:=TU S _ x9 hS
 show wpAny _ A.in1 (updateSeq S (λ_=>#[v,v]) >>= _) _ _ _;refine XU (zP Tv rfl ?_);rw[nm];have up:∀ b o,b≠S->h'.get? b=some o->(h'.update S (Obj.mapSeq λ_=>#[v,v])).get? b=some o:=λb o b1 e=>(YN _ _ (YZ b1)).trans e
 refine Yk ⟨UM Ol _,Za8 W lt C ck cc SV _ 0 _ v _ rfl hn (W.frame _ h' _ Tz λb LA o e=>up b o (λh=>SV (h ▸ LA)) e) pv (ck _ _ ta λb o b1 b2 e=>up b o b1 (TU b o b2 e)) (Vw _ Tv rfl) λv' CN PD CM CL=>?_⟩;exact hR v' CN PD CM λb o b1 b2 e=>CL b o b1 b2 (up b o b1 (TU b o b2 e))
theorem o4 (W:Walks prog w A.in1 I fp wr n P St) (hn:n=0) (SV:S∉fp) {s:Shared} {c:Nat} (st:St 0 s.heap) (hS:s.heap.get? S=some { cls:=.type "list",dict:=none,data:=.seq #[] c,slots:=#[] })
  (hR:∀ h' tk,(∀ b o,b≠S->b∉wr->s.heap.get? b=some o->h'.get? b=some o)->R (.ok (.ret .none)) { s with heap:=h',toks:=tk }) :
  codeAny (model prog w) A (.builtin "min.loop" ⟨[.ref I,.none,.ref S],Ro⟩) R s:=by
 subst hn;refine SE zQ ?_;rw[KZ Ol _];show wpAny _ A.in1 (seqItems? (.ref S) >>= _) _ _ s
 refine XU (KS hS rfl ?_);show wpAny _ A.in1 (tryCatch (pyNext (.ref I)) _ >>= _) _ _ s
 refine XU (Gz (W.done s _ _ st λh' tk TU=>?_));refine XU (Gp (Yk ?_));exact hR h' tk λb o _ b2 e=>TU b o b2 e
theorem Zw4{E:Ae}{s:Shared}{id:String}{b:Builtin}{args:Ag}{kw:List (Str × Value)}{Q:Ae}(hk:builtinKind id=none)(hp:plainId id=true)(hb:entryFor table id=some b)(ha:argsOk id ⟨args,kw⟩)
  (hc:wpAny (model prog w) A.in1 (b ⟨args,kw⟩) (λfin s'=>match fin with
   | .done f=>(match (Except.ok f:Result) with | .ok (.ret v)=>Q v s' | .ok _=>False | .error e=>E e s')
   | .again c'=>c'.quiet=true/\codeAny (model prog w) A c' (λr s'=>match r with | .ok (.ret v)=>Q v s' | .ok _=>False | .error e=>E e s') s') E s):wpAny (model prog w) A (call (.builtin id) args kw) Q E s:=by
 refine Gm (codeAny_call_builtin hp hb ?_);simp only [checkBuiltinCall,hk];cases o3:Manifest.signature? id with
 | none=>exact Yk hc
 | some sig =>
  have yS:Bind.checkArgs id sig ⟨args,kw⟩=pure ():=by simpa only [argsOk,o3] using ha
  simp only [yS];exact Yk hc
theorem oZ (a:Value):argsOk "min" ⟨[a],Ro⟩:=by unfold argsOk;kernel_rfl
theorem CK{E:Ae}{s:Shared}{l:Addr}{xs:Array (Int × Tok)}{Q:Ae}(hh:A.handled=none)(hl:s.heap.IsList l (intItems xs))
  (h0:xs.size=0->∀ h' tk,(∀ b o,s.heap.get? b=some o->h'.get? b=some o)->Q .none { s with heap:=h',toks:=tk })
  (h:0<xs.size->∀ v h' tk,(intItems xs)[argBest (λi j=>decide (numAt xs i<numAt xs j)) (xs.size - 1)]?=some v->(∀ b o,s.heap.get? b=some o->h'.get? b=some o)->Q v { s with heap:=h',toks:=tk }) :
  wpAny (model prog w) A (call (.builtin "min") [.ref l] Ro) Q E s:=by
 have nm:(toString "min"++toString ".loop":String)="min.loop":=by decide
 refine Zw4 F.kind_min F.plain_min F.entry_min (oZ _) ?_;show wpAny _ A.in1 (Builtin.Builtins.bindParams "min" ["key","default"] 0 ⟨[],Ro⟩ >>= _) _ _ s
 refine XU (Of (a:=[none,some .none]) rfl ?_);refine XU (Yk ?_);refine XU (iter_intList hl λs₂ e st yk hlI=>?_);subst e;refine XU (Om ?_);rw[nm];have W:=Walks.list (prog:=prog) (w:=w) (A:=A.in1) hh s.heap.objs.size l hlI (intItems xs)
 obtain⟨G,hG⟩:∃ G,G=s.heap.push { cls:=.type "list_iterator",data:=.fields #[.ref l,.int 0 0] }:=⟨_,rfl⟩;have hold:∀ b o,s.heap.get? b=some o->b≠G.objs.size/\b∉[s.heap.objs.size]/\(G.push { cls:=.type "list",data:=.seq #[] 0 }).get? b=some o:=λb o e=>by
  have Xd:=Yo e;have oY:b<G.objs.size:=by rw[hG];exact Yr Xd (by rw[Oj];exact Us _)
  refine⟨Yx oY,λhm=>by rw[XD.mp hm]at Xd;exact QY _ Xd,WZ _ (by rw[hG];exact WZ _ e)⟩
 rw[<- hG]at st yk ⊢;have SV:G.objs.size∉[s.heap.objs.size,l]:=λhm=>QY _ (yk _ hm)
 have NX:=W.frame 0 G (G.push { cls:=.type "list",data:=.seq #[] 0 }) st λb _ o e=>WZ _ e;have oX:(intItems xs).size=xs.size:=by simp[intItems]
 rcases Nat.eq_zero_or_pos xs.size with hz | hz
 .refine Yk ⟨UM Ol _,o4 W (oX.trans hz) SV NX (Ym _ rfl) λh' tk hk=>?_⟩;exact h0 hz h' tk λb o e=>let ⟨a1,a2,a3⟩:=hold b o e;hk b o a1 a2 a3
 .refine Yk ⟨UM Ol _,ZK6 W (λi j=>decide (numAt xs i<numAt xs j)) (λ_=>True) (λ_ _ _ _=>trivial) (λs i j v u E Q _ _ pv pu q=>?_) SV (by rw[oX];exact hz) NX trivial (Ym _ rfl) λv h' tk pv hk=>?_⟩
  .obtain⟨t1,rfl⟩:=intItems_at pv;obtain⟨t2,rfl⟩:=intItems_at pu;exact lt_int q
  .rw[oX]at pv;exact h hz v h' tk pv λb o e=>let ⟨a1,a2,a3⟩:=hold b o e;hk b o a1 a2 a3
end
def oW(K:Ad)(te:TE):TE:=λσ H Q=>te σ H λy H1=>∃(p:Addr) (ns:Ac),y=.ref p/\SqL K H1 p (ns.map V.int)/\(ns=[]->Q .non H1)/\∀ m:Int,m∈ns->(∀ a∈ns,m<=a)->Q (.int m) H1
theorem dN {X:Cx} {p kp pos cp:Pos} {e:Expr} {te:TE} {j:Nat} (hc:X.calm=true) (hg:Gl X (Str.ofString "min")) (hm:X.mg (Str.ofString "min")=none) (he:PE X e te) (hs:starEach [e] X.env=[(false,eval e X.env)]:=by rfl) :
  PE X (.Call (.Name (Str.ofString "min") p) [e] [⟨some (Str.ofString "default"),.Constant .none j cp,kp⟩] pos) (oW X.K te):=by
 intro pins s σ H Q I h;refine OZ (QW I hg hm Boot.«min» ?_ (by decide) (by decide));have ha:PA X [e] (Kd te Ke):=XZ he XY hs
 refine callWith_kw (thn (ha pos pins s σ H (λvs H1=>match vs with
  | [y]=>∃(p:Addr) (ns:Ac),y=.ref p/\SqL X.K H1 p (ns.map V.int)/\(ns=[]->Q .non H1)/\∀ m:Int,m∈ns->(∀ a∈ns,m<=a)->Q (.int m) H1
  | _=>False) I h) λus s1 hh=>?_) (by rw[hs];rfl) (by rw[hs];rfl) rfl rfl
 obtain⟨vs,H1,I1,r,q⟩:=hh
 match vs,r,q with
 | [],_,q=>exact False.elim q
 | _ :: _ :: _,_,q=>exact False.elim q
 | [y],r,q =>
  obtain⟨p2,ns,rfl,hq,q0,q1⟩:=q;obtain⟨u,rfl,ru⟩:=Sw r;obtain rfl:u=Value.ref p2:=ru;refine kws_cons (Constant_none (kws_nil ?_));obtain⟨XW,rv,pl,hz⟩:=I1.list hq;have hi:=ZT rv
  obtain⟨xs,e'⟩:=hi.allInts.items;have Sk:ns=xs.toList.map (·.1):=by rw[<- hi.numsOf,<- nums_intItems,<- e']
  have hl:=pl.isList;rw[e']at hl;refine CK (I1.ok.hd hc) hl (λhsz h' tk hk=>?_) λhsz v h' tk hv hk=>?_
  .refine⟨.non,H1,I1.kept (t':=tk) hk,rfl,q0 ?_⟩;rw[Sk,GN];exact YQ.mp (by rw[YE];exact hsz)
  .obtain⟨t,rfl⟩:=intItems_at hv;obtain⟨h1,h2⟩:=argBest_lt (numAt xs) (xs.size - 1);refine⟨.int _,H1,I1.kept (t':=tk) hk,⟨t,rfl⟩,q1 _ ?_ λa ha=>?_⟩
   .rw[Sk,numAt_eq];exact getD_mem (by rw[Yd,YE];omega)
   .rw[Sk]at ha;obtain⟨j,hj,rfl⟩:=mem_getD ha;rw[Yd,YE]at hj;rw[<- numAt_eq];exact h2 j (by grind)
end L2
namespace My
open PySem L2
def CJ (K:Ad) (mg:Af) (x qual:Str) (st:Stmt) (fs:List Str) (Pt:Addr):Prop:=∃(C f:Addr) (fd:FuncData) (c:Addr),mg x=some (.ref C)/\Fun K "__init__" qual st f fd/\Cls K C/\Mk K C f/\(∀ a∈fs,NoAttr K C a)/\fd.code=.ref c/\PySem.W.codeHdIn K c Pt=true
theorem Jb{K:Ad}{h:Heap}{mg:Af}{x qual:Str}{fs:List Str}{st:Stmt}{C f cA Pt:Addr}{oc:Value}{od an:Option Addr}{Up:Array (Option Value)}{kV doc pm ct:Value}(X:K.In h)(G:h.Ns mainGlobals mg)
  (aC:PySem.W.nsIn K mainGlobals x=some (some (.ref C))) (a:PySem.W.findIn K (.ref C) "__init__"=some (some (.ref f))) (i:PySem.W.isFn K (.ref f)=true)
  (l:K.lookup f=some ⟨oc,od,.func (PySem.W.fnOf "__init__" qual (JS st) (OO st) (XB st) .none kV doc pm an (.ref cA) ct),Up⟩) (c:PySem.W.codeIn K (.ref cA) qual=true) (k:PySem.W.keepIn K (.ref f)=true)
  (pg:PySem.W.plainGet K C Str.empty=true) (hd:PySem.W.hasDictIn K C=true) (po:PySem.W.plainOver K C=true) (sa:PySem.W.findIn K (.ref C) "__setattr__"=some (some (.builtin "object.__setattr__"))) (mk:PySem.W.makesIn K C=true) (kc:PySem.W.keepIn K (.ref C)=true)
  (na:∀ a∈fs,PySem.W.findIn K (.ref C) a=some none) (z:PySem.W.codeHdIn K cA Pt=true):CJ K mg x qual st fs Pt :=
 ⟨C,f,_,cA,zM X G aC,JR l c k,⟨pg,hd,po,sa⟩,⟨mk,a,i,kc⟩,na,rfl,z⟩
def MV(M:Ac)(ps:Aa)(g:Ac)(i:Nat):Ac:=(Wz i).filter λz=>decide (z∉g/\mk M (ps.getD z.toNat (0,0)).1.toNat≠mk M (ps.getD z.toNat (0,0)).2.toNat)
theorem ZY9(M:Ac)(ps:Aa)(g:Ac)(i:Nat):MV M ps g (i+1)=MV M ps g i++if (i:Int)∉g/\mk M (ps.getD i (0,0)).1.toNat≠mk M (ps.getD i (0,0)).2.toNat then [(i:Int)] else []:=by
 unfold MV;rw[gn,QH];congr 1;rw[YM,KC];show(if decide ((i:Int)∉g/\mk M (ps.getD ((i:Int).toNat) (0,0)).1.toNat≠mk M (ps.getD ((i:Int).toNat) (0,0)).2.toNat)=true then [(i:Int)] else [])=_
 rw[YC];simp only [KY]
theorem oV(M:Ac)(ps:Aa)(g:Ac)(i:Nat):(MV M ps g i).length<=i:=Yv (YB ..) (by rw[ZI];exact XN _)
def Xc:Option Int->V
 | none=>.non
 | some z=>.int z
def x8 (w k s ld l i fu:V):List (Str × V):=[("web",w),("kept",k),("shut",s),("lead",ld),("least",l),("incoming",i),("further",fu)]
theorem WI{H:Hp}{x:Addr}{o:HO}:SameX x H (upd H x o):=λb o' hb e=>by rw[Zb hb];exact e
theorem WebAt.but{C CP w x dx:Addr}{H H1:Hp}{n:Int}{ps:Aa}(h:WebAt C H w n ps)(hx:H x=some (.ins CP dx []))(s:SameX x H H1):WebAt C H1 w n ps:=by
 obtain⟨d,tl,xs,h1,h2,h3⟩:=h;refine⟨d,tl,xs,s _ _ (λe=>?_) h1,s _ _ (λe=>?_) h2,h3.1,λi p e=>?_⟩
 .rw[e,hx]at h1
  have:=Xw (λo=>match o with | some (HO.ins _ _ fs)=>fs.length | _=>0) h1
  exact absurd this (by show ¬ 0=2;decide)
 .rw[e,hx]at h2;cases h2
 .obtain⟨v,a1,tt,a2,a3⟩:=h3.2 i p e;exact⟨v,a1,tt,a2,s _ _ (λe=>by rw[e,hx]at a3;cases a3) a3⟩
theorem CI{K:Ad}{CP a x dx:Addr}{H H1:Hp}{xs:List V}(h:SqT K H a xs)(hx:H x=some (.ins CP dx []))(s:SameX x H H1):SqT K H1 a xs:=by
 rcases h with (h | ⟨o,h⟩) | h
 .exact .inl (.inl (s _ _ (λz=>by rw[z,hx]at h;cases h) h))
 .exact .inl (.inr ⟨o,s _ _ (λz=>by rw[z,hx]at h;cases h) h⟩)
 .exact .inr h
theorem oU{CP Pt x dx:Addr}{H H1:Hp}{pos:Pos}{qual:Str}(t:TabH H Pt pos qual)(hx:H x=some (.ins CP dx []))(s:SameX x H H1):TabH H1 Pt pos qual:=by
 obtain⟨ps,h1,h2,h3⟩:=t;refine⟨ps,s _ _ (λe=>by rw[e,hx]at h1;cases h1) h1,h2,?_⟩;rcases h3 with h | ⟨c,h,h'⟩
 .exact .inl h
 .exact .inr ⟨c,h,s _ _ (λe=>by rw[e,hx]at h';cases h') h'⟩
theorem CH{K:Ad}{H:Hp}{a b:Addr}{l m:Ac}{Q:VK}(ha:SqT K H a (IL l))(hb:SqT K H b (IL m))(hl:l.length+m.length<=1000)(k:∀(r:Addr) (H':Hp),Same H H'->SqT K H' r (IL (l++m))->Q (.ref r) H'):Qd K (.ref a) (.ref b) H Q:=by
 refine⟨a,b,_,_,rfl,rfl,ha,hb,by rw[Xz,Xz];exact Yv hl (by decide),λe=>?_,λ_ e=>?_,λ_ _ p hp=>?_⟩
 .have el:l=[]:=GN.mp e;rw[el,OV]at k;exact k b H (Same.refl _) hb
 .have em:m=[]:=GN.mp e;rw[em,YF]at k;exact k a H (Same.refl _) ha
 .refine k p _ (XM hp) (SqT.of ?_);rw[XR,Hz]
def UQ(M:Ac)(ps:Aa)(z:Int):Int × Int:=(min (mk M (ps.getD z.toNat (0,0)).1.toNat) (mk M (ps.getD z.toNat (0,0)).2.toNat),max (mk M (ps.getD z.toNat (0,0)).1.toNat) (mk M (ps.getD z.toNat (0,0)).2.toNat))
theorem dM{l:Ac}{a b:Int}(hp:l.Perm [a,b])(hs:l.Pairwise (·<=·)):l=[min a b,max a b]:=by
 by_cases c:a<=b
 .rw[KA c,wO c];exact RF hp hs (by simpa using c)
 .rw[wQ (by lia),Kz (by omega)];exact RF (hp.trans (List.Perm.swap b a [])) hs (by simp;omega)
theorem dJ{M:Ac}{ps:Aa}{g:Ac}{i:Nat}{z:Int}(h:z∈MV M ps g i):0<=z/\z<(i:Int):=XE.mp (Yc.mp h).1
def WV(n:Int)(ps:Aa)(I O F:Ac):Ac:=MV (Xu n.toNat (XT ps I)) ps (I++O++F) ps.length
def TR(n:Int)(ps:Aa)(I O F:Ac)(ld:Option Int):Ac:=(WV n ps I O F).filter λz=>decide (∃ y,ld=some y/\UQ (Xu n.toNat (XT ps I)) ps z=UQ (Xu n.toNat (XT ps I)) ps y)
def Wb(n:Int)(ps:Aa)(I O F:Ac)(ld:Option Int):Ac:=(WV n ps I O F).filter λz=>decide (z∉TR n ps I O F ld)
def PartAt(K:Ad)(CP C:Addr)(H:Hp)(x:Addr)(n:Int)(ps:Aa)(I O F inc:Ac)(ld fu:Option Int):Prop:=∃ dx w a b l i,H x=some (.ins CP dx (x8 (.ref w) (.ref a) (.ref b) (Xc ld) (.ref l) (.ref i) (Xc fu)))/\WebAt C H w n ps/\SqT K H a (IL I)/\SqT K H b (IL O)/\H l=some (.tup (IL F))/\H i=some (.lst (IL inc))
theorem PartAt.samex{K:Ad}{CP C Pt x:Addr}{H H2:Hp}{n:Int}{ps:Aa}{I O F inc:Ac}{ld fu:Option Int}{pos:Pos}{qual:Str}(h:PartAt K CP C H x n ps I O F inc ld fu)(t:TabH H Pt pos qual)(sx:SameX Pt H H2):PartAt K CP C H2 x n ps I O F inc ld fu:=by obtain⟨dx,w,a,b,l,i,h1,h2,h3,h4,h5,h6⟩:=h;exact⟨dx,w,a,b,l,i,sx _ _ (t.ne h1 (by simp)) h1,h2.samex t sx,SqK.samex (kd:=true) h3 t sx,SqK.samex (kd:=true) h4 t sx,sx _ _ (t.ne h5 (by simp)) h5,sx _ _ (t.ne h6 (by simp)) h6⟩
structure PartOk (n:Int) (ps:Aa) (I O:Ac) (ld:Option Int) (F inc:Ac) (fu:Option Int):Prop where
 tr:With n ps I O F
 least:∀ U,With n ps I O U->HT.lexLt U F=false
 inc:Sj (λz=>PyProof.Rows.b2i (decide (ld=some z))) (TR n ps I O F ld) inc
 none:fu=none↔Wb n ps I O F ld=[]
 some:∀ y,fu=some y->y∈Wb n ps I O F ld/\∀ z∈Wb n ps I O F ld,y<=z
def xchT(F:Ac)(o z:Int):Ac:=(wo F o++[z]).mergeSort λa b=>decide (a<=b)
theorem Lw(F:Ac)(o z:Int):(xchT F o z).Perm (wo F o++[z]):=List.mergeSort_perm _ _
theorem Rn(F:Ac)(o z:Int):(xchT F o z).Pairwise (·<=·):=by
 refine(ji (le:=λa b:Int=>decide (a<=b)) (λa b c h1 h2=>?_) (λa b=>?_) _).imp λh=>Yu h
 .simp only [KY]at *;lia
 .simp only [Ky,KY];lia
def WK(n:Int)(ps:Aa)(I F:Ac)(z:Int):Ac:=(UT n ps F z F).filter λt=>decide (t∉I)
section
variable{n:Int}{ps:Aa}{I O F T M:Ac}{x y z:Int}(g:Zu n ps)
include g
theorem CG(hF:With n ps I O F)(he:exg n ps F x y)(hx:x∉I)(hy:y∉O)(hp:M.Perm (wo F x++[y]))(hs:M.Pairwise (·<=·)):With n ps I O M:=by
 refine⟨Eb g hF.1 he hp hs,λv hv=>(Nu g hF.1 he hp hs).mpr (.inl ⟨hF.2.1 v hv,λe=>hx (e ▸ hv)⟩),λv hv h=>?_⟩;rcases(Nu g hF.1 he hp hs).mp h with h | h
 .exact hF.2.2 v hv h.1
 .exact hy (h ▸ hv)
theorem dI(hF:Ze n ps F)(he:exg n ps F x y)(h:y<x)(hp:M.Perm (wo F x++[y]))(hs:M.Pairwise (·<=·)):HT.lexLt M F=true:=by
 have tM:=Eb g hF he hp hs;have yF:y∉F:=((RE g hF).mp he).2.1
 refine(pL (XX.mp tM.1).2 (XX.mp hF.1).2 (by have:=tM.2.1;have:=hF.2.1;lia)).mpr ⟨y,(Nu g hF he hp hs).mpr (.inr rfl),yF,λs OL=>?_⟩;rw[Nu g hF he hp hs];constructor
 .rintro(q | q)
  .exact q.1
  .lia
 .exact λq=>.inl ⟨q,by lia⟩
theorem SR(hF:With n ps I O F)(VL:∀ U,With n ps I O U->HT.lexLt U F=false)(hT:With n ps (I++[z]) O T)(Lv:∀ U,With n ps (I++[z]) O U->HT.lexLt U T=false):∀ v∈T,v∈F\/v=z:=λv hv=>Yt λno=>by
 have vF:v∉F:=λh=>no (.inl h);have vz:v≠z:=λh=>no (.inr h)
 obtain⟨u,e1,e2⟩:=rT g hT.1 hF.1 hv vF;have uF:u∈F:=e2.1
 have uT:u∉T:=((RE g hT.1).mp e1).2.1;have uI:u∉I:=λh=>uT (hT.2.1 u (Yb _ h))
 have vO:v∉O:=λh=>hT.2.2 v h hv;have uO:u∉O:=λh=>hF.2.2 u h uF
 have vI:v∉I++[z]:=λh=>by
  rcases Xx.mp h with h | h
  .exact vF (hF.2.1 v h)
  .exact vz (XD.mp h)
 have uv:u≠v:=λe=>uT (e ▸ hv);obtain⟨M1,p1,q1⟩:=rR (wo F u++[v]);have w1:=CG g hF e2 uI vO p1 q1
 obtain⟨M2,p2,q2⟩:=rR (wo T v++[u]);have w2:=CG g hT e1 vI uO p2 q2
 rcases Int.lt_or_lt_of_ne uv with h | h
 .have:=dI g hT.1 e1 h p2 q2
  rw[Lv M2 w2]at this;cases this
 .have:=dI g hF.1 e2 h p1 q1
  rw[VL M1 w1]at this;cases this
theorem MU(hF:With n ps I O F)(VL:∀ U,With n ps I O U->HT.lexLt U F=false)(hz:z∉F):With n ps I (O++[z]) F/\∀ U,With n ps I (O++[z]) U->HT.lexLt U F=false :=
 ⟨⟨hF.1,hF.2.1,λv hv=>(Xx.mp hv).elim (hF.2.2 v) λh=>by rw[XD.mp h];exact hz⟩,λU hU=>VL U ⟨hU.1,hU.2.1,λv hv=>hU.2.2 v (Yb _ hv)⟩⟩
end
theorem WH{n:Int}{ps:Aa}{I O T:Ac}{z:Int}:With n ps I O T↔With n ps I (O++[z]) T\/With n ps (I++[z]) O T:=by
 constructor
 .intro h;by_cases c:z∈T
  .exact .inr ⟨h.1,λv hv=>(Xx.mp hv).elim (h.2.1 v) λe=>by rw[XD.mp e];exact c,h.2.2⟩
  .exact .inl ⟨h.1,h.2.1,λv hv=>(Xx.mp hv).elim (h.2.2 v) λe=>by rw[XD.mp e];exact c⟩
 .rintro(h | h)
  .exact⟨h.1,h.2.1,λv hv=>h.2.2 v (Yb _ hv)⟩
  .exact⟨h.1,λv hv=>h.2.1 v (Yb _ hv),h.2.2⟩
def RowAll(n:Int)(ps:Aa)(I O:Ac)(R:Ab):Prop:=R.Nodup/\∀ T,T∈R↔With n ps I O T
theorem RowAll.pc{n:Int}{ps:Aa}{I O:Ac}{R:Ab}(h:RowAll n ps I O R):PC n ps I O R.length:=⟨R,h.1,λl=>h.2 l,rfl⟩
theorem Zn6{n:Int}{ps:Aa}{I O:Ac}{z:Int}{A B:Ab}(hA:RowAll n ps I (O++[z]) A)(hB:RowAll n ps (I++[z]) O B):RowAll n ps I O (A++B.reverse):=by
 refine⟨QP.mpr ⟨hA.1,(List.reverse_perm B).nodup_iff.mpr hB.1,λa ha b hb e=>?_⟩,λT=>?_⟩
 .subst e;exact((hA.2 a).mp ha).2.2 z (by simp) (((hB.2 a).mp (HY.mp hb)).2.1 z (by simp))
 .rw[Xx,HY,hA.2,hB.2];exact WH.symm
theorem CF{a b c d:Int}(h1:min a b=min c d)(h2:max a b=max c d):(a=c/\b=d)\/(a=d/\b=c):=by
 rcases Int.le_total a b with p | p <;> rcases Int.le_total c d with q | q <;> simp only [KA,wQ,Kz,wO,p,q]at h1 h2
 .exact .inl ⟨h1,h2⟩
 .exact .inr ⟨h1,h2⟩
 .exact .inr ⟨h2,h1⟩
 .exact .inl ⟨h2,h1⟩
section
variable{n:Int}{ps:Aa}{I O F T:Ac}{o t t':Int}(g:Zu n ps)
include g
theorem dH(hT:Ze n ps T)(ho:o∈T):¬ Conn (XT ps (wo T o)) (Zt ps o).1 (Zt ps o).2:=by obtain⟨o0,o1⟩:=hT.1.all o ho;exact(ZU g hT o0 o1).mp ((RD g hT ho ho).mpr rfl)
theorem ZQ7(hT:Ze n ps T)(hI:∀ v∈I,v∈T)(ht:t∈T)(hn:t∉I):¬ Conn (XT ps I) (Zt ps t).1 (Zt ps t).2:=λc =>
 dH g hT ht (c.mono (ZA λv hv=>Xq.mpr ⟨hI v hv,λe=>hn (by rw[<- e];exact hv)⟩))
theorem dG(Xo:∀ z∈I,0<=z/\z<(ps.length:Int))(t0:0<=t)(t1:t<(ps.length:Int))(s0:0<=t')(s1:t'<(ps.length:Int))(h:UQ (Xu n.toNat (XT ps I)) ps t=UQ (Xu n.toNat (XT ps I)) ps t') :
  (Conn (XT ps I) (Zt ps t).1 (Zt ps t').1/\Conn (XT ps I) (Zt ps t).2 (Zt ps t').2)\/(Conn (XT ps I) (Zt ps t).1 (Zt ps t').2/\Conn (XT ps I) (Zt ps t).2 (Zt ps t').1):=by
 have Wn:=ZK g Xo;have a:=UD (z:=t) g t0 t1
 have b:=UD (z:=t') g s0 s1;have h:(min (mk (Xu n.toNat (XT ps I)) (Zt ps t).1) (mk (Xu n.toNat (XT ps I)) (Zt ps t).2),max (mk (Xu n.toNat (XT ps I)) (Zt ps t).1) (mk (Xu n.toNat (XT ps I)) (Zt ps t).2))=(min (mk (Xu n.toNat (XT ps I)) (Zt ps t').1) (mk (Xu n.toNat (XT ps I)) (Zt ps t').2),max (mk (Xu n.toNat (XT ps I)) (Zt ps t').1) (mk (Xu n.toNat (XT ps I)) (Zt ps t').2)):=h
 obtain⟨h1,h2⟩:=Prod.mk.inj h;rw[<- RH Wn a.1 b.1,<- RH Wn a.2 b.2,<- RH Wn a.1 b.2,<- RH Wn a.2 b.1];exact CF h1 h2
theorem ZI8(Xo:∀ z∈I,0<=z/\z<(ps.length:Int))(hT:Ze n ps T)(hI:∀ v∈I,v∈T)(ht:t∈T)(hs:t'∈T)(hn:t∉I)(RS:t'∉I)(h:UQ (Xu n.toNat (XT ps I)) ps t=UQ (Xu n.toNat (XT ps I)) ps t'):t=t':=Yt λne=>by
 obtain⟨t0,t1⟩:=hT.1.all t ht;obtain⟨s0,s1⟩:=hT.1.all t' hs;have sub:∀ v∈I++[t],v∈wo T t':=λv hv=>by
  rcases Xx.mp hv with hv | hv
  .exact Xq.mpr ⟨hI v hv,λe=>RS (by rw[<- e];exact hv)⟩
  .rw[XD.mp hv];exact Xq.mpr ⟨ht,ne⟩
 have up:∀ {i j},Conn (XT ps I) i j->Conn (XT ps (I++[t])) i j:=λc=>c.mono (ZA λv hv=>Yb _ hv);have ed:Conn (XT ps (I++[t])) (Zt ps t).1 (Zt ps t).2:=.edge (YD.mpr ⟨t,by simp,rfl⟩)
 have c:Conn (XT ps (I++[t])) (Zt ps t').1 (Zt ps t').2:=by
  rcases dG g Xo t0 t1 s0 s1 h with ⟨a,b⟩ | ⟨a,b⟩
  .exact((up a).symm.trans ed).trans (up b)
  .exact((up b).symm.trans ed.symm).trans (up a)
 exact dH g hT hs (c.mono (ZA sub))
theorem oS(Xo:∀ z∈I,0<=z/\z<(ps.length:Int))(hT:With n ps I O T)(hF:∀ v∈I,v∈F)(ht:t∈T)(hn:t∉F):t∈WV n ps I O F:=by
 obtain⟨t0,t1⟩:=hT.1.1.all t ht;have a:=UD (z:=t) g t0 t1
 have hI:t∉I:=λh=>hn (hF t h);refine Yc.mpr ⟨XE.mpr ⟨t0,t1⟩,Yn ⟨λh=>?_,λe=>?_⟩⟩
 .rcases Xx.mp h with h | h
  .rcases Xx.mp h with h | h
   .exact hI h
   .exact hT.2.2 t h ht
  .exact hn h
 .exact ZQ7 g hT.1 hT.2.1 ht hI ((RH (ZK g Xo) a.1 a.2).mp e)
end
def VV(n:Int)(ps:Aa)(I F:Ac)(asc:Bool)(z:Int):Ab:=if asc then (WK n ps I F z).map λo=>xchT F o z else ((WK n ps I F z).map λo=>xchT F o z).reverse
def VC(n:Int)(ps:Aa)(I F:Ac):Ac->Bool->Ab
 | [],_=>[]
 | z :: r,asc=>VV n ps I F asc z++VC n ps I F r (!asc)
theorem Ja(n:Int)(ps:Aa)(I F:Ac)(z:Int):∀(l:Ac) (asc:Bool),VC n ps I F (l++[z]) asc=VC n ps I F l asc++VV n ps I F (asc != (l.length % 2 == 1)) z
 | [],asc=>by show VV n ps I F asc z++[]=[]++VV n ps I F (asc != false) z;rw[YF,OV,Bool.bne_false]
 | y :: l,asc=>by show VV n ps I F asc y++VC n ps I F (l++[z]) (!asc)=VV n ps I F asc y++VC n ps I F l (!asc)++_;rw[Ja n ps I F z l,QG,YA];congr 3;rcases(by lia:l.length % 2=0/\(l.length+1) % 2=1\/l.length % 2=1/\(l.length+1) % 2=0) with ⟨a,b⟩ | ⟨a,b⟩ <;> rw[a,b] <;> cases asc <;> rfl
theorem oQ(n:Int)(ps:Aa)(I F:Ac)(asc:Bool)(z:Int):(VV n ps I F asc z).length<=F.length:=by
 unfold VV;have h:(WK n ps I F z).length<=F.length:=Yv (YB ..) (Hs n ps F z F)
 split
 .rw[Yd];exact h
 .rw[YK,Yd];exact h
theorem dF(n:Int)(ps:Aa)(I F:Ac):∀(l:Ac) (asc:Bool),(VC n ps I F l asc).length<=l.length * F.length
 | [],_=>Yl _
 | z :: l,asc=>by
  show(VV n ps I F asc z++VC n ps I F l (!asc)).length<=_;rw[Xt,YA,Nat.succ_mul]
  have:=oQ n ps I F asc z
  have:=dF n ps I F l (!asc)
  lia
def CC(n:Int)(ps:Aa)(I F inc:Ac):Ab:=F :: VC n ps I F inc (inc.length % 2 == 1)
theorem Xh{n:Int}{ps:Aa}{F:Ac}{o t:Int}:o∈UT n ps F t F↔o∈F/\t∈Vm n ps F o:=by unfold UT;rw[Yc,YS];exact Iff.rfl
theorem XG{F:Ac}{o t v:Int}:v∈xchT F o t↔(v∈F/\v≠o)\/v=t:=by rw[(Lw F o t).mem_iff,Xx,Xq,XD]
section
variable{n:Int}{ps:Aa}{I O F T:Ac}{ld:Option Int}{o t:Int}(g:Zu n ps)
include g
theorem CB(Xo:∀ z∈I,0<=z/\z<(ps.length:Int))(hF:With n ps I O F)(hu:Wb n ps I O F ld=[])(hT:With n ps I O T):T=F\/∃ t∈WV n ps I O F,∃ o∈WK n ps I F t,T=xchT F o t:=by
 by_cases c:∀ v∈T,v∈F
 .exact .inl (MX g hT.1 hF.1 c)
 .obtain⟨t,ht,hn⟩:∃ t,t∈T/\t∉F:=Yt λno=>c λv hv=>Yt λhn=>no ⟨v,hv,hn⟩;have CA:=oS g Xo hT hF.2.1 ht hn
  have alike:∀ v∈WV n ps I O F,∃ y,ld=some y/\UQ (Xu n.toNat (XT ps I)) ps v=UQ (Xu n.toNat (XT ps I)) ps y:=λv hv=>by
   have hm:v∈TR n ps I O F ld:=Yt λno=>by
    have:v∈Wb n ps I O F ld:=Yc.mpr ⟨hv,Yn no⟩
    rw[hu]at this;cases this
   exact Yu (Yc.mp hm).2
  have only:∀ v∈T,v∉F->v=t:=λv hv dE=>by obtain⟨y,e1,e2⟩:=alike v (oS g Xo hT hF.2.1 hv dE);obtain⟨y',e3,e4⟩:=alike t CA;rw[e1]at e3;cases e3;exact ZI8 g Xo hT.1 hT.2.1 hv ht (λh=>dE (hF.2.1 v h)) (λh=>hn (hF.2.1 t h)) (e2.trans e4.symm)
  obtain⟨o,e1,e2⟩:=rT g hT.1 hF.1 ht hn;have oT:o∉T:=((RE g hT.1).mp e1).2.1
  have hM:=Eb g hF.1 e2 (Lw F o t) (Rn F o t);refine .inr ⟨t,CA,o,Yc.mpr ⟨Xh.mpr ⟨e2.1,e2.2.2⟩,Yn λh=>oT (hT.2.1 o h)⟩,MX g hT.1 hM λv hv=>XG.mpr ?_⟩;by_cases cv:v∈F
  .exact .inl ⟨cv,λe=>oT (by rw[<- e];exact hv)⟩
  .exact .inr (only v hv cv)
theorem Cz(hF:With n ps I O F)(ht:t∈WV n ps I O F)(ho:o∈WK n ps I F t):With n ps I O (xchT F o t):=by
 obtain⟨h1,h2⟩:=Yc.mp ht;obtain⟨hg,_⟩:=Yu h2;obtain⟨h3,h4⟩:=Yc.mp ho;obtain⟨h5,h6⟩:=Xh.mp h3;have tF:t∉F:=λh=>hg (Yf _ h)
 exact CG g hF ⟨h5,λe=>tF (by rw[e];exact h5),h6⟩ (Yu h4) (λh=>hg (Yb _ (Yf _ h))) (Lw F o t) (Rn F o t)
end
theorem Si{n:Int}{ps:Aa}{I F T:Ac}{asc:Bool}{z:Int}:T∈VV n ps I F asc z↔∃ o∈WK n ps I F z,T=xchT F o z:=by
 have h:T∈((WK n ps I F z).map λo=>xchT F o z)↔∃ o∈WK n ps I F z,T=xchT F o z:=by rw[YD];exact⟨λ⟨o,h1,h2⟩=>⟨o,h1,h2.symm⟩,λ⟨o,h1,h2⟩=>⟨o,h1,h2.symm⟩⟩
 unfold VV;split
 .exact h
 .rw[HY];exact h
theorem Wa{n:Int}{ps:Aa}{I F T:Ac}:∀ {l:Ac} {asc:Bool},T∈VC n ps I F l asc↔∃ z∈l,∃ o∈WK n ps I F z,T=xchT F o z
 | [],_=>⟨λh=>(by cases h),λ⟨_,h,_⟩=>(by cases h)⟩
 | z :: l,asc=>by
  show T∈VV n ps I F asc z++VC n ps I F l (!asc)↔_;rw[Xx,Si,Wa];constructor
  .rintro(h | ⟨z',h1,h2⟩)
   .exact⟨z,Ye,h⟩
   .exact⟨z',Yi _ h1,h2⟩
  .rintro⟨z',h1,h2⟩;rcases Yj.mp h1 with e | e
   .exact .inl (e ▸ h2)
   .exact .inr ⟨z',e,h2⟩
theorem Zs9{F:Ac}{o o' t t':Int}(ht:t∉F)(e:xchT F o t=xchT F o' t'):t=t':=by
 have:t∈xchT F o' t':=e ▸ XG.mpr (.inr rfl)
 rcases XG.mp this with h | h
 .exact absurd h.1 ht
 .exact h
theorem oP{F:Ac}{o o' t:Int}(ho:o∈F)(ht:t∉F)(e:xchT F o t=xchT F o' t):o=o':=Yt λne=>by
 have h1:o∈xchT F o' t:=XG.mpr (.inl ⟨ho,ne⟩);rw[<- e]at h1;rcases XG.mp h1 with h | h
 .exact h.2 rfl
 .exact ht (h ▸ ho)
theorem Zb8{n:Int}{ps:Aa}{I F:Ac}(hF:F.Nodup){asc:Bool}{z:Int}(hz:z∉F):(VV n ps I F asc z).Nodup:=by
 have hm:∀ v∈WK n ps I F z,v∈F:=λv hv=>(Xh.mp (Yc.mp hv).1).1;have h:((WK n ps I F z).map λo=>xchT F o z).Nodup:=by have hd:(WK n ps I F z).Pairwise (·≠·):=(hF.filter _).filter _;exact Mm.mpr (jo (λ{a b} ha hb VI e=>VI (oP (hm a ha) hz e)) hd)
 unfold VV;split
 .exact h
 .exact(List.reverse_perm _).nodup_iff.mpr h
theorem dD{n:Int}{ps:Aa}{I F:Ac}(hF:F.Nodup):∀ {l:Ac} {asc:Bool},l.Nodup->(∀ z∈l,z∉F)->(VC n ps I F l asc).Nodup
 | [],_,_,_=>.nil
 | z :: l,asc,hn,hl=>by
  obtain⟨n1,n2⟩:=QZ.mp hn;refine QP.mpr ⟨Zb8 hF (hl z Ye),dD hF n2 λv hv=>hl v (Yi _ hv),λa ha b hb e=>?_⟩;obtain⟨o,_,h1⟩:=Si.mp ha;obtain⟨z',oO,o',_,h2⟩:=Wa.mp hb;rw[h1,h2]at e
  have:=Zs9 (hl z Ye) e
  exact n1 (this ▸ oO)
theorem Cy{n:Int}{ps:Aa}{I O F inc:Ac}{ld:Option Int}(g:Zu n ps)(Xo:∀ z∈I,0<=z/\z<(ps.length:Int))(hF:With n ps I O F)(hu:Wb n ps I O F ld=[])(TQ:∀ z,z∈inc↔z∈WV n ps I O F)(hn:inc.Nodup):RowAll n ps I O (CC n ps I F inc):=by
 have x6:∀ z∈inc,z∉F:=λz hz h=>(Yu (Yc.mp ((TQ z).mp hz)).2).1 (Yf _ h);refine⟨QZ.mpr ⟨λh=>?_,dD hF.1.1.nodup hn x6⟩,λT=>?_⟩
 .obtain⟨z,hz,o,_,e⟩:=Wa.mp h;exact x6 z hz (by rw[e];exact XG.mpr (.inr rfl))
 .unfold CC;rw[Yj,Wa];constructor
  .rintro(h | ⟨z,hz,o,ho,rfl⟩)
   .rw[h];exact hF
   .exact Cz g hF ((TQ z).mp hz) ho
  .intro h;rcases CB g Xo hF hu h with e | ⟨t,ht,o,ho,e⟩
   .exact .inl e
   .exact .inr ⟨t,(TQ t).mpr ht,o,ho,e⟩
theorem dC{es:List (Nat × Nat)}{u v i j:Nat}(c:Conn (es++[(u,v)]) i j):Conn es i j\/(Conn es i u/\Conn es v j)\/(Conn es i v/\Conn es u j):=by
 induction c with
 | refl i=>exact .inl (.refl i)
 | edge h =>
  rcases Xx.mp h with h | h
  .exact .inl (.edge h)
  .cases XD.mp h;exact .inr (.inl ⟨.refl _,.refl _⟩)
 | symm _ ih =>
  rcases ih with a | ⟨a,b⟩ | ⟨a,b⟩
  .exact .inl a.symm
  .exact .inr (.inr ⟨b.symm,a.symm⟩)
  .exact .inr (.inl ⟨b.symm,a.symm⟩)
 | trans _ _ Qa Tt =>
  rcases Qa with a | ⟨a,b⟩ | ⟨a,b⟩ <;> rcases Tt with c | ⟨c,d⟩ | ⟨c,d⟩
  .exact .inl (a.trans c)
  .exact .inr (.inl ⟨a.trans c,d⟩)
  .exact .inr (.inr ⟨a.trans c,d⟩)
  .exact .inr (.inl ⟨a,b.trans c⟩)
  .exact .inr (.inl ⟨a,d⟩)
  .exact .inl (a.trans d)
  .exact .inr (.inr ⟨a,b.trans c⟩)
  .exact .inl (a.trans d)
  .exact .inr (.inr ⟨a,d⟩)
theorem Cw{key:Int->Int}{ns ms:Ac}(h:Sj key ns ms):ms.Perm ns:=by
 obtain⟨p,h1,_,rfl⟩:=h;have e:(List.range ns.length).map (λi=>ns.getD i 0)=ns:=by
  refine RW λi=>?_;rw[Yq];by_cases c:i<ns.length
  .rw[xa c,Xn c];show some (ns.getD i 0)=_
   rw[WG,Xn c];rfl
  .rw[YW (by simpa using c),YW (by lia)];rfl
 have:=h1.map λi=>ns.getD i 0
 rw[e]at this;exact this
theorem oM(key:Int->Int)(ns:Ac):∃ ms,Sj key ns ms:=by
 have hp:=List.mergeSort_perm (List.range ns.length) λi j=>decide (key (ns.getD i 0)<key (ns.getD j 0)\/(key (ns.getD i 0)=key (ns.getD j 0)/\i<=j));have hs:=ji (le:=λi j=>decide (key (ns.getD i 0)<key (ns.getD j 0)\/(key (ns.getD i 0)=key (ns.getD j 0)/\i<=j))) (λa b c h1 h2=>by simp only [KY]at *;grind) (λa b=>by simp only [Ky,KY];grind) (List.range ns.length)
 refine⟨_,_,hp,?_,rfl⟩;refine(hs.and (hp.nodup_iff.mpr List.nodup_range)).imp λ{a b} h=>?_;have h1:=Yu h.1
 have h2:=h.2;show key (ns.getD a 0)<key (ns.getD b 0)\/(key (ns.getD a 0)=key (ns.getD b 0)/\a<b)
 grind
theorem Cv(n:Int)(ps:Aa)(I O F:Ac)(ld:Option Int):(Wb n ps I O F ld).Pairwise (· < ·):=((RB _).filter _).filter _
theorem Lu{n:Int}{ps:Aa}{I O:Ac}(g:Zu n ps)(ld:Option Int)(h:∃ U,With n ps I O U):∃ F inc fu,PartOk n ps I O ld F inc fu:=by
 obtain⟨L,l1,l2⟩:=pK g;obtain⟨U,hU⟩:=h;obtain⟨F,hF,hm⟩:∃ F,With n ps I O F/\∀ U,With n ps I O U->HT.lexLt U F=false:=by
  have key:∀ M:Ab,M.Pairwise Nk->(∃ U∈M,With n ps I O U)->∃ F∈M,With n ps I O F/\∀ U∈M,With n ps I O U->HT.lexLt U F=false:=by
   intro M
   induction M with
   | nil=>rintro _ ⟨U,h,_⟩;cases h
   | cons x M ih =>
    intro hp hex;obtain⟨p1,p2⟩:=YO.mp hp;by_cases c:With n ps I O x
    .refine⟨x,Ye,c,λV hV _=>?_⟩;rcases Yj.mp hV with e | e
     .rw[e];exact sj x
     .cases q:HT.lexLt V x with
      | false=>rfl
      | true =>
       have z:=gz q (p1 V e);rw[sj]at z;cases z
    .obtain⟨V,hV,hw⟩:=hex;obtain⟨F,hF,a,b⟩:=ih p2 ⟨V,(Yj.mp hV).resolve_left λe=>c (e ▸ hw),hw⟩;refine⟨F,Yi _ hF,a,λV hV hw=>?_⟩;rcases Yj.mp hV with e | e
     .exact absurd (e ▸ hw) c
     .exact b V e hw
  obtain⟨F,_,a,b⟩:=key L l2 ⟨U,(l1 U).mpr hU.1,hU⟩;exact⟨F,a,λV hV=>b V ((l1 V).mpr hV.1) hV⟩
 obtain⟨inc,hi⟩:=oM (λz=>PyProof.Rows.b2i (decide (ld=some z))) (TR n ps I O F ld);have SQ:=Cv n ps I O F ld
 cases hu:Wb n ps I O F ld with
 | nil=>exact⟨F,inc,none,hF,hm,hi,⟨λ_=>hu,λ_=>rfl⟩,λy h=>by cases h⟩
 | cons y l =>
  rw[hu]at SQ;refine⟨F,inc,some y,hF,hm,hi,⟨λh=>(by cases h),λh=>(by rw[hu]at h;cases h)⟩,λv h=>?_⟩;cases h;rw[hu];refine⟨Ye,λv hv=>?_⟩;rcases Yj.mp hv with e | e
  .rw[e];exact Ma _
  .exact Md ((YO.mp SQ).1 v e)
inductive RowR (n:Int) (ps:Aa):Nat->Ac->Ac->Option Int->Ab->Prop
 | und {d:Nat} {I O F inc:Ac} {ld:Option Int}:PartOk n ps I O ld F inc none->inc.length<=30->(∀ z∈inc,z∉F/\0<=z/\z<(ps.length:Int))->RowR n ps d I O ld (CC n ps I F inc)
 | div {d:Nat} {I O F inc:Ac} {z y:Int} {A B:Ab}:PartOk n ps I O (some z) F inc (some y)->(I++[z]).Nodup->(∀ v∈I++[z],0<=v/\v<(ps.length:Int))->(∀ v∈I++[z],v∉O)->(O++[z]).length<=30->(∃ U,With n ps (I++[z]) O U)->(∃ U,With n ps I (O++[z]) U)->0<=y->y<(ps.length:Int)->PC n ps I (O++[z]) A.length->RowR n ps d I (O++[z]) (some y) A->RowR n ps d (I++[z]) O (some y) B->RowR n ps (d+1) I O (some z) (A++B.reverse)
theorem ZT7{key:Int->Int}{ns ms dB:Ac}(h:Sj key ns ms)(h':Sj key ns dB):ms=dB:=by
 obtain⟨p,h1,h2,rfl⟩:=h;obtain⟨p',Hg,oK,rfl⟩:=h';have e:p=p':=List.Perm.eq_of_pairwise (le:=Ahd λi=>key (ns.getD i 0)) (λa b _ _ x y=>by unfold Ahd at x y;omega) h2 oK (h1.trans Hg.symm)
 rw[e]
theorem PartOk.uniq{n:Int}{ps:Aa}{I O F F' inc WA:Ac}{ld fu Ls:Option Int}(h1:PartOk n ps I O ld F inc fu)(h2:PartOk n ps I O ld F' WA Ls):F=F'/\inc=WA/\fu=Ls:=by
 have eF:F=F':=Tu (h2.least F h1.tr) (h1.least F' h2.tr);subst eF;refine⟨rfl,ZT7 h1.inc h2.inc,?_⟩;cases fu with
 | none =>
  cases Ls with
  | none=>rfl
  | some y =>
   have:=(h2.some y rfl).1
   rw[h1.none.mp rfl]at this;cases this
 | some y =>
  cases Ls with
  | none =>
   have:=(h1.some y rfl).1
   rw[h2.none.mp rfl]at this;cases this
  | some y' =>
   obtain⟨a1,a2⟩:=h1.some y rfl;obtain⟨b1,b2⟩:=h2.some y' rfl
   have:=a2 y' b1
   have:=b2 y a1
   rw[show y=y' by omega]
def RowW(n:Int)(ps:Aa)(R:Ab):Prop:=∃(ld:Option Int) (F inc:Ac) (fu:Option Int),PartOk n ps [] [] ld F inc fu/\(ld=none↔WV n ps [] [] F=[])/\(∀ y,ld=some y->y∈WV n ps [] [] F/\∀ z∈WV n ps [] [] F,y<=z)/\RowR n ps 31 [] [] ld R/\TC n ps R.length
section
variable{n:Int}{ps:Aa}{I O F:Ac}{y z:Int}(g:Zu n ps)
include g
theorem ZZ(Xo:∀ v∈I,0<=v/\v<(ps.length:Int)):z∈WV n ps I O F↔(0<=z/\z<(ps.length:Int))/\z∉I/\z∉O/\z∉F/\¬ Conn (XT ps I) (Zt ps z).1 (Zt ps z).2:=by
 unfold WV MV;rw[Yc,XE,YS];constructor
 .rintro⟨h,h1,h2⟩;have a:=UD (z:=z) g h.1 h.2
  exact⟨h,λq=>h1 (Yb _ (Yb _ q)),λq=>h1 (Yb _ (Yf _ q)),λq=>h1 (Yf _ q),λc=>h2 ((RH (ZK g Xo) a.1 a.2).mpr c)⟩
 .rintro⟨h,h1,h2,h3,h4⟩;have a:=UD (z:=z) g h.1 h.2
  refine⟨h,λq=>?_,λe=>h4 ((RH (ZK g Xo) a.1 a.2).mp e)⟩;rcases Xx.mp q with q | q
  .rcases Xx.mp q with q | q
   .exact h1 q
   .exact h2 q
  .exact h3 q
theorem xZ(Xo:∀ v∈I,0<=v/\v<(ps.length:Int))(hF:With n ps I O F)(hz:z∈WV n ps I O F):∃ U,With n ps (I++[z]) O U:=by
 obtain⟨⟨z0,z1⟩,zI,zO,zF,hc⟩:=(ZZ g Xo).mp hz;obtain⟨o,ho,hoI⟩:∃ o,o∈UT n ps F z F/\o∉I:=Yt λno=>hc ((gq g hF.1 z0 z1).mono (ZA λv hv=>Yt λh=>no ⟨v,hv,h⟩));obtain⟨h5,h6⟩:=Xh.mp ho;have he:exg n ps F o z:=⟨h5,λe=>zF (by rw[e];exact h5),h6⟩
 have hw:=CG g hF he hoI zO (Lw F o z) (Rn F o z);refine⟨xchT F o z,hw.1,λv hv=>?_,hw.2.2⟩;rcases Xx.mp hv with hv | hv
 .exact hw.2.1 v hv
 .rw[XD.mp hv];exact XG.mpr (.inr rfl)
theorem Cu(Xo:∀ v∈I,0<=v/\v<(ps.length:Int))(y0:0<=y/\y<(ps.length:Int))(z0:0<=z/\z<(ps.length:Int))(h:(Conn (XT ps I) (Zt ps y).1 (Zt ps z).1/\Conn (XT ps I) (Zt ps z).2 (Zt ps y).2)\/(Conn (XT ps I) (Zt ps y).1 (Zt ps z).2/\Conn (XT ps I) (Zt ps z).1 (Zt ps y).2)):UQ (Xu n.toNat (XT ps I)) ps y=UQ (Xu n.toNat (XT ps I)) ps z:=by
 have Wn:=ZK g Xo;have a:=UD (z:=y) g y0.1 y0.2
 have b:=UD (z:=z) g z0.1 z0.2;rw[<- RH Wn a.1 b.1,<- RH Wn b.2 a.2,<- RH Wn a.1 b.2,<- RH Wn b.1 a.2]at h;show(min (mk (Xu n.toNat (XT ps I)) (Zt ps y).1) (mk (Xu n.toNat (XT ps I)) (Zt ps y).2),max (mk (Xu n.toNat (XT ps I)) (Zt ps y).1) (mk (Xu n.toNat (XT ps I)) (Zt ps y).2))=(min (mk (Xu n.toNat (XT ps I)) (Zt ps z).1) (mk (Xu n.toNat (XT ps I)) (Zt ps z).2),max (mk (Xu n.toNat (XT ps I)) (Zt ps z).1) (mk (Xu n.toNat (XT ps I)) (Zt ps z).2))
 rcases h with ⟨e1,e2⟩ | ⟨e1,e2⟩
 .rw[e1,<- e2]
 .rw[e1,<- e2,Int.min_comm,Int.max_comm]
end
section
variable{n:Int}{ps:Aa}(g:Zu n ps)
include g
theorem Lr{I O F inc:Ac}{ld fu:Option Int}(d:Nat)(hP:PartOk n ps I O ld F inc fu)(Xo:∀ v∈I,0<=v/\v<(ps.length:Int))(hu:Wb n ps I O F ld=[]):∃ R,RowR n ps d I O ld R/\RowAll n ps I O R:=by
 obtain rfl:=hP.none.mpr hu;have hp:=Cw hP.inc
 have TY:(TR n ps I O F ld).Nodup:=((((RB _).imp λh e=>by lia:(Wz ps.length).Nodup)).filter _).filter _;have TQ:∀ z,z∈inc↔z∈WV n ps I O F:=λz=>by
  rw[hp.mem_iff];constructor
  .exact λh=>(Yc.mp h).1
  .intro h;refine Yt λno=>?_
   have:z∈Wb n ps I O F ld:=Yc.mpr ⟨h,Yn no⟩
   rw[hu]at this;cases this
 have hlen:inc.length<=30:=by rw[hp.length_eq];refine Yv (YB ..) (Yv (oV _ _ _ _) g.2.2.1)
 exact⟨_,.und hP hlen λz hz=>by obtain⟨h1,_,_,h2,_⟩:=(ZZ g Xo).mp ((TQ z).mp hz);exact⟨h2,h1⟩,Cy g Xo hP.tr hu TQ (hp.nodup_iff.mpr TY)⟩
theorem oJ:∀(d:Nat) (I O F inc:Ac) (ld fu:Option Int),PartOk n ps I O ld F inc fu->I.Nodup->(∀ v∈I,0<=v/\v<(ps.length:Int))->(∀ v∈I,v∉O)->O.Nodup->(∀ v∈O,0<=v/\v<(ps.length:Int))->(ld=none->WV n ps I O F=[])->(∀ z,ld=some z->z∈WV n ps I O F)->ps.length<=d+I.length+O.length->∃ R,RowR n ps d I O ld R/\RowAll n ps I O R:=by
 intro d
 induction d with
 | zero =>
  intro I O F inc ld fu hP hIn Xo Vk xY xX _ _ hm;refine Lr g 0 hP Xo ?_;have x6:WV n ps I O F=[]:=Ai.mpr λz hz=>by
   obtain⟨h1,h2,h3,_⟩:=(ZZ g Xo).mp hz;have nd:(z :: (I++O)).Nodup:=QZ.mpr ⟨λh=>(Xx.mp h).elim h2 h3,QP.mpr ⟨hIn,xY,λa ha b hb e=>Vk a ha (e ▸ hb)⟩⟩
   have:=Jv (m:=Wz ps.length) nd λv hv=>XE.mpr (by
    rcases Yj.mp hv with e | e
    .rw[e];exact h1
    .exact(Xx.mp e).elim (Xo v) (xX v))
   rw[ZI,YA,Xt]at this;lia
  unfold Wb;rw[x6];rfl
 | succ d ih =>
  intro I O F inc ld fu hP hIn Xo Vk xY xX QM SO hm;by_cases hu:Wb n ps I O F ld=[]
  .exact Lr g _ hP Xo hu
  obtain⟨y,rfl⟩:∃ y,fu=some y:=by
   cases fu with
   | none=>exact absurd (hP.none.mp rfl) hu
   | some y=>exact⟨y,rfl⟩
  obtain⟨yu,_⟩:=hP.some y rfl;obtain⟨yo,ya⟩:=Yc.mp yu;have ya:=Yu ya
  obtain⟨z,rfl⟩:∃ z,ld=some z:=by
   cases ld with
   | none=>rw[QM rfl]at yo;cases yo
   | some z=>exact⟨z,rfl⟩
  have zo:=SO z rfl;obtain⟨MT,yI,yO,yF,yc⟩:=(ZZ g Xo).mp yo;obtain⟨Lq,zI,zO,zF,zc⟩:=(ZZ g Xo).mp zo;have XH:UQ (Xu n.toNat (XT ps I)) ps y≠UQ (Xu n.toNat (XT ps I)) ps z:=λe=>ya (Yc.mpr ⟨yo,Yn ⟨z,rfl,e⟩⟩)
  have yz:y≠z:=λe=>XH (by rw[e]);have dz:(I++[z]).Nodup:=QP.mpr ⟨hIn,by simp,λa ha b hb e=>zI (by rw[<- XD.mp hb,<- e];exact ha)⟩
  have dy:(O++[z]).Nodup:=QP.mpr ⟨xY,by simp,λa ha b hb e=>zO (by rw[<- XD.mp hb,<- e];exact ha)⟩;have Uz:∀ v∈I++[z],0<=v/\v<(ps.length:Int):=λv hv=>(Xx.mp hv).elim (Xo v) λh=>by rw[XD.mp h];exact Lq
  have Ct:∀ v∈O++[z],0<=v/\v<(ps.length:Int):=λv hv=>(Xx.mp hv).elim (xX v) λh=>by rw[XD.mp h];exact Lq
  have SN:(O++[z]).length<=30:=by
   have:=Jv (m:=Wz ps.length) dy λv hv=>XE.mpr (Ct v hv)
   rw[ZI]at this
   have:=g.2.2.1
   lia
  have Cs:∀ v∈I++[z],v∉O:=λv hv=>(Xx.mp hv).elim (Vk v) λh=>by rw[XD.mp h];exact zO
  have oH:∀ v∈I,v∉O++[z]:=λv hv h=>(Xx.mp h).elim (Vk v hv) λh=>zI (by rw[<- XD.mp h];exact hv);obtain⟨s1,s2⟩:=MU g hP.tr hP.least zF;obtain⟨F1,SM,IZ,Nb⟩:=Lu g (some y) ⟨F,s1⟩;have e1:F1=F:=Tu (s2 F1 Nb.tr) (Nb.least F s1)
  subst e1;have hW:=xZ g Xo hP.tr zo
  obtain⟨F2,PB,Cr,SK⟩:=Lu g (some y) hW;have yF2:y∉F2:=λh=>(SR g hP.tr hP.least SK.tr SK.least y h).elim yF yz
  obtain⟨A,Um,Vo⟩:=ih I (O++[z]) F1 SM (some y) IZ Nb hIn Xo oH dy Ct (λh=>by cases h) (λv h=>by cases h;exact(ZZ g Xo).mpr ⟨MT,yI,λh=>(Xx.mp h).elim yO λh=>yz (XD.mp h),yF,yc⟩) (by rw[Xt,Yh];lia)
  obtain⟨B,gL,Nv⟩:=ih (I++[z]) O F2 PB (some y) Cr SK dz Uz Cs xY xX (λh=>by cases h) (λv h=>by
   cases h;refine(ZZ g Uz).mpr ⟨MT,λh=>(Xx.mp h).elim yI λh=>yz (XD.mp h),yO,yF2,λc=>?_⟩;have e:XT ps (I++[z])=XT ps I++[((Zt ps z).1,(Zt ps z).2)]:=YL
   rw[e]at c;rcases dC c with h | h
   .exact yc h
   .exact XH (Cu g Xo MT Lq h)) (by rw[Xt,Yh];lia)
  exact⟨_,.div hP dz Uz Cs SN hW ⟨F1,s1⟩ MT.1 MT.2 Vo.pc Um gL,Zn6 Vo Nv⟩
theorem oG(h:∃ U,Ze n ps U):∃ R,RowW n ps R/\R.Nodup/\∀ T,T∈R↔Ze n ps T:=by
 obtain⟨U,hU⟩:=h;have hw:∀ T,With n ps [] [] T↔Ze n ps T:=λT=>⟨λh=>h.1,λh=>⟨h,λz q=>(by cases q),λz q=>(by cases q)⟩⟩
 obtain⟨F,_,_,xW⟩:=Lu g none ⟨U,(hw U).mpr hU⟩;have SQ:(WV n ps [] [] F).Pairwise (· < ·):=(RB _).filter _
 obtain⟨ld,h1,h2⟩:∃ ld:Option Int,(ld=none↔WV n ps [] [] F=[])/\∀ y,ld=some y->y∈WV n ps [] [] F/\∀ z∈WV n ps [] [] F,y<=z:=by
  cases ho:WV n ps [] [] F with
  | nil=>exact⟨none,⟨λ_=>rfl,λ_=>rfl⟩,λy h=>by cases h⟩
  | cons y l =>
   rw[ho]at SQ;refine⟨some y,⟨λh=>(by cases h),λh=>(by cases h)⟩,λv h=>?_⟩;cases h;refine⟨Ye,λv hv=>?_⟩;rcases Yj.mp hv with e | e
   .rw[e];exact Ma _
   .exact Md ((YO.mp SQ).1 v e)
 obtain⟨F',inc,fu,hP⟩:=Lu g ld ⟨U,(hw U).mpr hU⟩;have eF:F'=F:=Tu (xW.least F' hP.tr) (hP.least F xW.tr)
 subst eF;obtain⟨R,r1,r2⟩:=oJ g 31 [] [] F' inc ld fu hP .nil (λv h=>by cases h) (λv h=>by cases h) .nil (λv h=>by cases h) (λe=>h1.mp e) (λz e=>(h2 z e).1) (by have:=g.2.2.1;simp;lia);exact⟨R,⟨ld,F',inc,fu,hP,h1,h2,r1,R,r2.1,λl=>(r2.2 l).trans (hw l),rfl⟩,r2.1,λT=>(r2.2 T).trans (hw T)⟩
end
end My
namespace L2
open PySem PySem.Spec PyProof.Rows PySem.MeetsSeq
section
variable{X:Cx}
def oE(K:Ad):V->List V->Hp->VK->Prop:=λx vs H Q=>∃(n:Nat) (l:Addr) (xs:List V) (y:V) (e:Addr->Bool) (j:Nat) (a:Addr),x=.ref l/\vs=[y]/\H l=some (.lst xs)/\n<=6/\(∀ v∈xs,∃ a,v=.ref a/\EqD K H n v y (e a))/\xs[j]?=some (.ref a)/\e a=true/\(∀ m b,m<j->xs[m]?=some (.ref b)->e b=false)/\Q (.int j) H
theorem oB (K:Ad) (hu:X.A.units+8<cLine) (hk:X.K=K:=by rfl):JY X "list.index" (oE K):=by
 subst hk;intro pins s σ H x vs v us Q I rx rv h;obtain⟨n,l,xs,y,e,j,a,rfl,rfl,hH,hn,he,hj,hy,Sq,q⟩:=h;cases rx;obtain⟨u,rfl,ru⟩:=rv.one;obtain⟨z,XW,m,r,hl,ho⟩:=I.lstM hH;have hsz:sizeLine=16777216:=Uj
 have NA:j<xs.length:=(Xs.mp hj).1;have at_:∀(i:Nat) (hi:i<XW.toArray.size),∃ b,xs[i]?=some (.ref b)/\XW.toArray[i]=.ref b:=λi hi=>by
  have VM:i<XW.length:=by simpa using hi
  obtain⟨w,ew,Qr⟩:=r.at VM;obtain⟨b,rfl,_⟩:=he w (Xg ew);have e3:XW[i]=Value.ref b:=Qr
  exact⟨b,ew,by simpa using e3⟩
 have dw:j<XW.toArray.size:=by rw[Ya];lia
 refine KI F.slot_list_index ⟨_,ho,rfl⟩ F.entry_list_index (F.args_list_index_2 _ _) (SeqAt.list_indexAt l XW.toArray m none #[] u (λw=>match w with | .ref b=>e b | _=>false) j dw (by lia) ?_ ?_) ⟨ho,λw hw=>?_,?_⟩
 .obtain⟨b,e1,e2⟩:=at_ j dw;rw[hj]at e1;cases e1;rw[e2];exact hy
 .intro i hi UE;obtain⟨b,e1,e2⟩:=at_ i hi;rw[e2];exact Sq i b UE e1
 .exact gC I (by show X.A.units+1+n<cLine;lia) ru r he w (by simpa using hw)
 .exact⟨.int j,H,I.tok _,⟨_,rfl⟩,q⟩
end
end L2
namespace My
open PySem L2
theorem dv{P:Program}{w:World}{K:Ad}{mg:Af}{base:Heap}{k:Nat}{f:Addr}{fd:FuncData}{ps:List Str}:FnOk P w K mg base Xk k f fd ps λ_ _ _ _=>False:=⟨λ_ _ _ _ h=>h.elim,λ_ _ _ _ _ _ _ _ _ _ _ _ _ h=>h.elim⟩
theorem du{α:Type}[DecidableEq α]{x:α}:∀ {l:List α},x∈l->∃ j:Nat,l[j]?=some x/\∀ i:Nat,i<j->l[i]?≠some x
 | y :: l,h=>by
  by_cases c:y=x
  .exact⟨0,by rw[c];rfl,λi hi=>absurd hi (Wy _)⟩
  .obtain⟨j,h1,h2⟩:=du ((Yj.mp h).resolve_left λe=>c e.symm);refine⟨j+1,h1,λi hi=>?_⟩
   match i,hi with
   | 0,_=>exact λe=>c (Yg e)
   | i+1,hi=>exact h2 i (by lia)
theorem ZP7{K:Ad}{H:Hp}{xs:List V}{L:Ab}{ta:Addr}{U:Ac}(hX:Bears (WR H) xs L)(xV:SqT K H ta (IL U))(hU:U∈L):∃(e:Addr->Bool) (j:Nat) (a:Addr),(∀ v∈xs,∃ a,v=.ref a/\EqD K H 1 v (.ref ta) (e a))/\xs[j]?=some (.ref a)/\e a=true/\(∀ m b,m<j->xs[m]?=some (.ref b)->e b=false)/\L[j]?=some U:=by
 have key:∀ {c:Addr} {w:Ac},H c=some (.tup (IL w))->(WR H (.ref c) U↔w=U):=λ{c w} hc=>by
  constructor
  .rintro⟨c',e,h⟩;cases e;rw[hc]at h;injection h with h
   injection h with h;exact(List.map_inj_right (λ_ _ h=>by injection h)).mp h
  .rintro rfl;exact⟨c,rfl,hc⟩
 obtain⟨j,h1,h2⟩:=du hU;obtain⟨v,hv,c,rfl,hc⟩:=hX.2 j U h1;refine⟨λa=>@decide (WR H (.ref a) U) (Classical.propDecidable _),j,c,λv hv=>?_,hv,?_,λm b hm hb=>?_,h1⟩
 .obtain⟨i,hi⟩:=VF hv;obtain⟨w,hw,c',rfl,WE⟩:=hX.at hi;refine⟨c',rfl,?_⟩;have e:@decide (WR H (.ref c') U) (Classical.propDecidable _)=decide (w=U):=by rw[wW];exact key WE
  show EqD K H 1 (.ref c') (.ref ta) (@decide (WR H (.ref c') U) (Classical.propDecidable _));rw[e];exact JD (SqT.of WE) xV
 .exact @Yn _ (Classical.propDecidable _) ((key hc).mpr rfl)
 .obtain⟨w,hw,c',e,WE⟩:=hX.at hb;cases e;exact @SF _ (Classical.propDecidable _) λh=>h2 m hm (by rw[hw,(key WE).mp h])
theorem Cq{n:Int}{ps:Aa}{d:Nat}{I O:Ac}{ld:Option Int}{R:Ab}(g:Zu n ps)(h:RowR n ps d I O ld R):∀ T∈R,With n ps I O T:=by
 induction h with
 | und hP _ _ =>
  intro T hT;rcases Yj.mp hT with e | e
  .rw[e];exact hP.tr
  .obtain⟨z,hz,o,ho,rfl⟩:=Wa.mp e;exact Cz g hP.tr (Yc.mp ((Cw hP.inc).mem_iff.mp hz)).1 ho
 | div _ _ _ _ _ _ _ _ _ _ _ _ Cp oz =>
  intro T hT;rcases Xx.mp hT with h | h
  .exact WH.mpr (.inl (Cp T h))
  .exact WH.mpr (.inr (oz T (HY.mp h)))
theorem Yz9{key:Int->Int}{ns ms:Ac}(h:Sj key ns ms):ms.Pairwise λa b=>key a<=key b:=by
 obtain⟨p,h1,h2,rfl⟩:=h;refine Mm.mpr (h2.imp λ{a b} h=>?_);have h:key (ns.getD a 0)<key (ns.getD b 0)\/(key (ns.getD a 0)=key (ns.getD b 0)/\a<b):=h
 lia
theorem dt{k:Int->Int}:∀ {l:Ac},(∀ a∈l,k a=0\/k a=1)->l.Pairwise (λa b=>k a<=k b)->∃ l1 l2,l=l1++l2/\(∀ a∈l1,k a=0)/\∀ a∈l2,k a=1
 | [],_,_=>⟨[],[],rfl,λa h=>(by cases h),λa h=>(by cases h)⟩
 | a :: l,h0,h=>by
  obtain⟨p1,p2⟩:=YO.mp h;rcases h0 a Ye with e | e
  .obtain⟨l1,l2,rfl,q1,q2⟩:=dt (λb hb=>h0 b (Yi _ hb)) p2;exact⟨a :: l1,l2,rfl,λb hb=>(Yj.mp hb).elim (λz=>z ▸ e) (q1 b),q2⟩
  .refine⟨[],a :: l,rfl,λa h=>(by cases h),λb hb=>?_⟩;rcases Yj.mp hb with z | z
   .rw[z];exact e
   .have:=p1 b z
    have:=h0 b (Yi _ z)
    lia
theorem Vx{z a:Int}:(PyProof.Rows.b2i (decide (some z=some a))=0↔a≠z)/\(PyProof.Rows.b2i (decide (some z=some a))=1↔a=z):=by
 by_cases c:a=z
 .subst c;simp[PyProof.Rows.b2i]
 .simp[PyProof.Rows.b2i,c,YZ c]
theorem Ze8{ns ms:Ac}{z:Int}(h:Sj (λa=>PyProof.Rows.b2i (decide (some z=some a))) ns ms):∃ l1 l2,ms=l1++l2/\(∀ a∈l1,a≠z)/\∀ a∈l2,a=z:=by
 obtain⟨l1,l2,e,h1,h2⟩:=dt (λa _=>by
  by_cases c:a=z
  .exact .inr (Vx.2.mpr c)
  .exact .inl (Vx.1.mpr c)) (Yz9 h)
 exact⟨l1,l2,e,λa ha=>Vx.1.mp (h1 a ha),λa ha=>Vx.2.mp (h2 a ha)⟩
theorem Hd{n:Int}{ps:Aa}{I O F:Ac}{z:Int}(h:z∈WV n ps I O F):z∉F:=λq=>(Yu (Yc.mp h).2).1 (Yf _ q)
theorem xU{n:Int}{ps:Aa}{I O F:Ac}{y z:Int}(h:y∈Wb n ps I O F (some z)):y∉F/\y≠z:=by obtain⟨h1,h2⟩:=Yc.mp h;refine⟨Hd h1,λe=>Yu h2 (Yc.mpr ⟨h1,Yn ⟨z,rfl,by rw[e]⟩⟩)⟩
section
variable{n:Int}{ps:Aa}{d:Nat}{I O:Ac}{R:Ab}(g:Zu n ps)
include g
theorem dr{ld:Option Int}(h:RowR n ps d I O ld R):∀ F,With n ps I O F->(∀ U,With n ps I O U->HT.lexLt U F=false)->(∀ z,ld=some z->z∉F)->R[0]?=some F:=by
 induction h with
 | und hP _ _ =>
  intro F hF hm _;rw[Tu (hP.least F hF) (hm _ hP.tr)];rfl
 | div hP _ _ _ _ _ _ _ _ _ _ _ Cp _ =>
  intro F hF hm hz;obtain⟨s1,s2⟩:=MU g hF hm (hz _ rfl);have e:=Tu (hP.least F hF) (hm _ hP.tr)
  have:=Cp F s1 s2 λy' e'=>by cases e';rw[e];exact(xU (hP.some _ rfl).1).1
  rw[Ys (Xs.mp this).1,this]
end
def Sh(T U:Ac):Prop:=(T.filter λy=>decide (y∉U)).length=1
theorem Co{T U:Ac}{a:Int}(hT:T.Nodup)(ha:a∈T)(hU:a∉U)(h:∀ v∈T,v∈U\/v=a):Sh T U:=by
 have p:(T.filter λy=>decide (y∉U)).Perm [a]:=(Uk (hT.filter _) (by simp)).mpr λv=>by
  rw[Yc,YS,XD];constructor
  .exact λq=>(h v q.1).resolve_left q.2
  .rintro rfl;exact⟨ha,hU⟩
 exact p.length_eq
theorem IY{n:Int}{ps:Aa}{T U:Ac}(hT:Ze n ps T)(hU:Ze n ps U)(h:Sh T U):Sh U T:=(Yz8 hU hT).trans h
def Adj{α:Type}(P:α->α->Prop)(l:List α):Prop:=∀(i:Nat) (a b:α),l[i]?=some a->l[i+1]?=some b->P a b
theorem Adj.nil{α:Type}{P:α->α->Prop}:Adj P []:=λi a b h=>by simp at h
theorem Adj.one{α:Type}{P:α->α->Prop}{x:α}:Adj P [x]:=λi a b _ h=>by simp at h
theorem Adj.append{α:Type}{P:α->α->Prop}{l m:List α}(h1:Adj P l)(h2:Adj P m)(h:∀ a b,l[l.length - 1]?=some a->m[0]?=some b->P a b):Adj P (l++m):=λi a b ha hb=>by
 by_cases c:i+1<l.length
 .rw[Ys (by lia)]at ha hb;exact h1 i a b ha hb
 .rw[Yp (by lia)]at hb;by_cases c':i<l.length
  .rw[Ys c',show i=l.length - 1 by lia]at ha;rw[show i+1 - l.length=0 by omega]at hb;exact h a b ha hb
  .rw[Yp (by omega)]at ha;rw[show i+1 - l.length=i - l.length+1 by grind]at hb;exact h2 _ a b ha hb
theorem Adj.rev{α:Type}{P:α->α->Prop}{l:List α}(h:Adj P l)(hs:∀ a∈l,∀ b∈l,P a b->P b a):Adj P l.reverse:=λi a b ha hb=>by
 have hi:=(Xs.mp hb).1;rw[YK]at hi;rw[Lc (by omega)]at ha hb
 have:=h (l.length - 1 - (i+1)) b a hb (by rw[show l.length - 1 - (i+1)+1=l.length - 1 - i by grind];exact ha)
 exact hs b (Xg hb) a (Xg ha) this
theorem dq{α:Type}(l:List α):l.reverse[l.reverse.length - 1]?=l[0]?:=by
 cases l with
 | nil=>rfl
 | cons x l =>
  rw[YK,Lc (by simp)];simp
theorem Cn{α:Type}(l:List α):l.reverse[0]?=l[l.length - 1]?:=by
 cases l with
 | nil=>rfl
 | cons x l=>rw[Lc (by simp)];simp
theorem dk{F:Ac}{o z:Int}(hF:F.Nodup)(hz:z∉F):(xchT F o z).Nodup:=(Lw F o z).nodup_iff.mpr (QP.mpr ⟨hF.filter _,by simp,λa ha b hb e=>hz (by rw[<- XD.mp hb,<- e];exact(Yc.mp ha).1)⟩)
theorem Cm{n:Int}{ps:Aa}{I F L:Ac}(hF:F.Nodup)(hL:L.Nodup)(oy:∀ o∈L,o∈F):∀(l:Ac) (asc:Bool),l.Nodup->(∀ z∈l,z∉F)->(∀ z∈l,WK n ps I F z=L)->Adj Sh (VC n ps I F l asc)/\∀ U,(VC n ps I F l asc)[0]?=some U->∃ o z,l[0]?=some z/\(if asc then L[0]? else L[L.length - 1]?)=some o/\U=xchT F o z
 | [],asc,_,_,_=>⟨Adj.nil,λU h=>by simp[VC]at h⟩
 | z :: l,asc,hn,hz,hl=>by
  obtain⟨n1,n2⟩:=QZ.mp hn;obtain⟨Qa,Tt⟩:=Cm hF hL oy l (!asc) n2 (λv hv=>hz v (Yi _ hv)) (λv hv=>hl v (Yi _ hv));have zF:=hz z Ye
  have e0:WK n ps I F z=L:=hl z Ye;have same:∀ o∈L,∀ o'∈L,o≠o'->Sh (xchT F o z) (xchT F o' z):=λo ho o' Vz ne=>Co (a:=o') (dk hF zF) (XG.mpr (.inl ⟨oy o' Vz,YZ ne⟩)) (λh=>by
   rcases XG.mp h with q | q
   .exact q.2 rfl
   .exact zF (q ▸ oy o' Vz)) λv hv=>by
   rcases XG.mp hv with q | q
   .by_cases c:v=o'
    .exact .inr c
    .exact .inl (XG.mpr (.inl ⟨q.1,c⟩))
   .exact .inl (XG.mpr (.inr q))
  have am:Adj Sh (L.map λo=>xchT F o z):=λi a b ha hb=>by
   rw[Yq]at ha hb;cases ea:L[i]? with
   | none=>rw[ea]at ha;cases ha
   | some o =>
    cases eb:L[i+1]? with
    | none=>rw[eb]at hb;cases hb
    | some o' =>
     rw[ea]at ha;rw[eb]at hb;cases ha;cases hb;refine same o (Xg ea) o' (Xg eb) λe=>?_;subst e
     have:=(GF (Xs.mp ea).1 hL).mp (ea.trans eb.symm)
     lia
  have ar:Adj Sh (VV n ps I F asc z):=by
   unfold VV;rw[e0];cases asc with
   | true=>exact am
   | false =>
    refine am.rev λa ha b hb _=>?_;obtain⟨o,ho,rfl⟩:=YD.mp ha;obtain⟨o',Vz,rfl⟩:=YD.mp hb;by_cases c:o'=o
    .rename_i h;subst c;exact h
    .exact same o' Vz o ho c
  have hlen:(L.map λo=>xchT F o z).length=L.length:=Yd _;have last:∀ U,(VV n ps I F asc z)[(VV n ps I F asc z).length - 1]?=some U->∃ o∈L,(if asc then L[L.length - 1]? else L[0]?)=some o/\U=xchT F o z:=λU h=>by
   unfold VV at h;rw[e0]at h;cases asc with
   | true =>
    rw[if_pos rfl,hlen,Yq]at h;cases e:L[L.length - 1]? with
    | none=>rw[e]at h;cases h
    | some o=>rw[e]at h;cases h;exact⟨o,Xg e,rfl,rfl⟩
   | false =>
    rw[if_neg (by decide),dq,Yq]at h;cases e:L[0]? with
    | none=>rw[e]at h;cases h
    | some o=>rw[e]at h;cases h;exact⟨o,Xg e,rfl,rfl⟩
  have head:∀ U,(VV n ps I F asc z)[0]?=some U->∃ o,(if asc then L[0]? else L[L.length - 1]?)=some o/\U=xchT F o z:=λU h=>by
   unfold VV at h;rw[e0]at h;cases asc with
   | true =>
    rw[if_pos rfl,Yq]at h;cases e:L[0]? with
    | none=>rw[e]at h;cases h
    | some o=>rw[e]at h;cases h;exact⟨o,rfl,rfl⟩
   | false =>
    rw[if_neg (by decide),Cn,hlen,Yq]at h;cases e:L[L.length - 1]? with
    | none=>rw[e]at h;cases h
    | some o=>rw[e]at h;cases h;exact⟨o,rfl,rfl⟩
  refine⟨ar.append Qa λa b ha hb=>?_,λU h=>?_⟩
  .obtain⟨o,ho,e1,rfl⟩:=last a ha;obtain⟨o',z',oO,e2,rfl⟩:=Tt b hb;have eo:o'=o:=by
    cases asc with
    | true=>exact(Yg (e1.symm.trans e2)).symm
    | false=>exact(Yg (e1.symm.trans e2)).symm
   subst eo;have zl:=Xg oO
   refine Co (a:=z) (dk hF zF) (XG.mpr (.inr rfl)) (λh=>?_) λv hv=>?_
   .rcases XG.mp h with q | q
    .exact zF q.1
    .exact n1 (q ▸ zl)
   .rcases XG.mp hv with q | q
    .exact .inl (XG.mpr (.inl q))
    .exact .inr q
  .cases hh:VV n ps I F asc z with
   | cons x r =>
    have h':(VV n ps I F asc z)[0]?=some U:=by
     have:=h
     unfold VC at this;rw[hh]at this ⊢;exact this
    obtain⟨o,e1,e2⟩:=head U h';exact⟨o,z,rfl,e1,e2⟩
   | nil =>
    exfalso;have Ck:L=[]:=by
     have:(VV n ps I F asc z).length=L.length:=by unfold VV;rw[e0];cases asc <;> simp
     rw[hh]at this;exact YQ.mp this.symm
    obtain⟨o,z',_,e2,_⟩:=Tt U (by have:=h;unfold VC at this;rw[hh]at this;exact this);rw[Ck]at e2;cases asc <;> simp at e2
section
variable{n:Int}{ps:Aa}{d:Nat}{I O F T:Ac}{R:Ab}{y z:Int}(g:Zu n ps)
include g
theorem Cj(hF:With n ps I O F)(hz:z∉F)(VL:∀ U,With n ps I O U->HT.lexLt U F=false)(hT:With n ps (I++[z]) O T)(Lv:∀ U,With n ps (I++[z]) O U->HT.lexLt U T=false):∃ o∈WK n ps I F z,T=xchT F o z/\∀ o'∈WK n ps I F z,o'<=o:=by
 have half:=SR g hF VL hT Lv;have zT:z∈T:=hT.2.1 z (by simp)
 obtain⟨o,e1,e2⟩:=rT g hT.1 hF.1 zT hz;have oT:o∉T:=((RE g hT.1).mp e1).2.1
 have oI:o∉I:=λh=>oT (hT.2.1 o (Yb _ h));have zO:z∉O:=λh=>hT.2.2 z h zT
 have hM:=Eb g hF.1 e2 (Lw F o z) (Rn F o z);have eT:T=xchT F o z:=MX g hT.1 hM λv hv=>XG.mpr <| by
  rcases half v hv with q | q
  .exact .inl ⟨q,λe=>oT (by rw[<- e];exact hv)⟩
  .exact .inr q
 refine⟨o,Yc.mpr ⟨Xh.mpr ⟨e2.1,e2.2.2⟩,Yn oI⟩,eT,λo' Vz=>Yt λno=>?_⟩;obtain⟨h3,h4⟩:=Yc.mp Vz;obtain⟨h5,h6⟩:=Xh.mp h3;have he:exg n ps F o' z:=⟨h5,λe=>hz (by rw[e];exact h5),h6⟩
 have w:=CG g hF he (Yu h4) zO (Lw F o' z) (Rn F o' z);have w2:With n ps (I++[z]) O (xchT F o' z):=(WH (z:=z).mp w).resolve_left λq=>q.2.2 z (by simp) (XG.mpr (.inr rfl))
 have lt:HT.lexLt (xchT F o' z) T=true:=by
  refine(pL (XX.mp w.1.1).2 (XX.mp hT.1.1).2 (by have:=w.1.2.1;have:=hT.1.2.1;lia)).mpr ⟨o,XG.mpr (.inl ⟨e2.1,λe=>no (by lia)⟩),oT,λs hs=>?_⟩;rw[eT,XG,XG];constructor
  .rintro(q | q)
   .exact .inl ⟨q.1,by lia⟩
   .exact .inr q
  .rintro(q | q)
   .exact .inl ⟨q.1,by lia⟩
   .exact .inr q
 rw[Lv _ w2]at lt;cases lt
theorem ox(Xo:∀ v∈I,0<=v/\v<(ps.length:Int))(h:RowR n ps d I O (some z) R)(hF:With n ps I O F)(VL:∀ U,With n ps I O U->HT.lexLt U F=false)(hz:z∉F)(hT:With n ps (I++[z]) O T)(Lv:∀ U,With n ps (I++[z]) O U->HT.lexLt U T=false):R[R.length - 1]?=some T:=by
 cases h with
 | und hP hl hi =>
  rename_i F' inc;have eF:=Tu (hP.least F hF) (VL _ hP.tr)
  subst eF;obtain⟨o,ho,eT,ou⟩:=Cj g hF hz VL hT Lv;have zo:z∈WV n ps I O F:=oS g Xo (WH.mpr (.inr hT)) hF.2.1 (hT.2.1 z (by simp)) hz
  have za:z∈TR n ps I O F (some z):=Yc.mpr ⟨zo,Yn ⟨z,rfl,rfl⟩⟩;have hp:=Cw hP.inc
  have TY:inc.Nodup:=hp.nodup_iff.mpr (((((RB _).imp λh e=>by lia:(Wz ps.length).Nodup)).filter _).filter _);have zi:=hp.mem_iff.mpr za
  obtain⟨l1,l2,rfl,q1,q2⟩:=Ze8 hP.inc;have e2:l2=[z]:=by
   obtain⟨_,n2,_⟩:=QP.mp TY;have zl:z∈l2:=(Xx.mp zi).resolve_left λh=>q1 z h rfl
   match l2,zl,n2,q2 with
   | [a],_,_,q=>rw[q a (by simp)]
   | a :: b :: r,_,nd,q =>
    have e1:=q a (by simp);have e2:=q b (by simp)
    rw[e1,e2]at nd;simp at nd
  subst e2;have flag:(((l1++[z]).length % 2 == 1) != (l1.length % 2 == 1))=true:=by
   rw[Xt,Yh];rcases Nat.mod_two_eq_zero_or_one l1.length with c | c
   .rw[c,show(l1.length+1) % 2=1 by lia];rfl
   .rw[c,show(l1.length+1) % 2=0 by lia];rfl
  unfold CC;rw[Ja,flag];unfold VV;rw[if_pos rfl];have asc:(WK n ps I F z).Pairwise (· < ·):=(((XX.mp hF.1.1).2).filter _).filter _
  have pos:=QB ho;have lo:(WK n ps I F z)[(WK n ps I F z).length - 1]?=some o:=by
   obtain⟨i,hi,e⟩:=xb ho;by_cases c:i=(WK n ps I F z).length - 1
   .rw[<- c,Xn hi,e]
   .have lt:=Ic.mp asc i ((WK n ps I F z).length - 1) hi (by omega) (by lia);have le:=ou _ (Mi (show(WK n ps I F z).length - 1<_ by omega))
    rw[e]at lt;lia
  show((F :: VC n ps I F l1 ((l1++[z]).length % 2 == 1))++(WK n ps I F z).map λo=>xchT F o z)[_]?=_;rw[Yp (by simp;lia),Yq]
  have:((F :: (VC n ps I F l1 ((l1++[z]).length % 2 == 1)++(WK n ps I F z).map λo=>xchT F o z)).length - 1 - (F :: VC n ps I F l1 ((l1++[z]).length % 2 == 1)).length)=(WK n ps I F z).length - 1:=by
   simp;lia
  rw[this,lo,eT];rfl
 | div hP a1 a2 a3 a4 a5 a6 a7 a8 a9 hA hB =>
  rename_i d F' inc y A B;have eF:=Tu (hP.least F hF) (VL _ hP.tr)
  subst eF;obtain⟨yF,yz⟩:=xU (hP.some _ rfl).1;have hf:=dr g hB T hT Lv λv e=>by cases e;exact λq=>(SR g hF VL hT Lv y q).elim yF yz
  have hb:=(Xs.mp hf).1;rw[<- dq]at hf;rw[Yp (by rw[Xt,YK];lia)];rw[YK]at hf;rw[show(A++B.reverse).length - 1 - A.length=B.length - 1 by rw[Xt,YK];lia];exact hf
theorem Ci(Xo:∀ v∈I,0<=v/\v<(ps.length:Int))(hF:With n ps I O F)(y0:0<=y/\y<(ps.length:Int))(z0:0<=z/\z<(ps.length:Int))(h:UQ (Xu n.toNat (XT ps I)) ps y=UQ (Xu n.toNat (XT ps I)) ps z):WK n ps I F y=WK n ps I F z:=by
 have key:∀ a∈F,a∉I->(y∈Vm n ps F a↔z∈Vm n ps F a):=λa ha hn=>by
  rw[ZU g hF.1 y0.1 y0.2,ZU g hF.1 z0.1 z0.2];refine not_congr ?_;have up:∀ {i j},Conn (XT ps I) i j->Conn (XT ps (wo F a)) i j:=λc=>c.mono (ZA λv hv=>Xq.mpr ⟨hF.2.1 v hv,λe=>hn (by rw[<- e];exact hv)⟩)
  rcases dG g Xo y0.1 y0.2 z0.1 z0.2 h with ⟨a,b⟩ | ⟨a,b⟩
  .exact⟨λc=>((up a).symm.trans c).trans (up b),λc=>((up a).trans c).trans (up b).symm⟩
  .exact⟨λc=>((up b).symm.trans c.symm).trans (up a),λc=>((up a).trans c.symm).trans (up b).symm⟩
 unfold WK UT;rw[List.filter_filter,List.filter_filter];refine Ml λa ha=>?_;by_cases c:a∈I
 .simp[c]
 .have:=key a ha c
  unfold Vm at this;simp[c,this]
theorem Cg{F2:Ac}(Xo:∀ v∈I,0<=v/\v<(ps.length:Int))(hF:With n ps I O F)(VL:∀ U,With n ps I O U->HT.lexLt U F=false)(hz:z∈WV n ps I O F)(hy:y∈Wb n ps I O F (some z)):y∈WV n ps I (O++[z]) F/\(With n ps (I++[z]) O F2->(∀ U,With n ps (I++[z]) O U->HT.lexLt U F2=false)->y∈WV n ps (I++[z]) O F2):=by
 obtain⟨yF,yz⟩:=xU hy;obtain⟨yo,ya⟩:=Yc.mp hy;obtain⟨MT,yI,yO,_,yc⟩:=(ZZ g Xo).mp yo;obtain⟨Lq,zI,zO,zF,zc⟩:=(ZZ g Xo).mp hz;refine⟨(ZZ g Xo).mpr ⟨MT,yI,λh=>(Xx.mp h).elim yO λh=>yz (XD.mp h),yF,yc⟩,λh2 h2m=>?_⟩;have Uz:∀ v∈I++[z],0<=v/\v<(ps.length:Int):=λv hv=>(Xx.mp hv).elim (Xo v) λh=>by rw[XD.mp h];exact Lq
 refine(ZZ g Uz).mpr ⟨MT,λh=>(Xx.mp h).elim yI λh=>yz (XD.mp h),yO,λh=>(SR g hF VL h2 h2m y h).elim yF yz,λc=>?_⟩;have e:XT ps (I++[z])=XT ps I++[((Zt ps z).1,(Zt ps z).2)]:=YL
 rw[e]at c;rcases dC c with h | h
 .exact yc h
 .exact Yu ya (Yc.mpr ⟨yo,Yn ⟨z,rfl,Cu g Xo MT Lq h⟩⟩)
end
theorem ZV7{n:Int}{ps:Aa}{d:Nat}{I O:Ac}{ld:Option Int}{R:Ab}(g:Zu n ps)(h:RowR n ps d I O ld R):(∀ v∈I,0<=v/\v<(ps.length:Int))->(∀ F z,With n ps I O F->(∀ U,With n ps I O U->HT.lexLt U F=false)->ld=some z->z∈WV n ps I O F)->Adj Sh R:=by
 induction h with
 | @und d I O F inc ld hP hl hi =>
  intro Xo Cf;have hp:=Cw hP.inc
  have TY:inc.Nodup:=hp.nodup_iff.mpr (((((RB _).imp λh e=>by omega:(Wz ps.length).Nodup)).filter _).filter _);have oq:=hP.tr.1.1.nodup
  cases ld with
  | none =>
   have e:inc=[]:=by refine Ai.mpr λz hz=>?_;obtain⟨y,h,_⟩:=Yu (Yc.mp (hp.mem_iff.mp hz)).2;cases h
   subst e;exact Adj.one
  | some z =>
   have zo:=Cf F z hP.tr hP.least rfl;obtain⟨Lq,_⟩:=(ZZ g Xo).mp zo;obtain⟨c1,c2⟩:=Cm (n:=n) (ps:=ps) (I:=I) (F:=F) (L:=WK n ps I F z) oq ((oq.filter _).filter _) (λo ho=>(Xh.mp (Yc.mp ho).1).1) inc (inc.length % 2 == 1) TY (λv hv=>(hi v hv).1) (λv hv=>by obtain⟨y,e,h⟩:=Yu (Yc.mp (hp.mem_iff.mp hv)).2;cases e;exact Ci g Xo hP.tr (hi v hv).2 Lq h)
   show Adj Sh ([F]++VC n ps I F inc (inc.length % 2 == 1));refine Adj.one.append c1 λa b ha hb=>?_;cases ha;obtain⟨o,v,hv,ho,rfl⟩:=c2 b hb;have vF:=(hi v (Xg hv)).1
   have oL:o∈WK n ps I F z:=by
    split at ho
    .exact Xg ho
    .exact Xg ho
   have oF:=(Xh.mp (Yc.mp oL).1).1;refine Co (a:=o) oq oF (λh=>?_) λw hw=>?_
   .rcases XG.mp h with q | q
    .exact q.2 rfl
    .exact vF (q ▸ oF)
   .by_cases c:w=o
    .exact .inr c
    .exact .inl (XG.mpr (.inl ⟨hw,c⟩))
 | @div d I O F inc z y A B hP hIn Uz Vk hO hW _ _ _ _ hA hB Cp oz =>
  intro Xo Cf;have zo:=Cf F z hP.tr hP.least rfl
  have zF:=Hd zo;have yu:=(hP.some y rfl).1
  obtain⟨yF,yz⟩:=xU yu;obtain⟨s1,s2⟩:=MU g hP.tr hP.least zF;obtain⟨F2,_,_,SK⟩:=Lu g (some y) hW;obtain⟨y1,y2⟩:=Cg (F2:=F2) g Xo hP.tr hP.least zo yu;have y2:=y2 SK.tr SK.least
  have aA:=Cp Xo λF' v h1 h2 e=>by cases e;rw[Tu (s2 F' h1) (h2 F s1)];exact y1
  have aB:=oz Uz λF' v h1 h2 e=>by cases e;rw[Tu (SK.least F' h1) (h2 F2 SK.tr)];exact y2
  refine aA.append (aB.rev λa ha b hb q=>IY (Cq g hB a ha).1 (Cq g hB b hb).1 q) λa b ha hb=>?_;rw[Cn]at hb;obtain⟨G,_,_,hG⟩:=Lu g none (xZ g Xo hP.tr (Yc.mp yu).1);have zG:z∉G:=λh=>(SR g hP.tr hP.least hG.tr hG.least z h).elim zF (YZ yz)
  obtain⟨g1,g2⟩:=MU g hG.tr hG.least zG;have ea:=ox g Xo hA s1 s2 yF g1 g2
  rw[<- Yg (ea.symm.trans ha)];obtain⟨T2,_,_,h2⟩:=Lu g none (xZ g Uz SK.tr y2);have eb:=ox g Uz hB SK.tr SK.least (Hd y2) h2.tr h2.least
  rw[<- Yg (eb.symm.trans hb)];have sw:∀ U,With n ps (I++[z]++[y]) O U↔With n ps (I++[y]++[z]) O U:=λU=>by
   unfold With;refine and_congr_right λ_=>and_congr_left λ_=>⟨λh v hv=>h v ?_,λh v hv=>h v ?_⟩
   all_goals
    simp only [Xx,XD]at hv ⊢;rcases hv with (q | q) | q
    .exact .inl (.inl q)
    .exact .inr q
    .exact .inl (.inr q)
  have hh:=SR g hG.tr hG.least ((sw T2).mp h2.tr) λU hU=>h2.least U ((sw U).mpr hU);exact IY h2.tr.1 g1.1 (Co (a:=z) h2.tr.1.1.nodup (h2.tr.2.1 z (by simp)) zG λv hv=>hh v hv)
theorem dj{l:Ac}{ld Lp:Option Int}(h1:ld=none↔l=[])(h2:∀ y,ld=some y->y∈l/\∀ z∈l,y<=z)(Hg:Lp=none↔l=[])(oK:∀ y,Lp=some y->y∈l/\∀ z∈l,y<=z):ld=Lp:=by
 cases ld with
 | none=>exact(Hg.mpr (h1.mp rfl)).symm
 | some y =>
  cases Lp with
  | none=>exact absurd (h1.mpr (Hg.mp rfl)) (by simp)
  | some y' =>
   obtain⟨a1,a2⟩:=h2 y rfl;obtain⟨b1,b2⟩:=oK y' rfl
   have:=a2 y' b1
   have:=b2 y a1
   rw[show y=y' by lia]
theorem Rm{n:Int}{ps:Aa}{T:Ac}:With n ps [] [] T↔Ze n ps T:=⟨λh=>h.1,λh=>⟨h,λz q=>(by cases q),λz q=>(by cases q)⟩⟩
theorem Zo6{n:Int}{ps:Aa}{R:Ab}{F L:Ac}(g:Zu n ps)(hR:RowW n ps R)(hF:Ze n ps F)(VL:∀ U,Ze n ps U->HT.lexLt U F=false):R[0]?=some F/\Adj Sh R/\(1<R.length->R[R.length - 1]?=some L->Sh L F):=by
 have Hc:=Rm.mpr hF;have MS:∀ U,With n ps [] [] U->HT.lexLt U F=false:=λU hU=>VL U hU.1
 have Xo:∀ v∈([]:Ac),0<=v/\v<(ps.length:Int):=λv h=>by cases h
 obtain⟨ld,F',inc,fu,hP,h1,h2,Lo,_⟩:=id hR;have eF:F'=F:=Tu (VL F' hP.tr.1) (hP.least F Hc)
 subst eF;refine⟨dr g Lo F' Hc MS λz e=>Hd (h2 z e).1,ZV7 g Lo Xo λF2 z a b e=>?_,λhl hL=>?_⟩
 .rw[Tu (MS F2 a) (b F' Hc)];exact(h2 z e).1
 .cases ld with
  | none =>
   exfalso;have eo:=h1.mp rfl
   cases Lo with
   | und oo _ _ =>
    obtain⟨rfl,rfl,rfl⟩:=hP.uniq oo;have e:inc=[]:=Ai.mpr λz hz=>by
     have:=(Yc.mp ((Cw hP.inc).mem_iff.mp hz)).1
     rw[eo]at this;cases this
    subst e;exact absurd hl (by show ¬ 1<1;decide)
  | some z =>
   have zo:=(h2 z rfl).1;obtain⟨T2,_,_,Hb⟩:=Lu g none (xZ g Xo Hc zo);rw[ox g Xo Lo Hc MS (Hd zo) Hb.tr Hb.least]at hL;obtain rfl:=Yg hL;exact Co (a:=z) Hb.tr.1.1.nodup (Hb.tr.2.1 z (by simp)) (Hd zo) λv hv=>SR g Hc MS Hb.tr Hb.least v hv
def top(i:Nat):Stmt:=PySem.Challenge.pw_spanrow_k45_whole_the_row_closes.main.body.getD i (.Pass ⟨0,0,0,0⟩)
abbrev sZ0:Stmt:=top 10
abbrev sZ1:Stmt:=top 11
abbrev sZ2:Stmt:=top 12
abbrev sZ3:Stmt:=top 13
abbrev sZ4:Stmt:=top 14
abbrev sZ5:Stmt:=top 15
abbrev sZ6:Stmt:=top 21
abbrev sZ7:Stmt:=top 20
abbrev sZ8:Stmt:=EN (top 19) 0
abbrev sZ9:Stmt:=top 22
abbrev sZa:Stmt:=top 23
abbrev sZb:Stmt:=top 24
abbrev sZc:Stmt:=top 25
abbrev sZd:Stmt:=top 26
abbrev sZe:Stmt:=top 27
abbrev sZf:Stmt:=top 28
abbrev sZg:Stmt:=top 29
abbrev sZh:Stmt:=top 30
abbrev sZi:Stmt:=top 31
abbrev sZj:Stmt:=top 33
abbrev sZk:Stmt:=top 34
abbrev sZl:Stmt:=top 35
abbrev sZm:Stmt:=top 36
abbrev sZn:Stmt:=top 38
abbrev sZo:Stmt:=top 39
abbrev sZp:Stmt:=top 40
abbrev sZq:Stmt:=top 41
abbrev sZr:Stmt:=top 42
abbrev sZs:Stmt:=top 43
abbrev sZt:Stmt:=top 44
abbrev sZu:Stmt:=top 46
abbrev sZv:Stmt:=top 49
abbrev sZw:Stmt:=top 50
abbrev sZx:Stmt:=EN (top 51) 0
abbrev sZy:Stmt:=top 52
abbrev sZz:Stmt:=top 53
abbrev sZA:Stmt:=top 54
abbrev sZB:Stmt:=top 55
abbrev sZC:Stmt:=top 56
abbrev sZD:Stmt:=top 57
abbrev sZE:Stmt:=top 58
abbrev sZF:Stmt:=top 47
abbrev sZG:Stmt:=top 60
abbrev sZH:Stmt:=top 61
abbrev sZI:Stmt:=top 62
abbrev sZJ:Stmt:=top 59
abbrev sZK:Stmt:=top 63
abbrev sZL:Stmt:=top 64
abbrev sZM:Stmt:=top 65
abbrev sZN:Stmt:=top 66
abbrev sZO:Stmt:=top 68
abbrev sZP:Stmt:=top 69
abbrev sZQ:Stmt:=top 70
abbrev sZR:Stmt:=top 71
abbrev sZS:Stmt:=top 72
abbrev sZT:Stmt:=top 73
abbrev sZU:Stmt:=top 74
abbrev sZV:Stmt:=top 75
abbrev sZW:Stmt:=top 76
abbrev sZX:Stmt:=top 77
abbrev sZY:Stmt:=top 78
set_option genInjectivity false in
structure Adr where
 aZ0:Addr
 dZ0:FuncData
 aZ1:Addr
 dZ1:FuncData
 aZ2:Addr
 dZ2:FuncData
 aZ3:Addr
 dZ3:FuncData
 aZ4:Addr
 dZ4:FuncData
 aZ5:Addr
 dZ5:FuncData
 aZ6:Addr
 dZ6:FuncData
 aZ7:Addr
 dZ7:FuncData
 aZ8:Addr
 dZ8:FuncData
 aZ9:Addr
 dZ9:FuncData
 aZa:Addr
 dZa:FuncData
 aZb:Addr
 dZb:FuncData
 aZc:Addr
 dZc:FuncData
 aZd:Addr
 dZd:FuncData
 aZe:Addr
 dZe:FuncData
 aZf:Addr
 dZf:FuncData
 aZg:Addr
 dZg:FuncData
 aZh:Addr
 dZh:FuncData
 aZi:Addr
 dZi:FuncData
 aZj:Addr
 dZj:FuncData
 aZk:Addr
 dZk:FuncData
 aZl:Addr
 dZl:FuncData
 aZm:Addr
 dZm:FuncData
 aZn:Addr
 dZn:FuncData
 aZo:Addr
 dZo:FuncData
 aZp:Addr
 dZp:FuncData
 aZq:Addr
 dZq:FuncData
 aZr:Addr
 dZr:FuncData
 aZs:Addr
 dZs:FuncData
 aZt:Addr
 dZt:FuncData
 aZu:Addr
 dZu:FuncData
 aZv:Addr
 dZv:FuncData
 aZw:Addr
 dZw:FuncData
 aZx:Addr
 dZx:FuncData
 aZy:Addr
 dZy:FuncData
 aZz:Addr
 dZz:FuncData
 aZA:Addr
 dZA:FuncData
 aZB:Addr
 dZB:FuncData
 aZC:Addr
 dZC:FuncData
 aZD:Addr
 dZD:FuncData
 aZE:Addr
 dZE:FuncData
 aZF:Addr
 dZF:FuncData
 aZG:Addr
 dZG:FuncData
 aZH:Addr
 dZH:FuncData
 aZI:Addr
 dZI:FuncData
 aZJ:Addr
 dZJ:FuncData
 aZK:Addr
 dZK:FuncData
 aZL:Addr
 dZL:FuncData
 aZM:Addr
 dZM:FuncData
 aZN:Addr
 dZN:FuncData
 aZO:Addr
 dZO:FuncData
 aZP:Addr
 dZP:FuncData
 aZQ:Addr
 dZQ:FuncData
 aZR:Addr
 dZR:FuncData
 aZS:Addr
 dZS:FuncData
 aZT:Addr
 dZT:FuncData
 aZU:Addr
 dZU:FuncData
 aZV:Addr
 dZV:FuncData
 aZW:Addr
 dZW:FuncData
 aZX:Addr
 dZX:FuncData
 aZY:Addr
 dZY:FuncData
 A_Web:Addr
 A_Part:Addr
structure Txt (K:Ad) (mg:Af) (t:Adr):Prop where
 fZ0:Fun K "refuse_not_square" "refuse_not_square" sZ0 t.aZ0 t.dZ0
 bZ0:Binds K t.dZ0 ["table"] []
 mZ0:mg "refuse_not_square"=some (.ref t.aZ0)
 fZ1:Fun K "row_taken_off" "row_taken_off" sZ1 t.aZ1 t.dZ1
 bZ1:Binds K t.dZ1 ["row","pivot","last"] []
 mZ1:mg "row_taken_off"=some (.ref t.aZ1)
 fZ2:Fun K "first_with_some" "first_with_some" sZ2 t.aZ2 t.dZ2
 bZ2:Binds K t.dZ2 ["rows"] []
 mZ2:mg "first_with_some"=some (.ref t.aZ2)
 fZ3:Fun K "determinant" "determinant" sZ3 t.aZ3 t.dZ3
 bZ3:Binds K t.dZ3 ["table"] []
 mZ3:mg "determinant"=some (.ref t.aZ3)
 fZ4:Fun K "row_without" "row_without" sZ4 t.aZ4 t.dZ4
 bZ4:Binds K t.dZ4 ["row","number"] []
 mZ4:mg "row_without"=some (.ref t.aZ4)
 fZ5:Fun K "table_without" "table_without" sZ5 t.aZ5 t.dZ5
 bZ5:Binds K t.dZ5 ["table","number"] []
 mZ5:mg "table_without"=some (.ref t.aZ5)
 fZ6:Fun K "is_tie" "is_tie" sZ6 t.aZ6 t.dZ6
 bZ6:Binds K t.dZ6 ["web","number"] []
 mZ6:mg "is_tie"=some (.ref t.aZ6)
 fZ7:Fun K "refuse_bad_web" "refuse_bad_web" sZ7 t.aZ7 t.dZ7
 bZ7:Binds K t.dZ7 ["places","ties"] []
 mZ7:mg "refuse_bad_web"=some (.ref t.aZ7)
 fZ8:Fun K "__init__" "Web.__init__" sZ8 t.aZ8 t.dZ8
 bZ8:Binds K t.dZ8 ["self","places","ties"] []
 fZ9:Fun K "all_ties" "all_ties" sZ9 t.aZ9 t.dZ9
 bZ9:Binds K t.dZ9 ["web"] []
 mZ9:mg "all_ties"=some (.ref t.aZ9)
 fZa:Fun K "ties_beside" "ties_beside" sZa t.aZa t.dZa
 bZa:Binds K t.dZa ["web","ties"] []
 mZa:mg "ties_beside"=some (.ref t.aZa)
 fZb:Fun K "ties_without" "ties_without" sZb t.aZb t.dZb
 bZb:Binds K t.dZb ["ties","left_out"] []
 mZb:mg "ties_without"=some (.ref t.aZb)
 fZc:Fun K "is_set" "is_set" sZc t.aZc t.dZc
 bZc:Binds K t.dZc ["web","ties"] []
 mZc:mg "is_set"=some (.ref t.aZc)
 fZd:Fun K "made_set" "made_set" sZd t.aZd t.dZd
 bZd:Binds K t.dZd ["web","ties"] []
 mZd:mg "made_set"=some (.ref t.aZd)
 fZe:Fun K "merged_marks" "merged_marks" sZe t.aZe t.dZe
 bZe:Binds K t.dZe ["web","marks","ties"] []
 mZe:mg "merged_marks"=some (.ref t.aZe)
 fZf:Fun K "piece_marks" "piece_marks" sZf t.aZf t.dZf
 bZf:Binds K t.dZf ["web","ties"] []
 mZf:mg "piece_marks"=some (.ref t.aZf)
 fZg:Fun K "pieces_of" "pieces_of" sZg t.aZg t.dZg
 bZg:Binds K t.dZg ["web","ties"] []
 mZg:mg "pieces_of"=some (.ref t.aZg)
 fZh:Fun K "is_joined" "is_joined" sZh t.aZh t.dZh
 bZh:Binds K t.dZh ["web","ties"] []
 mZh:mg "is_joined"=some (.ref t.aZh)
 fZi:Fun K "refuse_parted" "refuse_parted" sZi t.aZi t.dZi
 bZi:Binds K t.dZi ["web"] []
 mZi:mg "refuse_parted"=some (.ref t.aZi)
 fZj:Fun K "weighted_table" "weighted_table" sZj t.aZj t.dZj
 bZj:Binds K t.dZj ["web","weights"] []
 mZj:mg "weighted_table"=some (.ref t.aZj)
 fZk:Fun K "pull_table" "pull_table" sZk t.aZk t.dZk
 bZk:Binds K t.dZk ["web"] []
 mZk:mg "pull_table"=some (.ref t.aZk)
 fZl:Fun K "tree_count" "tree_count" sZl t.aZl t.dZl
 bZl:Binds K t.dZl ["web"] []
 mZl:mg "tree_count"=some (.ref t.aZl)
 fZm:Fun K "part_count" "part_count" sZm t.aZm t.dZm
 bZm:Binds K t.dZm ["web","inside","outside"] []
 mZm:mg "part_count"=some (.ref t.aZm)
 fZn:Fun K "is_tree" "is_tree" sZn t.aZn t.dZn
 bZn:Binds K t.dZn ["web","ties"] []
 mZn:mg "is_tree"=some (.ref t.aZn)
 fZo:Fun K "refuse_no_tree" "refuse_no_tree" sZo t.aZo t.dZo
 bZo:Binds K t.dZo ["web","tree"] []
 mZo:mg "refuse_no_tree"=some (.ref t.aZo)
 fZp:Fun K "grown_tree" "grown_tree" sZp t.aZp t.dZp
 bZp:Binds K t.dZp ["web","inside","order"] []
 mZp:mg "grown_tree"=some (.ref t.aZp)
 fZq:Fun K "least_tree" "least_tree" sZq t.aZq t.dZq
 bZq:Binds K t.dZq ["web"] []
 mZq:mg "least_tree"=some (.ref t.aZq)
 fZr:Fun K "tree_cut" "tree_cut" sZr t.aZr t.dZr
 bZr:Binds K t.dZr ["web","tree","tie"] []
 mZr:mg "tree_cut"=some (.ref t.aZr)
 fZs:Fun K "ring_of" "ring_of" sZs t.aZs t.dZs
 bZs:Binds K t.dZs ["web","tree","tie"] []
 mZs:mg "ring_of"=some (.ref t.aZs)
 fZt:Fun K "exchanged" "exchanged" sZt t.aZt t.dZt
 bZt:Binds K t.dZt ["web","tree","out","into"] []
 mZt:mg "exchanged"=some (.ref t.aZt)
 fZu:Fun K "least_in" "least_in" sZu t.aZu t.dZu
 bZu:Binds K t.dZu ["web","inside","outside"] []
 mZu:mg "least_in"=some (.ref t.aZu)
 fZv:Fun K "end_pieces" "end_pieces" sZv t.aZv t.dZv
 bZv:Binds K t.dZv ["web","marks","tie"] []
 mZv:mg "end_pieces"=some (.ref t.aZv)
 fZw:Fun K "open_ties" "open_ties" sZw t.aZw t.dZw
 bZw:Binds K t.dZw ["web","marks","gone"] []
 mZw:mg "open_ties"=some (.ref t.aZw)
 fZx:Fun K "__init__" "Part.__init__" sZx t.aZx t.dZx
 bZx:Binds K t.dZx ["self","web","kept","shut","lead"] []
 fZy:Fun K "whole_part" "whole_part" sZy t.aZy t.dZy
 bZy:Binds K t.dZy ["web"] []
 mZy:mg "whole_part"=some (.ref t.aZy)
 fZz:Fun K "half_without" "half_without" sZz t.aZz t.dZz
 bZz:Binds K t.dZz ["part"] []
 mZz:mg "half_without"=some (.ref t.aZz)
 fZA:Fun K "half_with" "half_with" sZA t.aZA t.dZA
 bZA:Binds K t.dZA ["part"] []
 mZA:mg "half_with"=some (.ref t.aZA)
 fZB:Fun K "part_size" "part_size" sZB t.aZB t.dZB
 bZB:Binds K t.dZB ["part"] []
 mZB:mg "part_size"=some (.ref t.aZB)
 fZC:Fun K "trees_with_tie" "trees_with_tie" sZC t.aZC t.dZC
 bZC:Binds K t.dZC ["part","into"] []
 mZC:mg "trees_with_tie"=some (.ref t.aZC)
 fZD:Fun K "undivided_row" "undivided_row" sZD t.aZD t.dZD
 bZD:Binds K t.dZD ["part"] []
 mZD:mg "undivided_row"=some (.ref t.aZD)
 fZE:Fun K "trees_between" "trees_between" sZE t.aZE t.dZE
 bZE:Binds K t.dZE ["part","size","start","stop"] []
 mZE:mg "trees_between"=some (.ref t.aZE)
 fZF:Fun K "refuse_below_nought" "refuse_below_nought" sZF t.aZF t.dZF
 bZF:Binds K t.dZF ["number"] []
 mZF:mg "refuse_below_nought"=some (.ref t.aZF)
 fZG:Fun K "row_from" "row_from" sZG t.aZG t.dZG
 bZG:Binds K t.dZG ["web","number","most"] []
 mZG:mg "row_from"=some (.ref t.aZG)
 fZH:Fun K "row_at" "row_at" sZH t.aZH t.dZH
 bZH:Binds K t.dZH ["web","number"] []
 mZH:mg "row_at"=some (.ref t.aZH)
 fZI:Fun K "row_last" "row_last" sZI t.aZI t.dZI
 bZI:Binds K t.dZI ["web"] []
 mZI:mg "row_last"=some (.ref t.aZI)
 fZJ:Fun K "number_in" "number_in" sZJ t.aZJ t.dZJ
 bZJ:Binds K t.dZJ ["part","size","tree"] []
 mZJ:mg "number_in"=some (.ref t.aZJ)
 fZK:Fun K "row_number" "row_number" sZK t.aZK t.dZK
 bZK:Binds K t.dZK ["web","tree"] []
 mZK:mg "row_number"=some (.ref t.aZK)
 fZL:Fun K "row_next" "row_next" sZL t.aZL t.dZL
 bZL:Binds K t.dZL ["web","tree"] []
 mZL:mg "row_next"=some (.ref t.aZL)
 fZM:Fun K "row_ahead" "row_ahead" sZM t.aZM t.dZM
 bZM:Binds K t.dZM ["web","tree"] []
 mZM:mg "row_ahead"=some (.ref t.aZM)
 fZN:Fun K "row_step" "row_step" sZN t.aZN t.dZN
 bZN:Binds K t.dZN ["web","tree"] []
 mZN:mg "row_step"=some (.ref t.aZN)
 fZO:Fun K "_law_at" "_law_at" sZO t.aZO t.dZO
 bZO:Binds K t.dZO ["script","k"] []
 mZO:mg "_law_at"=some (.ref t.aZO)
 fZP:Fun K "_law_mixed" "_law_mixed" sZP t.aZP t.dZP
 bZP:Binds K t.dZP ["cell","k"] []
 mZP:mg "_law_mixed"=some (.ref t.aZP)
 fZQ:Fun K "_law_digits" "_law_digits" sZQ t.aZQ t.dZQ
 bZQ:Binds K t.dZQ ["script","size"] []
 mZQ:mg "_law_digits"=some (.ref t.aZQ)
 fZR:Fun K "_law_stirred" "_law_stirred" sZR t.aZR t.dZR
 bZR:Binds K t.dZR ["script","size"] []
 mZR:mg "_law_stirred"=some (.ref t.aZR)
 fZS:Fun K "_law_large" "_law_large" sZS t.aZS t.dZS
 bZS:Binds K t.dZS ["script"] []
 mZS:mg "_law_large"=some (.ref t.aZS)
 fZT:Fun K "_law_cells" "_law_cells" sZT t.aZT t.dZT
 bZT:Binds K t.dZT ["script","most"] []
 mZT:mg "_law_cells"=some (.ref t.aZT)
 fZU:Fun K "_law_far_web" "_law_far_web" sZU t.aZU t.dZU
 bZU:Binds K t.dZU ["script"] []
 mZU:mg "_law_far_web"=some (.ref t.aZU)
 fZV:Fun K "_law_whole" "_law_whole" sZV t.aZV t.dZV
 bZV:Binds K t.dZV ["found"] []
 mZV:mg "_law_whole"=some (.ref t.aZV)
 fZW:Fun K "_law_tree" "_law_tree" sZW t.aZW t.dZW
 bZW:Binds K t.dZW ["web","m"] []
 mZW:mg "_law_tree"=some (.ref t.aZW)
 fZX:Fun K "_law_good" "_law_good" sZX t.aZX t.dZX
 bZX:Binds K t.dZX ["web","total","tree"] []
 mZX:mg "_law_good"=some (.ref t.aZX)
 fZY:Fun K "law" "law" sZY t.aZY t.dZY
 bZY:Binds K t.dZY ["script"] []
 om:mg "law"=some (.ref t.aZY)
 c_Web:mg "Web"=some (.ref t.A_Web)
 cl_Web:Cls K t.A_Web
 k_Web:Mk K t.A_Web t.aZ8
 n_Web_places:NoAttr K t.A_Web "places"
 n_Web_ties:NoAttr K t.A_Web "ties"
 c_Part:mg "Part"=some (.ref t.A_Part)
 cl_Part:Cls K t.A_Part
 k_Part:Mk K t.A_Part t.aZx
 n_Part_web:NoAttr K t.A_Part "web"
 n_Part_kept:NoAttr K t.A_Part "kept"
 n_Part_shut:NoAttr K t.A_Part "shut"
 n_Part_lead:NoAttr K t.A_Part "lead"
 n_Part_least:NoAttr K t.A_Part "least"
 n_Part_incoming:NoAttr K t.A_Part "incoming"
 n_Part_further:NoAttr K t.A_Part "further"
 g_MOST_PLACES:∃ tk,mg "MOST_PLACES"=some (.int 14 tk)
 g_MOST_TIES:∃ tk,mg "MOST_TIES"=some (.int 30 tk)
 n_bool:mg "bool"=none
 n_enumerate:mg "enumerate"=none
 n_int:mg "int"=none
 n_isinstance:mg "isinstance"=none
 n_len:mg "len"=none
 n_list:mg "list"=none
 n_max:mg "max"=none
 n_min:mg "min"=none
 n_range:mg "range"=none
 n_reversed:mg "reversed"=none
 n_set:mg "set"=none
 n_sorted:mg "sorted"=none
 n_tuple:mg "tuple"=none
 n_zip:mg "zip"=none
end My
namespace My
open PySem L2 PyProof.Rows
set_option maxHeartbeats 4000000
section
variable{P:Program}{w:World}{K:Ad}{mg:Af}{base:Heap}{t:Adr}
def oj(K:Ad):Sp:=λvs H Q _=>∃(a:Addr) (kd:Bool) (xs:List V) (L:Ab),vs=[.ref a]/\SqK kd K H a xs/\Bears (DB K H) xs L /\
 ((∀ l∈L,l.length=L.length)->Q .non H)/\(¬ (∀ l∈L,l.length=L.length)->False)
theorem Ce:FnScope ["table","row"] ["table"] (XB sZ0):=⟨rfl,rfl,rfl,by decide +kernel,rfl,by decide +kernel,by decide +kernel⟩
theorem oh (T:Txt K mg t):FnOk P w K mg base Xk 1 t.aZ0 t.dZ0 ["table"] (oj K):=by
 refine T.fZ0.ok Ce (λvs H Q E h=>?_) (λXy A outer s H vs Q E hr h=>?_)
 .obtain⟨a,kd,xs,L,rfl,_⟩:=h;rfl
 .obtain⟨a,kd,xs,L,rfl,hS,hB,q,qe⟩:=h;refine⟨_,(XI (Tf Ww rfl (LM K (pv 0)) (Zg (i:=1) Ce.nd rfl (Or.inl rfl))
   (XI (WL (Zd RR (Zf (Zj K) (by rfl) T.n_len Boot.«len» (XZ (pv 1) XY)) (Zf (Zj K) (by rfl) T.n_len Boot.«len» (XZ (pv 0) XY)) (Zq _))
   (XI Vu)
   Zo)))),?_⟩
  have IX:=hB.1;refine⟨_,rfl,a,rfl,NF (K:=K) (k:=kd) (a:=a) (xs:=xs) (λi σ H2=>∃ v1,σ=[some (.ref a),v1]/\H2=H/\∀ l∈L.take i,l.length=L.length) ⟨none,rfl,rfl,λl h=>(by cases h)⟩ (λi σ H2 _ ⟨_,_,e,_⟩=>e ▸ hS) ?_ ?_⟩
  .rintro i v σ H2 hi ⟨v1,rfl,rfl,VP⟩;obtain⟨l,hl,r,k,rfl,hr⟩:=hB.at hi;refine nm ?_;refine⟨_,rfl,r,_,rfl,hr.or,_,rfl,a,xs,rfl,hS.or,rfl,_,rfl,?_⟩;rw[Xz,Zx];refine WW (λe=>?_) (λe=>?_)
   .refine⟨_,rfl,rfl,λm hm=>?_⟩;rw[WB,hl]at hm;rcases Xx.mp hm with h | h
    .exact VP m h
    .have LK:m=l:=by simpa using h
     rw[LK];lia
   .exact qe λh=>e (by rw[h l (Xg hl),IX])
  .rintro σ H2 ⟨v1,rfl,rfl,VP⟩;rw[IX,YI]at VP;exact q VP
def og(K:Ad):Sp:=λvs H Q _=>∃(r p:Addr) (x y last:Int) (l q:Ac),vs=[.ref r,.ref p,.int last]/\SqL K H r (IL (x :: l))/\SqL K H p (IL (y :: q))/\l.length=q.length/\l.length<=1000/\last≠0/\last.natAbs<2 ^ 9000 /\
 (∀ z∈x :: l,z.natAbs<2 ^ 9000)/\(∀ z∈y :: q,z.natAbs<2 ^ 9000)/\∀(c:Addr) (H':Hp),Same H H'->H c=none->H' c=some (.lst (IL (PR y q last (x :: l))))->Q (.ref c) H'
theorem n9:FnScope ["row","pivot","last"] ["row","pivot","last"] (XB sZ1):=⟨rfl,rfl,rfl,by decide +kernel,rfl,by decide +kernel,by decide +kernel⟩
theorem n8 (T:Txt K mg t):FnOk P w K mg base Xk 1 t.aZ1 t.dZ1 ["row","pivot","last"] (og K):=by
 refine T.fZ1.ok n9 (λvs H Q E h=>?_) (λXy A outer s H vs Q E hr h=>?_)
 .obtain⟨r,p,x,y,last,l,q,rfl,_⟩:=h;rfl
 .obtain⟨r,p,x,y,last,l,q',rfl,hR,hP,di,hl,l0,l1,hx,hy,q⟩:=h;refine⟨_,(XI (Zi (SX rfl (sc0:=XB sZ1) (N0:=["row","pivot","last"]) (N':=["own","other","pivot","row","last"]) (o:=2) (fr:=[1,0,2]) ⟨rfl,by decide +kernel,by decide +kernel,by decide +kernel,rfl,by decide +kernel⟩ (DI K rfl T.n_zip (XZ (LR (LN K) (pv 0) (NQ Za) Kb) (XZ (LR (LN K) (pv 1) (NQ Za) Kb) XY))) (EH (ON (by decide) (ON (by decide) EI))) (λ_ _ _ _=>(Qg (n:=2) K rfl (Zw (Zg (i:=0) (show List.Nodup (["own","other","pivot","row","last"]:List Str) by decide +kernel) rfl (Or.inl rfl)) (Zw (Zg (i:=1) (show List.Nodup (["own","other","pivot","row","last"]:List Str) by decide +kernel) rfl (Or.inl rfl)) Qw)))) (λ_ _ _ _=>QT) (λ_ _ _ _=>(Zs DE (Zs Te (Zs qS (ZR (Zk K) (pv 2) Za (λ_ _=>rfl)) (pv 0)) (Zs qS (ZR (Zk K) (pv 3) Za (λ_ _=>rfl)) (pv 1))) (pv 4)))))),?_⟩;refine⟨_,rfl,_,rfl,r,_,rfl,hR,λp1 Vi=>?_⟩;rw[fR];have s1:=XM (o:=.lst (IL l)) Vi
  refine⟨_,rfl,_,rfl,p,_,rfl,s1.seq hP,λp2 Wm=>?_⟩;rw[fR];have s2:=XM (o:=.lst (IL q')) Wm
  have WO:=s1.trans s2;have h1:=s2 _ _ (XR (H:=H) (a:=p1) (o:=.lst (IL l)))
  have h2:(upd (upd H p1 (.lst (IL l))) p2 (.lst (IL q'))) p2=some (.lst (IL q')):=XR;generalize upd (upd H p1 (.lst (IL l))) p2 (.lst (IL q'))=H2 at *;refine⟨p1,p2,rfl,⟨_,_,SqL.of h1,SqL.of h2⟩,rC (K:=K) (a:=p1) (b:=p2) (xs:=IL l) (ys:=IL q') (λi zs H3=>Same H2 H3/\i<=l.length/\zs=IL ((PR y q' last (x :: l)).take i)) ⟨Same.refl _,Yl _,rfl⟩ (by rw[Xz,Xz];exact di) (Zl (by rw[Xz];lia))
   (λi zs H3 hi ⟨e,VM,ez⟩=>⟨SqL.of (e _ _ h1),SqL.of (e _ _ h2),by rw[ez,Xz,Yy];lia⟩) ?_ ?_⟩
  .rintro i u v zs H3 pt Uy hu hv ⟨s3,VG,rfl⟩ S Xl;obtain⟨own,rfl,ho⟩:=WU hu;obtain⟨JC,rfl,ht⟩:=WU hv;have Xp:=(Xs.mp ho).1
   have s4:=XM (o:=.tup [.int own,.int JC]) Uy;refine⟨pt,_,rfl,SqT.of XR,rfl,_,_,rfl,_,_,rfl,rfl,?_⟩;have Sg:=WO.trans (s3.trans s4)
   have a1:=hy y Ye;have a2:=hx own (Yi _ (Xg ho))
   have a3:=hx x Ye;have a4:=hy JC (Yi _ (Xg ht))
   refine⟨_,rfl,p,_,0,.int y,rfl,rfl,Sg.seq hP,ZL (n:=0) rfl rfl,_,rfl,_,_,rfl,rfl,⟨a1,a2⟩,_,rfl,r,_,0,.int x,rfl,rfl,Sg.seq hR,ZL (n:=0) rfl rfl,_,rfl,_,_,rfl,rfl,⟨a3,a4⟩,_,_,rfl,rfl,_,rfl,_,_,rfl,rfl,⟨l0,l1⟩,?_⟩;refine Xl _ _ ⟨s3.trans s4,Xp,?_⟩;have e:(PR y q' last (x :: l))[i]?=some ((y * own - x * JC).fdiv last):=by show(List.zipWith _ l q')[i]?=_;rw[Ia,ho,ht];rfl
   rw[WB,e];exact(ZO _ _).symm
  .rintro zs H3 ⟨s3,_,rfl⟩ c hc;rw[Xz,UN (by rw[fS (by rw[YA,di])];lia)];exact q c _ (WO.trans (s3.trans (XM hc))) ((WO.trans s3).free hc) XR
def n6(K:Ad):Sp:=λvs H Q _=>∃(a:Addr) (ys:List V) (R:Ab),vs=[.ref a]/\SqL K H a ys/\Bears (OF H) ys R/\(∀ l∈R,0<l.length) /\
 (∀ H':Hp,Same H H'->(∀ i,i<R.length->fnL R i 0=0)->Q .non H')/\(∀(t:Nat) (H':Hp),Same H H'->t<R.length->fnL R t 0≠0->Q (.int t) H')
theorem IW:FnScope ["rows","at","row"] ["rows"] (XB sZ2):=⟨rfl,rfl,rfl,by decide +kernel,rfl,by decide +kernel,by decide +kernel⟩
theorem n5 (T:Txt K mg t):FnOk P w K mg base Xk 1 t.aZ2 t.dZ2 ["rows"] (n6 K):=by
 refine T.fZ2.ok IW (λvs H Q E h=>?_) (λXy A outer s H vs Q E hr h=>?_)
 .obtain⟨a,ys,R,rfl,_⟩:=h;rfl
 .obtain⟨a,ys,R,rfl,hS,hB,hp,q0,q1⟩:=h;refine⟨_,(XQ (Tf Ww rfl (LL K rfl T.n_enumerate (XZ (pv 0) XY)) (Qg (n:=2) K rfl (Zw (Zg (i:=1) IW.nd rfl (Or.inl rfl)) (Zw (Zg (i:=2) IW.nd rfl (Or.inl rfl)) Qw)))
   (XI (WL (Zd RR (ZR (Zk K) (pv 2) Za (λ_ _=>rfl)) Za (Zq _))
   (XI (Zi (pv 1)))
   Zo)))
   (XI (Zi VS))),?_⟩
  have xT:=hB.1;refine⟨_,rfl,a,rfl,⟨_,hS⟩,y7 (K:=K) (a:=a) (xs:=ys) (λi σ H2=>∃ v1 v2,σ=[some (.ref a),v1,v2]/\Same H H2/\∀ j,j<i->fnL R j 0=0) ⟨none,none,rfl,Same.refl _,λj h=>absurd h (Wy _)⟩ (λi σ H2 _ ⟨_,_,_,e,_⟩=>e.seq hS) ?_ ?_⟩
  .rintro i v σ H2 pt Uy hi ⟨v1,v2,rfl,s2,hz⟩;obtain⟨l,hl,r,rfl,hr⟩:=hB.at hi;have hlp:=hp l (Xg hl)
   obtain⟨x,l',rfl⟩:∃ x l',l=x :: l':=by
    cases l with
    | nil=>exact absurd hlp (QY 0)
    | cons x l'=>exact⟨x,l',rfl⟩
   have e0:fnL R i 0=x:=OB hl rfl;have s3:=s2.trans (XM (o:=.tup [.int i,.ref r]) Uy)
   refine⟨pt,_,rfl,SqT.of XR,rfl,_,_,rfl,_,_,rfl,rfl,?_⟩;generalize upd H2 pt (.tup [.int i,.ref r])=H3 at *;refine⟨_,rfl,r,_,0,.int x,rfl,rfl,SqL.of (s3 _ _ hr),ZL (n:=0) rfl rfl,rfl,_,rfl,?_⟩;rw[Zx];refine WW (λe=>?_) (λe=>?_)
   .refine⟨_,_,rfl,s3,λj hj=>?_⟩;by_cases c:j=i
    .rw[c,e0,e]
    .exact hz j (by lia)
   .exact⟨_,rfl,q1 i H3 s3 (by have:=(Xs.mp hl).1;exact this) (by rw[e0];exact e)⟩
  .rintro σ H2 ⟨v1,v2,rfl,s2,hz⟩;exact q0 H2 s2 λi hi=>hz i (by lia)
def n4(K:Ad):Sp:=λvs H Q _=>∃(a:Addr) (kd:Bool) (xs:List V) (L:Ab),vs=[.ref a]/\SqK kd K H a xs/\Bears (DB K H) xs L/\L.length<=16/\(∀ i j,i<L.length->j<L.length->(fnL L i j).natAbs<=2 ^ 400) /\
 ((∀ l∈L,l.length=L.length)->∀ H':Hp,Same H H'->Q (.int (det L.length (fnL L))) H')/\(¬ (∀ l∈L,l.length=L.length)->∀ H':Hp,Same H H'->False)
theorem nZ{s rest:TS}{D:Ends}{σ:L2.St}{H:Hp}(P:L2.St->Hp->Prop)(h1:∀ σ' H',P σ' H'->rest D σ' H')(h2:∀ K:L2.St->Hp->Prop,(∀ σ' H',P σ' H'->K σ' H')->s { D with nx:=K } σ H):Vv s rest D σ H:=h2 _ h1
theorem Ux:FnScope ["table","rows","sign","last","at","pivot"] ["table"] (XB sZ3):=⟨rfl,rfl,rfl,by decide +kernel,rfl,by decide +kernel,by decide +kernel⟩
theorem nY (T:Txt K mg t):FnOk P w K mg base Xk 2 t.aZ3 t.dZ3 ["table"] (n4 K):=by
 refine T.fZ3.ok Ux (λvs H Q E h=>?_) (λXy A outer s H vs Q E hr h=>?_)
 .obtain⟨a,kd,xs,L,rfl,_⟩:=h;rfl
 .obtain⟨a,kd,xs,L,rfl,hS,hB,Cd,dh,q,qe⟩:=h;refine⟨_,(XQ (Wl (XF (oh T) (hr.mono (by decide)) rfl T.mZ0 T.fZ0.kp T.bZ0 .nil Zp (XZ (pv 0) XY)))
   (XQ (RM (i:=1) rfl Ux.nd rfl rfl (sc0:=XB sZ3) (N0:=["table","rows","sign","last","at","pivot"]) (N':=["row"]) (o:=1) (fr:=[]) ⟨rfl,by decide +kernel,by decide +kernel,by decide +kernel,rfl,by decide +kernel⟩ (LM K (pv 0)) (Zv (by decide)) (λ_ _ _ _=>(Zg (i:=0) (show List.Nodup (["row"]:List Str) by decide +kernel) rfl (Or.inl rfl))) (λ_ _ _ _=>QT) (λ_ _ _ _=>(Zr (Hw K) (by rfl) T.n_list Boot.«list» (XZ (pv 0) XY))))
   (XQ (Zh (i:=2) Ux.nd rfl (Or.inl rfl) Za)
   (XQ (Zh (i:=3) Ux.nd rfl (Or.inr rfl) Za)
   (XQ (iW Ww (Zd LS (Zf (Zj K) (by rfl) T.n_len Boot.«len» (XZ (pv 1) XY)) Za (Zq _))
   (XQ (Zh (i:=4) Ux.nd rfl (Or.inl rfl) (XF (n5 T) (hr.mono (by decide)) rfl T.mZ2 T.fZ2.kp T.bZ2 .nil Zp (XZ (pv 1) XY)))
   (XQ (WL (Zd HK (pv 4) VS (Zq _))
   (XI (Zi Za))
   Zo)
   (XQ (WL (Zd Td (Zs ZS (pv 4) Za) Za (Zq _))
   (XI (Zh (i:=2) Ux.nd rfl (Or.inl rfl) (FN LU (pv 2))))
   Zo)
   (XQ (Zh (i:=5) Ux.nd rfl (Or.inr rfl) (QQ K YU jb jc ip (pv 1) (XZ (pv 4) XY)))
   (XQ (RM (i:=1) rfl Ux.nd rfl rfl (sc0:=XB sZ3) (N0:=["table","rows","sign","last","at","pivot"]) (N':=["row","pivot","last"]) (o:=1) (fr:=[5,3]) ⟨rfl,by decide +kernel,by decide +kernel,by decide +kernel,rfl,by decide +kernel⟩ (OH K (pv 1)) (Zv (by decide)) (λ_ _ _ _=>(Zg (i:=0) (show List.Nodup (["row","pivot","last"]:List Str) by decide +kernel) rfl (Or.inl rfl))) (λ_ _ _ _=>QT) (λ_ _ _ _=>(XF (n8 T) (hr.mono (by decide)) rfl T.mZ1 T.fZ1.kp T.bZ1 .nil Zp (XZ (pv 0) (XZ (pv 1) (XZ (pv 2) XY))))))
   (XI (Zh (i:=3) Ux.nd rfl (Or.inr rfl) (ZR (Zk K) (pv 5) Za (λ_ _=>rfl))))))))))
   (XI (Zi (Zs qS (pv 2) (pv 3))))))))),?_⟩
  have IX:=hB.1;refine⟨_,rfl,a,kd,xs,L,rfl,hS,hB,λnX=>?_,λh=>qe h H (Same.refl H)⟩;have q:=q nX
  obtain⟨n,hn⟩:∃ n,n=L.length:=⟨_,rfl⟩;rw[<- hn]at q nX dh Cd;refine⟨_,rfl,a,rfl,y8 (K:=K) (k:=kd) (a:=a) (xs:=xs) (λi zs H2=>Same H H2/\i<=xs.length/\Bears (OF H2) zs (L.take i)) ⟨Same.refl _,Yl _,⟨rfl,λi l e=>by simp at e⟩⟩ (Zl (by lia)) (λi zs H2 hi ⟨e,VM,ez⟩=>⟨hS.same e,by rw[ez.1,Yy];lia⟩) ?_ ?_⟩
  .rintro i v zs H2 hi ⟨s2,VG,hZ⟩ S Xl;obtain⟨l,hl,r,k,rfl,hr⟩:=hB.at hi;have Xp:=(Xs.mp hi).1
   refine nm ?_;refine⟨_,rfl,r,_,rfl,(hr.same s2).or,λc hc=>Xl _ _ ⟨s2.trans (XM hc),Xp,?_⟩⟩;rw[WB,hl];refine(hZ.imp λ_ _ ⟨r',e,h⟩=>⟨r',e,XM hc _ _ h⟩).snoc ⟨c,rfl,XR⟩
  rintro zs H2 ⟨s2,_,hZ⟩ rA MR;rw[IX,YI]at hZ;have s3:=s2.trans (XM (o:=.lst zs) MR)
  refine⟨λm σ H4=>∃(A:Mx) (k:Nat) (rA:Addr) (ys:List V) (R:Ab) (sgn last:Int) (v4 v5:Option V),σ=[some (.ref a),some (.ref rA),some (.int sgn),some (.int last),v4,v5]/\Same H H4/\H rA=none/\H4 rA=some (.lst ys)/\Bears (LiV rA H4) ys R/\R.length=m/\(∀ l∈R,l.length=m)/\k+m=n/\Sn A k m (fnL R) last/\det n (fnL L)=sgn * det n A/\(∀ i j,i<n->j<n->(A i j).natAbs<=2 ^ 400)/\(m=0->last=det n A)/\(sgn=1\/sgn=-1)/\last.natAbs<2 ^ 9000,⟨n,fnL L,0,rA,zs,L,1,1,none,none,rfl,s3,s2.free MR,XR,?_,hn.symm,nX,by lia,ZF8 _ _,by grind,dh,λe=>by rw[e];rfl,.inl rfl,Nat.one_lt_two_pow (by decide)⟩,?_⟩
  .exact hZ.imp λv l ⟨r,e,h⟩=>⟨r,e,XM MR _ _ h,Zc h MR⟩
  rintro m σ H4 ⟨A,k,rA,ys,R,sgn,last,v4,v5,rfl,s4,VU,Ln,hR,Cc,QJ,xS,MQ,IV,dg,nW,df,de⟩;have xT:=hR.1
  refine⟨_,rfl,rA,ys,rfl,.inl (SqL.of Ln),_,_,rfl,rfl,_,rfl,?_⟩;refine Xf (λSJ=>?_) (λSJ=>?_)
  .obtain⟨M,rfl⟩:∃ M,m=M+1:=⟨m - 1,by lia⟩;refine⟨_,λσ' H' h=>⟨M,OW M,h⟩,?_⟩;have nV:∀ l∈R,∀ z∈l,z.natAbs<2 ^ 9000:=λl hl z hz=>by
    obtain⟨i,hi⟩:=VF hl;obtain⟨j,hj⟩:=VF hz;have h1:=(Xs.mp hi).1
    have h2:=(Xs.mp hj).1;have h3:=QJ l hl
    have:=ZG8 MQ xS Cd dg (i:=i) (j:=j) (by lia) (by lia)
    rw[OB hi hj]at this;exact this
   refine⟨_,rfl,rA,ys,R,rfl,SqL.of Ln,hR.imp λ_ _ h=>h.list,λl hl=>by rw[QJ l hl];lia,λH5 s5 h0=>?_,λt H5 s5 ht XH=>?_⟩
   .refine⟨_,rfl,rfl,_,rfl,?_⟩;refine y9 (c:=V.non=V.non) rfl ?_;have z:det n A=0:=by
     have:=qW MQ λi hi=>h0 i (by lia)
     rw[show k+M+1=n by lia]at this;exact this
    rw[IV,z,Sz]at q;exact q H5 (s4.trans s5)
   refine⟨_,rfl,rfl,_,rfl,?_⟩;refine JN (c:=V.int (t:Int)=V.non) (λz=>nomatch z) ?_;refine nm ?_;dsimp only;refine nZ (λσ H6=>∃ MP:Int,H6=H5/\σ=[some (.ref a),some (.ref rA),some (.int MP),some (.int last),some (.int t),v5]/\MP=sgn * sg t) ?_ ?_
   .rintro σ H6 ⟨MP,rfl,rfl,Cb⟩;have Lm:=s5 _ _ Ln
    have dc:=hR.imp λ_ _ h=>h.same s5;obtain⟨l,hl⟩:∃ l,R[t]?=some l:=⟨_,Xn ht⟩;have Hj:=QJ l (Xg hl)
    obtain⟨y,p',rfl⟩:∃ y p',l=y :: p':=by
     cases l with
     | nil=>cases Hj
     | cons y p'=>exact⟨y,p',rfl⟩
    have UX:p'.length=M:=by rw[YA]at Hj;lia
    obtain⟨v,hv,pA,rfl,hpA,hpn⟩:=dc.2 t _ hl;have hy0:y≠0:=by rw[OB hl rfl]at XH;exact XH
    refine⟨_,rfl,.inl ⟨rfl,_,SqL.of Lm⟩,_,rfl,rA,ys,(t:Int),t,.ref pA,rfl,rfl,Lm,by lia,by lia,by rw[Eg (by lia) (by lia),YC],hv,?_⟩;have Ca:(upd H6 rA (.lst (ys.eraseIdx t))) pA=some (.lst (IL (y :: p'))):=by rw[Zb hpn];exact hpA
    have s7:Same H (upd H6 rA (.lst (ys.eraseIdx t))):=ZH VU (s4.trans s5);have c9:Bears (LiV rA (upd H6 rA (.lst (ys.eraseIdx t)))) (ys.eraseIdx t) (R.eraseIdx t):=(dc.erase t).imp λ_ _ h=>h.mut
    have BZ:(upd H6 rA (.lst (ys.eraseIdx t))) rA=some (.lst (ys.eraseIdx t)):=XR;generalize upd H6 rA (.lst (ys.eraseIdx t))=H7 at *;have c8:(R.eraseIdx t).length=M:=by rw[zZ,if_pos ht];lia
    have IU:∀ l∈R.eraseIdx t,l.length=M+1:=λl h=>QJ l (xm h);have hy7:=c9.1
    refine⟨_,rfl,rA,rfl,⟨_,SqL.of BZ⟩,UG (K:=K) (a:=rA) (xs:=ys.eraseIdx t) (λi zs H8=>Same H7 H8/\i<=(ys.eraseIdx t).length/\Bears (OF H8) zs (((R.eraseIdx t).take i).map (PR y p' last))) ⟨Same.refl _,Yl _,⟨rfl,λi l e=>by simp at e⟩⟩ (Zl (by lia)) (λi zs H8 hi ⟨e,VM,ez⟩=>⟨SqL.of (e _ _ BZ),by rw[ez.1,Yd,Yy];lia⟩) ?_ ?_⟩
    .rintro i v zs H8 hi ⟨s8,VG,xR⟩ S Xl;obtain⟨l,LD,r,rfl,hr,_⟩:=c9.at hi;have Xp:=(Xs.mp hi).1
     have QU:=IU l (Xg LD);obtain⟨x,l',rfl⟩:∃ x l',l=x :: l':=by
      cases l with
      | nil=>cases QU
      | cons x l'=>exact⟨x,l',rfl⟩
     have Sy:l'.length=M:=by rw[YA]at QU;lia
     refine nm ?_;refine⟨_,rfl,_,rfl,_,rfl,r,pA,x,y,last,l',p',rfl,SqL.of (s8 _ _ hr),SqL.of (s8 _ _ Ca),by lia,by lia,MQ.1,de,nV _ (xm (Xg LD)),nV _ (Xg hl),λc H9 s9 BY hc=>Xl _ _ ⟨s8.trans s9,Xp,?_⟩⟩;rw[WB,LD,YL];exact(xR.imp λ_ _ ⟨r',e,h⟩=>⟨r',e,s9 _ _ h⟩).snoc ⟨c,rfl,hc⟩
    rintro zs H8 ⟨s8,_,xR⟩ cA Ox;rw[hy7,YI]at xR;have s9:=XM (o:=.lst zs) Ox
    refine⟨_,rfl,pA,_,0,.int y,rfl,rfl,SqL.of (s9 _ _ (s8 _ _ Ca)),ZL (n:=0) rfl rfl,?_⟩;have Jn:Sn (λi=>A (rotN k t i)) k (M+1) (fnL ((y :: p') :: R.eraseIdx t)) last:=by rw[qP hl];exact qX MQ (by lia)
    have QK:Sn (λi=>A (rotN k t i)) (k+1) M (fnL ((R.eraseIdx t).map (PR y p' last))) y:=qZ Jn hy0 λi j hi hj=>qO UX c8 IU hi hj;have hdr:=rj (n:=n) (k:=k) (t:=t) (A:=A) (by lia)
    refine⟨λi=>A (rotN k t i),k+1,cA,zs,(R.eraseIdx t).map (PR y p' last),MP,y,_,_,rfl,s7.trans (s8.trans s9),(s7.trans s8).free Ox,XR,?_,by rw[Yd];exact c8,λl h=>?_,by lia,QK,?_,λi j hi hj=>dg _ _ ?_ hj,λe0=>?_,?_,nV _ (Xg hl) y Ye⟩
    .exact xR.imp λv l ⟨r,e,h⟩=>⟨r,e,s9 _ _ h,Zc h Ox⟩
    .obtain⟨l0,h0,rfl⟩:=YD.mp h;rw[fS (by rw[IU l0 h0,UX]),UX]
    .rw[hdr,IV,Cb,SD,<- SD (sg t),qN,To]
    .unfold rotN;split
     .grind
     .split
      .lia
      .split <;> lia
    .subst e0
     have:=qV Jn
     rw[show k+1=n by lia]at this;exact this
    .rw[Cb];have UZ:sg t=1\/sg t=-1:=by
      unfold sg;split
      .exact .inl rfl
      .exact .inr rfl
     rcases df with e | e <;> rcases UZ with f | f <;> rw[e,f]
     .exact .inl rfl
     .exact .inr rfl
     .exact .inr rfl
     .exact .inl rfl
   .intro Kn hK;refine⟨_,rfl,_,_,rfl,rfl,(by show(0:Int)<2;decide),rfl,_,rfl,?_⟩;rw[Zx];refine Xf (λh1=>?_) (λh1=>?_)
    .refine⟨_,rfl,_,rfl,hK _ _ ⟨-sgn,rfl,rfl,?_⟩⟩;have e:sg t=-1:=by unfold sg;rw[if_neg (by lia)]
     rw[e];lia
    .refine hK _ _ ⟨sgn,rfl,rfl,?_⟩;have e:sg t=1:=by unfold sg;rw[if_pos (by lia)]
     rw[e];grind
  .have QI:m=0:=by lia
   refine⟨_,rfl,_,rfl,_,_,rfl,rfl,⟨?_,de⟩,?_⟩
   .rcases df with e | e <;> rw[e] <;> exact Nat.one_lt_two_pow (by decide)
   .rw[nW QI]at *;rw[IV]at q;exact q H4 s4
def nU(K:Ad):Sp:=λvs H Q _=>∃(a:Addr) (l:Ac) (i:Nat),vs=[.ref a,.int i]/\SqL K H a (IL l)/\l.length<=1000/\∀(r:Addr) (H':Hp),Same H H'->H r=none->H' r=some (.lst (IL (cutz l i)))->Q (.ref r) H'
theorem nT(l:Ac)(z:Int):cutz (IL l) z=IL (cutz l z):=by
 unfold cutz;show(l.map V.int).take _++(l.map V.int).drop _=(l.take _++l.drop _).map V.int
 rw[YL,List.map_take,List.map_drop]
theorem nS:FnScope ["row","number"] ["row","number"] (XB sZ4):=⟨rfl,rfl,rfl,by decide +kernel,rfl,by decide +kernel,by decide +kernel⟩
theorem nR (T:Txt K mg t):FnOk P w K mg base Xk 1 t.aZ4 t.dZ4 ["row","number"] (nU K):=by
 refine T.fZ4.ok nS (λvs H Q E h=>?_) (λXy A outer s H vs Q E hr h=>?_)
 .obtain⟨a,l,i,rfl,_⟩:=h;rfl
 .obtain⟨a,l,i,rfl,hA,hl,q⟩:=h;refine⟨_,(XI (Zi (Zs EY (Zr (Hw K) (by rfl) T.n_list Boot.«list» (XZ (LR (LN K) (pv 0) Kb (NQ (pv 1))) XY)) (Zr (Hw K) (by rfl) T.n_list Boot.«list» (XZ (LR (LN K) (pv 0) (NQ (Zs UY (pv 1) Za)) Kb) XY))))),?_⟩;refine⟨_,rfl,_,rfl,(i:Int),rfl,a,_,rfl,hA,λp1 Vi=>?_⟩;have u1:=XM (o:=.lst (WJ (IL l) none (some (i:Int)))) Vi
  refine⟨p1,_,rfl,.inl (SqL.of XR),λp2 Wm=>?_⟩;have u2:=XM (o:=.lst (WJ (IL l) none (some (i:Int)))) Wm
  refine⟨_,rfl,_,rfl,_,_,rfl,rfl,_,rfl,a,_,rfl,(u1.trans u2).seq hA,λp3 PF=>?_⟩;have u3:=XM (o:=.lst (WJ (IL l) (some ((i:Int)+1)) none)) PF
  refine⟨p3,_,rfl,.inl (SqL.of XR),λp4 Uw=>?_⟩;have u4:=XM (o:=.lst (WJ (IL l) (some ((i:Int)+1)) none)) Uw
  have c1:=Ft (IL l) none (some (i:Int));have c2:=Ft (IL l) (some ((i:Int)+1)) none
  rw[Xz]at c1 c2;refine⟨p2,p4,_,_,rfl,rfl,(u3.trans u4) _ _ XR,XR,OI (by lia),λp5 xQ=>?_⟩;have c7:=u1.trans (u2.trans (u3.trans u4))
  refine q p5 _ (c7.trans (XM xQ)) (c7.free xQ) ?_;rw[XR,rW (by lia),nT]
def nQ(K:Ad):Sp:=λvs H Q _=>∃(a:Addr) (ys:List V) (L:Ab) (i:Nat),vs=[.ref a,.int i]/\SqL K H a ys/\Bears (OF H) ys L/\L.length<=1000/\(∀ l∈L,l.length<=1000)/\i<L.length /\
 ∀(r:Addr) (zs:List V) (H':Hp),Same H H'->H' r=some (.lst zs)->Bears (OF H') zs ((cutz L i).map λl=>cutz l (i:Int))->Q (.ref r) H'
theorem c6{α:Type}{l:List α}{i j:Nat}{x:α}(hx:l[j]?=some x):cutz (l.take (j+1)) (i:Int)=cutz (l.take j) (i:Int)++(if j=i then [] else [x]):=by
 have hj:=(Xs.mp hx).1;have e:l.take (j+1)=l.take j++[x]:=by rw[WB,hx];rfl
 have hl:(l.take j).length=j:=by rw[Yy];grind
 have short:∀ m:List α,m.length<=i->cutz m (i:Int)=m:=λm hm=>by unfold cutz;rw[YC,UN hm,Ld (by lia),YF]
 rw[e];by_cases c:j=i
 .subst c;rw[if_pos rfl,YF,short (l.take j) (by lia)];unfold cutz;rw[YC,xr (by lia),Ld (by rw[Xt,hl];exact XN _),YF,UN (by omega)]
 .rw[if_neg c];by_cases d:j<i
  .rw[short (l.take j++[x]) (by rw[Xt,hl];exact d),short (l.take j) (by lia)]
  .unfold cutz;rw[YC,xr (by grind),xq (by lia),QG]
theorem nP:FnScope ["table","number"] ["table","number"] (XB sZ5):=⟨rfl,rfl,rfl,by decide +kernel,rfl,by decide +kernel,by decide +kernel⟩
theorem nO (T:Txt K mg t):FnOk P w K mg base Xk 2 t.aZ5 t.dZ5 ["table","number"] (nQ K):=by
 refine T.fZ5.ok nP (λvs H Q E h=>?_) (λXy A outer s H vs Q E hr h=>?_)
 .obtain⟨a,ys,L,i,rfl,_⟩:=h;rfl
 .obtain⟨a,ys,L,i,rfl,hA,hB,hL,Ha,hi,q⟩:=h;refine⟨_,(XI (Zi (SX rfl (sc0:=XB sZ5) (N0:=["table","number"]) (N':=["at","row","number"]) (o:=2) (fr:=[1]) ⟨rfl,by decide +kernel,by decide +kernel,by decide +kernel,rfl,by decide +kernel⟩ (LL K rfl T.n_enumerate (XZ (pv 0) XY)) (EH (ON (by decide) (ON (by decide) EI))) (λ_ _ _ _=>(Qg (n:=2) K rfl (Zw (Zg (i:=0) (show List.Nodup (["at","row","number"]:List Str) by decide +kernel) rfl (Or.inl rfl)) (Zw (Zg (i:=1) (show List.Nodup (["at","row","number"]:List Str) by decide +kernel) rfl (Or.inl rfl)) Qw)))) (λ_ _ _ _=>(Wq (Zd RR (pv 0) (pv 2) (Zq _)))) (λ_ _ _ _=>(XF (nR T) (hr.mono (by decide)) rfl T.mZ4 T.fZ4.kp T.bZ4 .nil Zp (XZ (pv 1) (XZ (pv 2) XY))))))),?_⟩;have xT:=hB.1
  refine⟨_,rfl,a,rfl,⟨_,hA⟩,yM (K:=K) (a:=a) (xs:=ys) (λj zs H2=>Same H H2/\j<=ys.length/\Bears (OF H2) zs ((cutz (L.take j) (i:Int)).map λl=>cutz l (i:Int))) ⟨Same.refl _,Yl _,by rw[show(cutz (L.take 0) (i:Int)).map (λl=>cutz l (i:Int))=[] by unfold cutz;simp];exact⟨rfl,λi l e=>by simp at e⟩⟩ (Zl (by lia)) (λj zs H2 hj ⟨e,QN,ez⟩=>⟨e.seq hA,by
   rw[ez.1,Yd];refine Yv (rV _ _) ?_;rw[Yy]
   lia⟩) ?_ ?_⟩
  .rintro j v zs H2 pt Uy hj ⟨s2,NA,hZ⟩ S Xl;obtain⟨l,hl,r,rfl,hr⟩:=hB.at hj;have VZ:=(Xs.mp hj).1
   have s3:=XM (o:=.tup [.int j,.ref r]) Uy;refine⟨pt,_,rfl,SqT.of XR,rfl,_,_,rfl,_,_,rfl,rfl,?_⟩;have c5:Bears (OF (upd H2 pt (.tup [.int j,.ref r]))) zs ((cutz (L.take j) (i:Int)).map λl=>cutz l (i:Int)):=hZ.imp λ_ _ ⟨r',e,h⟩=>⟨r',e,s3 _ _ h⟩
   have nN:=s2.trans s3;generalize upd H2 pt (.tup [.int j,.ref r])=H3 at *;refine⟨_,rfl,_,rfl,rfl,_,rfl,?_⟩;rw[Zx];refine WW (λe=>?_) (λe=>?_)
   .refine Xl _ _ ⟨nN,VZ,?_⟩;rw[c6 hl,if_pos (by lia),YF];exact c5
   .refine⟨_,rfl,_,rfl,r,l,i,rfl,SqL.of (nN _ _ hr),Ha l (Xg hl),λc H4 s4 _ hc=>Xl _ _ ⟨nN.trans s4,VZ,?_⟩⟩;rw[c6 hl,if_neg (by lia),YL];exact(c5.imp λ_ _ ⟨r',e,h⟩=>⟨r',e,s4 _ _ h⟩).snoc ⟨c,rfl,hc⟩
  .rintro zs H2 ⟨s2,_,hZ⟩ p hp;rw[xT,YI]at hZ;exact q p zs _ (s2.trans (XM hp)) XR (hZ.imp λ_ _ ⟨r',e,h⟩=>⟨r',e,XM hp _ _ h⟩)
def nM(C:Addr):Sp:=λvs H Q _=>∃(w:Addr) (n:Int) (ps:Aa) (k:Int),vs=[.ref w,.int k]/\WebAt C H w n ps/\Q (.bl (decide (0<=k/\k<(ps.length:Int)))) H
theorem nL:FnScope ["web","number"] ["web","number"] (XB sZ6):=⟨rfl,rfl,rfl,by decide +kernel,rfl,by decide +kernel,by decide +kernel⟩
theorem BX (T:Txt K mg t):FnOk P w K mg base Xk 1 t.aZ6 t.dZ6 ["web","number"] (nM t.A_Web):=by
 refine T.fZ6.ok nL (λvs H Q E h=>?_) (λXy A outer s H vs Q E hr h=>?_)
 .obtain⟨w,n,ps,k,rfl,_⟩:=h;rfl
 .obtain⟨w,n,ps,k,rfl,⟨dx,tl,xs,h1,h2,h3⟩,q⟩:=h;refine⟨_,(XI (Zi (aL Qs Kj Za (pv 1) (Zf (Zj K) (by rfl) T.n_len Boot.«len» (XZ (Zn K (pv 0) rfl) XY))))),?_⟩;refine⟨_,rfl,_,_,rfl,rfl,_,rfl,?_⟩;refine EL (λhc=>?_) (λhc=>?_)
  .refine⟨_,rfl,w,_,dx,_,_,rfl,h1,T.cl_Web,T.n_Web_ties,QR _ _,tl,xs,rfl,.inl (SqL.of h2),_,_,rfl,rfl,?_⟩;have hc:=Yu hc
   show Q (.bl (decide (k<(xs.length:Int)))) H;rw[h3.1,show decide (k<(ps.length:Int))=decide (0<=k/\k<(ps.length:Int)) from by simp[hc]];exact q
  .have hc:¬ (0<=k):=λz=>hc (Yn z);show Q (.bl false) H
   rw[show(false:Bool)=decide (0<=k/\k<(ps.length:Int)) from by simp;lia];exact q
def nK(K:Ad):Sp:=λvs H Q _=>∃(n:Int) (a:Addr) (kd:Bool) (xs:List V) (ps:Aa),vs=[.int n,.ref a]/\SqK kd K H a xs/\PairsV H xs ps/\Zu n ps/\Q .non H
theorem IT:FnScope ["places","ties","ends","end"] ["places","ties"] (XB sZ7):=⟨rfl,rfl,rfl,by decide +kernel,rfl,by decide +kernel,by decide +kernel⟩
theorem nJ (T:Txt K mg t):FnOk P w K mg base Xk 1 t.aZ7 t.dZ7 ["places","ties"] (nK K):=by
 refine T.fZ7.ok IT (λvs H Q E h=>?_) (λXy A outer s H vs Q E hr h=>?_)
 .obtain⟨n,a,kd,xs,ps,rfl,_⟩:=h;rfl
 .obtain⟨n,a,kd,xs,ps,rfl,hS,hp,⟨g1,g2,g3,g4⟩,q⟩:=h;refine⟨_,(XQ (WL (OR (iK Qs Qs Za (pv 0) (iY (v:=V.int 14) rfl T.g_MOST_PLACES.choose_spec ⟨_,rfl⟩)))
   (XI Vu)
   Zo)
   (XQ (WL (Zd LS (Zf (Zj K) (by rfl) T.n_len Boot.«len» (XZ (pv 1) XY)) (iY (v:=V.int 30) rfl T.g_MOST_TIES.choose_spec ⟨_,rfl⟩) (Zq _))
   (XI Vu)
   Zo)
   (XI (Tf Ww rfl (LM K (pv 1)) (Zg (i:=2) IT.nd rfl (Or.inl rfl))
   (XI (Tf Ww rfl (JI K (pv 2)) (Zg (i:=3) IT.nd rfl (Or.inl rfl))
   (XI (WL (OR (iK Qs Kj Za (pv 3) (pv 0)))
   (XI Vu)
   Zo)))))))),?_⟩
  refine⟨_,rfl,_,_,rfl,rfl,_,rfl,?_⟩;refine y9 g1 ?_;refine⟨_,_,rfl,rfl,_,rfl,?_⟩;refine tH g2 ?_;refine⟨_,rfl,a,xs,rfl,hS.or,_,_,rfl,rfl,_,rfl,?_⟩;refine JN (by rw[hp.1];lia) ?_;refine⟨_,rfl,a,rfl,NF (k:=kd) (K:=K) (xs:=xs) (λi σ H2=>∃ v v2,σ=[some (.int n),some (.ref a),v,v2]/\H2=H) ⟨none,none,rfl,rfl⟩ (λi σ H2 _ ⟨_,_,_,e⟩=>e ▸ hS) ?_ ?_⟩
  .rintro i x σ H2 hi ⟨v,v2,rfl,rfl⟩;obtain⟨p,Qf,tt,rfl,ht⟩:=hp.at hi;obtain⟨e1,e2,e3,e4⟩:=g4 p (Xg Qf);refine⟨_,rfl,tt,rfl,⟨_,SqT.of ht⟩,iP (K:=K) (a:=tt) (xs:=[.int p.1,.int p.2]) (λj σ H3=>∃ v v2,σ=[some (.int n),some (.ref a),v,v2]/\H3=H2) ⟨_,_,rfl,rfl⟩ (λj σ H3 _ ⟨_,_,_,e⟩=>e ▸ SqT.of ht) ?_ ?_⟩
   .rintro j y σ H3 hj ⟨v,v2,rfl,rfl⟩;have hy:∃ z:Int,y=.int z/\0<=z/\z<n:=by
     match j,hj with
     | 0,hj=>exact⟨p.1,(Yg hj).symm,e1,e2⟩
     | 1,hj=>exact⟨p.2,(Yg hj).symm,e3,e4⟩
    obtain⟨z,rfl,z1,z2⟩:=hy;refine⟨_,rfl,_,_,rfl,rfl,_,rfl,?_⟩;refine y9 z1 ?_;refine⟨_,rfl,_,_,rfl,rfl,_,rfl,?_⟩;refine tH z2 ?_;exact⟨_,_,rfl,rfl⟩
   .rintro σ H3 ⟨v,v2,rfl,rfl⟩;exact⟨_,_,rfl,rfl⟩
  .rintro σ H2 ⟨v,v2,rfl,rfl⟩;exact q
def ZC5(K:Ad)(C:Addr):Sp:=λvs H Q _=>∃(w dx:Addr) (n:Int) (a:Addr) (kd:Bool) (xs:List V) (ps:Aa),vs=[.ref w,.int n,.ref a]/\H w=some (.ins C dx [])/\(∀ o,SqK kd K (upd H w o) a xs)/\PairsV H xs ps/\Zu n ps /\
 ∀ H':Hp,WebAt C H' w n ps->(∀ b o,H b=some o->b≠w->H' b=some o)->Q .non H'
theorem nI:FnScope ["self","places","ties"] ["self","places","ties"] (XB sZ8):=⟨rfl,rfl,rfl,by decide +kernel,rfl,by decide +kernel,by decide +kernel⟩
theorem BW (T:Txt K mg t):FnOk P w K mg base Xk 2 t.aZ8 t.dZ8 ["self","places","ties"] (ZC5 K t.A_Web):=by
 refine T.fZ8.ok nI (λvs H Q E h=>?_) (λXy A outer s H vs Q E hr h=>?_)
 .obtain⟨w,dx,n,a,kd,xs,ps,rfl,_⟩:=h;rfl
 .obtain⟨w,dx,n,a,kd,xs,ps,rfl,hw,hS,hp,g,q⟩:=h;have eH:upd H w (.ins t.A_Web dx [])=H:=by
   funext b
   by_cases hb:b=w
   .subst hb;rw[XR,hw]
   .rw[Zb hb]
  have Ht:SqK kd K H a xs:=by have z:=hS (.ins t.A_Web dx []);rw[eH]at z;exact z
  refine⟨_,(XQ (Wl (XF (nJ T) (hr.mono (by decide)) rfl T.mZ7 T.fZ7.kp T.bZ7 .nil Zp (XZ (pv 1) (XZ (pv 2) XY))))
   (XQ (NS (pv 0) (pv 1) rfl)
   (XI (NS (pv 0) (SX rfl (sc0:=XB sZ8) (N0:=["self","places","ties"]) (N':=["ends"]) (o:=1) (fr:=[]) ⟨rfl,by decide +kernel,by decide +kernel,by decide +kernel,rfl,by decide +kernel⟩ (LM K (pv 2)) (Zv (by decide)) (λ_ _ _ _=>(Zg (i:=0) (show List.Nodup (["ends"]:List Str) by decide +kernel) rfl (Or.inl rfl))) (λ_ _ _ _=>QT) (λ_ _ _ _=>(Uq (XZ (ZR (ZN K) (pv 0) Za (λ_ _=>rfl)) (XZ (ZR (ZN K) (pv 0) Za (λ_ _=>rfl)) XY))))) rfl)))),?_⟩
  refine⟨_,rfl,_,rfl,n,a,kd,xs,ps,rfl,Ht,hp,g,?_⟩;refine⟨_,rfl,_,rfl,w,_,dx,[],rfl,hw,T.cl_Web,T.n_Web_places,(by show 0<1000;decide),?_⟩;have Vi:PairsV (upd H w (.ins t.A_Web dx (XO "places" (.int n) []))) xs ps:=⟨hp.1,λi p e=>by obtain⟨v,e1,tt,e2,e3⟩:=hp.2 i p e;exact⟨v,e1,tt,e2,by rw[Zb (QX e3 hw (λz=>nomatch z))];exact e3⟩⟩
  have sx:xs.length<sizeLine:=Zl (by rw[hp.1];have:=g.2.2.1;lia);refine⟨_,rfl,a,rfl,y8 (k:=kd) (K:=K) (xs:=xs) (λi ys H2=>i<=xs.length/\ys.length=i/\Same (upd H w (.ins t.A_Web dx (XO "places" (.int n) []))) H2/\PairsV H2 ys (ps.take i)) ⟨Yl _,rfl,Same.refl _,PairsV.nil⟩ sx
   (λi ys H2 _ ⟨_,hl,s2,_⟩=>⟨(hS _).same s2,Nat.le_of_eq hl⟩) ?_ ?_⟩
  .rintro i x ys H2 hi ⟨h1,hl,s2,hy⟩ S Xl;obtain⟨p,Qf,tt,rfl,ht⟩:=Vi.at hi;have IS:=s2 _ _ ht
   refine gY ?_;refine⟨_,rfl,tt,_,0,.int p.1,rfl,rfl,SqT.of IS,rfl,_,rfl,tt,_,1,.int p.2,rfl,rfl,SqT.of IS,rfl,(by show 2<=sizeLine;decide),λq hq=>?_⟩;have VG:i<xs.length:=(Xs.mp hi).1
   refine Xl _ _ ⟨VG,by rw[Xt,hl];rfl,Zy s2 hq,?_⟩;rw[WB,Qf];exact(hy.same (XM hq)).snoc ⟨q,rfl,XR⟩
  .rintro ys H2 ⟨_,hl,s2,hy⟩ tl nH;have nG:=s2 w _ XR
   have cZ:w≠tl:=Zc nG nH;refine⟨_,rfl,w,_,dx,_,rfl,(by rw[Zb cZ];exact nG),T.cl_Web,T.n_Web_ties,(by show 1<1000;decide),?_⟩;refine q _ ⟨dx,tl,ys,XR,by rw[Zb (YZ cZ),XR],?_⟩ λb ob e hb=>?_
   .have e1:ps.take xs.length=ps:=UN (by rw[hp.1];exact XN _);rw[e1]at hy;refine⟨hy.1,λi p e=>?_⟩;obtain⟨v,e2,tt,e3,e4⟩:=hy.2 i p e;exact⟨v,e2,tt,e3,by rw[Zb (QX e4 nG (λz=>nomatch z)),Zb (Zc e4 nH)];exact e4⟩
   .have e2:=s2 b ob (by rw[Zb hb];exact e);rw[Zb hb,Zb (Zc e2 nH)];exact e2
def nF(K:Ad)(C:Addr):Sp:=λvs H Q _=>∃(w:Addr) (n:Int) (ps:Aa),vs=[.ref w]/\WebAt C H w n ps/\ps.length<=1000 /\
 ∀(r:Addr) (H':Hp),Same H H'->H r=none->H' r=some (.tup (IL (Wz ps.length)))->Q (.ref r) H'
theorem nE:FnScope ["web"] ["web"] (XB sZ9):=⟨rfl,rfl,rfl,by decide +kernel,rfl,by decide +kernel,by decide +kernel⟩
theorem BV (T:Txt K mg t):FnOk P w K mg base Xk 1 t.aZ9 t.dZ9 ["web"] (nF K t.A_Web):=by
 refine T.fZ9.ok nE (λvs H Q E h=>?_) (λXy A outer s H vs Q E hr h=>?_)
 .obtain⟨w,n,ps,rfl,_⟩:=h;rfl
 .obtain⟨w,n,ps,rfl,⟨dx,tl,xs,h1,h2,h3⟩,hl,q⟩:=h;refine⟨_,(XI (Zi (Zr (Zv3 rfl) (by rfl) T.n_tuple Boot.«tuple» (XZ (Zr g7 (by rfl) T.n_range Boot.«range» (XZ (Zf (Zj K) (by rfl) T.n_len Boot.«len» (XZ (Zn K (pv 0) rfl) XY)) XY)) XY)))),?_⟩;have hx:=h3.1
  refine⟨_,rfl,w,_,dx,_,_,rfl,h1,T.cl_Web,T.n_Web_ties,QR _ _,tl,xs,rfl,.inl (SqL.of h2),_,rfl,λr hr=>⟨r,0,_,rfl,XR,⟨by decide,by decide,by lia,by lia⟩,by lia,λl hl=>?_⟩⟩;refine q l _ (Zy (XM hr) hl) ((XM hr).free hl) ?_;rw[XR,hx,ZL9]
def nB(K:Ad)(C:Addr):Sp:=λvs H Q _=>∃(w a:Addr) (n:Int) (ps:Aa) (kd:Bool) (T:Ac),vs=[.ref w,.ref a]/\WebAt C H w n ps/\ps.length<=1000/\SqK kd K H a (IL T) /\
 ∀(D:Ac),D.Pairwise (· < ·)->(∀ z,z∈D↔(0<=z/\z<(ps.length:Int))/\z∉T)->∀(r:Addr) (H':Hp),Same H H'->H' r=some (.tup (IL D))->Q (.ref r) H'
theorem nz:FnScope ["web","ties"] ["web","ties"] (XB sZa):=⟨rfl,rfl,rfl,by decide +kernel,rfl,by decide +kernel,by decide +kernel⟩
theorem ny (T:Txt K mg t):FnOk P w K mg base Xk 1 t.aZa t.dZa ["web","ties"] (nB K t.A_Web):=by
 refine T.fZa.ok nz (λvs H Q E h=>?_) (λXy A outer s H vs Q E hr h=>?_)
 .obtain⟨w,a,n,ps,kd,T,rfl,_⟩:=h;rfl
 .obtain⟨w,a,n,ps,kd,T',rfl,hW,hl,hA,q⟩:=h;refine⟨_,(XI (Zi (Zr (ZC K) (by rfl) T.n_tuple Boot.«tuple» (XZ (SX rfl (sc0:=XB sZa) (N0:=["web","ties"]) (N':=["tie","ties"]) (o:=1) (fr:=[1]) ⟨rfl,by decide +kernel,by decide +kernel,by decide +kernel,rfl,by decide +kernel⟩ (Ui rfl T.n_range (XZ (Zf (Zj K) (by rfl) T.n_len Boot.«len» (XZ (Zn K (pv 0) rfl) XY)) XY)) (Zv (by decide)) (λ_ _ _ _=>(Zg (i:=0) (show List.Nodup (["tie","ties"]:List Str) by decide +kernel) rfl (Or.inl rfl))) (λ_ _ _ _=>(Wq (Zd (ZP K) (pv 0) (pv 1) rfl))) (λ_ _ _ _=>(pv 0))) XY)))),?_⟩;obtain⟨dx,tl,xs,h1,h2,h3⟩:=hW;have OD:=h3.1
  refine⟨_,rfl,w,_,dx,_,_,rfl,h1,T.cl_Web,T.n_Web_ties,QR _ _,tl,xs,rfl,.inl (SqL.of h2),_,rfl,by lia,by lia,Et (lo:=0) (n:=(xs.length:Int).toNat) (λj ys H3=>H3=H/\∃ D:Ac,ys=IL D/\D.length<=j/\D.Pairwise (· < ·)/\∀ z,z∈D↔(0<=z/\z<(j:Int))/\z∉T') ⟨rfl,[],rfl,XN _,.nil,λz=>⟨λh=>(by cases h),λh=>(by lia)⟩⟩ (Zl (by lia)) (λj ys H3 _ ⟨_,D,e,hl,_⟩=>by rw[e,Xz];exact hl) ?_ ?_⟩
  .rintro j ys H3 hj ⟨rfl,D,rfl,cY,hp,hm⟩ S Xl;have lt:∀ z∈D,z<(j:Int):=λz hz=>((hm z).mp hz).1.2
   refine nm ?_;refine⟨_,rfl,_,rfl,a,_,rfl,hA.or,rfl,ZE _,_,rfl,?_⟩;rw[ZQ,RV];refine WW (λWn=>?_) (λWn=>?_)
   .refine Xl _ _ ⟨rfl,D,rfl,by lia,hp,λz=>?_⟩;rw[hm z];refine⟨λh=>⟨by lia,h.2⟩,λh=>⟨⟨h.1.1,?_⟩,h.2⟩⟩;by_cases e:z=(j:Int)
    .exact absurd (e ▸ Wn) h.2
    .lia
   .refine⟨_,rfl,Xl _ _ ⟨rfl,D++[(j:Int)],?_,by rw[Xt];exact Nat.succ_le_succ cY,?_,λz=>?_⟩⟩
    .rw[ZO]
    .exact Vh.mpr ⟨hp,Ib _ _,λa ha b hb=>by rw[XD.mp hb];exact lt a ha⟩
    .rw[Xx,XD,hm z];constructor
     .rintro(⟨f1,f2⟩ | h)
      .exact⟨by lia,f2⟩
      .rw[h];exact⟨by lia,Wn⟩
     .rintro⟨f1,f2⟩;by_cases e:z=(j:Int)
      .exact .inr e
      .exact .inl ⟨by lia,f2⟩
  rintro ys H3 ⟨rfl,D,rfl,cY,hp,hm⟩ la nu;rw[show(((xs.length:Int).toNat:Nat):Int)=(ps.length:Int) by lia]at hm;refine⟨la,_,rfl,.inl ⟨SqL.of XR,λtp BU=>?_⟩⟩;exact q D hp hm tp _ ((XM nu).trans (XM BU)) XR
def nr(K:Ad):Sp:=λvs H Q _=>∃(a:Addr) (kd:Bool) (ns:Ac) (z:Int),vs=[.ref a,.int z]/\SqK kd K H a (IL ns)/\ns.length<=1000 /\
 ∀(r:Addr) (H':Hp),Same H H'->H r=none->H' r=some (.tup (IL (wo ns z)))->Q (.ref r) H'
theorem nq:FnScope ["ties","left_out"] ["ties","left_out"] (XB sZb):=⟨rfl,rfl,rfl,by decide +kernel,rfl,by decide +kernel,by decide +kernel⟩
theorem IQ (T:Txt K mg t):FnOk P w K mg base Xk 1 t.aZb t.dZb ["ties","left_out"] (nr K):=by
 refine T.fZb.ok nq (λvs H Q E h=>?_) (λXy A outer s H vs Q E hr h=>?_)
 .obtain⟨a,kd,ns,z,rfl,_⟩:=h;rfl
 .obtain⟨a,kd,ns,z,rfl,hS,hn,q⟩:=h;refine⟨_,(XI (Zi (Zr (ZC K) (by rfl) T.n_tuple Boot.«tuple» (XZ (SX rfl (sc0:=XB sZb) (N0:=["ties","left_out"]) (N':=["tie","left_out"]) (o:=1) (fr:=[1]) ⟨rfl,by decide +kernel,by decide +kernel,by decide +kernel,rfl,by decide +kernel⟩ (LM K (pv 0)) (Zv (by decide)) (λ_ _ _ _=>(Zg (i:=0) (show List.Nodup (["tie","left_out"]:List Str) by decide +kernel) rfl (Or.inl rfl))) (λ_ _ _ _=>(Wq (Zd RR (pv 0) (pv 1) (Zq _)))) (λ_ _ _ _=>(pv 0))) XY)))),?_⟩;refine⟨_,rfl,a,rfl,y8 (k:=kd) (K:=K) (xs:=IL ns) (λi ys H2=>H2=H/\i<=ns.length/\ys=IL (wo (ns.take i) z)) ⟨rfl,Yl _,rfl⟩ (Zl (by rw[Xz];lia))
   (λi ys H2 hi ⟨e,VM,ey⟩=>⟨e ▸ hS,by rw[ey,Xz];exact Yv (yL _ _) (by rw[Yy];lia)⟩) ?_ ?_⟩
  .rintro i x ys H2 hi ⟨rfl,VG,rfl⟩ S Xl;obtain⟨y,rfl,hy⟩:=WU hi;have Xp:i<ns.length:=(Xs.mp hy).1
   refine nm ?_;refine⟨_,rfl,_,rfl,rfl,_,rfl,?_⟩;rw[Zx];refine WW (λhe=>?_) (λhe=>?_)
   .refine Xl _ _ ⟨rfl,Xp,?_⟩;rw[gI hy,if_neg (by simpa using he),YF]
   .refine⟨_,rfl,Xl _ _ ⟨rfl,Xp,?_⟩⟩;rw[gI hy,if_pos he,ZO]
  .rintro ys H2 ⟨rfl,_,rfl⟩ p hp;rw[Xz,YI];refine⟨p,_,rfl,.inl ⟨SqL.of XR,λr hr=>?_⟩⟩;exact q r _ (Zy (XM hp) hr) ((XM hp).free hr) XR
def nj(K:Ad)(C:Addr):Sp:=λvs H Q _=>∃(w a:Addr) (n:Int) (ps:Aa) (kd:Bool) (ns:Ac),vs=[.ref w,.ref a]/\WebAt C H w n ps/\SqK kd K H a (IL ns)/\∀ b:Bool,(b=true↔IsSet ps.length ns)->Q (.bl b) H
theorem MO:FnScope ["web","ties","last","tie"] ["web","ties"] (XB sZc):=⟨rfl,rfl,rfl,by decide +kernel,rfl,by decide +kernel,by decide +kernel⟩
theorem BS (T:Txt K mg t):FnOk P w K mg base Xk 2 t.aZc t.dZc ["web","ties"] (nj K t.A_Web):=by
 refine T.fZc.ok MO (λvs H Q E h=>?_) (λXy A outer s H vs Q E hr h=>?_)
 .obtain⟨w,a,n,ps,kd,ns,rfl,_⟩:=h;rfl
 .obtain⟨w,a,n,ps,kd,ns,rfl,hW,hS,q⟩:=h;refine⟨_,(XQ (Zh (i:=2) MO.nd rfl (Or.inl rfl) (FN LU Za))
   (XQ (Tf Ww rfl (LM K (pv 1)) (Zg (i:=3) MO.nd rfl (Or.inl rfl))
   (XQ (WL (PW.pt (QV (Zd Qs (pv 3) (pv 2) (Zq _)) (Ku (OR (Qz (XF (BX T) (hr.mono (by decide)) rfl T.mZ6 T.fZ6.kp T.bZ6 .nil Zp (XZ (pv 0) (XZ (pv 3) XY))))))))
   (XI (Zi UI))
   Zo)
   (XI (Zh (i:=2) MO.nd rfl (Or.inl rfl) (pv 3)))))
   (XI (Zi UI)))),?_⟩
  refine⟨_,rfl,?_⟩;refine⟨_,rfl,a,rfl,NF (k:=kd) (K:=K) (xs:=IL ns) (λi σ H2=>∃(l:Int) (v:Option V),σ=[some (.ref w),some (.ref a),some (.int l),v]/\H2=H/\(i=0->l=-1)/\(i≠0->ns[i - 1]?=some l)/\∀ j z,j<i->ns[j]?=some z->0<=z/\z<(ps.length:Int)/\∀ y,j≠0->ns[j - 1]?=some y->y<z)
   ⟨-1,none,rfl,rfl,λ_=>rfl,λz=>absurd rfl z,λj z hj=>absurd hj (Wy j)⟩ (λi σ H2 _ ⟨_,_,_,e,_⟩=>e ▸ hS) ?_ ?_⟩
  .rintro i x σ H2 hi ⟨l,v,rfl,rfl,QM,SO,hp⟩;obtain⟨z,rfl,hz⟩:=WU hi;refine⟨_,rfl,_,rfl,_,_,rfl,rfl,_,rfl,?_⟩;refine Xf (λhc=>?_) (λhc=>?_)
   .-- tie<=last
    refine Wj ?_;refine q false ⟨λz=>(nomatch z),λhs=>?_⟩;obtain⟨b1,b2,b3⟩:=hs i z hz;by_cases h0:i=0
    .have:=QM h0;lia
    .have:=b3 l h0 (SO h0);lia
   .refine⟨_,rfl,_,rfl,w,n,ps,z,rfl,hW,_,rfl,?_⟩;refine WW (λVf=>?_) (λVf=>?_)
    .refine⟨_,rfl,?_⟩;refine⟨z,_,rfl,rfl,λe=>(nomatch e),λ_=>by simpa using hz,λj y hj ey=>?_⟩;by_cases hji:j<i
     .exact hp j y hji ey
     .have e:j=i:=by lia
      subst e;rw[hz]at ey;cases ey;refine⟨Vf.1,Vf.2,λy h0 ey=>?_⟩;rw[SO h0]at ey;cases ey;lia
    .refine q false ⟨λz=>(nomatch z),λhs=>?_⟩;obtain⟨b1,b2,b3⟩:=hs i z hz;exact absurd ⟨b1,b2⟩ Vf
  .rintro σ H2 ⟨l,v,rfl,rfl,QM,SO,hp⟩;refine q true ⟨λ_ i z hz=>?_,λ_=>rfl⟩;have hi:i<(IL ns).length:=by rw[Xz];exact(Xs.mp hz).1
   exact hp i z hi hz
def ni(K:Ad)(C:Addr):Sp:=λvs H Q _=>∃(w a:Addr) (n:Int) (ps:Aa) (kd:Bool) (ns:Ac),vs=[.ref w,.ref a]/\WebAt C H w n ps/\SqK kd K H a (IL ns)/\IsSet ps.length ns /\
 ∀(r:Addr) (H':Hp),Same H H'->SqT K H' r (IL ns)->Q (.ref r) H'
theorem nh:FnScope ["web","ties"] ["web","ties"] (XB sZd):=⟨rfl,rfl,rfl,by decide +kernel,rfl,by decide +kernel,by decide +kernel⟩
theorem ng (T:Txt K mg t):FnOk P w K mg base Xk 3 t.aZd t.dZd ["web","ties"] (ni K t.A_Web):=by
 refine T.fZd.ok nh (λvs H Q E h=>?_) (λXy A outer s H vs Q E hr h=>?_)
 .obtain⟨w,a,n,ps,kd,ns,rfl,_⟩:=h;rfl
 .obtain⟨w,a,n,ps,kd,ns,rfl,hW,hS,hI,q⟩:=h;refine⟨_,(XQ (WL (OR (Qz (XF (BS T) (hr.mono (by decide)) rfl T.mZc T.fZc.kp T.bZc .nil Zp (XZ (pv 0) (XZ (pv 1) XY)))))
   (XI Vu)
   Zo)
   (XI (Zi (Zr (ZC K) (by rfl) T.n_tuple Boot.«tuple» (XZ (pv 1) XY))))),?_⟩
  refine⟨_,rfl,_,rfl,w,a,n,ps,kd,ns,rfl,hW,hS,λb hb=>⟨_,rfl,?_⟩⟩;refine JM (λ_=>?_) (λz=>?_)
  .refine⟨_,rfl,a,IL ns,rfl,?_⟩;cases kd with
   | false=>exact .inl ⟨hS,λl hl=>q l _ (XM hl) (SqT.of XR)⟩
   | true=>exact .inr ⟨hS,q a H (Same.refl H) hS⟩
  .rw[hb.mpr hI]at z;cases z
def nc(K:Ad)(C:Addr):Sp:=λvs H Q _=>∃(w m a:Addr) (n:Int) (ps:Aa) (M:Ac) (kd:Bool) (ns:Ac),vs=[.ref w,.ref m,.ref a]/\WebAt C H w n ps/\Zu n ps/\H m=some (.lst (IL M))/\M.length=n.toNat/\SqK kd K H a (IL ns)/\(∀ z∈ns,0<=z/\z<(ps.length:Int)) /\
 ∀(m':Addr) (H':Hp),Same H H'->(m'=m\/H m'=none)->H' m'=some (.lst (IL (OE M (XT ps ns))))->Q (.ref m') H'
theorem Rl:FnScope ["web","marks","ties","tie","ends","low","high"] ["web","marks","ties"] (XB sZe):=⟨rfl,rfl,rfl,by decide +kernel,rfl,by decide +kernel,by decide +kernel⟩
theorem BR (T:Txt K mg t):FnOk P w K mg base Xk 1 t.aZe t.dZe ["web","marks","ties"] (nc K t.A_Web):=by
 refine T.fZe.ok Rl (λvs H Q E h=>?_) (λXy A outer s H vs Q E hr h=>?_)
 .obtain⟨w,m,a,n,ps,M,kd,ns,rfl,_⟩:=h;rfl
 .obtain⟨w,m0,a,n,ps,M0,kd,ns,rfl,⟨dx,tl,xs,h1,h2,h3⟩,⟨g1,g2,g3,g4⟩,hm,hlM,hS,hI,q⟩:=h;refine⟨_,(XQ (Tf Ww rfl (LM K (pv 2)) (Zg (i:=3) Rl.nd rfl (Or.inl rfl))
   (XQ (Zh (i:=4) Rl.nd rfl (Or.inl rfl) (ZR (Zk K) (Zn K (pv 0) rfl) (pv 3) (λ_ _=>rfl)))
   (XQ (Zh (i:=5) Rl.nd rfl (Or.inr rfl) (Zf (vp rfl) (by rfl) T.n_min Boot.«min» (XZ (ZR (Zk K) (pv 1) (ZR (ZN K) (pv 4) Za (λ_ _=>rfl)) (λ_ _=>rfl)) (XZ (ZR (Zk K) (pv 1) (ZR (ZN K) (pv 4) Za (λ_ _=>rfl)) (λ_ _=>rfl)) XY))))
   (XQ (Zh (i:=6) Rl.nd rfl (Or.inr rfl) (Zf (iJ rfl) (by rfl) T.n_max Boot.«max» (XZ (ZR (Zk K) (pv 1) (ZR (ZN K) (pv 4) Za (λ_ _=>rfl)) (λ_ _=>rfl)) (XZ (ZR (Zk K) (pv 1) (ZR (ZN K) (pv 4) Za (λ_ _=>rfl)) (λ_ _=>rfl)) XY))))
   (XI (WL (Zd Kj (pv 5) (pv 6) (Zq _))
   (XI (RM (i:=1) rfl Rl.nd rfl rfl (sc0:=XB sZe) (N0:=["web","marks","ties","tie","ends","low","high"]) (N':=["mark","high","low"]) (o:=1) (fr:=[6,5]) ⟨rfl,by decide +kernel,by decide +kernel,by decide +kernel,rfl,by decide +kernel⟩ (OH K (pv 1)) (Zv (by decide)) (λ_ _ _ _=>(Zg (i:=0) (show List.Nodup (["mark","high","low"]:List Str) by decide +kernel) rfl (Or.inl rfl))) (λ_ _ _ _=>QT) (λ_ _ _ _=>(zt (Zd Td (pv 0) (pv 1) (Zq _)) (pv 2) (pv 0)))))
   Zo))))))
   (XI (Zi (pv 1)))),?_⟩
  refine⟨_,rfl,a,rfl,NF (k:=kd) (K:=K) (a:=a) (xs:=IL ns) (λi σ H2=>∃(m:Addr) (v3 v4 v5 v6:Option V),σ=[some (.ref w),some (.ref m),some (.ref a),v3,v4,v5,v6]/\Same H H2/\(m=m0\/H m=none)/\H2 m=some (.lst (IL (OE M0 (XT ps (ns.take i))))))
   ⟨m0,none,none,none,none,rfl,Same.refl _,.inl rfl,hm⟩ (λi σ H2 _ ⟨_,_,_,_,_,_,s2,_⟩=>hS.same s2) ?_ ?_⟩
  .rintro i x σ H2 hi ⟨m,v3,v4,v5,v6,rfl,s2,QI,Wg⟩;obtain⟨z,rfl,hz⟩:=WU hi;obtain⟨z0,z1⟩:=hI z (Xg hz);obtain⟨p,hp⟩:∃ p,ps[z.toNat]?=some p:=⟨_,Xn (by lia)⟩;obtain⟨v,hv,tt,rfl,TN⟩:=h3.2 z.toNat p hp;obtain⟨e1,e2,e3,e4⟩:=g4 p (Xg hp);have ed:ps.getD z.toNat (0,0)=p:=ZW hp
   refine⟨_,rfl,w,_,dx,_,_,rfl,s2 _ _ h1,T.cl_Web,T.n_Web_ties,QR _ _,_,rfl,tl,xs,z,.ref tt,rfl,rfl,SqL.of (s2 _ _ h2),ZL (n:=z.toNat) (by lia) hv,?_⟩;have IS:=s2 _ _ TN
   have hl:(OE M0 (XT ps (ns.take i))).length=n.toNat:=(Zv6 _ _).trans hlM;generalize hM:OE M0 (XT ps (ns.take i))=M at *;have ha:M[p.1.toNat]?=some (mk M p.1.toNat):=OG (by grind)
   have hb:M[p.2.toNat]?=some (mk M p.2.toNat):=OG (by grind);have iA:VQ (IL M) p.1=some (.int (mk M p.1.toNat)):=ZL (n:=p.1.toNat) (by lia) (by rw[Yq,ha];rfl)
   have iB:VQ (IL M) p.2=some (.int (mk M p.2.toNat)):=ZL (n:=p.2.toNat) (by lia) (by rw[Yq,hb];rfl);have t0:VQ ([.int p.1,.int p.2]:List V) 0=some (.int p.1):=rfl
   have t1:VQ ([.int p.1,.int p.2]:List V) 1=some (.int p.2):=rfl;refine⟨_,rfl,_,rfl,tt,_,0,_,rfl,rfl,SqT.of IS,t0,m,_,p.1,_,rfl,rfl,SqL.of Wg,iA,_,rfl,_,rfl,tt,_,1,_,rfl,rfl,SqT.of IS,t1,m,_,p.2,_,rfl,rfl,SqL.of Wg,iB,_,_,rfl,?_⟩;refine⟨_,rfl,_,rfl,tt,_,0,_,rfl,rfl,SqT.of IS,t0,m,_,p.1,_,rfl,rfl,SqL.of Wg,iA,_,rfl,_,rfl,tt,_,1,_,rfl,rfl,SqT.of IS,t1,m,_,p.2,_,rfl,rfl,SqL.of Wg,iB,_,_,rfl,?_⟩;have eL:(if mk M p.2.toNat<mk M p.1.toNat then mk M p.2.toNat else mk M p.1.toNat)=min (mk M p.1.toNat) (mk M p.2.toNat):=by rw[Int.min_def];split <;> split <;> lia
   have eH:(if mk M p.2.toNat > mk M p.1.toNat then mk M p.2.toNat else mk M p.1.toNat)=max (mk M p.1.toNat) (mk M p.2.toNat):=by rw[Int.max_def];split <;> split <;> lia
   refine⟨_,rfl,_,rfl,_,_,rfl,rfl,_,rfl,?_⟩;rw[eL,eH];have step:OE M0 (XT ps (ns.take (i+1)))=pm M p.1.toNat p.2.toNat:=by rw[ZR5 hz,ZT9,hM,ed]
   refine Xf (λhc=>?_) (λhc=>?_)
   .refine⟨_,rfl,m,rfl,⟨_,SqL.of Wg⟩,UG (K:=K) (a:=m) (xs:=IL M) (λj ys H3=>H3=H2/\j<=M.length/\ys=IL ((M.take j).map λk=>if k=max (mk M p.1.toNat) (mk M p.2.toNat) then min (mk M p.1.toNat) (mk M p.2.toNat) else k)) ⟨rfl,Yl _,rfl⟩ (Zl (by rw[Xz];grind))
     (λj ys H3 hj ⟨e,NA,ey⟩=>⟨e ▸ SqL.of Wg,by rw[ey,Xz,Yd,Yy];lia⟩) ?_ ?_⟩
    .rintro j y ys H3 hj ⟨rfl,NA,rfl⟩ S Xl;obtain⟨k,rfl,hk⟩:=WU hj;refine gY ?_;refine⟨_,rfl,_,rfl,rfl,_,rfl,?_⟩;have VZ:j<M.length:=(Xs.mp hk).1
     have app:∀ r:Int,r=(if k=max (mk M p.1.toNat) (mk M p.2.toNat) then min (mk M p.1.toNat) (mk M p.2.toNat) else k) ->
       IL ((M.take j).map λk=>if k=max (mk M p.1.toNat) (mk M p.2.toNat) then min (mk M p.1.toNat) (mk M p.2.toNat) else k)++[.int r]=IL ((M.take (j+1)).map λk=>if k=max (mk M p.1.toNat) (mk M p.2.toNat) then min (mk M p.1.toNat) (mk M p.2.toNat) else k):=by intro r er;rw[WB,hk,er];simp
     refine Xf (λhe=>?_) (λhe=>?_)
     .refine⟨_,rfl,Xl _ _ ⟨rfl,VZ,app _ ?_⟩⟩;rw[if_pos (V.int.inj he)]
     .refine⟨_,rfl,Xl _ _ ⟨rfl,VZ,app _ ?_⟩⟩;rw[if_neg λz=>he (Xw V.int z)]
    .rintro ys H3 ⟨rfl,_,rfl⟩ p' IP;refine⟨p',_,_,_,_,rfl,Zy s2 IP,.inr (s2.free IP),?_⟩;rw[XR,step,Xz,YI];unfold pm;rw[if_pos hc]
   .refine⟨m,_,_,_,_,rfl,s2,QI,?_⟩;rw[Wg,step];unfold pm;rw[if_neg hc]
  .rintro σ H2 ⟨m,v3,v4,v5,v6,rfl,s2,QI,Wg⟩;rw[Xz,YI]at Wg;exact⟨_,rfl,q m H2 s2 QI Wg⟩
def m9(K:Ad)(C:Addr):Sp:=λvs H Q _=>∃(w a:Addr) (n:Int) (ps:Aa) (ns:Ac),vs=[.ref w,.ref a]/\WebAt C H w n ps/\Zu n ps/\SqT K H a (IL ns)/\(∀ z∈ns,0<=z/\z<(ps.length:Int)) /\
 ∀(m:Addr) (H':Hp),Same H H'->H m=none->H' m=some (.lst (IL (Xu n.toNat (XT ps ns))))->Q (.ref m) H'
theorem m8:FnScope ["web","ties"] ["web","ties"] (XB sZf):=⟨rfl,rfl,rfl,by decide +kernel,rfl,by decide +kernel,by decide +kernel⟩
theorem Rk (T:Txt K mg t):FnOk P w K mg base Xk 2 t.aZf t.dZf ["web","ties"] (m9 K t.A_Web):=by
 refine T.fZf.ok m8 (λvs H Q E h=>?_) (λXy A outer s H vs Q E hr h=>?_)
 .obtain⟨w,a,n,ps,ns,rfl,_⟩:=h;rfl
 .obtain⟨w,a,n,ps,ns,rfl,hW,hG,hS,hI,q⟩:=h;refine⟨_,(XI (Zi (XF (BR T) (hr.mono (by decide)) rfl T.mZe T.fZe.kp T.bZe .nil Zp (XZ (pv 0) (XZ (Zr (tV rfl) (by rfl) T.n_list Boot.«list» (XZ (Zr g7 (by rfl) T.n_range Boot.«range» (XZ (Zn K (pv 0) rfl) XY)) XY)) (XZ (pv 1) XY)))))),?_⟩;obtain⟨dx,tl,xs,h1,h2,h3⟩:=id hW;obtain⟨g1,g2,g3,g4⟩:=id hG;refine⟨_,rfl,_,rfl,w,_,dx,_,_,rfl,h1,T.cl_Web,T.n_Web_places,JK _ _,n,rfl,λr VU=>⟨r,0,n,rfl,XR,⟨by decide,by decide,by lia,by omega⟩,by lia,λm hm=>?_⟩⟩;have sm:Same H (upd (upd H r (.rng 0 n)) m (.lst ((Wi 0 n).map V.int))):=Zy (XM VU) hm
  refine⟨_,rfl,w,m,a,n,ps,(List.range n.toNat).map (λ(i:Nat)=>(i:Int)),true,ns,rfl,hW.same sm,hG,?_,by simp,LO sm hS,hI,λm' H' s' hf LK=>?_⟩
  .rw[XR,ZX7]
  .refine q m' H' (sm.trans s') ?_ LK;rcases hf with rfl | hf
   .exact(XM VU).free hm
   .exact sm.free hf
def m7(K:Ad)(C:Addr):Sp:=λvs H Q _=>∃(w a:Addr) (n:Int) (ps:Aa) (kd:Bool) (ns:Ac),vs=[.ref w,.ref a]/\WebAt C H w n ps/\Zu n ps/\SqK kd K H a (IL ns)/\IsSet ps.length ns /\
 ∀(r:Addr) (as:List Addr) (H':Hp),Same H H'->H r=none->H' r=some (.lst (as.map V.ref))->r∉as->GrpAt H H' (JH (Xu n.toNat (XT ps ns))) as->Q (.ref r) H'
theorem MN:FnScope ["web","ties","pieces","place","mark"] ["web","ties"] (XB sZg):=⟨rfl,rfl,rfl,by decide +kernel,rfl,by decide +kernel,by decide +kernel⟩
theorem m6 (T:Txt K mg t):FnOk P w K mg base Xk 4 t.aZg t.dZg ["web","ties"] (m7 K t.A_Web):=by
 refine T.fZg.ok MN (λvs H Q E h=>?_) (λXy A outer s H vs Q E hr h=>?_)
 .obtain⟨w,a,n,ps,kd,ns,rfl,_⟩:=h;rfl
 .obtain⟨w,a,n,ps,kd,ns,rfl,hW,hG,hS,hI,q⟩:=h;refine⟨_,(XQ (Zh (i:=2) MN.nd rfl (Or.inl rfl) ig)
   (XQ (Tf Ww rfl (LL K rfl T.n_enumerate (XZ (XF (Rk T) (hr.mono (by decide)) rfl T.mZf T.fZf.kp T.bZf .nil Zp (XZ (pv 0) (XZ (XF (ng T) (hr.mono (by decide)) rfl T.mZd T.fZd.kp T.bZd .nil Zp (XZ (pv 0) (XZ (pv 1) XY))) XY))) XY)) (Qg (n:=2) K rfl (Zw (Zg (i:=3) MN.nd rfl (Or.inl rfl)) (Zw (Zg (i:=4) MN.nd rfl (Or.inl rfl)) Qw)))
   (XI (Wl (QQ K YU GQ GR Fc (QQ K KN ju PySem.F.type_dict_setdefault ZT3 (pv 2) (XZ (pv 4) (XZ (Sv XY) XY))) (XZ (pv 3) XY)))))
   (XI (Zi (Zr (Zx3 rfl) (by rfl) T.n_list Boot.«list» (XZ (tu K KN jq PySem.F.type_dict_values tN (pv 2)) XY)))))),?_⟩
  intro d hd;have s0:Same H (upd H d (.dK [])):=XM hd
  refine⟨_,rfl,_,rfl,_,rfl,w,a,n,ps,kd,ns,rfl,hW.same s0,hS.same s0,hI,λr H1 s1 VY=>?_⟩;refine⟨w,r,n,ps,ns,rfl,(hW.same s0).same s1,hG,VY,hI.all,λm H2 s2 TZ Wg=>?_⟩;have Ow:Same H H2:=(s0.trans s1).trans s2
  have hd2:H2 d=some (.dK []):=s2 _ _ (s1 _ _ XR);have hl:(Xu n.toNat (XT ps ns)).length=n.toNat:=ZB _ _
  generalize hM:Xu n.toNat (XT ps ns)=M at *;have QI:H m=none:=(s0.trans s1).free TZ
  have n14:M.length<=14:=by have:=hG.2.1;grind
  refine⟨m,rfl,⟨_,SqL.of Wg⟩,?_⟩;refine y7 (K:=K) (a:=m) (xs:=IL M) (λi σ H3=>∃(as:List Addr) (v3 v4:Option V),σ=[some (.ref w),some (.ref a),some (.ref d),v3,v4]/\i<=M.length/\Same H H3/\H3 m=some (.lst (IL M))/\H3 d=some (.dK (Vd (Xr M i) as))/\d∉as/\m∉as/\GrpAt H H3 (Xr M i) as/\as.length<=i)
   ⟨[],none,none,rfl,Yl _,Ow,Wg,hd2,by simp,by simp,⟨rfl,List.nodup_nil,λi kv a e=>by simp[Xr]at e,λa ha=>by simp at ha⟩,XN _⟩ (λi σ H3 _ ⟨_,_,_,_,_,_,h,_⟩=>SqL.of h) ?_ ?_
  .rintro i x σ H3 pt Uy hi ⟨as,v3,v4,rfl,VG,s3,BQ,Ov,xP,xO,gA,cX⟩;obtain⟨k,rfl,hk⟩:=WU hi;have TU:mk M i=k:=ZW hk
   have Xp:i<M.length:=(Xs.mp hk).1;have s4:Same H3 (upd H3 pt (.tup [.int i,.int k])):=XM Uy
   refine⟨pt,_,rfl,SqT.of XR,rfl,_,_,rfl,_,_,rfl,rfl,?_⟩;refine⟨_,rfl,.inr (.inr (.inl ⟨rfl,.inl ⟨_,s4 _ _ Ov⟩⟩)),_,rfl,(by show 0<=sizeLine;exact Yl _),λl QM=>?_⟩;have s5:Same H3 (upd (upd H3 pt (.tup [.int i,.int k])) l (.lst [])):=Zy s4 QM
   have cW:=s5 _ _ Ov;have GZ:H3 l=none:=s4.free QM
   have m5:d≠l:=Zc Ov GZ;have gl:=gA.len
   refine⟨d,Vd (Xr M i) as,Sum.inl k,.ref l,rfl,rfl,cW,?_,λv hv=>?_,λhv=>?_⟩
   .rw[tf gl];exact Zl (by grind)
   .-- the mark has XW list
    rcases JG (g:=Xr M i) (as:=as) (k:=k) gl with ⟨h1,_⟩ | ⟨j,kv,b,e1,e2,e3,e4⟩
    .rw[h1]at hv;cases hv
    .rw[e4]at hv;cases hv;have cV:=s5 _ _ (gA.at_ j kv b e1 e2)
     have xS:k∈(Xr M i).map (·.1):=YD.mpr ⟨kv,Xg e1,e3⟩;have hlen:kv.2.length<=i:=tj (Xg e1)
     refine⟨.inl ⟨rfl,_,SqL.of cV⟩,_,rfl,b,_,.int i,rfl,rfl,cV,?_,?_⟩
     .rw[Xz];exact Zl (by grind)
     .have IM:b∈as:=Xg e2;have RP:d≠b:=λz=>xP (z ▸ IM)
      have hmb:m≠b:=λz=>xO (z ▸ IM);have Nd:=gA.new b IM
      have Ll:(Xr M (i+1)).map (·.1)=(Xr M i).map (·.1):=by show(SW (Xr M i) (i:Int) (mk M i)).map (·.1)=_;rw[NB,TU,if_pos xS]
      refine⟨as,_,_,rfl,Xp,ZH Nd (s3.trans s5),by rw[Zb hmb];exact s5 _ _ BQ,by rw[Zb RP,cW,gR Ll],xP,xO,⟨?_,gA.nd,?_,gA.new⟩,by lia⟩
      .have:=Xw List.length Ll
       rw[Yd,Yd]at this;lia
      .intro i2 xN a2 f1 f2;have f1:(SW (Xr M i) (i:Int) (mk M i))[i2]?=some xN:=f1
       unfold SW at f1;rw[TU,if_pos xS,Yq]at f1;cases f3:(Xr M i)[i2]? with
       | none=>rw[f3]at f1;cases f1
       | some GY =>
        rw[f3]at f1;have f1:(if GY.1=k then (GY.1,GY.2++[(i:Int)]) else GY)=xN:=Yg f1
        by_cases hj:i2=j
        .subst hj;rw[e1]at f3;cases f3;rw[e2]at f2;cases f2;rw[if_pos e3]at f1;subst f1;rw[XR];simp
        .have VI:a2≠b:=λz=>by subst z;exact hj (Hx gA.nd f2 e2)
         have hkk:¬ GY.1=k:=λz=>hj (Hx (tm M i) (by rw[Yq,f3];exact Xw some z) (by rw[Yq,e1];exact Xw some e3));rw[if_neg hkk]at f1;subst f1;rw[Zb VI];exact s5 _ _ (gA.at_ i2 GY a2 f3 f2)
   .-- a new list
    rcases JG (g:=Xr M i) (as:=as) (k:=k) gl with ⟨h1,hkn⟩ | ⟨j,kv,b,e1,e2,e3,e4⟩
    .have BP:(upd (upd (upd H3 pt (.tup [.int i,.int k])) l (.lst [])) d (.dK (Vd (Xr M i) as++[(Sum.inl k,.ref l)]))) l=some (.lst []):=by rw[Zb (YZ m5),XR]
     refine⟨.inl ⟨rfl,_,SqL.of BP⟩,_,rfl,l,[],.int i,rfl,rfl,BP,(by show 0<sizeLine;decide),?_⟩;have BO:H l=none:=s3.free GZ
     have mZ:l∉as:=λz=>by obtain⟨_,e⟩:=gA.mem z;rw[GZ]at e;cases e
     have Ny:m≠l:=Zc BQ GZ;have hmd:m≠d:=QX BQ Ov (λz=>nomatch z)
     have mY:Xr M (i+1)=Xr M i++[(k,[(i:Int)])]:=by show SW (Xr M i) (i:Int) (mk M i)=_;unfold SW;rw[TU,if_neg hkn]
     have hdH:H d=none:=hd;refine⟨as++[l],_,_,rfl,Xp,ZH BO (ZH hdH (s3.trans s5)),by rw[Zb Ny,Zb hmd];exact s5 _ _ BQ,?_,?_,?_,⟨?_,?_,?_,?_⟩,?_⟩
     .rw[Zb m5,XR,mY,El gl]
     .rw[Xx,XD];rintro(z | z)
      .exact xP z
      .exact m5 z
     .rw[Xx,XD];rintro(z | z)
      .exact xO z
      .exact Ny z
     .rw[mY,Xt,Xt,gl];rfl
     .exact gX gA.nd mZ
     .intro i2 xN a2 f1 f2;rw[mY]at f1;by_cases VM:i2<(Xr M i).length
      .rw[Ys VM]at f1;rw[Ys (by lia)]at f2;have e:=gA.at_ i2 xN a2 f1 f2
       have n1:a2≠l:=Zc e GZ;have n2:a2≠d:=QX e Ov (λz=>nomatch z)
       rw[Zb n1,Zb n2];exact s5 _ _ e
      .have h2:i2=(Xr M i).length:=by
        have:=(Xs.mp f1).1
        rw[Xt,Yh]at this;grind
       subst h2;rw[Yp (XN _),UK]at f1;rw[Yp (by lia),gl,UK]at f2;cases f1;cases f2;rw[XR];rfl
     .intro a2 ha2;rcases Xx.mp ha2 with z | z
      .exact gA.new a2 z
      .rw[XD.mp z];exact BO
     .rw[Xt,Yh];lia
    .rw[e4]at hv;cases hv
  .rintro σ H3 ⟨as,v3,v4,rfl,VG,s3,BQ,Ov,xP,xO,gA,cX⟩;rw[Xz]at Ov gA;refine⟨_,rfl,.inr (.inr (.inl ⟨rfl,.inl ⟨_,Ov⟩⟩)),d,_,rfl,rfl,Ov,λp hp=>?_⟩;have s6:Same H3 (upd H3 p (RL p d)):=XM hp
   refine⟨p,d,_,rfl,XR,s6 _ _ Ov,λr VU=>?_⟩;have s7:Same H3 (upd (upd H3 p (RL p d)) r (.lst ((Vd (Xr M M.length) as).map (·.2)))):=Zy s6 VU
   refine q r as _ (s3.trans s7) ((s3.trans s6).free VU) (by rw[XR,gS gA.len]) (λz=>?_) (gA.same s7);obtain⟨_,e⟩:=gA.mem z;rw[s6.free VU]at e;cases e
def mX(K:Ad)(C:Addr):Sp:=λvs H Q _=>∃(w a:Addr) (n:Int) (ps:Aa) (kd:Bool) (ns:Ac),vs=[.ref w,.ref a]/\WebAt C H w n ps/\Zu n ps/\SqK kd K H a (IL ns)/\IsSet ps.length ns /\
 ∀(b:Bool) (H':Hp),Same H H'->(b=true↔(JH (Xu n.toNat (XT ps ns))).length=1)->Q (.bl b) H'
theorem mW:FnScope ["web","ties"] ["web","ties"] (XB sZh):=⟨rfl,rfl,rfl,by decide +kernel,rfl,by decide +kernel,by decide +kernel⟩
theorem BN (T:Txt K mg t):FnOk P w K mg base Xk 5 t.aZh t.dZh ["web","ties"] (mX K t.A_Web):=by
 refine T.fZh.ok mW (λvs H Q E h=>?_) (λXy A outer s H vs Q E hr h=>?_)
 .obtain⟨w,a,n,ps,kd,ns,rfl,_⟩:=h;rfl
 .obtain⟨w,a,n,ps,kd,ns,rfl,hW,hG,hS,hI,q⟩:=h;refine⟨_,(XI (Zi (NV Td (Zf (Zj K) (by rfl) T.n_len Boot.«len» (XZ (XF (m6 T) (hr.mono (by decide)) rfl T.mZg T.fZg.kp T.bZg .nil Zp (XZ (pv 0) (XZ (pv 1) XY))) XY)) Za (Zq _)))),?_⟩;refine⟨_,rfl,_,rfl,w,a,n,ps,kd,ns,rfl,hW,hG,hS,hI,λr as H' s1 VU VY hnr gA=>?_⟩;refine⟨r,_,rfl,.inl (SqL.of VY),rfl,?_⟩;rw[Yd,gA.len,Zx];refine q _ H' s1 ?_;rw[YS];lia
def mV(K:Ad)(C:Addr):Sp:=λvs H Q _=>∃(w:Addr) (n:Int) (ps:Aa),vs=[.ref w]/\WebAt C H w n ps/\Zu n ps /\
 (Np n ps->∀ H':Hp,Same H H'->Q .non H')/\(¬ Np n ps->∀ H':Hp,Same H H'->False)
theorem mU:FnScope ["web"] ["web"] (XB sZi):=⟨rfl,rfl,rfl,by decide +kernel,rfl,by decide +kernel,by decide +kernel⟩
theorem BM (T:Txt K mg t):FnOk P w K mg base Xk 6 t.aZi t.dZi ["web"] (mV K t.A_Web):=by
 refine T.fZi.ok mU (λvs H Q E h=>?_) (λXy A outer s H vs Q E hr h=>?_)
 .obtain⟨w,n,ps,rfl,_⟩:=h;rfl
 .obtain⟨w,n,ps,rfl,hW,hG,q,qe⟩:=h;refine⟨_,(XI (WL (OR (Qz (XF (BN T) (hr.mono (by decide)) rfl T.mZh T.fZh.kp T.bZh .nil Zp (XZ (pv 0) (XZ (XF (BV T) (hr.mono (by decide)) rfl T.mZ9 T.fZ9.kp T.bZ9 .nil Zp (XZ (pv 0) XY)) XY)))))
   (XI Vu)
   Zo)),?_⟩
  refine⟨_,rfl,_,rfl,w,n,ps,rfl,hW,by have:=hG.2.2.1;lia,λr H1 s1 VU VY=>?_⟩;refine⟨w,r,n,ps,true,Wz ps.length,rfl,hW.same s1,hG,SqT.of VY,Ho _,λb H2 s2 hb=>⟨_,rfl,?_⟩⟩;rw[Ef (by have:=hG.1;lia) (ZK hG (Ho _).all)]at hb;refine JM (λz=>?_) (λz=>?_)
  .exact q (hb.mp z) H2 (s1.trans s2)
  .exact qe (λg=>by rw[hb.mpr g]at z;cases z) H2 (s1.trans s2)
def mT(K:Ad)(C:Addr):Sp:=λvs H Q _=>∃(w b:Addr) (n:Int) (ps:Aa) (ws:Ac),vs=[.ref w,.ref b]/\WebAt C H w n ps/\Zu n ps/\SqL K H b (IL ws)/\ws.length=ps.length /\
 ∀(r:Addr) (ys:List V) (L:Ab) (H':Hp),Same H H'->H r=none->TabAt H r n.toNat H' ys L->(∀ i j,i<n.toNat->j<n.toNat->fnL L i j=lapE (VH ps ws) i j)->Q (.ref r) H'
theorem cU(x:V)(k:Nat):(List.replicate k [x]).flatten=List.replicate k x:=by
 induction k with
 | zero=>rfl
 | succ k ih=>rw[La,GD,ih,La];rfl
theorem mS(n i j:Nat):fnL (List.replicate n (List.replicate n 0)) i j=0:=by
 unfold fnL;cases h:(List.replicate n (List.replicate n (0:Int)))[i]? with
 | none =>
  have e:(List.replicate n (List.replicate n (0:Int))).getD i []=[]:=by rw[WG,h];rfl
  rw[e];rfl
 | some l =>
  have e:(List.replicate n (List.replicate n (0:Int))).getD i []=l:=by rw[WG,h];rfl
  rw[e,z8 (Xg h),WG,z7];split <;> rfl
theorem TabAt.get{H0 H:Hp}{r:Addr}{n:Nat}{ys:List V}{L:Ab}(h:TabAt H0 r n H ys L){i j:Nat}(hi:i<n)(hj:j<n):∃(A:Addr) (l:Ac) (x:Int),ys[i]?=some (.ref A)/\H A=some (.lst (IL l))/\l[j]?=some x/\l.length=n/\x=fnL L i j/\H0 A=none/\∀ y:Int,∃ L':Ab,TabAt H0 r n (upd H A (.lst ((IL l).set j (.int y)))) ys L'/\∀ a b,fnL L' a b=if a=i/\b=j then y else fnL L a b:=by
 obtain⟨A,l,y1,z1,hA,hl,hn,hr⟩:=h.at hi;obtain⟨x,hx⟩:∃ x,l[j]?=some x:=⟨_,Xn (by lia)⟩;refine⟨A,l,x,y1,hA,hx,hl,(OB z1 hx).symm,hn,λy=>⟨L.set i (l.set j y),?_,qt z1 (by omega)⟩⟩;have e:(IL l).set j (.int y)=IL (l.set j y):=(List.map_set ..).symm
 rw[e];exact h.put y1 z1 hr (by rw[Ti];exact hl)
theorem xM{xs:List V}{i:Int}(h0:0<=i)(h1:i<(xs.length:Int)):NP xs.length i=some i.toNat:=by unfold NP;rw[if_pos h0,if_pos (by omega)]
theorem Rj:FnScope ["web","weights","table","ends","weight","one","other"] ["web","weights"] (XB sZj):=⟨rfl,rfl,rfl,by decide +kernel,rfl,by decide +kernel,by decide +kernel⟩
theorem mR (T:Txt K mg t):FnOk P w K mg base Xk 1 t.aZj t.dZj ["web","weights"] (mT K t.A_Web):=by
 refine T.fZj.ok Rj (λvs H Q E h=>?_) (λXy A outer s H vs Q E hr h=>?_)
 .obtain⟨w,b,n,ps,ws,rfl,_⟩:=h;rfl
 .obtain⟨w,b,n,ps,ws,rfl,hW,hG,hS,ER,q⟩:=h;refine⟨_,(XQ (RM (i:=2) rfl Rj.nd rfl rfl (sc0:=XB sZj) (N0:=["web","weights","table","ends","weight","one","other"]) (N':=["place","web"]) (o:=1) (fr:=[0]) ⟨rfl,by decide +kernel,by decide +kernel,by decide +kernel,rfl,by decide +kernel⟩ (Ui rfl T.n_range (XZ (Zn K (pv 0) rfl) XY)) (Zv (by decide)) (λ_ _ _ _=>(Zg (i:=0) (show List.Nodup (["place","web"]:List Str) by decide +kernel) rfl (Or.inl rfl))) (λ_ _ _ _=>QT) (λ_ _ _ _=>(Zs EX (Sv (XZ Za XY)) (Zn K (pv 1) rfl))))
   (XQ (Tf Ww rfl (DI K rfl T.n_zip (XZ (Zn K (pv 0) rfl) (XZ (pv 1) XY))) (Qg (n:=2) K rfl (Zw (Zg (i:=3) Rj.nd rfl (Or.inl rfl)) (Zw (Zg (i:=4) Rj.nd rfl (Or.inl rfl)) Qw)))
   (XQ (Zh (i:=5) Rj.nd rfl (Or.inl rfl) (ZR (ZN K) (pv 3) Za (λ_ _=>rfl)))
   (XQ (Zh (i:=6) Rj.nd rfl (Or.inl rfl) (ZR (ZN K) (pv 3) Za (λ_ _=>rfl)))
   (XI (WL (Zd RR (pv 5) (pv 6) (Zq _))
   (XQ (zp (ZR (Zk K) (pv 2) (pv 5) (λ_ _=>rfl)) (pv 5) (yt K) (pv 4) LY Fl)
   (XQ (zp (ZR (Zk K) (pv 2) (pv 6) (λ_ _=>rfl)) (pv 6) (yt K) (pv 4) LY Fl)
   (XQ (zp (ZR (Zk K) (pv 2) (pv 5) (λ_ _=>rfl)) (pv 6) (yt K) (pv 4) LX Fl)
   (XI (zp (ZR (Zk K) (pv 2) (pv 6) (λ_ _=>rfl)) (pv 5) (yt K) (pv 4) LX Fl)))))
   Zo)))))
   (XI (Zi (pv 2))))),?_⟩
  obtain⟨dx,tl,xs,h1,h2,h3⟩:=id hW;have hl:=h3.1
  obtain⟨g1,g2,g3,g4⟩:=id hG;have one:1<=sizeLine:=by decide
  refine⟨_,rfl,w,_,dx,_,_,rfl,h1,T.cl_Web,T.n_Web_places,JK _ _,n,rfl,by lia,by lia,Et (lo:=0) (n:=n.toNat) (λi zs H2=>Same H H2/\Bears (OF H2) zs (List.replicate i (List.replicate n.toNat 0))/\zs.Nodup/\∀ A,V.ref A∈zs->H A=none/\∃ o,H2 A=some o) ⟨Same.refl _,⟨rfl,λi l e=>by simp at e⟩,.nil,λA h=>(by cases h)⟩ (Zl (by lia)) (λi zs H2 _ ⟨_,e,_⟩=>by rw[e.1,YH];exact XN _) ?_ ?_⟩
  .rintro i zs H2 hi ⟨s2,hZ,TY,RN⟩ S Xl;refine nm ?_;refine⟨one,λp1 Vi=>?_⟩;have u1:=XM (o:=.lst [.int 0]) Vi
   refine⟨_,rfl,w,_,dx,_,_,rfl,u1 _ _ (s2 _ _ h1),T.cl_Web,T.n_Web_places,JK _ _,p1,n,_,rfl,rfl,XR,by lia,by lia,OI (by show 1 * n.toNat<=_;lia),λp2 Wm=>?_⟩;have e0:(List.replicate n.toNat [V.int 0]).flatten=IL (List.replicate n.toNat 0):=by rw[cU];show _=(List.replicate n.toNat 0).map V.int;rw[List.map_replicate]
   rw[e0];have u2:=u1.trans (XM (o:=.lst (IL (List.replicate n.toNat 0))) Wm)
   have BL:H2 p2=none:=(XM Vi).free Wm;refine Xl _ _ ⟨s2.trans u2,?_,?_,λA hA=>?_⟩
   .rw[List.replicate_succ'];exact(hZ.imp λ_ _ ⟨r',e,h⟩=>⟨r',e,u2 _ _ h⟩).snoc ⟨p2,rfl,XR⟩
   .refine QP.mpr ⟨TY,by simp,λx hx y hy e=>?_⟩;rw[XD.mp hy]at e;obtain⟨_,o,ho⟩:=RN p2 (e ▸ hx);rw[BL]at ho;cases ho
   .rcases Xx.mp hA with e | e
    .obtain⟨a1,o,a2⟩:=RN A e;exact⟨a1,o,u2 _ _ a2⟩
    .have e':A=p2:=by simpa using e
     rw[e'];exact⟨s2.free BL,_,XR⟩
  rintro zs H2 ⟨s2,hZ,TY,RN⟩ tA Ri;have s3:=s2.trans (XM (o:=.lst zs) Ri)
  have MM:H tA=none:=s2.free Ri;have hT:TabAt H tA n.toNat (upd H2 tA (.lst zs)) zs (List.replicate n.toNat (List.replicate n.toNat 0)):=⟨XR,hZ.imp λ_ _ ⟨r',e,h⟩=>⟨r',e,XM Ri _ _ h,Zc h Ri⟩,YH,λl h=>by rw[z8 h];exact YH,TY,λA h=>(RN A h).1⟩
  have hzero:∀ i j,fnL (List.replicate n.toNat (List.replicate n.toNat 0)) i j=0:=λi j=>by
   have:=mS n.toNat i j
   exact this
  generalize upd H2 tA (.lst zs)=H3 at *;generalize List.replicate n.toNat (List.replicate n.toNat (0:Int))=L0 at *;refine⟨_,rfl,w,_,dx,_,_,rfl,s3 _ _ h1,T.cl_Web,T.n_Web_ties,QR _ _,_,rfl,tl,b,rfl,⟨_,_,SqL.of (s3 _ _ h2),s3.seq hS⟩,qu (K:=K) (a:=tl) (b:=b) (xs:=xs) (ys:=IL ws) (by rw[Xz];lia) (λi σ H4=>∃(L:Ab) (v3 v4 v5 v6:Option V),σ=[some (.ref w),some (.ref b),some (.ref tA),v3,v4,v5,v6]/\Same H H4/\TabAt H tA n.toNat H4 zs L/\∀ x y,x<n.toNat->y<n.toNat->fnL L x y=lapE (VH (ps.take i) (ws.take i)) x y) ⟨L0,none,none,none,none,rfl,s3,hT,λx y _ _=>hzero x y⟩ (λi σ H4 _ ⟨_,_,_,_,_,_,e,_⟩=>⟨SqL.of (e _ _ h2),e.seq hS⟩) ?_ ?_⟩
  .rintro i v v' σ H4 pt Uy hi Nx ⟨L,v3,v4,v5,v6,rfl,s4,mQ,Pz⟩;obtain⟨p,hp,tt,rfl,TN⟩:=h3.at hi;obtain⟨wt,rfl,hwt⟩:=WU Nx;obtain⟨e1,e2,e3,e4⟩:=g4 p (Xg hp);have u1:=XM (o:=.tup [.ref tt,.int wt]) Uy
   refine⟨pt,_,rfl,SqT.of XR,rfl,_,_,rfl,_,_,rfl,rfl,?_⟩;have mP:=mQ.same u1
   have s5:=s4.trans u1;generalize upd H4 pt (.tup [.ref tt,.int wt])=H5 at *;refine⟨_,rfl,tt,_,0,.int p.1,rfl,rfl,SqT.of (s5 _ _ TN),rfl,?_⟩;refine⟨_,rfl,tt,_,1,.int p.2,rfl,rfl,SqT.of (s5 _ _ TN),rfl,?_⟩;refine⟨_,rfl,_,rfl,rfl,_,rfl,?_⟩;rw[Zx];have cT:=qr hp hwt
   refine WW (λheq=>?_) (λXH=>?_)
   .refine⟨L,_,_,_,_,rfl,s5,mP,λx y hx hy=>?_⟩;rw[cT,fE (by show p.1.toNat=p.2.toNat;rw[heq])];exact Pz x y hx hy
   have JE:p.1.toNat≠p.2.toNat:=λe=>XH (by grind);obtain⟨A1,l1,x1,y1,Um,hx1,SO,qY,mO,mN⟩:=mP.get (i:=p.1.toNat) (j:=p.1.toNat) (by grind) (by omega);refine⟨_,rfl,_,rfl,tA,zs,p.1,.ref A1,rfl,rfl,SqL.of mP.tab,ZL (n:=p.1.toNat) (by lia) y1,_,rfl,A1,_,p.1,.int x1,rfl,rfl,SqL.of Um,by lia,UH hx1,_,rfl,_,_,rfl,rfl,A1,_,p.1,p.1.toNat,rfl,rfl,Um,xM (by omega) (by rw[Xz];grind),?_⟩;obtain⟨L1,cS,xK⟩:=mN (x1+wt);have s6:Same H (upd H5 A1 (.lst ((IL l1).set p.1.toNat (.int (x1+wt))))):=ZH mO s5
   generalize upd H5 A1 (.lst ((IL l1).set p.1.toNat (.int (x1+wt))))=H6 at *;rw[qY]at xK;obtain⟨A2,l2,x2,y2,Vo,mM,QU,ex2,NT,put2⟩:=cS.get (i:=p.2.toNat) (j:=p.2.toNat) (by grind) (by omega);refine⟨_,rfl,_,rfl,tA,zs,p.2,.ref A2,rfl,rfl,SqL.of cS.tab,ZL (n:=p.2.toNat) (by lia) y2,_,rfl,A2,_,p.2,.int x2,rfl,rfl,SqL.of Vo,by lia,UH mM,_,rfl,_,_,rfl,rfl,A2,_,p.2,p.2.toNat,rfl,rfl,Vo,xM (by omega) (by rw[Xz];grind),?_⟩;obtain⟨L2,cR,ML⟩:=put2 (x2+wt);have s7:Same H (upd H6 A2 (.lst ((IL l2).set p.2.toNat (.int (x2+wt))))):=ZH NT s6
   generalize upd H6 A2 (.lst ((IL l2).set p.2.toNat (.int (x2+wt))))=H7 at *;rw[ex2]at ML;obtain⟨A3,l3,x3,y3,RG,hx3,GZ,ex3,hn3,put3⟩:=cR.get (i:=p.1.toNat) (j:=p.2.toNat) (by grind) (by grind);refine⟨_,rfl,_,rfl,tA,zs,p.1,.ref A3,rfl,rfl,SqL.of cR.tab,ZL (n:=p.1.toNat) (by lia) y3,_,rfl,A3,_,p.2,.int x3,rfl,rfl,SqL.of RG,by lia,UH hx3,_,rfl,_,_,rfl,rfl,A3,_,p.2,p.2.toNat,rfl,rfl,RG,xM (by omega) (by rw[Xz];grind),?_⟩;obtain⟨L3,cQ,cP⟩:=put3 (x3 - wt);have s8:Same H (upd H7 A3 (.lst ((IL l3).set p.2.toNat (.int (x3 - wt))))):=ZH hn3 s7
   generalize upd H7 A3 (.lst ((IL l3).set p.2.toNat (.int (x3 - wt))))=H8 at *;rw[ex3]at cP;obtain⟨A4,l4,x4,y4,Tq,xJ,hl4,ex4,mL,mK⟩:=cQ.get (i:=p.2.toNat) (j:=p.1.toNat) (by grind) (by grind);refine⟨_,rfl,_,rfl,tA,zs,p.2,.ref A4,rfl,rfl,SqL.of cQ.tab,ZL (n:=p.2.toNat) (by lia) y4,_,rfl,A4,_,p.1,.int x4,rfl,rfl,SqL.of Tq,by lia,UH xJ,_,rfl,_,_,rfl,rfl,A4,_,p.1,p.1.toNat,rfl,rfl,Tq,xM (by omega) (by rw[Xz];grind),?_⟩;obtain⟨L4,mJ,xI⟩:=mK (x4 - wt);have s9:Same H (upd H8 A4 (.lst ((IL l4).set p.1.toNat (.int (x4 - wt))))):=ZH mL s8
   generalize upd H8 A4 (.lst ((IL l4).set p.1.toNat (.int (x4 - wt))))=H9 at *;rw[ex4]at xI;refine⟨L4,_,_,_,_,rfl,s9,mJ,λx y hx hy=>?_⟩;rw[cT,qI,<- Pz x y hx hy];exact four JE x y xK ML cP xI
  .rintro σ H4 ⟨L,v3,v4,v5,v6,rfl,s4,mQ,Pz⟩;rw[hl,YI,<- ER,YI]at Pz;exact⟨_,rfl,q tA zs L H4 s4 MM mQ Pz⟩
def mI(K:Ad)(C:Addr):Sp:=λvs H Q _=>∃(w:Addr) (n:Int) (ps:Aa),vs=[.ref w]/\WebAt C H w n ps/\Zu n ps /\
 ∀(r:Addr) (ys:List V) (L:Ab) (H':Hp),Same H H'->H r=none->TabAt H r n.toNat H' ys L->(∀ i j,i<n.toNat->j<n.toNat->fnL L i j=lapE (VH ps (List.replicate ps.length 1)) i j)->Q (.ref r) H'
theorem mH:FnScope ["web"] ["web"] (XB sZk):=⟨rfl,rfl,rfl,by decide +kernel,rfl,by decide +kernel,by decide +kernel⟩
theorem mG (T:Txt K mg t):FnOk P w K mg base Xk 2 t.aZk t.dZk ["web"] (mI K t.A_Web):=by
 refine T.fZk.ok mH (λvs H Q E h=>?_) (λXy A outer s H vs Q E hr h=>?_)
 .obtain⟨w,n,ps,rfl,_⟩:=h;rfl
 .obtain⟨w,n,ps,rfl,hW,hG,q⟩:=h;refine⟨_,(XI (Zi (XF (mR T) (hr.mono (by decide)) rfl T.mZj T.fZj.kp T.bZj .nil Zp (XZ (pv 0) (XZ (Zs EX (Sv (XZ Za XY)) (Zf (Zj K) (by rfl) T.n_len Boot.«len» (XZ (Zn K (pv 0) rfl) XY))) XY))))),?_⟩;obtain⟨dx,tl,xs,h1,h2,h3⟩:=id hW;have hl:=h3.1
  have g3:=hG.2.2.1;refine⟨_,rfl,(by show 1<=sizeLine;decide),λp1 Vi=>?_⟩;have u1:=XM (o:=.lst [.int 1]) Vi
  refine⟨_,rfl,w,_,dx,_,_,rfl,u1 _ _ h1,T.cl_Web,T.n_Web_ties,QR _ _,tl,xs,rfl,.inl (SqL.of (u1 _ _ h2)),p1,(xs.length:Int),_,rfl,rfl,XR,by lia,by lia,OI (by show 1 * _<=_;lia),λp2 Wm=>?_⟩;have e0:(List.replicate (xs.length:Int).toNat [V.int 1]).flatten=IL (List.replicate ps.length 1):=by
   rw[YC,hl,cU];show _=(List.replicate ps.length 1).map V.int
   rw[List.map_replicate]
  rw[e0];have u2:=u1.trans (XM (o:=.lst (IL (List.replicate ps.length 1))) Wm)
  refine⟨w,p2,n,ps,List.replicate ps.length 1,rfl,hW.same u2,hG,SqL.of XR,YH,λr ys L H' s hr hT hf=>?_⟩;exact q r ys L H' (u2.trans s) (u2.free hr) ⟨hT.tab,hT.rows,hT.len,hT.all,hT.nd,λA h=>u2.free (hT.new A h)⟩ hf
def mF(K:Ad)(C:Addr):Sp:=λvs H Q _=>∃(w:Addr) (n:Int) (ps:Aa),vs=[.ref w]/\WebAt C H w n ps/\Zu n ps/\∀(c:Nat) (H':Hp),TC n ps c->Same H H'->Q (.int c) H'
theorem BK(u v i:Nat):(ind u v i).natAbs<=1:=by unfold ind;split <;> split <;> decide
theorem BJ:∀ {E:List Ed},(∀ e∈E,e.2.2=1)->∀ i j,(lapE E i j).natAbs<=E.length
 | [],_,i,j=>XN 0
 | e :: E,h,i,j=>by
  have ih:=BJ (λf hf=>h f (Yi _ hf)) i j;have h1:=BK e.1 e.2.1 i
  have h2:=BK e.1 e.2.1 j;have h3:(ind e.1 e.2.1 i * ind e.1 e.2.1 j).natAbs<=1:=by rw[wI];exact KU h1 h2
  show(e.2.2 * (ind e.1 e.2.1 i * ind e.1 e.2.1 j)+lapE E i j).natAbs<=(e :: E).length;rw[h e Ye,To,YA]
  have:=Int.natAbs_add_le (ind e.1 e.2.1 i * ind e.1 e.2.1 j) (lapE E i j)
  lia
theorem cO{α:Type}{l:List α}{i:Nat}(hi:l.length=i+1):cutz l (i:Int)=l.take i:=by unfold cutz;rw[YC,Ld (by lia),YF]
theorem mE:FnScope ["web"] ["web"] (XB sZl):=⟨rfl,rfl,rfl,by decide +kernel,rfl,by decide +kernel,by decide +kernel⟩
theorem Py (T:Txt K mg t):FnOk P w K mg base Xk 3 t.aZl t.dZl ["web"] (mF K t.A_Web):=by
 refine T.fZl.ok mE (λvs H Q E h=>?_) (λXy A outer s H vs Q E hr h=>?_)
 .obtain⟨w,n,ps,rfl,_⟩:=h;rfl
 .obtain⟨w,n,ps,rfl,hW,hG,q⟩:=h;refine⟨_,(XI (Zi (XF (nY T) (hr.mono (by decide)) rfl T.mZ3 T.fZ3.kp T.bZ3 .nil Zp (XZ (XF (nO T) (hr.mono (by decide)) rfl T.mZ5 T.fZ5.kp T.bZ5 .nil Zp (XZ (XF (mG T) (hr.mono (by decide)) rfl T.mZk T.fZk.kp T.bZk .nil Zp (XZ (pv 0) XY)) (XZ (Zs Te (Zn K (pv 0) rfl) Za) XY))) XY)))),?_⟩;obtain⟨g1,g2,g3,g4⟩:=id hG;refine⟨_,rfl,w,n,ps,rfl,hW,hG,λr ys L H1 s1 hr hT hf=>?_⟩;obtain⟨dx,tl,xs,h1,h2,h3⟩:=id hW;refine⟨_,rfl,w,_,dx,_,_,rfl,s1 _ _ h1,T.cl_Web,T.n_Web_places,JK _ _,_,_,rfl,rfl,?_⟩;obtain⟨k,hk⟩:∃ k:Nat,n - 1=(k:Int):=⟨(n - 1).toNat,by omega⟩;have hnk:n.toNat=k+1:=by grind
  have Ha:=hT.len;have hTB:Bears (OF H1) ys L:=hT.rows.imp λ_ _ h=>h.list
  refine⟨r,ys,L,k,?_,SqL.of hT.tab,hTB,by grind,λl h=>by rw[hT.all l h];grind,by lia,λr2 zs H2 s2 Wd hZ=>?_⟩
  .show [V.ref r,V.int (n - 1)]=_;rw[hk]
  have w1:∀ e∈VH ps (List.replicate ps.length (1:Int)),e.2.2=1:=λe he=>by
   unfold VH at he;obtain⟨i,hi⟩:=VF he;rw[Ia]at hi;cases h1:ps[i]? with
   | none=>rw[h1]at hi;cases hi
   | some p =>
    cases h2:(List.replicate ps.length (1:Int))[i]? with
    | none=>rw[h1,h2]at hi;cases hi
    | some w =>
     rw[h1,h2]at hi;obtain rfl:=Yg hi;exact z8 (Xg h2)
  have el:(VH ps (List.replicate ps.length (1:Int))).length<=30:=by unfold VH;rw[GL,YH];lia
  have hM:(cutz L (k:Int)).map (λl=>cutz l (k:Int))=(L.take k).map λl=>l.take k:=by rw[cO (by lia)];exact YT λl hl=>cO (by rw[hT.all l (z4 hl)];lia)
  rw[hM]at hZ;have Sf:((L.take k).map λl=>l.take k).length=k:=by rw[Yd,Yy];grind
  have HL:∀ i j,i<k->j<k->fnL ((L.take k).map λl=>l.take k) i j=lapE (VH ps (List.replicate ps.length 1)) i j:=λi j hi hj=>by
   rw[<- hf i j (by grind) (by grind)];obtain⟨l,hl⟩:∃ l,L[i]?=some l:=⟨_,Xn (by grind)⟩;have Hj:=hT.all l (Xg hl)
   obtain⟨x,hx⟩:∃ x,l[j]?=some x:=⟨_,Xn (by grind)⟩;rw[OB hl hx];exact OB (l:=l.take k) (by rw[Yq,GJ,if_pos hi,hl];rfl) (by rw[GJ,if_pos hj];exact hx)
  refine⟨r2,false,zs,(L.take k).map λl=>l.take k,rfl,SqL.of Wd,hZ.imp (λ_ _ ⟨r',e,h⟩=>⟨r',false,e,SqL.of h⟩),by rw[Sf];lia,λi j hi hj=>?_,λ_ H3 s3=>?_,λh=>absurd (λl hl=>?_) h⟩
  .rw[Sf]at hi hj;rw[HL i j hi hj];exact Yv (BJ w1 i j) (Yv el (Yv (by decide:30<=2 ^ 5) (xg (by decide) (by decide))))
  .have hd:det ((L.take k).map λl=>l.take k).length (fnL ((L.take k).map λl=>l.take k))=det (n - 1).toNat (lapE (VH ps (List.replicate ps.length 1))):=by rw[Sf,show(n - 1).toNat=k by lia];exact Zm λi j hi hj=>HL i j hi hj
   obtain⟨c,M,a1,a2,a3⟩:∃ c,TC n ps c:=by obtain⟨M,a1,a2,_⟩:=yw _ (n - 1).toNat (VH ps (List.replicate ps.length 1)) rfl (Dt hG _);exact⟨M.length,M,a1,λl=>by rw[a2,Dv g1 YH],rfl⟩
   rw[hd,Zw9 hG a1 a2,a3];exact q c H3 ⟨M,a1,a2,a3⟩ (s1.trans (s2.trans s3))
  .obtain⟨l0,h0,rfl⟩:=YD.mp hl;rw[Sf,Yy,hT.all l0 (z4 h0)];grind
def mD(K:Ad)(C:Addr):Sp:=λvs H Q _=>∃(w a b:Addr) (n:Int) (ps:Aa) (Is Os:Ac),vs=[.ref w,.ref a,.ref b]/\WebAt C H w n ps/\Zu n ps/\SqT K H a (IL Is)/\SqT K H b (IL Os)/\Is.Nodup/\(∀ z∈Is,0<=z/\z<(ps.length:Int))/\Os.length<=30/\(∀ z∈Is,z∉Os)/\∀(c:Nat) (H':Hp),PC n ps Is Os c->Same H H'->Q (.int c) H'
theorem mC{K:Ad}{H:Hp}{a b:Addr}{l m:Ac}{Q:VK}(ha:SqT K H a (IL l))(hb:SqT K H b (IL m))(hl:l.length+m.length<=1000)(k:∀(r:Addr) (H':Hp),Same H H'->SqT K H' r (IL (l++m))->Q (.ref r) H'):Qd K (.ref a) (.ref b) H Q:=by
 refine⟨a,b,_,_,rfl,rfl,ha,hb,by rw[Xz,Xz];exact Yv hl (by decide),λe=>?_,λ_ e=>?_,λ_ _ p hp=>?_⟩
 .have el:l=[]:=GN.mp e;rw[el,OV]at k;exact k b H (Same.refl _) hb
 .have em:m=[]:=GN.mp e;rw[em,YF]at k;exact k a H (Same.refl _) ha
 .refine k p _ (XM hp) (SqT.of ?_);rw[XR,Hz]
theorem cN{gone:Ac}(j:Nat):XC (j+1) gone=XC j gone++(if ((j:Int)∈gone) then [] else [(j:Int)]):=by
 unfold XC;rw[gn,QH];congr 1;by_cases c:(j:Int)∈gone
 .rw[if_pos c,YM,if_neg (by simp[c])];rfl
 .rw[if_neg c,YM,if_pos (by simp[c])];rfl
theorem Rh:FnScope ["web","inside","outside","marks","firsts","numbers","gone","free"] ["web","inside","outside"] (XB sZm):=⟨rfl,rfl,rfl,by decide +kernel,rfl,by decide +kernel,by decide +kernel⟩
theorem mB (T:Txt K mg t):FnOk P w K mg base Xk 4 t.aZm t.dZm ["web","inside","outside"] (mD K t.A_Web):=by
 refine T.fZm.ok Rh (λvs H Q E h=>?_) (λXy A outer s H vs Q E hr h=>?_)
 .obtain⟨w,a,b,n,ps,Is,Os,rfl,_⟩:=h;rfl
 .obtain⟨w,a,b,n,ps,Is,Os,rfl,hW,hG,hA,hB,hIn,Xo,hO,Vk,q⟩:=h;refine⟨_,(XQ (Zh (i:=3) Rh.nd rfl (Or.inl rfl) (XF (Rk T) (hr.mono (by decide)) rfl T.mZf T.fZf.kp T.bZf .nil Zp (XZ (pv 0) (XZ (pv 1) XY))))
   (XQ (Zh (i:=4) Rh.nd rfl (Or.inr rfl) (Ze4 K rfl rfl T.n_sorted rfl T.n_set (XZ (pv 3) XY)))
   (XQ (WL (Zd LS (Zs UY (Zf (Zj K) (by rfl) T.n_len Boot.«len» (XZ (pv 4) XY)) (Zf (Zj K) (by rfl) T.n_len Boot.«len» (XZ (pv 1) XY))) (Zn K (pv 0) rfl) (Zq _))
   (XI (Zi Za))
   Zo)
   (XQ (Zh (i:=5) Rh.nd rfl (Or.inr rfl) (SX rfl (sc0:=XB sZm) (N0:=["web","inside","outside","marks","firsts","numbers","gone","free"]) (N':=["mark","firsts"]) (o:=1) (fr:=[4]) ⟨rfl,by decide +kernel,by decide +kernel,by decide +kernel,rfl,by decide +kernel⟩ (OH K (pv 3)) (Zv (by decide)) (λ_ _ _ _=>(Zg (i:=0) (show List.Nodup (["mark","firsts"]:List Str) by decide +kernel) rfl (Or.inl rfl))) (λ_ _ _ _=>QT) (λ_ _ _ _=>(QQ K YU jk jm (sZ K) (pv 1) (XZ (pv 0) XY)))))
   (XQ (Zh (i:=6) Rh.nd rfl (Or.inr rfl) (Zs (Jz K) (pv 1) (pv 2)))
   (XQ (RM (i:=7) rfl Rh.nd rfl rfl (sc0:=XB sZm) (N0:=["web","inside","outside","marks","firsts","numbers","gone","free"]) (N':=["tie","ends","gone"]) (o:=2) (fr:=[6]) ⟨rfl,by decide +kernel,by decide +kernel,by decide +kernel,rfl,by decide +kernel⟩ (LL K rfl T.n_enumerate (XZ (Zn K (pv 0) rfl) XY)) (EH (ON (by decide) (ON (by decide) EI))) (λ_ _ _ _=>(Qg (n:=2) K rfl (Zw (Zg (i:=0) (show List.Nodup (["tie","ends","gone"]:List Str) by decide +kernel) rfl (Or.inl rfl)) (Zw (Zg (i:=1) (show List.Nodup (["tie","ends","gone"]:List Str) by decide +kernel) rfl (Or.inl rfl)) Qw)))) (λ_ _ _ _=>(Wq (Zd (ZP K) (pv 0) (pv 2) rfl))) (λ_ _ _ _=>(pv 1)))
   (XI (Zi (XF (Py T) (hr.mono (by decide)) rfl T.mZl T.fZl.kp T.bZl .nil Zp (XZ (Fw T.k_Web (BW T) (hr.mono (by decide)) rfl T.c_Web T.bZ8 .nil Zp (XZ (Zf (Zj K) (by rfl) T.n_len Boot.«len» (XZ (pv 4) XY)) (XZ (SX rfl (sc0:=XB sZm) (N0:=["web","inside","outside","marks","firsts","numbers","gone","free"]) (N':=["ends","numbers"]) (o:=1) (fr:=[5]) ⟨rfl,by decide +kernel,by decide +kernel,by decide +kernel,rfl,by decide +kernel⟩ (OH K (pv 7)) (Zv (by decide)) (λ_ _ _ _=>(Zg (i:=0) (show List.Nodup (["ends","numbers"]:List Str) by decide +kernel) rfl (Or.inl rfl))) (λ_ _ _ _=>QT) (λ_ _ _ _=>(Uq (XZ (ZR (Zk K) (pv 1) (ZR (ZN K) (pv 0) Za (λ_ _=>rfl)) (λ_ _=>rfl)) (XZ (ZR (Zk K) (pv 1) (ZR (ZN K) (pv 0) Za (λ_ _=>rfl)) (λ_ _=>rfl)) XY))))) XY))) XY)))))))))),?_⟩
  obtain⟨g1,g2,g3,g4⟩:=id hG;obtain⟨Js,Ou,hJ2⟩:=rR Is;have hJ:IsSet ps.length Js:=XX.mpr ⟨λz hz=>Xo z (Ou.mem_iff.mp hz),(hJ2.and (Ou.nodup_iff.mpr hIn)).imp λh=>by have:=h.1;have:=h.2;lia⟩
  have hIl:Is.length<=ps.length:=by rw[<- Ou.length_eq];exact hJ.len
  have ye:∀ i j,Conn (XT ps Js) i j↔Conn (XT ps Is) i j:=λi j=>LJ λy=>Ou.mem_iff;have hfr:XC ps.length (Js++Os)=XC ps.length (Is++Os):=Ml λz _=>by simp only [Xx,Ou.mem_iff]
  have back:∀ c,PC n ps Js Os c->PC n ps Is Os c:=λc ⟨L,l1,l2,l3⟩=>⟨L,l1,λl=>(l2 l).trans ⟨λh=>⟨h.1,λz hz=>h.2.1 z (Ou.mem_iff.mpr hz),h.2.2⟩,λh=>⟨h.1,λz hz=>h.2.1 z (Ou.mem_iff.mp hz),h.2.2⟩⟩,l3⟩;refine⟨_,rfl,_,rfl,w,a,n,ps,Is,rfl,hW,hG,hA,Xo,λmA H1 s1 QI TZ=>?_⟩;have UX:=ZB n.toNat (XT ps Is)
  have Wn:=ZK (ns:=Is) hG Xo;have hel:(XT ps Is).length=Is.length:=Yd ..
  refine nm ?_;refine⟨_,rfl,mA,_,rfl,SqL.of TZ,by grind,λF hF VL fA IK=>?_⟩;have s2:=XM (o:=.lst (IL F)) IK
  have ML:(upd H1 fA (.lst (IL F))) fA=some (.lst (IL F)):=XR;have Wg:=s2 _ _ TZ
  have Ow:=s1.trans s2;refine nm ?_;dsimp only;generalize upd H1 fA (.lst (IL F))=H2 at *;obtain⟨g,cM,mz,cL⟩:=Dg Wn hF VL;obtain⟨k1,kn,nk⟩:=Zq4 Wn (by lia) hF VL;have Vo:=LO Ow hA
  have Nv:=LO Ow hB;obtain⟨dx,tl,xs,h1,h2,h3⟩:=hW.same Ow;have OD:=h3.1
  refine⟨_,rfl,fA,_,rfl,.inl (SqL.of ML),_,rfl,a,_,rfl,.inr Vo,_,_,rfl,rfl,_,rfl,w,_,dx,_,_,rfl,h1,T.cl_Web,T.n_Web_places,JK _ _,_,_,rfl,rfl,_,rfl,?_⟩;rw[Xz,Xz];refine Xf (λhc=>?_) (λhc=>?_)
  .exact q 0 H2 (back 0 (pR hG hJ (λi j hi hj=>(cM i j hi hj).trans (ye i j).symm) mz cL k1 kn (by rw[Ou.length_eq];lia))) Ow
  refine⟨_,rfl,mA,rfl,⟨_,SqL.of Wg⟩,UG (K:=K) (a:=mA) (xs:=IL (Xu n.toNat (XT ps Is))) (λi zs H3=>H3=H2/\i<=n.toNat/\zs=IL (((Xu n.toNat (XT ps Is)).take i).map λz=>(Vj F z:Int))) ⟨rfl,Yl _,rfl⟩ (Zl (by rw[Xz,UX];grind)) (λi zs H3 _ ⟨e,hi,ez⟩=>⟨e ▸ SqL.of Wg,by rw[ez,Xz,Yd,Yy];lia⟩) ?_ ?_⟩
  .rintro i v zs H3 hi ⟨rfl,hin3,rfl⟩ S Xl;obtain⟨z,rfl,hz⟩:=WU hi;have Hm:z∈F:=(VL z).mpr (Xg hz)
   have Xd:=(Xs.mp hz).1;refine nm ?_;refine⟨_,rfl,.inl ⟨rfl,_,SqL.of ML⟩,_,rfl,fA,F,z,Vj F z,rfl,rfl,SqL.of ML,Jm Hm,λi hi e=>by have:=Hx (JB hF) e (Jm Hm);lia,Xl _ _ ⟨rfl,by lia,?_⟩⟩;rw[WB,hz,YL];exact(ZO _ _).symm
  rintro zs H3 ⟨rfl,_,rfl⟩ nA hnA;rw[Xz,YI];have s3:=XM (o:=.lst (IL ((Xu n.toNat (XT ps Is)).map λz=>(Vj F z:Int)))) hnA
  have mL:(upd H3 nA (.lst (IL ((Xu n.toNat (XT ps Is)).map λz=>(Vj F z:Int))))) nA=some (.lst (IL ((Xu n.toNat (XT ps Is)).map λz=>(Vj F z:Int)))):=XR;have xI:=s3 _ _ ML
  have Tq:=LO s3 Vo;have my:=LO s3 Nv
  have GX:=Ow.trans s3;generalize upd H3 nA (.lst (IL ((Xu n.toNat (XT ps Is)).map λz=>(Vj F z:Int))))=H4 at *;have cK:∀ x:Int,0<=x->x<n->((Xu n.toNat (XT ps Is)).map λz=>(Vj F z:Int))[x.toNat]?=some (Vj F (mk (Xu n.toNat (XT ps Is)) x.toNat):Int):=λx x0 x1=>by rw[Yq,Xn (by grind)];unfold mk;rw[WG,Xn (by omega)];rfl
  refine nm ?_;dsimp only;refine⟨_,rfl,_,rfl,mC Tq my (by lia) λgA H5 s5 hg5=>?_⟩;have BI:=GX.trans s5
  obtain⟨dx,tl,xs,h1,h2,h3⟩:=hW.same BI;have OD:=h3.1
  refine nm ?_;dsimp only;refine⟨_,rfl,w,_,dx,_,_,rfl,h1,T.cl_Web,T.n_Web_ties,QR _ _,tl,rfl,⟨_,SqL.of h2⟩,yM (K:=K) (a:=tl) (xs:=xs) (λj zs H6=>Same H5 H6/\j<=ps.length/\PairsV H6 zs ((XC j (Is++Os)).map λz=>ps.getD z.toNat (0,0))) ⟨Same.refl _,Yl _,PairsV.nil⟩ (Zl (by lia)) (λj zs H6 hj ⟨e,QN,ez⟩=>⟨e.seq (SqL.of h2),by rw[ez.1,Yd];refine Yv (YB ..) ?_;rw[ZI];exact XN _⟩) ?_ ?_⟩
  .rintro j v zs H6 pt Uy hj ⟨s6,NA,hZ⟩ S Xl;obtain⟨p,hp,tt,rfl,ht⟩:=h3.at hj;have VZ:=(Xs.mp hp).1
   have s7:=XM (o:=.tup [.int j,.ref tt]) Uy;refine⟨pt,_,rfl,SqT.of XR,rfl,_,_,rfl,_,_,rfl,rfl,?_⟩;have BH:=hZ.same s7
   have Px:=s6.trans s7;generalize upd H6 pt (.tup [.int j,.ref tt])=H7 at *;refine⟨_,rfl,_,rfl,gA,_,rfl,.inr (LO Px hg5),rfl,ZE _,_,rfl,?_⟩;rw[ZQ];refine WW (λIJ=>?_) (λIJ=>?_)
   .refine Xl _ _ ⟨Px,VZ,?_⟩;rw[cN,if_pos IJ,YF];exact BH
   .refine⟨_,rfl,Xl _ _ ⟨Px,VZ,?_⟩⟩;rw[cN,if_neg IJ,YL];refine BH.app ?_;show PairsV H7 [V.ref tt] [ps.getD ((j:Nat):Int).toNat (0,0)]
    rw[YC,ZW hp];exact PairsV.nil.snoc ⟨tt,rfl,Px _ _ ht⟩
  rintro zs H6 ⟨s6,_,hZ⟩ rA MR;rw[OD]at hZ;have s7:=XM (o:=.lst zs) MR
  have BZ:(upd H6 rA (.lst zs)) rA=some (.lst zs):=XR;have BH:=hZ.same s7
  have Px:=s6.trans s7;generalize upd H6 rA (.lst zs)=H7 at *;have hf7:=Px _ _ (s5 _ _ xI)
  have hn7:=Px _ _ (s5 _ _ mL);have mx:=BH.1
  have NJ:(XC ps.length (Is++Os)).length<=30:=by refine Yv (YB ..) ?_;rw[ZI];lia
  rw[Yd]at mx;refine nm ?_;dsimp only;refine⟨_,rfl,fA,_,rfl,.inl (SqL.of hf7),_,rfl,rA,rfl,⟨_,SqL.of BZ⟩,UG (K:=K) (a:=rA) (xs:=zs) (λi ws H8=>Same H7 H8/\i<=(XC ps.length (Is++Os)).length/\PairsV H8 ws (((XC ps.length (Is++Os)).take i).map λz=>((Vj F (mk (Xu n.toNat (XT ps Is)) (Zt ps z).1):Int),(Vj F (mk (Xu n.toNat (XT ps Is)) (Zt ps z).2):Int)))) ⟨Same.refl _,Yl _,PairsV.nil⟩ (Zl (by lia))
   (λi ws H8 hi ⟨e,VM,ew⟩=>⟨e.seq (SqL.of BZ),by rw[ew.1,Yd,Yy];lia⟩) ?_ ?_⟩
  .rintro i v ws H8 hi ⟨s8,VG,xH⟩ S Xl;obtain⟨p,hp,tt,rfl,ht⟩:=BH.at hi;rw[Yq]at hp;obtain⟨z,hz,ez⟩:∃ z,(XC ps.length (Is++Os))[i]?=some z/\ps.getD z.toNat (0,0)=p:=by
    cases hq:(XC ps.length (Is++Os))[i]? with
    | none=>rw[hq]at hp;cases hp
    | some z=>rw[hq]at hp;exact⟨z,rfl,Yg hp⟩
   have hz1:=(WX.mp (Xg hz)).1;obtain⟨p',IP⟩:∃ p,ps[z.toNat]?=some p:=⟨_,Xn (by lia)⟩;have epp:p'=p:=by rw[<- ez,ZW IP]
   rw[epp]at IP;obtain⟨e1,e2,e3,e4⟩:=g4 p (Xg IP);have ee:Zt ps z=(p.1.toNat,p.2.toNat):=by unfold Zt;rw[ZW IP]
   have cJ:=s8 _ _ ht;have cI:=s8 _ _ hn7
   refine nm ?_;refine⟨_,rfl,_,rfl,tt,_,0,.int p.1,rfl,rfl,SqT.of cJ,rfl,nA,_,_,_,rfl,rfl,SqL.of cI,ZL (n:=p.1.toNat) (by lia) (UH (cK p.1 e1 e2)),?_⟩;refine⟨_,rfl,_,rfl,tt,_,1,.int p.2,rfl,rfl,SqT.of cJ,rfl,nA,_,_,_,rfl,rfl,SqL.of cI,ZL (n:=p.2.toNat) (by lia) (UH (cK p.2 e3 e4)),(by show 2<=sizeLine;decide),λpp cH=>?_⟩;refine Xl _ _ ⟨s8.trans (XM cH),by have:=(Xs.mp hz).1;lia,?_⟩;rw[WB,hz,YL];refine(xH.same (XM cH)).snoc ⟨pp,rfl,?_⟩;dsimp only;rw[ee];exact XR
  rintro ws H8 ⟨s8,_,xH⟩ la nu;rw[mx,YI]at xH;have s9:=XM (o:=.lst ws) nu
  have MK:(upd H8 la (.lst ws)) la=some (.lst ws):=XR;have mw:=xH.same s9
  have xG:=s8.trans s9;generalize upd H8 la (.lst ws)=H9 at *;have cG:=eY (f:=λi=>Vj F (mk (Xu n.toNat (XT ps Is)) i)) hG (Is++Os) mz k1 kn
  intro x mv nx Pw MJ;have t1:Same H9 (upd (upd H9 mv (.own x)) x (.ins t.A_Web mv [])):=Zy (XM Pw) (by rw[Zb (YZ MJ)];exact nx)
  refine⟨x,mv,(F.length:Int),la,false,ws,_,by rw[Xz];rfl,XR,λo=>?_,mw.same t1,cG,λTp hV k10=>⟨rfl,?_⟩⟩
  .exact SqL.of (by rw[Zb (Zc MK nx),Zb (Zc MK nx),Zb (Zc MK Pw)];exact MK)
  have Rg:Same H9 Tp:=λb o e=>k10 b o (t1 b o e) (Zc e nx);refine⟨x,_,_,rfl,hV,cG,λc MG hc II=>q c MG (back c (Di hG hJ (λz hz=>Vk z (Ou.mem_iff.mp hz)) (λi j hi hj=>(cM i j hi hj).trans (ye i j).symm) mz cL (by rw[Ou.length_eq];grind) (by rw[hfr];exact hc))) (BI.trans (Px.trans (xG.trans (Rg.trans II))))⟩
def mr(K:Ad)(C:Addr):Sp:=λvs H Q _=>∃(w a:Addr) (n:Int) (ps:Aa) (kd:Bool) (ns:Ac),vs=[.ref w,.ref a]/\WebAt C H w n ps/\Zu n ps/\SqK kd K H a (IL ns) /\
 ∀(b:Bool) (H':Hp),Same H H'->(b=true↔Ze n ps ns)->Q (.bl b) H'
theorem mq:FnScope ["web","ties"] ["web","ties"] (XB sZn):=⟨rfl,rfl,rfl,by decide +kernel,rfl,by decide +kernel,by decide +kernel⟩
theorem ml (T:Txt K mg t):FnOk P w K mg base Xk 6 t.aZn t.dZn ["web","ties"] (mr K t.A_Web):=by
 refine T.fZn.ok mq (λvs H Q E h=>?_) (λXy A outer s H vs Q E hr h=>?_)
 .obtain⟨w,a,n,ps,kd,ns,rfl,_⟩:=h;rfl
 .obtain⟨w,a,n,ps,kd,ns,rfl,hW,hG,hS,q⟩:=h;refine⟨_,(XI (Zi (Ge (XF (BS T) (hr.mono (by decide)) rfl T.mZc T.fZc.kp T.bZc .nil Zp (XZ (pv 0) (XZ (pv 1) XY))) (Ge (NV Td (Zf (Zj K) (by rfl) T.n_len Boot.«len» (XZ (pv 1) XY)) (Zs Te (Zn K (pv 0) rfl) Za) (Zq _)) (vT (XF (BN T) (hr.mono (by decide)) rfl T.mZh T.fZh.kp T.bZh .nil Zp (XZ (pv 0) (XZ (pv 1) XY)))))))),?_⟩;refine⟨_,rfl,_,rfl,w,a,n,ps,kd,ns,rfl,hW,hS,λb hb=>⟨b,rfl,?_⟩⟩;refine tE (λe=>?_) (λe=>?_)
  .have hI:=hb.mp e;obtain⟨dx,tl,xs,h1,h2,h3⟩:=id hW;refine⟨_,rfl,a,_,rfl,hS.or,_,rfl,w,_,dx,_,_,rfl,h1,T.cl_Web,T.n_Web_places,JK _ _,_,_,rfl,rfl,rfl,_,rfl,?_⟩;rw[Xz,Zx];refine Xf (λhl=>?_) (λhl=>?_)
   .refine⟨_,rfl,_,rfl,w,a,n,ps,kd,ns,rfl,hW,hG,hS,hI,λb2 H' s QK=>q b2 H' s ?_⟩;rw[QK,Ef (by have:=hG.1;grind) (ZK hG hI.all)];exact⟨λz=>⟨hI,hl,z⟩,λz=>z.2.2⟩
   .exact q false H (Same.refl H) ⟨λz=>(nomatch z),λz=>absurd z.2.1 hl⟩
  .exact q false H (Same.refl H) ⟨λz=>(nomatch z),λz=>by rw[hb.mpr z.1]at e;cases e⟩
def mj(K:Ad)(C:Addr):Sp:=λvs H Q _=>∃(w a:Addr) (n:Int) (ps:Aa) (kd:Bool) (ns:Ac),vs=[.ref w,.ref a]/\WebAt C H w n ps/\Zu n ps/\SqK kd K H a (IL ns) /\
 (Ze n ps ns->∀ H':Hp,Same H H'->Q .non H')/\(¬ Ze n ps ns->∀ H':Hp,Same H H'->False)
theorem mi:FnScope ["web","tree"] ["web","tree"] (XB sZo):=⟨rfl,rfl,rfl,by decide +kernel,rfl,by decide +kernel,by decide +kernel⟩
theorem IG (T:Txt K mg t):FnOk P w K mg base Xk 7 t.aZo t.dZo ["web","tree"] (mj K t.A_Web):=by
 refine T.fZo.ok mi (λvs H Q E h=>?_) (λXy A outer s H vs Q E hr h=>?_)
 .obtain⟨w,a,n,ps,kd,ns,rfl,_⟩:=h;rfl
 .obtain⟨w,a,n,ps,kd,ns,rfl,hW,hG,hS,q,qe⟩:=h;refine⟨_,(XI (WL (OR (Qz (XF (ml T) (hr.mono (by decide)) rfl T.mZn T.fZn.kp T.bZn .nil Zp (XZ (pv 0) (XZ (pv 1) XY)))))
   (XI Vu)
   Zo)),?_⟩
  refine⟨_,rfl,_,rfl,w,a,n,ps,kd,ns,rfl,hW,hG,hS,λb H' s hb=>⟨_,rfl,?_⟩⟩;refine JM (λz=>?_) (λz=>?_)
  .exact q (hb.mp z) H' s
  .exact qe (λg=>by rw[hb.mpr g]at z;cases z) H' s
def mh(K:Ad)(C:Addr):Sp:=λvs H Q _=>∃(w a b:Addr) (n:Int) (ps:Aa) (ka kb:Bool) (ns os:Ac),vs=[.ref w,.ref a,.ref b]/\WebAt C H w n ps/\Zu n ps/\SqK ka K H a (IL ns)/\SqK kb K H b (IL os)/\ns.length<=1000/\os.length<=1000/\(∀ z∈ns++os,0<=z/\z<(ps.length:Int)) /\
 (((WT n.toNat ps (ns++os)).take ns.length≠ns\/((WT n.toNat ps (ns++os)).length:Int)<n - 1)->∀ H':Hp,Same H H'->Q .non H') /\
 ((WT n.toNat ps (ns++os)).take ns.length=ns->¬ ((WT n.toNat ps (ns++os)).length:Int)<n - 1->∀(r:Addr) (ms:Ac) (H':Hp),ms.Perm (WT n.toNat ps (ns++os))->ms.Pairwise (·<=·)->Same H H'->H r=none->H' r=some (.tup (IL ms))->Q (.ref r) H')
theorem Rf:FnScope ["web","inside","order","marks","grown","tie","ends"] ["web","inside","order"] (XB sZp):=⟨rfl,rfl,rfl,by decide +kernel,rfl,by decide +kernel,by decide +kernel⟩
theorem BG (T:Txt K mg t):FnOk P w K mg base Xk 3 t.aZp t.dZp ["web","inside","order"] (mh K t.A_Web):=by
 refine T.fZp.ok Rf (λvs H Q E h=>?_) (λXy A outer s H vs Q E hr h=>?_)
 .obtain⟨w,a,b,n,ps,ka,kb,ns,os,rfl,_⟩:=h;rfl
 .obtain⟨w,a,b,n,ps,ka,kb,ns,os,rfl,hW,hG,hS,Eh,Lk,Sr,hI,q0,q1⟩:=h;refine⟨_,(XQ (Zh (i:=3) Rf.nd rfl (Or.inl rfl) (XF (Rk T) (hr.mono (by decide)) rfl T.mZf T.fZf.kp T.bZf .nil Zp (XZ (pv 0) (XZ (Uq XY) XY))))
   (XQ (Zh (i:=4) Rf.nd rfl (Or.inl rfl) (Sv XY))
   (XQ (Tf Ww rfl (OH K (Zs EY (Zr (Hw K) (by rfl) T.n_list Boot.«list» (XZ (pv 1) XY)) (Zr (Hw K) (by rfl) T.n_list Boot.«list» (XZ (pv 2) XY)))) (Zg (i:=5) Rf.nd rfl (Or.inl rfl))
   (XQ (Zh (i:=6) Rf.nd rfl (Or.inl rfl) (ZR (Zk K) (Zn K (pv 0) rfl) (pv 5) (λ_ _=>rfl)))
   (XI (WL (Zd RR (ZR (Zk K) (pv 3) (ZR (ZN K) (pv 6) Za (λ_ _=>rfl)) (λ_ _=>rfl)) (ZR (Zk K) (pv 3) (ZR (ZN K) (pv 6) Za (λ_ _=>rfl)) (λ_ _=>rfl)) (Zq _))
   (XQ (Zh (i:=3) Rf.nd rfl (Or.inl rfl) (XF (BR T) (hr.mono (by decide)) rfl T.mZe T.fZe.kp T.bZe .nil Zp (XZ (pv 0) (XZ (pv 3) (XZ (Uq (XZ (pv 5) XY)) XY)))))
   (XI (Wl (QQ K YU GQ GR Fc (pv 4) (XZ (pv 5) XY)))))
   Zo))))
   (XQ (WL (PW.pt (QV (Zd (Er K (NG hr)) (LR (LN K) (pv 4) Kb (NQ (Zf (Zj K) (by rfl) T.n_len Boot.«len» (XZ (pv 1) XY)))) (Zr (Hw K) (by rfl) T.n_list Boot.«list» (XZ (pv 1) XY)) (Zq _)) (Ku (Zd Kj (Zf (Zj K) (by rfl) T.n_len Boot.«len» (XZ (pv 4) XY)) (Zs Te (Zn K (pv 0) rfl) Za) (Zq _)))))
   (XI (Zi VS))
   Zo)
   (XI (Zi (Zr (ZC K) (by rfl) T.n_tuple Boot.«tuple» (XZ (Zf (yT K) (by rfl) T.n_sorted Boot.«sorted» (XZ (pv 4) XY)) XY)))))))),?_⟩
  obtain⟨g1,g2,g3,g4⟩:=id hG;have one:1<=sizeLine:=by decide
  refine⟨_,rfl,Yl _,λr0 VU=>?_⟩;have s0:=XM (o:=.tup []) VU
  refine⟨w,r0,n,ps,[],rfl,hW.same s0,hG,SqT.of XR,λ_ e=>(nomatch e),λm H1 s1 QI TZ=>?_⟩;have cF:=s0.trans s1
  have hmf:=s0.free QI;refine⟨Yl _,λgl BF=>?_⟩;have s2:=XM (o:=.lst []) BF
  have Ow:=cF.trans s2;have hgf:=cF.free BF
  refine⟨_,rfl,a,_,rfl,(hS.same Ow).or,λl1 SO=>?_⟩;have s3:=XM (o:=.lst (IL ns)) SO
  have cE:=Ow.trans s3;refine⟨_,rfl,b,_,rfl,(Eh.same cE).or,λl2 QU=>?_⟩;have s4:=XM (o:=.lst (IL os)) QU
  have GX:=cE.trans s4;refine⟨l1,l2,_,_,rfl,rfl,s4 _ _ XR,XR,OI (by rw[Xz,Xz];lia),λcl QL=>?_⟩;have s5:=XM (o:=.lst (IL ns++IL os)) QL
  have BI:=GX.trans s5;have eI:IL ns++IL os=IL (ns++os):=(Hz _ _).symm
  have BE:=s5 _ _ (s4 _ _ (s3 _ _ (XR (H:=H1) (a:=gl) (o:=.lst []))));have xF:=s5 _ _ (s4 _ _ (s3 _ _ (s2 _ _ TZ)))
  have IF:=XR (H:=upd (upd (upd H1 gl (.lst [])) l1 (.lst (IL ns))) l2 (.lst (IL os))) (a:=cl) (o:=.lst (IL ns++IL os));have ncg:cl≠gl:=λe=>by rw[e]at QL;exact absurd ((s4 _ _ (s3 _ _ (XR (H:=H1) (a:=gl) (o:=.lst [])))).symm.trans QL) (by simp)
  have nmg:m≠gl:=λe=>by rw[e]at TZ;exact absurd (TZ.symm.trans BF) (by simp)
  rw[eI]at s5 BI BE xF IF ⊢;generalize upd (upd (upd (upd H1 gl (.lst [])) l1 (.lst (IL ns))) l2 (.lst (IL os))) cl (.lst (IL (ns++os)))=H5 at *;refine⟨cl,rfl,⟨_,SqL.of IF⟩,vB (K:=K) (a:=cl) (xs:=IL (ns++os)) (λi σ H2=>∃(mc:Addr) (v5 v6:Option V),σ=[some (.ref w),some (.ref a),some (.ref b),some (.ref mc),some (.ref gl),v5,v6]/\Same H H2/\mc≠gl /\
    H2 cl=some (.lst (IL (ns++os)))/\H2 mc=some (.lst (IL (Xu n.toNat (XT ps (WT n.toNat ps ((ns++os).take i))))))/\H2 gl=some (.lst (IL (WT n.toNat ps ((ns++os).take i)))))
   ⟨m,none,none,rfl,BI,nmg,IF,xF,BE⟩ (λi σ H2 _ ⟨_,_,_,_,_,_,e,_⟩=>SqL.of e) ?_ ?_⟩
  .rintro i x σ H2 hi ⟨mc,v5,v6,rfl,s2,XH,Vf,Wg,MW⟩;obtain⟨z,rfl,hz⟩:=WU hi;obtain⟨z0,z1⟩:=hI z (Xg hz);have cD:∀ y∈(ns++os).take i,0<=y/\y<(ps.length:Int):=λy hy=>hI y (z4 hy)
   have est:(ns++os).take (i+1)=(ns++os).take i++[z]:=by rw[WB,hz];rfl
   have eG:WT n.toNat ps ((ns++os).take (i+1))=RA n.toNat ps (WT n.toNat ps ((ns++os).take i)) z:=by rw[est,Nn]
   have Wn:=Hn hG cD;have BD:=DV hG cD
   generalize WT n.toNat ps ((ns++os).take i)=G at *;obtain⟨dx,tl,xs,h1,h2,h3⟩:=hW.same s2;obtain⟨p,hp⟩:∃ p,ps[z.toNat]?=some p:=⟨_,Xn (by lia)⟩;obtain⟨v,hv,tt,rfl,TN⟩:=h3.2 z.toNat p hp;obtain⟨e1,e2,e3,e4⟩:=g4 p (Xg hp);have ed:Zt ps z=(p.1.toNat,p.2.toNat):=by unfold Zt;rw[ZW hp]
   have hl:(Xu n.toNat (XT ps G)).length=n.toNat:=ZB _ _;have iA:VQ (IL (Xu n.toNat (XT ps G))) p.1=some (.int (mk (Xu n.toNat (XT ps G)) p.1.toNat)):=ZL (n:=p.1.toNat) (by lia) (UH (OG (by grind)))
   have iB:VQ (IL (Xu n.toNat (XT ps G))) p.2=some (.int (mk (Xu n.toNat (XT ps G)) p.2.toNat)):=ZL (n:=p.2.toNat) (by lia) (UH (OG (by grind)));have t0:VQ ([.int p.1,.int p.2]:List V) 0=some (.int p.1):=rfl
   have t1:VQ ([.int p.1,.int p.2]:List V) 1=some (.int p.2):=rfl;have key:mk (Xu n.toNat (XT ps G)) p.1.toNat=mk (Xu n.toNat (XT ps G)) p.2.toNat↔mk (WS n.toNat (XT ps G)) (Zt ps z).1=mk (WS n.toNat (XT ps G)) (Zt ps z).2:=by rw[ed,RH Wn (by grind) (by grind),ZV Wn (by grind) (by grind)]
   refine⟨_,rfl,w,_,dx,_,_,rfl,h1,T.cl_Web,T.n_Web_ties,QR _ _,_,rfl,tl,xs,z,.ref tt,rfl,rfl,SqL.of h2,ZL (n:=z.toNat) (by lia) hv,?_⟩;refine⟨_,rfl,_,rfl,tt,_,0,_,rfl,rfl,SqT.of TN,t0,mc,_,p.1,_,rfl,rfl,SqL.of Wg,iA,_,rfl,_,rfl,tt,_,1,_,rfl,rfl,SqT.of TN,t1,mc,_,p.2,_,rfl,rfl,SqL.of Wg,iB,rfl,_,rfl,?_⟩;rw[Zx];refine WW (λhe=>?_) (λhe=>?_)
   .refine⟨mc,_,_,rfl,s2,XH,Vf,?_,?_⟩
    .rw[eG];unfold RA;rw[if_pos (key.mp he)];exact Wg
    .rw[eG];unfold RA;rw[if_pos (key.mp he)];exact MW
   .have cC:WT n.toNat ps ((ns++os).take (i+1))=G++[z]:=by rw[eG];unfold RA;rw[if_neg (λe=>he (key.mpr e))]
    refine⟨_,rfl,_,rfl,_,rfl,one,λp2 Wm=>?_⟩;have s6:=XM (o:=.tup [.int z]) Wm
    refine⟨w,mc,p2,n,ps,_,true,[z],rfl,(hW.same s2).same s6,hG,s6 _ _ Wg,hl,SqT.of XR,λy hy=>by rw[XD.mp hy];exact⟨z0,z1⟩,λm' H7 s7 hf xE=>?_⟩;have mf:=s6.trans s7
    have cB:=mf _ _ MW;have hc7:=mf _ _ Vf
    have cz:m'≠gl:=by
     rcases hf with rfl | hf
     .exact XH
     .exact λe=>absurd ((s6 _ _ MW).symm.trans (e ▸ hf)) (by simp)
    refine⟨_,rfl,.inl ⟨rfl,_,SqL.of cB⟩,_,rfl,gl,_,_,rfl,rfl,cB,Zl (by rw[Xz];lia),?_⟩;refine⟨m',_,_,rfl,ZH hgf (s2.trans mf),cz,?_,?_,?_⟩
    .rw[Zb ncg];exact hc7
    .rw[Zb cz,xE,cC,LI,ZS9];rfl
    .rw[XR,cC,ZO]
  .rintro σ H2 ⟨mc,v5,v6,rfl,s2,XH,Vf,Wg,MW⟩;rw[Xz,YI]at MW;have BD:=DV hG hI
   generalize WT n.toNat ps (ns++os)=G at *;refine⟨_,rfl,_,rfl,a,_,rfl,(hS.same s2).or,_,rfl,gl,_,rfl,SqL.of MW,λr1 VY=>?_⟩;have ec:WJ (IL G) none (some ((IL ns).length:Int))=IL (G.take ns.length):=by rw[gx (by lia),YC,Xz,Ez]
   rw[ec];have s3:=XM (o:=.lst (IL (G.take ns.length))) VY
   refine⟨_,rfl,a,_,rfl,(hS.same (s2.trans s3)).or,λr2 Wd=>?_⟩;have s4:=XM (o:=.lst (IL ns)) Wd
   refine⟨1,_,r1,r2,rfl,rfl,by decide,gO (SqL.of (s4 _ _ XR)) (SqL.of XR),_,rfl,?_⟩;have Lj:=s2.trans (s3.trans s4)
   refine WW (λhe=>?_) (λhe=>?_)
   .obtain⟨dx,tl,xs,h1,h2,h3⟩:=hW.same Lj;have cy:=s4 _ _ (s3 _ _ MW)
    refine⟨_,rfl,gl,_,rfl,.inl (SqL.of cy),_,rfl,w,_,dx,_,_,rfl,h1,T.cl_Web,T.n_Web_places,JK _ _,_,_,rfl,rfl,_,_,rfl,rfl,_,rfl,?_⟩;rw[Xz];refine Xf (λhc=>?_) (λhc=>?_)
    .exact q0 (.inr hc) _ Lj
    .refine⟨_,rfl,gl,G,rfl,SqL.of cy,by lia,λms Vi Wm l hl=>?_⟩;have s5:=XM (o:=.lst (IL ms)) hl
     refine⟨l,_,rfl,.inl ⟨SqL.of XR,λr hr=>?_⟩⟩;exact q1 he hc r ms _ Vi Wm ((Lj.trans s5).trans (XM hr)) ((Lj.trans s5).free hr) XR
   .refine Wj ?_;exact q0 (.inl he) _ Lj
def me(K:Ad)(C:Addr):Sp:=λvs H Q _=>∃(w:Addr) (n:Int) (ps:Aa),vs=[.ref w]/\WebAt C H w n ps/\Zu n ps /\
 (¬ ((WM n.toNat ps ps.length).length:Int)<n - 1->∀(r:Addr) (H':Hp),Same H H'->H' r=some (.tup (IL (WM n.toNat ps ps.length)))->Q (.ref r) H') /\
 (((WM n.toNat ps ps.length).length:Int)<n - 1->∀ H':Hp,Same H H'->False)
theorem md:FnScope ["web"] ["web"] (XB sZq):=⟨rfl,rfl,rfl,by decide +kernel,rfl,by decide +kernel,by decide +kernel⟩
theorem BC (T:Txt K mg t):FnOk P w K mg base Xk 7 t.aZq t.dZq ["web"] (me K t.A_Web):=by
 refine T.fZq.ok md (λvs H Q E h=>?_) (λXy A outer s H vs Q E hr h=>?_)
 .obtain⟨w,n,ps,rfl,_⟩:=h;rfl
 .obtain⟨w,n,ps,rfl,hW,hG,q,q1⟩:=h;refine⟨_,(XQ (Wl (XF (BM T) (hr.mono (by decide)) rfl T.mZi T.fZi.kp T.bZi .nil Zp (XZ (pv 0) XY)))
   (XI (Zi (XF (BG T) (hr.mono (by decide)) rfl T.mZp T.fZp.kp T.bZp .nil Zp (XZ (pv 0) (XZ (Uq XY) (XZ (XF (BV T) (hr.mono (by decide)) rfl T.mZ9 T.fZ9.kp T.bZ9 .nil Zp (XZ (pv 0) XY)) XY))))))),?_⟩
  have VP:∀ z∈Wz ps.length,0<=z/\z<(ps.length:Int):=λz hz=>XE.mp hz;have eg:WT n.toNat ps (Wz ps.length)=WM n.toNat ps ps.length:=gu _ _ _
  have hj:=sd hG;refine⟨_,rfl,w,n,ps,rfl,hW,hG,λhJ H1 s1=>?_,λhJ H1 s1=>q1 (by rw[hj]at hJ;omega) H1 s1⟩;have hf:=hj.mp hJ
  refine⟨_,rfl,Yl _,λr0 VU=>?_⟩;have s0:=XM (o:=.tup []) VU
  have Rg:=s1.trans s0;refine⟨_,rfl,w,n,ps,rfl,hW.same Rg,by have:=hG.2.2.1;lia,λr2 H2 s2 ma Wd=>?_⟩;refine⟨w,r0,r2,n,ps,true,true,[],Wz ps.length,rfl,(hW.same Rg).same s2,hG,SqT.of (s2 _ _ XR),SqT.of Wd,Yl _,by rw[ZI];have:=hG.2.2.1;omega,VP,λhx H3 s3=>?_,λ_ _ r3 ms H3 Vi Wm s3 hr30 Uv=>?_⟩
  .rw[OV,eg]at hx;rcases hx with hx | hx
   .exact absurd rfl hx
   .exact absurd hx hf
  .rw[OV,eg]at Vi;have e:ms=WM n.toNat ps ps.length:=RF Vi Wm ((Ea _).imp λh=>by lia)
   rw[e]at Uv;exact q hf r3 H3 (Rg.trans (s2.trans s3)) Uv
def l9(K:Ad)(C:Addr):Sp:=λvs H Q _=>∃(w a:Addr) (n:Int) (ps:Aa) (kd:Bool) (ns:Ac) (z:Int),vs=[.ref w,.ref a,.int z]/\WebAt C H w n ps/\Zu n ps/\SqK kd K H a (IL ns)/\IsSet ps.length ns /\
 ∀(r:Addr) (H':Hp),Same H H'->H r=none->H' r=some (.tup (IL (unlike (WS n.toNat (XT ps (wo ns z))) ps ps.length)))->Q (.ref r) H'
theorem BB:FnScope ["web","tree","tie","marks"] ["web","tree","tie"] (XB sZr):=⟨rfl,rfl,rfl,by decide +kernel,rfl,by decide +kernel,by decide +kernel⟩
theorem BA (T:Txt K mg t):FnOk P w K mg base Xk 3 t.aZr t.dZr ["web","tree","tie"] (l9 K t.A_Web):=by
 refine T.fZr.ok BB (λvs H Q E h=>?_) (λXy A outer s H vs Q E hr h=>?_)
 .obtain⟨w,a,n,ps,kd,ns,z,rfl,_⟩:=h;rfl
 .obtain⟨w,a,n,ps,kd,ns,z,rfl,hW,hG,hS,hI,q⟩:=h;refine⟨_,(XQ (Zh (i:=3) BB.nd rfl (Or.inr rfl) (XF (Rk T) (hr.mono (by decide)) rfl T.mZf T.fZf.kp T.bZf .nil Zp (XZ (pv 0) (XZ (XF (IQ T) (hr.mono (by decide)) rfl T.mZb T.fZb.kp T.bZb .nil Zp (XZ (pv 1) (XZ (pv 2) XY))) XY))))
   (XI (Zi (Zr (ZC K) (by rfl) T.n_tuple Boot.«tuple» (XZ (SX rfl (sc0:=XB sZr) (N0:=["web","tree","tie","marks"]) (N':=["number","ends","marks"]) (o:=2) (fr:=[3]) ⟨rfl,by decide +kernel,by decide +kernel,by decide +kernel,rfl,by decide +kernel⟩ (LL K rfl T.n_enumerate (XZ (Zn K (pv 0) rfl) XY)) (EH (ON (by decide) (ON (by decide) EI))) (λ_ _ _ _=>(Qg (n:=2) K rfl (Zw (Zg (i:=0) (show List.Nodup (["number","ends","marks"]:List Str) by decide +kernel) rfl (Or.inl rfl)) (Zw (Zg (i:=1) (show List.Nodup (["number","ends","marks"]:List Str) by decide +kernel) rfl (Or.inl rfl)) Qw)))) (λ_ _ _ _=>(Wq (Zd RR (ZR (Zk K) (pv 2) (ZR (ZN K) (pv 1) Za (λ_ _=>rfl)) (λ_ _=>rfl)) (ZR (Zk K) (pv 2) (ZR (ZN K) (pv 1) Za (λ_ _=>rfl)) (λ_ _=>rfl)) (Zq _)))) (λ_ _ _ _=>(pv 0))) XY))))),?_⟩
  obtain⟨g1,g2,g3,g4⟩:=id hG;have hln:=hI.len
  have hb:∀ y∈wo ns z,0<=y/\y<(ps.length:Int):=λy hy=>hI.all y (Xq.mp hy).1;refine⟨_,rfl,_,rfl,_,rfl,a,kd,ns,z,rfl,hS,by lia,λr1 H1 s1 VU VY=>?_⟩;refine⟨w,r1,n,ps,wo ns z,rfl,hW.same s1,hG,SqT.of VY,hb,λm H2 s2 QI Wg=>?_⟩;have Wn:=ZK hG hb
  have e0:=ZA5 (M:=Xu n.toNat (XT ps (wo ns z))) hG (ZB _ _) (yY Wn);have hl:(Xu n.toNat (XT ps (wo ns z))).length=n.toNat:=ZB _ _
  rw[<- e0]at q;generalize Xu n.toNat (XT ps (wo ns z))=M at *;have WO:=s1.trans s2
  obtain⟨dx,tl,xs,h1,h2,h3⟩:=hW.same WO;have OD:=h3.1
  refine⟨_,rfl,w,_,dx,_,_,rfl,h1,T.cl_Web,T.n_Web_ties,QR _ _,tl,rfl,⟨_,SqL.of h2⟩,yM (K:=K) (a:=tl) (xs:=xs) (λi ys H3=>Same H2 H3/\i<=xs.length/\ys=IL (unlike M ps i)) ⟨Same.refl _,Yl _,rfl⟩ (Zl (by lia))
   (λi ys H3 _ ⟨e,_,ey⟩=>⟨SqL.of (e _ _ h2),by rw[ey,Xz];exact sG _ _ _⟩) ?_ ?_⟩
  .rintro i x ys H3 pt Uy hi ⟨s3,VG,rfl⟩ S Xl;obtain⟨p,Qf,tt,rfl,TN⟩:=h3.at hi;obtain⟨e1,e2,e3,e4⟩:=g4 p (Xg Qf);have Xp:i<xs.length:=(Xs.mp hi).1
   have s4:Same H3 (upd H3 pt (.tup [.int i,.ref tt])):=XM Uy;have Sg:=s3.trans s4
   have Pu:=Sg _ _ TN;have Bz:=Sg _ _ Wg
   have ed:ps.getD i (0,0)=p:=ZW Qf;have t0:VQ ([.int p.1,.int p.2]:List V) 0=some (.int p.1):=rfl
   have t1:VQ ([.int p.1,.int p.2]:List V) 1=some (.int p.2):=rfl;have iA:VQ (IL M) p.1=some (.int (mk M p.1.toNat)):=ZL (n:=p.1.toNat) (by lia) (UH (OG (by grind)))
   have iB:VQ (IL M) p.2=some (.int (mk M p.2.toNat)):=ZL (n:=p.2.toNat) (by lia) (UH (OG (by grind)));refine⟨pt,_,rfl,SqT.of XR,rfl,_,_,rfl,_,_,rfl,rfl,?_⟩;refine⟨_,rfl,_,rfl,tt,_,0,_,rfl,rfl,SqT.of Pu,t0,m,_,p.1,_,rfl,rfl,SqL.of Bz,iA,_,rfl,_,rfl,tt,_,1,_,rfl,rfl,SqT.of Pu,t1,m,_,p.2,_,rfl,rfl,SqL.of Bz,iB,rfl,_,rfl,?_⟩;rw[Zx];refine WW (λhe=>?_) (λhe=>?_)
   .refine Xl _ _ ⟨Sg,Xp,?_⟩;rw[gJ,ed,if_neg (by simpa using he),YF]
   .refine⟨_,rfl,Xl _ _ ⟨Sg,Xp,?_⟩⟩;rw[gJ,ed,if_pos he,ZO]
  .rintro ys H3 ⟨s3,_,rfl⟩ p hp;rw[OD];refine⟨p,_,rfl,.inl ⟨SqL.of XR,λr hr=>?_⟩⟩;exact q r _ (WO.trans (s3.trans (Zy (XM hp) hr))) ((WO.trans (s3.trans (XM hp))).free hr) XR
def l8(K:Ad)(C:Addr):Sp:=λvs H Q _=>∃(w a:Addr) (n:Int) (ps:Aa) (kd:Bool) (ns:Ac) (z:Int),vs=[.ref w,.ref a,.int z]/\WebAt C H w n ps/\Zu n ps/\SqK kd K H a (IL ns)/\-(10 ^ 70)<z/\z<10 ^ 70 /\
 (Ze n ps ns->z∉ns->0<=z->z<(ps.length:Int)->∀(ms:Ac),ms.Perm (UT n ps ns z ns++[z])->ms.Pairwise (·<=·)->∀(r:Addr) (H':Hp),Same H H'->H r=none->H' r=some (.tup (IL ms))->Q (.ref r) H') /\
 (Ze n ps ns->(z∈ns\/¬ (0<=z/\z<(ps.length:Int)))->∀ H':Hp,Same H H'->False)/\(¬ Ze n ps ns->∀ H':Hp,Same H H'->False)
theorem l7:FnScope ["web","tree","tie"] ["web","tree","tie"] (XB sZs):=⟨rfl,rfl,rfl,by decide +kernel,rfl,by decide +kernel,by decide +kernel⟩
theorem By (T:Txt K mg t):FnOk P w K mg base Xk 8 t.aZs t.dZs ["web","tree","tie"] (l8 K t.A_Web):=by
 refine T.fZs.ok l7 (λvs H Q E h=>?_) (λXy A outer s H vs Q E hr h=>?_)
 .obtain⟨w,a,n,ps,kd,ns,z,rfl,_⟩:=h;rfl
 .obtain⟨w,a,n,ps,kd,ns,z,rfl,hW,hG,hS,z0,z1,q,q1,q2⟩:=h;refine⟨_,(XQ (Wl (XF (IG T) (hr.mono (by decide)) rfl T.mZo T.fZo.kp T.bZo .nil Zp (XZ (pv 0) (XZ (pv 1) XY))))
   (XQ (WL (PW.pt (QV (Zd (Qh K) (pv 2) (pv 1) rfl) (Ku (OR (Qz (XF (BX T) (hr.mono (by decide)) rfl T.mZ6 T.fZ6.kp T.bZ6 .nil Zp (XZ (pv 0) (XZ (pv 2) XY))))))))
   (XI Vu)
   Zo)
   (XI (Zi (Zr (ZC K) (by rfl) T.n_tuple Boot.«tuple» (XZ (Zf (yT K) (by rfl) T.n_sorted Boot.«sorted» (XZ (Zs EY (SX rfl (sc0:=XB sZs) (N0:=["web","tree","tie"]) (N':=["out","tie","web","tree"]) (o:=1) (fr:=[2,0,1]) ⟨rfl,by decide +kernel,by decide +kernel,by decide +kernel,rfl,by decide +kernel⟩ (LM K (pv 1)) (Zv (by decide)) (λ_ _ _ _=>(Zg (i:=0) (show List.Nodup (["out","tie","web","tree"]:List Str) by decide +kernel) rfl (Or.inl rfl))) (λ_ _ _ _=>(Wq (Zd (Qh K) (pv 1) (XF (BA T) (hr.mono (by decide)) rfl T.mZr T.fZr.kp T.bZr .nil Zp (XZ (pv 2) (XZ (pv 3) (XZ (pv 0) XY)))) rfl))) (λ_ _ _ _=>(pv 0))) (Sv (XZ (pv 2) XY))) XY)) XY)))))),?_⟩
  refine⟨_,rfl,_,rfl,w,a,n,ps,kd,ns,rfl,hW,hG,hS,λhT H1 s1=>?_,q2⟩;have one:1<=sizeLine:=by decide
  have tl:ns.length<=20:=by have:=hT.2.1;have:=hG.2.1;lia
  refine⟨_,rfl,_,rfl,a,_,rfl,(hS.same s1).or,rfl,ZE _,_,rfl,?_⟩;rw[ZQ];refine Xf (λhc=>?_) (λhc=>?_)
  .exact Wj (q1 hT (.inl hc) H1 s1)
  .refine⟨_,rfl,_,rfl,w,n,ps,z,rfl,hW.same s1,_,rfl,?_⟩;refine WW (λht=>?_) (λht=>?_)
   .refine⟨_,rfl,a,rfl,y8 (k:=kd) (K:=K) (xs:=IL ns) (λi ys H2=>Same H1 H2/\i<=ns.length/\ys=IL (UT n ps ns z (ns.take i))) ⟨Same.refl _,Yl _,rfl⟩ (Zl (by rw[Xz];lia))
     (λi ys H2 hi ⟨e,VM,ey⟩=>⟨(hS.same s1).same e,by rw[ey,Xz];exact Yv (Hs ..) (by rw[Yy];lia)⟩) ?_ ?_⟩
    .rintro i x ys H2 hi ⟨s2,VG,rfl⟩ S Xl;obtain⟨y,rfl,hy⟩:=WU hi;have Xp:i<ns.length:=(Xs.mp hy).1
     have WO:=s1.trans s2;refine nm ?_;refine⟨_,rfl,_,rfl,_,rfl,_,rfl,w,a,n,ps,kd,ns,y,rfl,hW.same WO,hG,hS.same WO,hT.1,λr H3 s3 VU Uv=>?_⟩;refine⟨r,_,rfl,.inr (SqT.of Uv),rfl,ZE _,_,rfl,?_⟩;rw[ZQ];refine Xf (λhe=>?_) (λhe=>?_)
     .refine⟨_,rfl,Xl _ _ ⟨s2.trans s3,Xp,?_⟩⟩;rw[gH hy,if_pos he,ZO]
     .refine Xl _ _ ⟨s2.trans s3,Xp,?_⟩;rw[gH hy,if_neg he,YF]
    .rintro ys H2 ⟨s2,_,rfl⟩ p hp;rw[Xz,YI];have rl:=Hs n ps ns z ns
     refine⟨_,rfl,one,λp2 Wm=>?_⟩;refine sV (l2:=[z]) (by rw[Zb (Zc XR Wm)];exact XR) XR (by simp only [YA,Mg];lia) λp3 PF=>?_;refine⟨p3,_,rfl,SqL.of XR,by simp only [Xt,YA,Mg];lia,λms VN Uc p4 Uw=>?_⟩;refine⟨p4,IL ms,rfl,.inl ⟨SqL.of XR,λr hr=>?_⟩⟩;have s6:=(s1.trans s2).trans (Zy (Zy (XM (o:=.lst (IL (UT n ps ns z ns))) hp) (o:=.lst (IL [z])) Wm) (o:=.lst (IL (UT n ps ns z ns++[z]))) PF)
     exact q hT hc ht.1 ht.2 ms VN Uc r _ (s6.trans (Zy (XM Uw) hr)) ((s6.trans (XM Uw)).free hr) XR
   .exact q1 hT (.inr ht) H1 s1
def l6(K:Ad)(C:Addr):Sp:=λvs H Q _=>∃(w a:Addr) (n:Int) (ps:Aa) (kd:Bool) (ns:Ac) (o z:Int),vs=[.ref w,.ref a,.int o,.int z]/\WebAt C H w n ps/\Zu n ps/\SqK kd K H a (IL ns)/\-(10 ^ 70)<o/\o<10 ^ 70/\-(10 ^ 70)<z/\z<10 ^ 70 /\
 (Ze n ps ns->exg n ps ns o z->∀(ms:Ac),ms.Perm (wo ns o++[z])->ms.Pairwise (·<=·)->∀(r:Addr) (H':Hp),Same H H'->H r=none->H' r=some (.tup (IL ms))->Q (.ref r) H') /\
 (Ze n ps ns->¬ exg n ps ns o z->∀ H':Hp,Same H H'->False)/\(¬ Ze n ps ns->∀ H':Hp,Same H H'->False)
theorem l5:FnScope ["web","tree","out","into"] ["web","tree","out","into"] (XB sZt):=⟨rfl,rfl,rfl,by decide +kernel,rfl,by decide +kernel,by decide +kernel⟩
theorem lZ (T:Txt K mg t):FnOk P w K mg base Xk 8 t.aZt t.dZt ["web","tree","out","into"] (l6 K t.A_Web):=by
 refine T.fZt.ok l5 (λvs H Q E h=>?_) (λXy A outer s H vs Q E hr h=>?_)
 .obtain⟨w,a,n,ps,kd,ns,o,z,rfl,_⟩:=h;rfl
 .obtain⟨w,a,n,ps,kd,ns,o,z,rfl,hW,hG,hS,o0,o1,z0,z1,q,q1,q2⟩:=h;refine⟨_,(XQ (Wl (XF (IG T) (hr.mono (by decide)) rfl T.mZo T.fZo.kp T.bZo .nil Zp (XZ (pv 0) (XZ (pv 1) XY))))
   (XQ (WL (PW.pt (QV (Zd (ZP K) (pv 2) (pv 1) rfl) (QV (Zd Td (pv 3) (pv 2) (Zq _)) (Ku (Zd (ZP K) (pv 3) (XF (BA T) (hr.mono (by decide)) rfl T.mZr T.fZr.kp T.bZr .nil Zp (XZ (pv 0) (XZ (pv 1) (XZ (pv 2) XY)))) rfl)))))
   (XI Vu)
   Zo)
   (XI (Zi (Zr (ZC K) (by rfl) T.n_tuple Boot.«tuple» (XZ (Zf (gF K) (by rfl) T.n_sorted Boot.«sorted» (XZ (Zs (Jz K) (XF (IQ T) (hr.mono (by decide)) rfl T.mZb T.fZb.kp T.bZb .nil Zp (XZ (pv 1) (XZ (pv 2) XY))) (Uq (XZ (pv 3) XY))) XY)) XY)))))),?_⟩
  refine⟨_,rfl,_,rfl,w,a,n,ps,kd,ns,rfl,hW,hG,hS,λhT H1 s1=>?_,q2⟩;have one:1<=sizeLine:=by decide
  have tl:ns.length<=20:=by have:=hT.2.1;have:=hG.2.1;omega
  refine⟨_,rfl,_,rfl,a,_,rfl,(hS.same s1).or,rfl,ZE _,_,rfl,?_⟩;rw[ZQ];refine WW (λho=>?_) (λho=>?_);rotate_left
  .exact Wj (q1 hT (λh=>ho h.1) H1 s1)
  refine⟨_,rfl,_,rfl,rfl,_,rfl,?_⟩;rw[Zx];refine Xf (λhe=>?_) (λhe=>?_)
  .exact Wj (q1 hT (λh=>h.2.1 he) H1 s1)
  refine⟨_,rfl,_,rfl,_,rfl,_,rfl,w,a,n,ps,kd,ns,o,rfl,hW.same s1,hG,hS.same s1,hT.1,λr H2 s2 VU Wd=>?_⟩;have WO:=s1.trans s2
  refine⟨r,_,rfl,.inr (SqT.of Wd),rfl,ZE _,_,rfl,?_⟩;rw[ZQ];refine WW (λhc=>?_) (λhc=>?_)
  .have hx:exg n ps ns o z:=⟨ho,he,hc⟩;refine⟨_,rfl,_,rfl,a,kd,ns,o,rfl,hS.same WO,by omega,λr1 H3 s3 lY lX=>?_⟩;have wl:=yL ns o
   refine⟨_,rfl,one,λp2 Wm=>?_⟩;have s4:=XM (o:=.tup (IL [z])) Wm
   have GW:=(WO.trans s3).trans s4;refine⟨r1,p2,IL (wo ns o),IL [z],rfl,rfl,SqT.of (s4 _ _ lX),SqT.of XR,OI (by rw[Xz,Xz,YA,Mg];omega),λe=>?_,λ_ e=>(nomatch e),λ_ _ p3 PF=>?_⟩
   .have e0:wo ns o=[]:=by cases h:wo ns o with | nil=>rfl | cons x l=>rw[h]at e;cases e
    refine⟨p2,[z],rfl,SqT.of XR,by simp,λms VN Uc p4 Uw=>?_⟩;refine⟨p4,IL ms,rfl,.inl ⟨SqL.of XR,λr9 hr=>?_⟩⟩;exact q hT hx ms (by rw[e0];exact VN) Uc r9 _ (GW.trans (Zy (XM Uw) hr)) ((GW.trans (XM Uw)).free hr) XR
   .have Bx:=GW.trans (XM (o:=.tup (IL (wo ns o)++IL [z])) PF);refine⟨p3,wo ns o++[z],rfl,SqT.of (by rw[XR];congr 2;exact(YL ..).symm),by simp only [Xt,YA,Mg];omega,λms VN Uc p4 Uw=>?_⟩;refine⟨p4,IL ms,rfl,.inl ⟨SqL.of XR,λr9 hr=>?_⟩⟩;exact q hT hx ms VN Uc r9 _ (Bx.trans (Zy (XM Uw) hr)) ((Bx.trans (XM Uw)).free hr) XR
  .exact q1 hT (λh=>hc h.2.2) H2 WO
def lW(K:Ad)(C:Addr):Sp:=λvs H Q _=>∃(w a b:Addr) (n:Int) (ps:Aa) (I O:Ac),vs=[.ref w,.ref a,.ref b]/\WebAt C H w n ps/\Zu n ps/\SqT K H a (IL I)/\SqT K H b (IL O)/\I.Nodup/\(∀ z∈I,0<=z/\z<(ps.length:Int))/\(∀ z∈I,z∉O) /\
 (∀ H':Hp,Same H H'->(∀ U,¬ With n ps I O U)->Q .non H') /\
 (∀(r:Addr) (F:Ac) (H':Hp),Same H H'->H' r=some (.tup (IL F))->With n ps I O F->(∀ U,With n ps I O U->HT.lexLt U F=false)->Q (.ref r) H')
theorem lT:FnScope ["web","inside","outside"] ["web","inside","outside"] (XB sZu):=⟨rfl,rfl,rfl,by decide +kernel,rfl,by decide +kernel,by decide +kernel⟩
theorem Bw (T:Txt K mg t):FnOk P w K mg base Xk 4 t.aZu t.dZu ["web","inside","outside"] (lW K t.A_Web):=by
 refine T.fZu.ok lT (λvs H Q E h=>?_) (λXy A outer s H vs Q E hr h=>?_)
 .obtain⟨w,a,b,n,ps,I,O,rfl,_⟩:=h;rfl
 .obtain⟨w,a,b,n,ps,I,O,rfl,hW,hG,hA,hB,hIn,Xo,hd,q0,q1⟩:=h;refine⟨_,(XI (Zi (XF (BG T) (hr.mono (by decide)) rfl T.mZp T.fZp.kp T.bZp .nil Zp (XZ (pv 0) (XZ (pv 1) (XZ (XF (ny T) (hr.mono (by decide)) rfl T.mZa T.fZa.kp T.bZa .nil Zp (XZ (pv 0) (XZ (pv 2) XY))) XY)))))),?_⟩;have g3:=hG.2.2.1
  refine⟨_,rfl,_,rfl,_,rfl,_,rfl,w,b,n,ps,true,O,rfl,hW,by lia,hB,λD cx hD dA H1 s1 lS=>?_⟩;have hDs:IsSet ps.length D:=XX.mpr ⟨λz hz=>((hD z).mp hz).1,cx⟩
  have hb:∀ z∈I++D,0<=z/\z<(ps.length:Int):=λz hz=>(Xx.mp hz).elim (Xo z) λh=>((hD z).mp h).1;have il:I.length<=ps.length:=by
   have:=Jv (m:=Wz ps.length) hIn λz hz=>XE.mpr (Xo z hz)
   rw[ZI]at this;exact this
  have dl:=hDs.len;refine⟨w,a,dA,n,ps,true,true,I,D,rfl,hW.same s1,hG,LO s1 hA,SqT.of lS,by lia,by lia,hb,λh H2 s2=>q0 H2 (s1.trans s2) λU hU=>?_,λht hl r ms H2 VN Uc s2 VU hr=>?_⟩
  .have:=DK hG hU.1 hIn hU.2.1 (hU.sub hD) hb
   rcases h with h | h
   .exact h this.1
   .exact this.2 h
  .have hF:With n ps I O ms:=⟨ZO5 hG hb hl VN Uc,λz hz=>VN.mem_iff.mpr (z4 (ht ▸ hz)),λz hz h=>(Xx.mp ((yG _ _ _).subset (VN.mem_iff.mp h))).elim (λh=>hd z h hz) λh=>((hD z).mp h).2 hz⟩;exact q1 r ms H2 (s1.trans s2) hr hF λU hU=>rJ hG hU.1 hU.2.1 (hU.sub hD) hb cx hF.1 VN hF.2.1
def lR(K:Ad)(C:Addr):Sp:=λvs H Q _=>∃(w m:Addr) (n:Int) (ps:Aa) (M:Ac) (z:Int),vs=[.ref w,.ref m,.int z]/\WebAt C H w n ps/\Zu n ps/\H m=some (.lst (IL M))/\M.length=n.toNat/\0<=z/\z<(ps.length:Int) /\
 ∀(r:Addr) (l:Ac) (H':Hp),l.Perm [mk M (ps.getD z.toNat (0,0)).1.toNat,mk M (ps.getD z.toNat (0,0)).2.toNat]->l.Pairwise (·<=·)->Same H H'->H' r=some (.lst (IL l))->Q (.ref r) H'
theorem Bv:FnScope ["web","marks","tie","ends"] ["web","marks","tie"] (XB sZv):=⟨rfl,rfl,rfl,by decide +kernel,rfl,by decide +kernel,by decide +kernel⟩
theorem Bu (T:Txt K mg t):FnOk P w K mg base Xk 1 t.aZv t.dZv ["web","marks","tie"] (lR K t.A_Web):=by
 refine T.fZv.ok Bv (λvs H Q E h=>?_) (λXy A outer s H vs Q E hr h=>?_)
 .obtain⟨w,m,n,ps,M,z,rfl,_⟩:=h;rfl
 .obtain⟨w,m,n,ps,M,z,rfl,hW,hG,hM,Sf,z0,z1,q⟩:=h;refine⟨_,(XQ (Zh (i:=3) Bv.nd rfl (Or.inl rfl) (ZR (Zk K) (Zn K (pv 0) rfl) (pv 2) (λ_ _=>rfl)))
   (XI (Zi (Zf (yT K) (by rfl) T.n_sorted Boot.«sorted» (XZ (Sv (XZ (ZR (Zk K) (pv 1) (ZR (ZN K) (pv 3) Za (λ_ _=>rfl)) (λ_ _=>rfl)) (XZ (ZR (Zk K) (pv 1) (ZR (ZN K) (pv 3) Za (λ_ _=>rfl)) (λ_ _=>rfl)) XY))) XY))))),?_⟩
  obtain⟨g1,g2,g3,g4⟩:=id hG;obtain⟨dx,tl,xs,h1,h2,h3⟩:=id hW;obtain⟨p,hp⟩:∃ p,ps[z.toNat]?=some p:=⟨_,Xn (by lia)⟩;have ep:ps.getD z.toNat (0,0)=p:=ZW hp
  rw[ep]at q;obtain⟨v,hv,tt,rfl,TN⟩:=h3.2 _ p hp;obtain⟨e1,e2,e3,e4⟩:=g4 p (Xg hp);have t0:VQ ([.int p.1,.int p.2]:List V) 0=some (.int p.1):=rfl
  have t1:VQ ([.int p.1,.int p.2]:List V) 1=some (.int p.2):=rfl;have iA:VQ (IL M) p.1=some (.int (mk M p.1.toNat)):=ZL (n:=p.1.toNat) (by lia) (UH (OG (by grind)))
  have iB:VQ (IL M) p.2=some (.int (mk M p.2.toNat)):=ZL (n:=p.2.toNat) (by lia) (UH (OG (by grind)));refine⟨_,rfl,w,_,dx,_,_,rfl,h1,T.cl_Web,T.n_Web_ties,QR _ _,_,rfl,tl,_,_,.ref tt,rfl,rfl,SqL.of h2,ZL (n:=z.toNat) (by lia) hv,?_⟩;refine nm ?_;refine⟨_,rfl,_,rfl,tt,_,0,_,rfl,rfl,SqT.of TN,t0,m,_,p.1,_,rfl,rfl,SqL.of hM,iA,_,rfl,_,rfl,tt,_,1,_,rfl,rfl,SqT.of TN,t1,m,_,p.2,_,rfl,rfl,SqL.of hM,iB,(by show 2<=sizeLine;decide),λa ha=>?_⟩;have s1:=XM (o:=.lst (IL [mk M p.1.toNat,mk M p.2.toNat])) ha
  refine⟨a,[mk M p.1.toNat,mk M p.2.toNat],rfl,SqL.of XR,(by show 2<64;decide),λl hl hs r hr=>?_⟩;exact q r l _ hl hs (s1.trans (XM hr)) XR
def lQ(K:Ad)(C:Addr):Sp:=λvs H Q _=>∃(w m a:Addr) (n:Int) (ps:Aa) (M g:Ac),vs=[.ref w,.ref m,.ref a]/\WebAt C H w n ps/\Zu n ps/\H m=some (.lst (IL M))/\M.length=n.toNat/\SqT K H a (IL g) /\
 ∀(r:Addr) (H':Hp),Same H H'->H r=none->H' r=some (.lst (IL (MV M ps g ps.length)))->Q (.ref r) H'
theorem lP:FnScope ["web","marks","gone"] ["web","marks","gone"] (XB sZw):=⟨rfl,rfl,rfl,by decide +kernel,rfl,by decide +kernel,by decide +kernel⟩
theorem Bt (T:Txt K mg t):FnOk P w K mg base Xk 1 t.aZw t.dZw ["web","marks","gone"] (lQ K t.A_Web):=by
 refine T.fZw.ok lP (λvs H Q E h=>?_) (λXy A outer s H vs Q E hr h=>?_)
 .obtain⟨w,m,a,n,ps,M,g,rfl,_⟩:=h;rfl
 .obtain⟨w,m,a,n,ps,M,g,rfl,hW,hG,hM,Sf,hA,q⟩:=h;refine⟨_,(XI (Zi (SX rfl (sc0:=XB sZw) (N0:=["web","marks","gone"]) (N':=["tie","ends","gone","marks"]) (o:=2) (fr:=[2,1]) ⟨rfl,by decide +kernel,by decide +kernel,by decide +kernel,rfl,by decide +kernel⟩ (LL K rfl T.n_enumerate (XZ (Zn K (pv 0) rfl) XY)) (EH (ON (by decide) (ON (by decide) EI))) (λ_ _ _ _=>(Qg (n:=2) K rfl (Zw (Zg (i:=0) (show List.Nodup (["tie","ends","gone","marks"]:List Str) by decide +kernel) rfl (Or.inl rfl)) (Zw (Zg (i:=1) (show List.Nodup (["tie","ends","gone","marks"]:List Str) by decide +kernel) rfl (Or.inl rfl)) Qw)))) (λ_ _ _ _=>(Wq (PW.pt (vW (Zd (ZP K) (pv 0) (pv 2) rfl) (vX (Zd RR (ZR (Zk K) (pv 3) (ZR (ZN K) (pv 1) Za (λ_ _=>rfl)) (λ_ _=>rfl)) (ZR (Zk K) (pv 3) (ZR (ZN K) (pv 1) Za (λ_ _=>rfl)) (λ_ _=>rfl)) (Zq _))))))) (λ_ _ _ _=>(pv 0))))),?_⟩;obtain⟨g1,g2,g3,g4⟩:=id hG;obtain⟨dx,tl,xs,h1,h2,h3⟩:=id hW;have OD:=h3.1
  refine⟨_,rfl,w,_,dx,_,_,rfl,h1,T.cl_Web,T.n_Web_ties,QR _ _,tl,rfl,⟨_,SqL.of h2⟩,yM (K:=K) (a:=tl) (xs:=xs) (λi ys H3=>Same H H3/\i<=xs.length/\ys=IL (MV M ps g i)) ⟨Same.refl _,Yl _,rfl⟩ (Zl (by lia))
   (λi ys H3 _ h=>by obtain⟨e,_,ey⟩:=h;exact⟨SqL.of (e _ _ h2),by rw[ey,Xz];exact oV _ _ _ _⟩) ?_ ?_⟩
  .rintro i x ys H3 pt Uy hi ⟨s3,VG,rfl⟩ S Xl;obtain⟨p,Qf,tt,rfl,TN⟩:=h3.at hi;obtain⟨e1,e2,e3,e4⟩:=g4 p (Xg Qf);have Xp:i<xs.length:=(Xs.mp hi).1
   have s4:Same H3 (upd H3 pt (.tup [.int i,.ref tt])):=XM Uy;have Sg:=s3.trans s4
   have Pu:=Sg _ _ TN;have Bz:=Sg _ _ hM
   have Tq:=SqK.same (k:=true) Sg hA;have ed:ps.getD i (0,0)=p:=ZW Qf
   have t0:VQ ([.int p.1,.int p.2]:List V) 0=some (.int p.1):=rfl;have t1:VQ ([.int p.1,.int p.2]:List V) 1=some (.int p.2):=rfl
   have iA:VQ (IL M) p.1=some (.int (mk M p.1.toNat)):=ZL (n:=p.1.toNat) (by lia) (UH (OG (by grind)));have iB:VQ (IL M) p.2=some (.int (mk M p.2.toNat)):=ZL (n:=p.2.toNat) (by lia) (UH (OG (by grind)))
   have hs:=ZY9 M ps g i;rw[ed]at hs;refine⟨pt,_,rfl,SqT.of XR,rfl,_,_,rfl,_,_,rfl,rfl,?_⟩;refine⟨_,rfl,_,rfl,a,_,rfl,.inr Tq,rfl,ZE _,_,rfl,?_⟩;rw[ZQ];refine WW (λhe=>?_) (λhe=>?_)
   .refine Xl _ _ ⟨Sg,Xp,?_⟩;rw[hs,if_neg (λh=>h.1 he),YF]
   refine⟨_,rfl,_,rfl,tt,_,0,_,rfl,rfl,SqT.of Pu,t0,m,_,p.1,_,rfl,rfl,SqL.of Bz,iA,_,rfl,_,rfl,tt,_,1,_,rfl,rfl,SqT.of Pu,t1,m,_,p.2,_,rfl,rfl,SqL.of Bz,iB,rfl,_,rfl,?_⟩;rw[Zx];refine WW (λhx=>?_) (λhx=>?_)
   .refine Xl _ _ ⟨Sg,Xp,?_⟩;rw[hs,if_neg (λh=>h.2 hx),YF]
   .refine⟨_,rfl,Xl _ _ ⟨Sg,Xp,?_⟩⟩;rw[hs,if_pos ⟨he,hx⟩,ZO]
  .rintro ys H3 ⟨s3,_,rfl⟩ p hp;rw[OD];exact q p _ (s3.trans (XM hp)) (s3.free hp) XR
def lO(st:Stmt):Pos:=match (OO st).getD 9 (.Pass ⟨0,0,0,0⟩) with
 | .Assign _ (.Call _ _ [k] _) _=>(match k.value with
  | .Lambda _ _ _ p=>p
  | _=>⟨0,0,0,0⟩)
 | _=>⟨0,0,0,0⟩
def lN:Str:=Str.ofString "Part.__init__"++Str.ofString ".<locals>."++Str.ofString "<lambda>"
abbrev Xi(H:Hp)(Pt:Addr):Prop:=TabH H Pt (lO sZx) lN
def cu(K:Ad)(CP C Pt:Addr):Sp:=λvs H Q _=>∃(x dx w a b:Addr) (n:Int) (ps:Aa) (I O:Ac) (ld:Option Int),vs=[.ref x,.ref w,.ref a,.ref b,Xc ld]/\H x=some (.ins CP dx [])/\WebAt C H w n ps/\Zu n ps/\Xi H Pt /\
 SqT K H a (IL I)/\SqT K H b (IL O)/\I.Nodup/\(∀ z∈I,0<=z/\z<(ps.length:Int))/\(∀ z∈I,z∉O)/\O.length<=30/\(∃ U,With n ps I O U)/\(∀ y,ld=some y->0<=y/\y<(ps.length:Int))/\(ld=none->∀ F,With n ps I O F->(∀ U,With n ps I O U->HT.lexLt U F=false)->WV n ps I O F=[]) /\
 ∀(F inc:Ac) (fu:Option Int) (l i:Addr) (H':Hp),With n ps I O F->(∀ U,With n ps I O U->HT.lexLt U F=false)->Sj (λz=>PyProof.Rows.b2i (decide (ld=some z))) (TR n ps I O F ld) inc->(fu=none↔Wb n ps I O F ld=[])->(∀ y,fu=some y->y∈Wb n ps I O F ld/\∀ z∈Wb n ps I O F ld,y<=z) ->
  H' x=some (.ins CP dx (x8 (.ref w) (.ref a) (.ref b) (Xc ld) (.ref l) (.ref i) (Xc fu)))->H' l=some (.tup (IL F))->H' i=some (.lst (IL inc))->(∀ b o,b≠x->b≠Pt->H b=some o->H' b=some o)->Xi H' Pt->Q .non H'
theorem Pr:FnScope ["self","web","kept","shut","lead","marks","opened","alike","unlike"] ["self","web","kept","shut","lead"] (XB sZx):=⟨rfl,rfl,rfl,by decide +kernel,rfl,by decide +kernel,by decide +kernel⟩
theorem IE {Pt:Addr} (T:Txt K mg t) (hB:SS K mg base t.dZx Pt):FnOk P w K mg base Xk 8 t.aZx t.dZx ["self","web","kept","shut","lead"] (cu K t.A_Part t.A_Web Pt):=by
 obtain⟨cA,UR,hC,hBa,CY⟩:=hB;refine T.fZx.okL UR Pr (λvs H Q E h=>?_) (λA outer s H vs Q E hr h=>?_)
 .obtain⟨x,dx,w,a,b,n,ps,I,O,ld,rfl,_⟩:=h;rfl
 .obtain⟨x,dx,w,a,b,n,ps,I,O,ld,rfl,hx,hW,hG,hT,hA,Se,hIn,Xo,Vk,Sd,⟨U0,GV⟩,Cf,Sq,q⟩:=h;refine⟨_,(XQ (NS (pv 0) (pv 1) rfl)
   (XQ (NS (pv 0) (pv 2) rfl)
   (XQ (NS (pv 0) (pv 3) rfl)
   (XQ (NS (pv 0) (pv 4) rfl)
   (XQ (NS (pv 0) (XF (Bw T) (hr.mono (by decide)) rfl T.mZu T.fZu.kp T.bZu .nil Zp (XZ (pv 1) (XZ (pv 2) (XZ (pv 3) XY)))) rfl)
   (XQ (Zh (i:=5) Pr.nd rfl (Or.inr rfl) (XF (Rk T) (hr.mono (by decide)) rfl T.mZf T.fZf.kp T.bZf .nil Zp (XZ (pv 1) (XZ (pv 2) XY))))
   (XQ (Zh (i:=6) Pr.nd rfl (Or.inl rfl) (XF (Bt T) (hr.mono (by decide)) rfl T.mZw T.fZw.kp T.bZw .nil Zp (XZ (pv 1) (XZ (pv 5) (XZ (Zs (Jz K) (Zs (Jz K) (pv 2) (pv 3)) (Zn K (pv 0) rfl)) XY)))))
   (XQ (Zh (i:=7) Pr.nd rfl (Or.inr rfl) (SX rfl (sc0:=XB sZx) (N0:=["self","web","kept","shut","lead","marks","opened","alike","unlike"]) (N':=["tie","web","marks","lead"]) (o:=1) (fr:=[1,5,4]) ⟨rfl,by decide +kernel,by decide +kernel,by decide +kernel,rfl,by decide +kernel⟩ (OH K (pv 6)) (Zv (by decide)) (λ_ _ _ _=>(Zg (i:=0) (show List.Nodup (["tie","web","marks","lead"]:List Str) by decide +kernel) rfl (Or.inl rfl))) (λ_ _ _ _=>(Wq (Zd (tD K (NG hr)) (XF (Bu T) (hr.mono (by decide)) rfl T.mZv T.fZv.kp T.bZv .nil Zp (XZ (pv 1) (XZ (pv 2) (XZ (pv 0) XY)))) (XF (Bu T) (hr.mono (by decide)) rfl T.mZv T.fZv.kp T.bZv .nil Zp (XZ (pv 1) (XZ (pv 2) (XZ (pv 3) XY)))) (Zq _)))) (λ_ _ _ _=>(pv 0))))
   (XQ (RM (i:=8) rfl Pr.nd rfl rfl (sc0:=XB sZx) (N0:=["self","web","kept","shut","lead","marks","opened","alike","unlike"]) (N':=["tie","alike"]) (o:=1) (fr:=[7]) ⟨rfl,by decide +kernel,by decide +kernel,by decide +kernel,rfl,by decide +kernel⟩ (OH K (pv 6)) (Zv (by decide)) (λ_ _ _ _=>(Zg (i:=0) (show List.Nodup (["tie","alike"]:List Str) by decide +kernel) rfl (Or.inl rfl))) (λ_ _ _ _=>(Wq (Zd (ZP K) (pv 0) (pv 1) rfl))) (λ_ _ _ _=>(pv 0)))
   (XQ (NS (pv 0) (ZH5 (k:=0) (i:=4) (v:="tie") (x:="lead") (pv 7) (by rfl) T.n_sorted (hr.mono (by decide)) rfl rfl hC hBa CY (LamScope.of rfl rfl rfl (by first | exact .inl rfl | exact .inr rfl) (by decide)) rfl rfl (λ_ _ _ _=>rfl) rfl rfl rfl (λ_ _ _ _ _ _ hr=>(NV Td (pv 0) (pv 1) (Zq _)))) rfl)
   (XI (NS (pv 0) (dN rfl (by rfl) T.n_min (pv 8)) rfl)))))))))))),?_⟩
  obtain⟨g1,g2,g3,g4⟩:=id hG;refine⟨_,rfl,_,rfl,x,_,dx,[],rfl,hx,T.cl_Part,T.n_Part_web,(by show 0<1000;decide),?_⟩;refine⟨_,rfl,_,rfl,x,_,dx,_,rfl,XR,T.cl_Part,T.n_Part_kept,(by show 1<1000;decide),?_⟩;refine⟨_,rfl,_,rfl,x,_,dx,_,rfl,XR,T.cl_Part,T.n_Part_shut,(by show 2<1000;decide),?_⟩;refine⟨_,rfl,_,rfl,x,_,dx,_,rfl,XR,T.cl_Part,T.n_Part_lead,(by show 3<1000;decide),?_⟩;change Vv _ _ _ [some (.ref x),some (.ref w),some (.ref a),some (.ref b),some (Xc ld),none,none,none,none] (upd (upd (upd (upd H x (.ins t.A_Part dx (XO "web" (.ref w) []))) x (.ins t.A_Part dx (XO "kept" (.ref a) (XO "web" (.ref w) [])))) x (.ins t.A_Part dx (XO "shut" (.ref b) (XO "kept" (.ref a) (XO "web" (.ref w) []))))) x (.ins t.A_Part dx (XO "lead" (Xc ld) (XO "shut" (.ref b) (XO "kept" (.ref a) (XO "web" (.ref w) []))))));have TM:SameX x H (upd (upd (upd (upd H x (.ins t.A_Part dx (XO "web" (.ref w) []))) x (.ins t.A_Part dx (XO "kept" (.ref a) (XO "web" (.ref w) [])))) x (.ins t.A_Part dx (XO "shut" (.ref b) (XO "kept" (.ref a) (XO "web" (.ref w) []))))) x (.ins t.A_Part dx (XO "lead" (Xc ld) (XO "shut" (.ref b) (XO "kept" (.ref a) (XO "web" (.ref w) [])))))):=((WI.trans WI).trans WI).trans WI
  have xJ:(upd (upd (upd (upd H x (.ins t.A_Part dx (XO "web" (.ref w) []))) x (.ins t.A_Part dx (XO "kept" (.ref a) (XO "web" (.ref w) [])))) x (.ins t.A_Part dx (XO "shut" (.ref b) (XO "kept" (.ref a) (XO "web" (.ref w) []))))) x (.ins t.A_Part dx (XO "lead" (Xc ld) (XO "shut" (.ref b) (XO "kept" (.ref a) (XO "web" (.ref w) [])))))) x=some (.ins t.A_Part dx [("web",.ref w),("kept",.ref a),("shut",.ref b),("lead",Xc ld)]):=XR;generalize upd (upd (upd (upd H x (.ins t.A_Part dx (XO "web" (.ref w) []))) x (.ins t.A_Part dx (XO "kept" (.ref a) (XO "web" (.ref w) [])))) x (.ins t.A_Part dx (XO "shut" (.ref b) (XO "kept" (.ref a) (XO "web" (.ref w) []))))) x (.ins t.A_Part dx (XO "lead" (Xc ld) (XO "shut" (.ref b) (XO "kept" (.ref a) (XO "web" (.ref w) [])))))=H4 at *;have Ot:=hW.but hx TM
  have Tq:=CI hA hx TM;have my:=CI Se hx TM
  have il:I.length<=ps.length:=by
   have:=Jv (m:=Wz ps.length) hIn λz hz=>XE.mpr (Xo z hz)
   rw[ZI]at this;exact this
  refine⟨_,rfl,_,rfl,_,rfl,w,a,b,n,ps,I,O,rfl,Ot,hG,Tq,my,hIn,Xo,Vk,λH5 s5 h=>absurd GV (h U0),λl F H5 s5 hl hF VL=>?_⟩;refine⟨_,rfl,x,_,dx,_,rfl,s5 _ _ xJ,T.cl_Part,T.n_Part_least,(by show 4<1000;decide),?_⟩;have Sb:SameX x H H5:=TM.trans (SameX.same s5)
  have Pq:SameX x H (upd H5 x (.ins t.A_Part dx (XO "least" (.ref l) [("web",.ref w),("kept",.ref a),("shut",.ref b),("lead",Xc ld)]))):=Sb.trans WI;have cq:(upd H5 x (.ins t.A_Part dx (XO "least" (.ref l) [("web",.ref w),("kept",.ref a),("shut",.ref b),("lead",Xc ld)]))) x=some (.ins t.A_Part dx [("web",.ref w),("kept",.ref a),("shut",.ref b),("lead",Xc ld),("least",.ref l)]):=XR
  have BP:(upd H5 x (.ins t.A_Part dx (XO "least" (.ref l) [("web",.ref w),("kept",.ref a),("shut",.ref b),("lead",Xc ld)]))) l=some (.tup (IL F)):=by rw[Zb (λe=>by rw[e,s5 _ _ xJ]at hl;cases hl)];exact hl
  change Vv _ _ _ [some (.ref x),some (.ref w),some (.ref a),some (.ref b),some (Xc ld),none,none,none,none] (upd H5 x (.ins t.A_Part dx (XO "least" (.ref l) [("web",.ref w),("kept",.ref a),("shut",.ref b),("lead",Xc ld)])));generalize upd H5 x (.ins t.A_Part dx (XO "least" (.ref l) [("web",.ref w),("kept",.ref a),("shut",.ref b),("lead",Xc ld)]))=H6 at *;refine⟨_,rfl,_,rfl,w,a,n,ps,I,rfl,hW.but hx Pq,hG,CI hA hx Pq,Xo,λm H7 s7 QI xE=>?_⟩;refine nm ?_;dsimp only [List.set];have lM:SameX x H H7:=Pq.trans (SameX.same s7)
  have lK:F.length<=ps.length:=hF.1.1.len;have Sf:(Xu n.toNat (XT ps I)).length=n.toNat:=ZB _ _
  refine⟨_,rfl,_,rfl,_,rfl,_,rfl,?_⟩;refine CH (l:=I) (m:=O) (CI hA hx lM) (CI Se hx lM) (by lia) λr1 H8 s8 VY=>?_;have xD:SameX x H H8:=lM.trans (SameX.same s8)
  have lJ:=s7.trans s8;refine⟨_,rfl,x,_,dx,_,.ref l,rfl,lJ _ _ cq,T.cl_Part,T.n_Part_least,rfl,?_⟩;refine CH (l:=I++O) (m:=F) VY (SqT.of (lJ _ _ BP)) (by rw[Xt];lia) λr2 H9 s9 Wd=>?_;have s69:=lJ.trans s9
  have Bs:SameX x H H9:=xD.trans (SameX.same s9);have xG:=s8.trans s9
  refine⟨w,m,r2,n,ps,Xu n.toNat (XT ps I),I++O++F,rfl,hW.but hx Bs,hG,xG _ _ xE,Sf,Wd,λpA Tp Rg hp0 Pp=>?_⟩;have Pp:Tp pA=some (.lst (IL (WV n ps I O F))):=Pp
  refine nm ?_;dsimp only [List.set];have cn:SameX x H Tp:=Bs.trans (SameX.same Rg)
  have s6A:=s69.trans Rg;have cm:=(xG.trans Rg) _ _ xE
  have Qm:∀ z∈WV n ps I O F,0<=z/\z<(ps.length:Int):=λz hz=>dJ hz;have Sr:(WV n ps I O F).length<=ps.length:=oV _ _ _ _
  refine⟨_,rfl,pA,rfl,⟨_,SqL.of Pp⟩,UG (K:=K) (a:=pA) (xs:=IL (WV n ps I O F)) (λi ws MG=>Same Tp MG/\i<=(WV n ps I O F).length/\ws=IL (((WV n ps I O F).take i).filter λz=>decide (∃ y,ld=some y/\UQ (Xu n.toNat (XT ps I)) ps z=UQ (Xu n.toNat (XT ps I)) ps y))) ⟨Same.refl _,Yl _,rfl⟩ (Zl (by rw[Xz];lia))
   (λi ws MG hi h=>by obtain⟨e,VM,ew⟩:=h;exact⟨SqL.of (e _ _ Pp),by rw[ew,Xz];exact Yv (YB ..) (by rw[Yy];lia)⟩) ?_ ?_⟩
  .rintro i v ws MG hi ⟨II,VG,rfl⟩ S Xl;obtain⟨z,rfl,hz⟩:=WU hi;obtain⟨z0,z1⟩:=Qm z (Xg hz);have Xp:i<(WV n ps I O F).length:=(Xs.mp hz).1
   obtain⟨y,rfl⟩:∃ y,ld=some y:=by
    cases ld with
    | some y=>exact⟨y,rfl⟩
    | none =>
     rw[Sq rfl F hF VL]at Xp;exact absurd Xp (Wy _)
   obtain⟨y0,y1⟩:=Cf y rfl;refine nm ?_;refine⟨_,rfl,_,rfl,_,rfl,w,m,n,ps,_,z,rfl,hW.but hx (cn.trans (SameX.same II)),hG,II _ _ cm,Sf,z0,z1,λe1 l1 H12 SO hs1 WO Ds=>?_⟩;have ID:=II.trans WO
   refine⟨_,rfl,_,rfl,_,rfl,w,m,n,ps,_,y,rfl,hW.but hx (cn.trans (SameX.same ID)),hG,ID _ _ cm,Sf,y0,y1,λe2 l2 H13 QU RQ cg Qk=>?_⟩;refine⟨1,_,e1,e2,rfl,rfl,by decide,gO (SqL.of (cg _ _ Ds)) (SqL.of Qk),_,rfl,?_⟩;have ed:decide (l1=l2)=decide (∃ cf,some y=some cf/\UQ (Xu n.toNat (XT ps I)) ps z=UQ (Xu n.toNat (XT ps I)) ps cf):=by
    rw[dM SO hs1,dM QU RQ,wW];constructor
    .intro e;injection e with e1 e2
     injection e2 with e2 _;exact⟨y,rfl,Prod.ext e1 e2⟩
    .rintro⟨y',e,e'⟩;cases e;obtain⟨e1,e2⟩:=Prod.mk.inj e';rw[e1,e2]
   have Br:=ID.trans cg;show(if decide (l1=l2)=true then _ else _)
   rw[ed];refine Xf (λhc=>?_) (λhc=>?_)
   .refine⟨_,rfl,Xl _ _ ⟨Br,Xp,?_⟩⟩;rw[Zz hz,if_pos (Yn hc),ZO]
   .refine Xl _ _ ⟨Br,Xp,?_⟩;rw[Zz hz,if_neg (by simpa using hc),YF]
  rintro ws MG ⟨II,_,rfl⟩ kA hkA;rw[Xz,YI];have ea:((WV n ps I O F).filter λz=>decide (∃ y,ld=some y/\UQ (Xu n.toNat (XT ps I)) ps z=UQ (Xu n.toNat (XT ps I)) ps y))=TR n ps I O F ld:=rfl
  rw[ea];have cX:(TR n ps I O F ld).length<=ps.length:=Yv (YB ..) Sr
  have v1:=XM (o:=.lst (IL (TR n ps I O F ld))) hkA;have kK:(upd MG kA (.lst (IL (TR n ps I O F ld)))) kA=some (.lst (IL (TR n ps I O F ld))):=XR
  refine nm ?_;dsimp only [List.set];have cb:=II.trans v1
  change Vv _ _ _ _ (upd MG kA (.lst (IL (TR n ps I O F ld))));generalize upd MG kA (.lst (IL (TR n ps I O F ld)))=H14 at *;have b9:=cb _ _ Pp
  refine⟨_,rfl,pA,rfl,⟨_,SqL.of b9⟩,UG (K:=K) (a:=pA) (xs:=IL (WV n ps I O F)) (λi ws Li=>Li=H14/\i<=(WV n ps I O F).length/\ws=IL (((WV n ps I O F).take i).filter λz=>decide (z∉TR n ps I O F ld))) ⟨rfl,Yl _,rfl⟩ (Zl (by rw[Xz];lia))
   (λi ws Li hi h=>by obtain⟨e,VM,ew⟩:=h;exact⟨e ▸ SqL.of b9,by rw[ew,Xz];exact Yv (YB ..) (by rw[Yy];lia)⟩) ?_ ?_⟩
  .rintro i v ws Li hi ⟨rfl,VG,rfl⟩ S Xl;obtain⟨z,rfl,hz⟩:=WU hi;have Xp:i<(WV n ps I O F).length:=(Xs.mp hz).1
   refine nm ?_;refine⟨_,rfl,_,rfl,kA,_,rfl,.inl (SqL.of kK),rfl,ZE _,_,rfl,?_⟩;rw[ZQ];refine WW (λhe=>?_) (λhe=>?_)
   .refine Xl _ _ ⟨rfl,Xp,?_⟩;rw[Zz hz,if_neg (by simpa using he),YF]
   .refine⟨_,rfl,Xl _ _ ⟨rfl,Xp,?_⟩⟩;rw[Zz hz,if_pos (Yn he),ZO]
  rintro ws Li ⟨rfl,_,rfl⟩ uA Bq;rw[Xz,YI];have eu:((WV n ps I O F).filter λz=>decide (z∉TR n ps I O F ld))=Wb n ps I O F ld:=rfl
  rw[eu];have v2:=XM (o:=.lst (IL (Wb n ps I O F ld))) Bq
  have kU:(upd Li uA (.lst (IL (Wb n ps I O F ld)))) uA=some (.lst (IL (Wb n ps I O F ld))):=XR;refine nm ?_;dsimp only [List.set];have lI:=(s6A.trans cb).trans v2
  have kKU:=v2 _ _ kK;have b8:SameX x H (upd Li uA (.lst (IL (Wb n ps I O F ld)))):=Pq.trans (SameX.same lI)
  have Ju:=lI _ _ cq;have b7:=lI _ _ BP
  change Vv _ _ _ _ (upd Li uA (.lst (IL (Wb n ps I O F ld))));generalize upd Li uA (.lst (IL (Wb n ps I O F ld)))=H16 at *;have MF:Xi H16 Pt:=oU hT hx b8
  refine⟨_,rfl,kA,TR n ps I O F ld,Xc ld,λz=>decide (ld=some z),rfl,SqL.of kKU,by lia,MF,rfl,λBp Po z hz=>?_,λinc iA Bp UZ Po Bo lH=>?_⟩
  .refine⟨_,rfl,_,rfl,(by cases ld <;> rfl),?_,rfl⟩
   show V.bl (decide (V.int z=Xc ld))=V.bl (decide (ld=some z));cases ld with
   | none=>rfl
   | some y =>
    show V.bl (decide (V.int z=V.int y))=V.bl (decide (some y=some z));rw[Zx];congr 1;rw[wW];exact⟨λe=>by rw[e],λe=>(Yg e).symm⟩
  have hxP:x≠Pt:=MF.ne Ju (by simp);have v3:=XM (o:=.lst (IL inc)) lH
  have Bn:=v3 _ _ (Po _ _ hxP Ju);have Bm:=v3 _ _ (Po _ _ (MF.ne b7 (by simp)) b7)
  have Bl:=v3 _ _ (Po _ _ (MF.ne kU (by simp)) kU);have Bk:(upd Bp iA (.lst (IL inc))) iA=some (.lst (IL inc)):=XR
  have Bj:Xi (upd Bp iA (.lst (IL inc))) Pt:=Bo.same v3;have IC:∀ b o,b≠x->b≠Pt->H b=some o->(upd Bp iA (.lst (IL inc))) b=some o:=λb o h1 h2 e=>v3 _ _ (Po _ _ h2 (b8 _ _ h1 e))
  change ∃ _,_;generalize upd Bp iA (.lst (IL inc))=Bi at *;refine⟨_,rfl,x,_,dx,_,rfl,Bn,T.cl_Part,T.n_Part_incoming,(by show 5<1000;decide),?_⟩;have Pn:∀(c:Addr) (o:HO),Bi c=some o->(∀ a b fs,o≠.ins a b fs)->c≠x:=λc o h ho e=>by rw[e,Bn]at h;exact ho _ _ _ (Yg h).symm
  have lG:(upd Bi x (.ins t.A_Part dx (XO "incoming" (.ref iA) [("web",.ref w),("kept",.ref a),("shut",.ref b),("lead",Xc ld),("least",.ref l)]))) uA=some (.lst (IL (Wb n ps I O F ld))):=by rw [Zb (Pn _ _ Bl (by simp))];exact Bl
  have fin:∀ fu:Option Int,(fu=none↔Wb n ps I O F ld=[])->(∀ y,fu=some y->y∈Wb n ps I O F ld/\∀ z∈Wb n ps I O F ld,y<=z)->Q .non (upd (upd Bi x (.ins t.A_Part dx (XO "incoming" (.ref iA) [("web",.ref w),("kept",.ref a),("shut",.ref b),("lead",Xc ld),("least",.ref l)]))) x (.ins t.A_Part dx (x8 (.ref w) (.ref a) (.ref b) (Xc ld) (.ref l) (.ref iA) (Xc fu)))):=λfu h1 h2=>by
   have up:∀(c:Addr) (o:HO),c≠x->Bi c=some o->(upd (upd Bi x (.ins t.A_Part dx (XO "incoming" (.ref iA) [("web",.ref w),("kept",.ref a),("shut",.ref b),("lead",Xc ld),("least",.ref l)]))) x (.ins t.A_Part dx (x8 (.ref w) (.ref a) (.ref b) (Xc ld) (.ref l) (.ref iA) (Xc fu)))) c=some o:=λc o h e=>by rw [Zb h,Zb h];exact e
   obtain⟨tp,t1,t2,t3⟩:=id Bj;refine q F inc fu l iA _ hF VL UZ h1 h2 XR (up _ _ (Pn _ _ Bm (by simp)) Bm) (up _ _ (Pn _ _ Bk (by simp)) Bk) (λb o b1 b2 e=>up _ _ b1 (IC b o b1 b2 e)) ⟨tp,up _ _ (Pn _ _ t1 (by simp)) t1,t2,?_⟩;rcases t3 with h | ⟨c,h,h'⟩
   .exact .inl h
   .exact .inr ⟨c,h,up _ _ (Pn _ _ h' (by unfold He;simp)) h'⟩
  refine⟨_,rfl,uA,Wb n ps I O F ld,rfl,SqL.of lG,λe=>?_,λmn TZ Wg=>?_⟩
  .refine⟨_,rfl,x,_,dx,_,rfl,XR,T.cl_Part,T.n_Part_further,(by show 6<1000;decide),?_⟩;exact fin none ⟨λ_=>e,λ_=>rfl⟩ λy h=>by cases h
  .refine⟨_,rfl,x,_,dx,_,rfl,XR,T.cl_Part,T.n_Part_further,(by show 6<1000;decide),?_⟩;exact fin (some mn) ⟨λh=>(by cases h),λh=>(by rw[h]at TZ;cases TZ)⟩ λy h=>(by cases h;exact⟨TZ,Wg⟩)
def lF(K:Ad)(CP C Pt:Addr):Sp:=λvs H Q _=>∃(w:Addr) (n:Int) (ps:Aa),vs=[.ref w]/\WebAt C H w n ps/\Zu n ps/\Xi H Pt/\(∃ U,Ze n ps U) /\
 ∀(x:Addr) (F inc:Ac) (ld fu:Option Int) (H':Hp),PartOk n ps [] [] ld F inc fu->(ld=none↔WV n ps [] [] F=[])->(∀ y,ld=some y->y∈WV n ps [] [] F/\∀ z∈WV n ps [] [] F,y<=z)->PartAt K CP C H' x n ps [] [] F inc ld fu->SameX Pt H H'->Xi H' Pt->Q (.ref x) H'
theorem Bh:FnScope ["web","opened"] ["web"] (XB sZy):=⟨rfl,rfl,rfl,by decide +kernel,rfl,by decide +kernel,by decide +kernel⟩
theorem Bg {Pt:Addr} (T:Txt K mg t) (hB:SS K mg base t.dZx Pt):FnOk P w K mg base Xk 10 t.aZy t.dZy ["web"] (lF K t.A_Part t.A_Web Pt):=by
 refine T.fZy.ok Bh (λvs H Q E h=>?_) (λXy A outer s H vs Q E hr h=>?_)
 .obtain⟨w,n,ps,rfl,_⟩:=h;rfl
 .obtain⟨w,n,ps,rfl,hW,hG,hT,⟨U0,GV⟩,q⟩:=h;refine⟨_,(XQ (Zh (i:=1) Bh.nd rfl (Or.inl rfl) (XF (Bt T) (hr.mono (by decide)) rfl T.mZw T.fZw.kp T.bZw .nil Zp (XZ (pv 0) (XZ (XF (Rk T) (hr.mono (by decide)) rfl T.mZf T.fZf.kp T.bZf .nil Zp (XZ (pv 0) (XZ (Uq XY) XY))) (XZ (XF (Bw T) (hr.mono (by decide)) rfl T.mZu T.fZu.kp T.bZu .nil Zp (XZ (pv 0) (XZ (Uq XY) (XZ (Uq XY) XY)))) XY)))))
   (XI (Zi (Fw T.k_Part (IE T hB) (hr.mono (by decide)) rfl T.c_Part T.bZx .nil Zp (XZ (pv 0) (XZ (Uq XY) (XZ (Uq XY) (XZ (dN rfl (by rfl) T.n_min (pv 1)) XY)))))))),?_⟩
  have Bf:With n ps [] [] U0:=⟨GV,λz h=>(by cases h),λz h=>(by cases h)⟩;refine⟨_,rfl,_,rfl,Yl _,λe1 Ds=>?_⟩;have s1:=XM (o:=.tup []) Ds
  refine⟨w,e1,n,ps,[],rfl,hW.same s1,hG,SqT.of XR,λz h=>(by cases h),λm H2 s2 QI Wg=>?_⟩;have WO:=s1.trans s2
  refine⟨_,rfl,Yl _,λe2 Qk=>⟨Yl _,λe3 he3=>?_⟩⟩;have s3:=XM (o:=.tup []) Qk
  have s4:=XM (o:=.tup []) he3;have GW:=WO.trans (s3.trans s4)
  refine⟨w,e2,e3,n,ps,[],[],rfl,hW.same GW,hG,SqT.of (s4 _ _ XR),SqT.of XR,.nil,λz h=>(by cases h),λz h=>(by cases h),λH5 s5 h=>absurd Bf (h U0),λl F H5 s5 hl hF VL=>?_⟩;have Bx:=GW.trans s5
  have xF:=((s3.trans s4).trans s5) _ _ Wg;have Sf:(Xu n.toNat (XT ps [])).length=n.toNat:=ZB _ _
  refine⟨w,m,l,n,ps,Xu n.toNat (XT ps []),F,rfl,hW.same Bx,hG,xF,Sf,SqT.of hl,λpA H6 s6 hp0 lE=>?_⟩;have lE:H6 pA=some (.lst (IL (WV n ps [] [] F))):=lE
  refine nm ?_;dsimp only [List.set];have s16:=Bx.trans s6
  have Qm:∀ z∈WV n ps [] [] F,0<=z/\z<(ps.length:Int):=λz hz=>dJ hz;refine⟨_,rfl,Yl _,λf1 xK=>⟨Yl _,λf2 ML=>?_⟩⟩;have s7:=XM (o:=.tup []) xK
  have s8:=XM (o:=.tup []) ML;have IB:(upd (upd H6 f1 (.tup [])) f2 (.tup [])) f1=some (.tup []):=s8 _ _ XR
  have IA:(upd (upd H6 f1 (.tup [])) f2 (.tup [])) f2=some (.tup []):=XR;have xC:=s16.trans (s7.trans s8)
  have hp8:=(s7.trans s8) _ _ lE;generalize upd (upd H6 f1 (.tup [])) f2 (.tup [])=H8 at *;have main:∀ ld:Option Int,(ld=none↔WV n ps [] [] F=[])->(∀ y,ld=some y->y∈WV n ps [] [] F/\∀ z∈WV n ps [] [] F,y<=z)->∀ x dx,H8 x=none->H8 dx=none->dx≠x->cu K t.A_Part t.A_Web Pt [.ref x,.ref w,.ref f1,.ref f2,Xc ld] (upd (upd H8 dx (.own x)) x (.ins t.A_Part dx [])) (λv H2=>v=.non/\Q (.ref x) H2) E0:=by
   intro ld hn hs x dx nx Pw MJ;have s9:Same H8 (upd (upd H8 dx (.own x)) x (.ins t.A_Part dx [])):=Zy (XM Pw) (by rw[Zb (YZ MJ)];exact nx)
   have bZ:=xC.trans s9;refine⟨x,dx,w,f1,f2,n,ps,[],[],ld,rfl,XR,hW.same bZ,hG,hT.same bZ,SqT.of (s9 _ _ IB),SqT.of (s9 _ _ IA),.nil,λz h=>(by cases h),λz h=>(by cases h),Yl _,⟨U0,Bf⟩,λy hy=>Qm y (hs y hy).1,λe F' Lh TL=>?_,λF' inc fu l' i' H' Lh TL UZ h1 h2 Ve Sy Nx keep Pm=>⟨rfl,?_⟩⟩
   .have eF:F'=F:=Tu (VL F' Lh) (TL F hF);rw[eF];exact hn.mp e
   .have eF:F'=F:=Tu (VL F' Lh) (TL F hF);subst eF;have sx:SameX Pt H8 H':=λb o hb e=>keep b o (Zc e nx) hb (s9 _ _ e)
    have Rc:Xi H8 Pt:=hT.same xC;refine q x F' inc ld fu H' ⟨Lh,TL,UZ,h1,h2⟩ hn hs ⟨dx,w,f1,f2,l',i',Ve,(hW.same xC).samex Rc sx,SqT.of (sx _ _ (Rc.ne IB (by simp)) IB),SqT.of (sx _ _ (Rc.ne IA (by simp)) IA),Sy,Nx⟩ ((SameX.same xC).trans sx) Pm
  refine⟨_,rfl,pA,WV n ps [] [] F,rfl,SqL.of hp8,λe=>?_,λmn h1 h2=>?_⟩
  .exact main none ⟨λ_=>e,λ_=>rfl⟩ λy h=>by cases h
  .exact main (some mn) ⟨λh=>(by cases h),λh=>(by rw[h]at h1;cases h1)⟩ λy h=>(by cases h;exact⟨h1,h2⟩)
def lD(K:Ad)(CP C Pt:Addr):Sp:=λvs H Q _=>∃(x:Addr) (n:Int) (ps:Aa) (I O F inc:Ac) (z y:Int),vs=[.ref x]/\PartAt K CP C H x n ps I O F inc (some z) (some y)/\Zu n ps/\Xi H Pt/\(I).Nodup/\(∀ v∈I,0<=v/\v<(ps.length:Int))/\(∀ v∈I,v∉O++[z])/\(O++[z]).length<=30/\(∃ U,With n ps (I) (O++[z]) U)/\0<=y/\y<(ps.length:Int) /\
 ∀(x':Addr) (F' WA:Ac) (fu:Option Int) (H':Hp),PartOk n ps (I) (O++[z]) (some y) F' WA fu->PartAt K CP C H' x' n ps (I) (O++[z]) F' WA (some y) fu->SameX Pt H H'->Xi H' Pt->Q (.ref x') H'
theorem lC:FnScope ["part"] ["part"] (XB sZz):=⟨rfl,rfl,rfl,by decide +kernel,rfl,by decide +kernel,by decide +kernel⟩
theorem Be {Pt:Addr} (T:Txt K mg t) (hB:SS K mg base t.dZx Pt):FnOk P w K mg base Xk 10 t.aZz t.dZz ["part"] (lD K t.A_Part t.A_Web Pt):=by
 refine T.fZz.ok lC (λvs H Q E h=>?_) (λXy A outer s H vs Q E hr h=>?_)
 .obtain⟨x,n,ps,I,O,F,inc,z,y,rfl,_⟩:=h;rfl
 .obtain⟨x,n,ps,I,O,F,inc,z,y,rfl,⟨dx,w,a,b,l,i,hx,hW,hA,Se,hl,hi⟩,hG,hT,hIn,Xo,Vk,Sd,hex,y0,y1,q⟩:=h;refine⟨_,(XI (Zi (Fw T.k_Part (IE T hB) (hr.mono (by decide)) rfl T.c_Part T.bZx .nil Zp (XZ (Zn K (pv 0) rfl) (XZ (Zn K (pv 0) rfl) (XZ (Zs (Jz K) (Zn K (pv 0) rfl) (Uq (XZ (Zn K (pv 0) rfl) XY))) (XZ (Zn K (pv 0) rfl) XY))))))),?_⟩;have lB:I.length<=30:=by
   have:=Jv (m:=Wz ps.length) hIn λv hv=>XE.mpr (Xo v hv)
   have e:=hG.2.2.1;rw[ZI]at this
   try simp only [Xt,Yh]at this
   lia
  have SN:O.length<=30:=by
   have:=Sd
   try simp only [Xt,Yh]at this
   lia
  refine⟨_,rfl,x,_,dx,_,.ref w,rfl,hx,T.cl_Part,T.n_Part_web,rfl,_,rfl,x,_,dx,_,.ref a,rfl,hx,T.cl_Part,T.n_Part_kept,rfl,_,rfl,x,_,dx,_,.ref b,rfl,hx,T.cl_Part,T.n_Part_shut,rfl,_,rfl,x,_,dx,_,.int z,rfl,hx,T.cl_Part,T.n_Part_lead,rfl,(by show 1<=sizeLine;decide),λp hp=>?_⟩;have s1:=XM (o:=.tup (IL [z])) hp
  refine CH (l:=O) (m:=[z]) (SqK.same (k:=true) s1 Se) (SqT.of XR) (by rw[Yh];lia) λr1 H2 s2 VY=>?_;have WO:=s1.trans s2
  refine⟨_,rfl,x,_,dx,_,.int y,rfl,WO _ _ hx,T.cl_Part,T.n_Part_further,rfl,?_⟩;intro x' ME nx Pw MJ;have s9:Same H2 (upd (upd H2 ME (.own x')) x' (.ins t.A_Part ME [])):=Zy (XM Pw) (by rw[Zb (YZ MJ)];exact nx)
  have Xb:Xi H2 Pt:=hT.same WO;refine⟨x',ME,w,a,r1,n,ps,I,O++[z],some y,rfl,XR,hW.same (WO.trans s9),hG,Xb.same s9,SqK.same (k:=true) (WO.trans s9) hA,SqK.same (k:=true) s9 VY,hIn,Xo,Vk,Sd,hex,λv e=>(by cases e;exact⟨y0,y1⟩),λe=>(by cases e),λF' WA fu l' i' H' Lh TL UZ h1 h2 Ve Sy Nx keep Pm=>⟨rfl,?_⟩⟩;have sx:SameX Pt H2 H':=λb o hb e=>keep b o (Zc e nx) hb (s9 _ _ e)
  exact q x' F' WA fu H' ⟨Lh,TL,UZ,h1,h2⟩ ⟨ME,w,a,r1,l',i',Ve,(hW.same WO).samex Xb sx,SqK.samex (kd:=true) (SqK.same (k:=true) WO hA) Xb sx,SqK.samex (kd:=true) (VY) Xb sx,Sy,Nx⟩ ((SameX.same WO).trans sx) Pm
def ly(K:Ad)(CP C Pt:Addr):Sp:=λvs H Q _=>∃(x:Addr) (n:Int) (ps:Aa) (I O F inc:Ac) (z y:Int),vs=[.ref x]/\PartAt K CP C H x n ps I O F inc (some z) (some y)/\Zu n ps/\Xi H Pt/\(I++[z]).Nodup/\(∀ v∈I++[z],0<=v/\v<(ps.length:Int))/\(∀ v∈I++[z],v∉O)/\(O).length<=30/\(∃ U,With n ps (I++[z]) (O) U)/\0<=y/\y<(ps.length:Int) /\
 ∀(x':Addr) (F' WA:Ac) (fu:Option Int) (H':Hp),PartOk n ps (I++[z]) (O) (some y) F' WA fu->PartAt K CP C H' x' n ps (I++[z]) (O) F' WA (some y) fu->SameX Pt H H'->Xi H' Pt->Q (.ref x') H'
theorem lx:FnScope ["part"] ["part"] (XB sZA):=⟨rfl,rfl,rfl,by decide +kernel,rfl,by decide +kernel,by decide +kernel⟩
theorem Bc {Pt:Addr} (T:Txt K mg t) (hB:SS K mg base t.dZx Pt):FnOk P w K mg base Xk 10 t.aZA t.dZA ["part"] (ly K t.A_Part t.A_Web Pt):=by
 refine T.fZA.ok lx (λvs H Q E h=>?_) (λXy A outer s H vs Q E hr h=>?_)
 .obtain⟨x,n,ps,I,O,F,inc,z,y,rfl,_⟩:=h;rfl
 .obtain⟨x,n,ps,I,O,F,inc,z,y,rfl,⟨dx,w,a,b,l,i,hx,hW,hA,Se,hl,hi⟩,hG,hT,hIn,Xo,Vk,Sd,hex,y0,y1,q⟩:=h;refine⟨_,(XI (Zi (Fw T.k_Part (IE T hB) (hr.mono (by decide)) rfl T.c_Part T.bZx .nil Zp (XZ (Zn K (pv 0) rfl) (XZ (Zs (Jz K) (Zn K (pv 0) rfl) (Uq (XZ (Zn K (pv 0) rfl) XY))) (XZ (Zn K (pv 0) rfl) (XZ (Zn K (pv 0) rfl) XY))))))),?_⟩;have lB:I.length<=30:=by
   have:=Jv (m:=Wz ps.length) hIn λv hv=>XE.mpr (Xo v hv)
   have e:=hG.2.2.1;rw[ZI]at this
   try simp only [Xt,Yh]at this
   lia
  have SN:O.length<=30:=by
   have:=Sd
   try simp only [Xt,Yh]at this
   lia
  refine⟨_,rfl,x,_,dx,_,.ref w,rfl,hx,T.cl_Part,T.n_Part_web,rfl,_,rfl,x,_,dx,_,.ref a,rfl,hx,T.cl_Part,T.n_Part_kept,rfl,_,rfl,x,_,dx,_,.int z,rfl,hx,T.cl_Part,T.n_Part_lead,rfl,(by show 1<=sizeLine;decide),λp hp=>?_⟩;have s1:=XM (o:=.tup (IL [z])) hp
  refine CH (l:=I) (m:=[z]) (SqK.same (k:=true) s1 hA) (SqT.of XR) (by rw[Yh];lia) λr1 H2 s2 VY=>?_;have WO:=s1.trans s2
  refine⟨_,rfl,x,_,dx,_,.ref b,rfl,WO _ _ hx,T.cl_Part,T.n_Part_shut,rfl,_,rfl,x,_,dx,_,.int y,rfl,WO _ _ hx,T.cl_Part,T.n_Part_further,rfl,?_⟩;intro x' ME nx Pw MJ;have s9:Same H2 (upd (upd H2 ME (.own x')) x' (.ins t.A_Part ME [])):=Zy (XM Pw) (by rw[Zb (YZ MJ)];exact nx)
  have Xb:Xi H2 Pt:=hT.same WO;refine⟨x',ME,w,r1,b,n,ps,I++[z],O,some y,rfl,XR,hW.same (WO.trans s9),hG,Xb.same s9,SqK.same (k:=true) s9 VY,SqK.same (k:=true) (WO.trans s9) Se,hIn,Xo,Vk,Sd,hex,λv e=>(by cases e;exact⟨y0,y1⟩),λe=>(by cases e),λF' WA fu l' i' H' Lh TL UZ h1 h2 Ve Sy Nx keep Pm=>⟨rfl,?_⟩⟩;have sx:SameX Pt H2 H':=λb o hb e=>keep b o (Zc e nx) hb (s9 _ _ e)
  exact q x' F' WA fu H' ⟨Lh,TL,UZ,h1,h2⟩ ⟨ME,w,r1,b,l',i',Ve,(hW.same WO).samex Xb sx,SqK.samex (kd:=true) (VY) Xb sx,SqK.samex (kd:=true) (SqK.same (k:=true) WO Se) Xb sx,Sy,Nx⟩ ((SameX.same WO).trans sx) Pm
def lu(K:Ad)(CP C:Addr):Sp:=λvs H Q _=>∃(x:Addr) (n:Int) (ps:Aa) (I O F inc:Ac) (ld fu:Option Int),vs=[.ref x]/\PartAt K CP C H x n ps I O F inc ld fu/\Zu n ps/\I.Nodup/\(∀ z∈I,0<=z/\z<(ps.length:Int))/\O.length<=30/\(∀ z∈I,z∉O)/\∀(c:Nat) (H':Hp),PC n ps I O c->Same H H'->Q (.int c) H'
theorem lr:FnScope ["part"] ["part"] (XB sZB):=⟨rfl,rfl,rfl,by decide +kernel,rfl,by decide +kernel,by decide +kernel⟩
theorem Bb (T:Txt K mg t):FnOk P w K mg base Xk 8 t.aZB t.dZB ["part"] (lu K t.A_Part t.A_Web):=by
 refine T.fZB.ok lr (λvs H Q E h=>?_) (λXy A outer s H vs Q E hr h=>?_)
 .obtain⟨x,n,ps,I,O,F,inc,ld,fu,rfl,_⟩:=h;rfl
 .obtain⟨x,n,ps,I,O,F,inc,ld,fu,rfl,⟨dx,w,a,b,l,i,hx,hW,hA,Se,hl,hi⟩,hG,hI,Xo,hO,Vk,q⟩:=h;refine⟨_,(XI (Zi (XF (mB T) (hr.mono (by decide)) rfl T.mZm T.fZm.kp T.bZm .nil Zp (XZ (Zn K (pv 0) rfl) (XZ (Zn K (pv 0) rfl) (XZ (Zn K (pv 0) rfl) XY)))))),?_⟩;refine⟨_,rfl,x,_,dx,_,.ref w,rfl,hx,T.cl_Part,T.n_Part_web,rfl,_,rfl,x,_,dx,_,.ref a,rfl,hx,T.cl_Part,T.n_Part_kept,rfl,_,rfl,x,_,dx,_,.ref b,rfl,hx,T.cl_Part,T.n_Part_shut,rfl,?_⟩;exact⟨w,a,b,n,ps,I,O,rfl,hW,hG,hA,Se,hI,Xo,hO,Vk,q⟩
theorem Ba{n:Int}{ps:Aa}{I F ms:Ac}{z:Int}(hF:Ze n ps F)(hz:z∉F)(hp:ms.Perm (UT n ps F z F++[z]))(hs:ms.Pairwise (·<=·)):(ms.filter λt=>decide (t≠z/\t∉I))=WK n ps I F z:=by
 refine RF ((hp.filter _).trans ?_) (hs.filter _) ?_
 .rw[QH,List.filter_cons_of_neg (by simp),KC,YF];refine List.Perm.of_eq (Ml λt ht=>?_)
  have:t≠z:=λe=>hz (e ▸ (VO.mp ht).1)
  simp[this]
 .exact((XX.mp hF.1).2.filter _).filter _ |>.imp λh=>by lia
def lq(K:Ad)(CP C:Addr):Sp:=λvs H Q _=>∃(x:Addr) (n:Int) (ps:Aa) (I O F inc:Ac) (ld fu:Option Int) (z:Int),vs=[.ref x,.int z]/\PartAt K CP C H x n ps I O F inc ld fu/\Zu n ps/\Ze n ps F/\z∉F/\0<=z/\z<(ps.length:Int) /\
 ∀(r:Addr) (xs:List V) (H':Hp),Same H H'->H r=none->H' r=some (.lst xs)->Bears (WR H') xs ((WK n ps I F z).map λo=>xchT F o z)->Q (.ref r) H'
theorem AZ:FnScope ["part","into","leaving"] ["part","into"] (XB sZC):=⟨rfl,rfl,rfl,by decide +kernel,rfl,by decide +kernel,by decide +kernel⟩
theorem lp (T:Txt K mg t):FnOk P w K mg base Xk 9 t.aZC t.dZC ["part","into"] (lq K t.A_Part t.A_Web):=by
 refine T.fZC.ok AZ (λvs H Q E h=>?_) (λXy A outer s H vs Q E hr h=>?_)
 .obtain⟨x,n,ps,I,O,F,inc,ld,fu,z,rfl,_⟩:=h;rfl
 .obtain⟨x,n,ps,I,O,F,inc,ld,fu,z,rfl,⟨dx,w,a,b,l,i,hx,hW,hA,Se,hl,hi⟩,hG,hF,hz,z0,z1,q⟩:=h;refine⟨_,(XQ (RM (i:=2) rfl AZ.nd rfl rfl (sc0:=XB sZC) (N0:=["part","into","leaving"]) (N':=["tie","into","part"]) (o:=1) (fr:=[1,0]) ⟨rfl,by decide +kernel,by decide +kernel,by decide +kernel,rfl,by decide +kernel⟩ (JI K (XF (By T) (hr.mono (by decide)) rfl T.mZs T.fZs.kp T.bZs .nil Zp (XZ (Zn K (pv 0) rfl) (XZ (Zn K (pv 0) rfl) (XZ (pv 1) XY))))) (Zv (by decide)) (λ_ _ _ _=>(Zg (i:=0) (show List.Nodup (["tie","into","part"]:List Str) by decide +kernel) rfl (Or.inl rfl))) (λ_ _ _ _=>(Wq (PW.pt (vW (Zd RR (pv 0) (pv 1) (Zq _)) (vX (Zd (ZP K) (pv 0) (Zn K (pv 2) rfl) rfl)))))) (λ_ _ _ _=>(pv 0)))
   (XI (Zi (SX rfl (sc0:=XB sZC) (N0:=["part","into","leaving"]) (N':=["out","part","into"]) (o:=1) (fr:=[0,1]) ⟨rfl,by decide +kernel,by decide +kernel,by decide +kernel,rfl,by decide +kernel⟩ (OH K (pv 2)) (Zv (by decide)) (λ_ _ _ _=>(Zg (i:=0) (show List.Nodup (["out","part","into"]:List Str) by decide +kernel) rfl (Or.inl rfl))) (λ_ _ _ _=>QT) (λ_ _ _ _=>(Zr (ZC K) (by rfl) T.n_tuple Boot.«tuple» (XZ (Zf (gF K) (by rfl) T.n_sorted Boot.«sorted» (XZ (Zs (Jz K) (XF (IQ T) (hr.mono (by decide)) rfl T.mZb T.fZb.kp T.bZb .nil Zp (XZ (Zn K (pv 1) rfl) (XZ (pv 0) XY))) (Uq (XZ (pv 2) XY))) XY)) XY))))))),?_⟩
  have big:(30:Int)<10 ^ 70:=by decide
  have g3:=hG.2.2.1;refine⟨_,rfl,x,_,dx,_,.ref w,rfl,hx,T.cl_Part,T.n_Part_web,rfl,_,rfl,x,_,dx,_,.ref l,rfl,hx,T.cl_Part,T.n_Part_least,rfl,_,rfl,?_⟩;refine⟨w,l,n,ps,true,F,z,rfl,hW,hG,SqT.of hl,by omega,by lia,λ_ _ _ _ ms TZ Wg rA H1 s1 VU MR=>?_,λ_ h=>absurd h (λh=>h.elim hz λh=>h ⟨z0,z1⟩),λh=>absurd hF h⟩;have hm30:ms.length<=40:=by
   rw[TZ.length_eq,Xt,Yh]
   have:=Hs n ps F z F
   have:=hF.1.len
   lia
  refine⟨rA,rfl,⟨_,SqT.of MR⟩,JJ (K:=K) (a:=rA) (xs:=IL ms) (λj ws H2=>H2=H1/\j<=ms.length/\ws=IL ((ms.take j).filter λt=>decide (t≠z/\t∉I))) ⟨rfl,Yl _,rfl⟩ (Zl (by rw[Xz];lia))
   (λj ws H2 hj h=>by obtain⟨e,QN,ew⟩:=h;exact⟨e ▸ SqT.of MR,by rw[ew,Xz];exact Yv (YB ..) (by rw[Yy];lia)⟩) ?_ ?_⟩
  .rintro j v ws H2 hj ⟨rfl,NA,rfl⟩ S Xl;obtain⟨y,rfl,hy⟩:=WU hj;have VZ:j<ms.length:=(Xs.mp hy).1
   refine nm ?_;refine⟨_,rfl,_,rfl,rfl,_,rfl,?_⟩;rw[Zx];refine WW (λhe=>?_) (λhe=>?_)
   .refine Xl _ _ ⟨rfl,VZ,?_⟩;rw[Zz hy,if_neg (by simp[he]),YF]
   refine⟨_,rfl,_,rfl,x,_,dx,_,.ref a,rfl,s1 _ _ hx,T.cl_Part,T.n_Part_kept,rfl,a,_,rfl,.inr (SqK.same (k:=true) s1 hA),rfl,ZE _,_,rfl,?_⟩;rw[ZQ];refine WW (λhc=>?_) (λhc=>?_)
   .refine Xl _ _ ⟨rfl,VZ,?_⟩;rw[Zz hy,if_neg (by simp[hc]),YF]
   .refine⟨_,rfl,Xl _ _ ⟨rfl,VZ,?_⟩⟩;rw[Zz hy,if_pos (Yn ⟨he,hc⟩),ZO]
  rintro ws H2 ⟨rfl,_,rfl⟩ lA AY;rw[Xz,YI,Ba hF hz TZ Wg];have u1:=XM (o:=.lst (IL (WK n ps I F z))) AY
  have kL:(upd H2 lA (.lst (IL (WK n ps I F z)))) lA=some (.lst (IL (WK n ps I F z))):=XR;refine nm ?_;dsimp only [List.set];have s2:=s1.trans u1
  change Gb _ _ _ (upd H2 lA (.lst (IL (WK n ps I F z))));generalize upd H2 lA (.lst (IL (WK n ps I F z)))=H3 at *;have lvl:(WK n ps I F z).length<=30:=Yv (YB ..) (by have:=Hs n ps F z F;have:=hF.1.len;lia)
  have hFl:F.length<=30:=by have:=hF.1.len;lia
  refine⟨_,rfl,lA,rfl,⟨_,SqL.of kL⟩,UG (K:=K) (a:=lA) (xs:=IL (WK n ps I F z)) (λj ys H4=>Same H3 H4/\j<=(WK n ps I F z).length/\Bears (WR H4) ys (((WK n ps I F z).take j).map λo=>xchT F o z)) ⟨Same.refl _,Yl _,⟨rfl,λi l e=>by simp at e⟩⟩ (Zl (by rw[Xz];lia))
   (λj ys H4 hj h=>by obtain⟨e,QN,ey⟩:=h;exact⟨SqL.of (e _ _ kL),by rw[ey.1,Yd,Yy];lia⟩) ?_ ?_⟩
  .rintro j v ys H4 hj ⟨s4,NA,hY⟩ S Xl;obtain⟨o,rfl,ho⟩:=WU hj;have VZ:j<(WK n ps I F z).length:=(Xs.mp ho).1
   have Lj:=s2.trans s4;refine nm ?_;refine⟨_,rfl,x,_,dx,_,.ref l,rfl,Lj _ _ hx,T.cl_Part,T.n_Part_least,rfl,_,rfl,l,true,F,o,rfl,SqT.of (Lj _ _ hl),by lia,λr1 H5 s5 lY VY=>?_⟩;have wl:=yL F o
   refine⟨_,rfl,(by show 1<=sizeLine;decide),λp2 Wm=>?_⟩;have s6:=XM (o:=.tup (IL [z])) Wm
   refine CH (l:=wo F o) (m:=[z]) (SqT.of (s6 _ _ VY)) (SqT.of XR) (by rw[Yh];lia) λr3 H7 s7 Uv=>?_;refine⟨r3,wo F o++[z],rfl,Uv,by rw[Xt,Yh];lia,λns mO NT p4 Uw=>?_⟩;have en:ns=xchT F o z:=RF (mO.trans (Lw F o z).symm) NT (Rn F o z)
   subst en;have s8:=XM (o:=.lst (IL (xchT F o z))) Uw
   refine⟨p4,_,rfl,.inl ⟨SqL.of XR,λp5 xQ=>?_⟩⟩;have s9:=XM (o:=.tup (IL (xchT F o z))) xQ
   have sA:=(s5.trans s6).trans (s7.trans (s8.trans s9));refine Xl _ _ ⟨s4.trans sA,VZ,?_⟩;rw[WB,ho,YL];exact(hY.imp λ_ _ h=>by obtain⟨q,e,hq⟩:=h;exact⟨q,e,sA _ _ hq⟩).snoc ⟨p5,rfl,XR⟩
  .rintro ys H4 ⟨s4,_,hY⟩ d hd;rw[Xz,YI]at hY;have s5:=XM (o:=.lst ys) hd
   exact q d ys _ (s2.trans (s4.trans s5)) ((s2.trans s4).free hd) XR (hY.imp λ_ _ h=>by obtain⟨q,e,hq⟩:=h;exact⟨q,e,s5 _ _ hq⟩)
theorem bY{α:Type}{R:V->α->Prop}{xs ys:List V}{l m:List α}(h1:Bears R xs l)(h2:Bears R ys m):Bears R (xs++ys) (l++m):=by
 refine⟨by rw[Xt,Xt,h1.1,h2.1],λi a e=>?_⟩;by_cases c:i<l.length
 .rw[Ys c]at e;obtain⟨v,hv,r⟩:=h1.2 i a e;exact⟨v,by rw[Ys (by rw[h1.1];exact c)];exact hv,r⟩
 .rw[Yp (by lia)]at e;obtain⟨v,hv,r⟩:=h2.2 _ a e;exact⟨v,by rw[Yp (by rw[h1.1];omega),h1.1];exact hv,r⟩
theorem bX{α:Type}{R:V->α->Prop}{xs:List V}{l:List α}(h:Bears R xs l):Bears R xs.reverse l.reverse:=by
 refine⟨by rw[YK,YK,h.1],λi a e=>?_⟩;have hi:i<l.length:=by have:=(Xs.mp e).1;rw[YK]at this;exact this
 rw[Lc hi]at e;obtain⟨v,hv,r⟩:=h.2 _ a e;exact⟨v,by rw[Lc (by rw[h.1];exact hi),h.1];exact hv,r⟩
def lj(K:Ad)(CP C:Addr):Sp:=λvs H Q _=>∃(x:Addr) (n:Int) (ps:Aa) (I O F inc:Ac) (ld fu:Option Int),vs=[.ref x]/\PartAt K CP C H x n ps I O F inc ld fu/\Zu n ps/\Ze n ps F/\inc.length<=30/\(∀ z∈inc,z∉F/\0<=z/\z<(ps.length:Int)) /\
 ∀(r:Addr) (xs:List V) (H':Hp),Same H H'->H r=none->H' r=some (.lst xs)->Bears (WR H') xs (CC n ps I F inc)->Q (.ref r) H'
theorem Rb:FnScope ["part","row","ascending","into","trees"] ["part"] (XB sZD):=⟨rfl,rfl,rfl,by decide +kernel,rfl,by decide +kernel,by decide +kernel⟩
theorem AX (T:Txt K mg t):FnOk P w K mg base Xk 10 t.aZD t.dZD ["part"] (lj K t.A_Part t.A_Web):=by
 refine T.fZD.ok Rb (λvs H Q E h=>?_) (λXy A outer s H vs Q E hr h=>?_)
 .obtain⟨x,n,ps,I,O,F,inc,ld,fu,rfl,_⟩:=h;rfl
 .obtain⟨x,n,ps,I,O,F,inc,ld,fu,rfl,SI,hG,hF,VG,TQ,q⟩:=h;refine⟨_,(XQ (Zh (i:=1) Rb.nd rfl (Or.inl rfl) (Sv (XZ (Zn K (pv 0) rfl) XY)))
   (XQ (Zh (i:=2) Rb.nd rfl (Or.inl rfl) (NV Td (Zs ZS (Zf (Zj K) (by rfl) T.n_len Boot.«len» (XZ (Zn K (pv 0) rfl) XY)) Za) Za (Zq _)))
   (XQ (Tf Ww rfl (OH K (Zn K (pv 0) rfl)) (Zg (i:=3) Rb.nd rfl (Or.inl rfl))
   (XQ (Zh (i:=4) Rb.nd rfl (Or.inl rfl) (XF (lp T) (hr.mono (by decide)) rfl T.mZC T.fZC.kp T.bZC .nil Zp (XZ (pv 0) (XZ (pv 3) XY))))
   (XQ (Wl (QQ K YU jr js iq (pv 1) (XZ (zt (Qz (pv 2)) (pv 4) (gM K rfl rfl T.n_list rfl T.n_reversed (XZ (pv 4) XY))) XY)))
   (XI (Zh (i:=2) Rb.nd rfl (Or.inl rfl) (Gd (pv 2)))))))
   (XI (Zi (pv 1)))))),?_⟩
  obtain⟨dx,w,a,b,l,i,hx,hW,hA,Se,hl,hi⟩:=id SI;refine⟨_,rfl,x,_,dx,_,.ref l,rfl,hx,T.cl_Part,T.n_Part_least,rfl,(by show 1<=sizeLine;decide),λr hr=>?_⟩;have s1:=XM (o:=.lst [.ref l]) hr
  refine nm ?_;dsimp only [List.set];refine⟨_,rfl,x,_,dx,_,.ref i,rfl,s1 _ _ hx,T.cl_Part,T.n_Part_incoming,rfl,i,_,rfl,.inl (SqL.of (s1 _ _ hi)),_,_,rfl,rfl,(by show(0:Int)<2;decide),rfl,?_⟩;refine nm ?_;dsimp only [List.set];have ea:decide (V.int ((IL inc).length % 2:Int)=V.int 1)=(inc.length % 2 == 1):=by rw[Zx,Xz,OU,YS,RY];omega
  change Vv _ _ _ [some (.ref x),some (.ref r),some (.bl (decide (V.int ((IL inc).length % 2:Int)=V.int 1))),none,none] (upd H r (.lst [.ref l]));rw[ea];generalize SQ:(inc.length % 2 == 1)=asc at *;have kr:(upd H r (.lst [.ref l])) r=some (.lst [.ref l]):=XR
  generalize upd H r (.lst [.ref l])=H1 at *;have rD:=s1 _ _ hi
  have fresh:∀ b o,H b=some o->b≠r:=λb o e=>Zc e hr;refine⟨_,rfl,x,_,dx,_,.ref i,rfl,s1 _ _ hx,T.cl_Part,T.n_Part_incoming,rfl,i,rfl,⟨_,SqL.of rD⟩,vB (K:=K) (a:=i) (xs:=IL inc) (λj σ H2=>∃(xs:List V) (v3 v4:Option V),σ=[some (.ref x),some (.ref r),some (.bl (asc != (j % 2 == 1))),v3,v4]/\Same H H2/\H2 r=some (.lst xs)/\Bears (WR H2) xs (F :: VC n ps I F (inc.take j) asc)) ⟨[.ref l],none,none,by cases asc <;> rfl,s1,kr,⟨rfl,λj m e=>by
   match j,e with
   | 0,e=>exact⟨_,rfl,l,rfl,by rw[<- Yg e];exact s1 _ _ hl⟩⟩⟩ (λj σ H2 _ h=>by obtain⟨_,_,_,_,e,_⟩:=h;exact SqL.of (e _ _ hi)) ?_ ?_⟩
  rotate_left
  .rintro σ H2 ⟨xs,v3,v4,rfl,s2,Wd,hX⟩;rw[Xz,YI]at hX;refine SU ?_;refine⟨_,rfl,?_⟩;rw[<- SQ]at hX;exact q r xs H2 s2 hr Wd hX
  rintro j v σ H2 hj ⟨xs,v3,v4,rfl,s2,Wd,hX⟩;obtain⟨z,rfl,hz⟩:=WU hj;obtain⟨zF,z0,z1⟩:=TQ z (Xg hz);have sP:j<inc.length:=(Xs.mp hz).1
  refine nm ?_;dsimp only [List.set];refine⟨_,rfl,_,rfl,x,n,ps,I,O,F,inc,ld,fu,z,rfl,⟨dx,w,a,b,l,i,s2 _ _ hx,hW.same s2,SqK.same (k:=true) s2 hA,SqK.same (k:=true) s2 Se,s2 _ _ hl,s2 _ _ hi⟩,hG,hF,zF,z0,z1,λtA ys H3 s3 ht0 Ri hY=>?_⟩;refine nm ?_;dsimp only [List.set];have Uv:=s3 _ _ Wd
  have AW:F.length<=30:=by have:=hF.1.len;have:=hG.2.2.1;lia
  have xl:xs.length<=1000:=by
   rw[hX.1,YA];have h1:=dF n ps I F (inc.take j) asc
   have h2:(inc.take j).length * F.length<=30 * 30:=KU (by rw[Yy];grind) AW;lia
  have yl:ys.length<=30:=by rw[hY.1,Yd];exact Yv (YB ..) (Yv (Hs n ps F z F) AW)
  have lh:VC n ps I F (inc.take (j+1)) asc=VC n ps I F (inc.take j) asc++VV n ps I F (asc != (j % 2 == 1)) z:=by
   have e:inc.take (j+1)=inc.take j++[z]:=by rw[WB,hz];rfl
   have el:(inc.take j).length=j:=by rw[Yy];lia
   rw[e,Ja,el]
  have flip:(!(asc != (j % 2 == 1)))=(asc != ((j+1) % 2 == 1)):=by rcases(by grind:j % 2=0/\(j+1) % 2=1\/j % 2=1/\(j+1) % 2=0) with ⟨a,b⟩ | ⟨a,b⟩ <;> rw[a,b] <;> cases asc <;> rfl
  have fin:∀(zs:List V) (H4:Hp),Same H3 H4->zs.length=ys.length->Bears (WR H4) zs (VV n ps I F (asc != (j % 2 == 1)) z)->Same H (upd H4 r (.lst (xs++zs)))/\Bears (WR (upd H4 r (.lst (xs++zs)))) (xs++zs) (F :: VC n ps I F (inc.take (j+1)) asc):=λzs H4 s4 mx hZ=>by
   have Ln:=s4 _ _ Uv;refine⟨ZH hr ((s2.trans s3).trans s4),?_⟩;rw[lh];have hX4:Bears (WR H4) xs (F :: VC n ps I F (inc.take j) asc):=hX.imp λ_ _ h=>by obtain⟨c,e,hc⟩:=h;exact⟨c,e,(s3.trans s4) _ _ hc⟩
   exact(bY hX4 hZ).imp λ_ _ h=>by obtain⟨c,e,hc⟩:=h;exact⟨c,e,by rw[Zb (QX hc Ln (by simp))];exact hc⟩
  refine⟨_,rfl,.inl ⟨rfl,_,SqL.of Uv⟩,?_⟩;cases hb:(asc != (j % 2 == 1)) with
  | true =>
   rw[hb]at fin flip;refine⟨_,rfl,_,rfl,?_⟩;refine Wj ?_;refine⟨_,rfl,?_⟩;obtain⟨f1,f2⟩:=fin ys H3 (Same.refl _) rfl hY;refine⟨r,tA,xs,ys,rfl,rfl,Uv,Ri,OI (by lia),?_⟩;refine⟨_,rfl,_,rfl,?_⟩;exact⟨xs++ys,_,_,by rw[<- flip];rfl,f1,XR,f2⟩
  | false =>
   rw[hb]at fin flip;refine⟨_,rfl,_,rfl,?_⟩;refine Wv ?_;refine⟨_,rfl,tA,ys,rfl,SqL.of Ri,λd hd=>?_⟩;have s4:=XM (o:=.lst ys.reverse) hd
   obtain⟨f1,f2⟩:=fin ys.reverse _ s4 (YK) (bX (hY.imp λ_ _ h=>by obtain⟨c,e,hc⟩:=h;exact⟨c,e,s4 _ _ hc⟩));refine⟨r,d,xs,ys.reverse,rfl,rfl,s4 _ _ Uv,XR,OI (by rw[YK];omega),?_⟩;refine⟨_,rfl,_,rfl,?_⟩;exact⟨xs++ys.reverse,_,_,by rw[<- flip];rfl,f1,XR,f2⟩
def Iz(K:Ad)(CP C Pt:Addr)(d:Nat):Sp:=λvs H Q _=>∃(x:Addr) (n:Int) (ps:Aa) (I O F inc:Ac) (ld fu:Option Int) (R:Ab) (size start stop:Int),vs=[.ref x,.int size,.int start,.int stop]/\PartAt K CP C H x n ps I O F inc ld fu/\PartOk n ps I O ld F inc fu/\Zu n ps/\Xi H Pt/\RowR n ps d I O ld R/\size=R.length/\0<=start/\stop<=size/\stop - start<=100000 /\
 ∀(r:Addr) (xs:List V) (H':Hp),SameX Pt H H'->Xi H' Pt->H r=none->H' r=some (.lst xs)->Bears (WR H') xs ((R.drop start.toNat).take (stop - start).toNat)->Q (.ref r) H'
theorem lg(xs:List V){a b:Nat}(h2:b<=xs.length):WJ xs (some (a:Int)) (some (b:Int))=(xs.drop a).take (b - a):=by
 have e1:HT.Vt xs.length 0 (some (a:Int))=min a xs.length:=rfl;have e2:HT.Vt xs.length xs.length (some (b:Int))=min b xs.length:=rfl
 unfold WJ;rw[e1,e2,GB h2];rcases Nat.le_total a xs.length with c | c
 .rw[GB c]
 .rw[wV c,xi (XN _),xi c,zL,zL]
theorem ZE8{α:Type}{R:V->α->Prop}{xs:List V}{l:List α}(h:Bears R xs l)(a b:Nat):Bears R ((xs.drop a).take b) ((l.drop a).take b):=by
 refine⟨by rw[Yy,Yy,QF,QF,h.1],λi x e=>?_⟩;rw[GJ]at e;by_cases c:i<b
 .rw[if_pos c,w4]at e;obtain⟨v,hv,r⟩:=h.2 _ x e;exact⟨v,by rw[GJ,if_pos c,w4];exact hv,r⟩
 .rw[if_neg c]at e;cases e
theorem k9{α:Type}(A B:List α){a b:Nat}(h:b<=A.length):((A++B).drop a).take (b - a)=(A.drop a).take (b - a):=by
 rcases Nat.le_total a A.length with c | c
 .rw[xq c,xr (by rw[QF];exact Nat.sub_le_sub_right h a)]
 .rw[Nat.sub_eq_zero_of_le (Yv h c),wJ,wJ]
theorem bW{α:Type}(B:List α){i k:Nat}(h:i+k<=B.length):((B.reverse).drop i).take k=((B.drop (B.length - i - k)).take k).reverse:=by rw[List.drop_reverse,List.take_reverse,Yy,GB (Nat.sub_le _ _),List.drop_take,Nat.sub_sub_self (Nat.le_sub_of_add_le' h)]
theorem k8{α:Type}(A B:List α){a b c:Nat}(hc:(a<=A.length/\c=A.length)\/(A.length<=a/\c=a))(kZ:c<=b)(hb:b<=A.length+B.length):((A++B.reverse).drop a).take (b - a)=A.drop a++((B.drop (A.length+B.length - b)).take (b - c)).reverse:=by
 rcases hc with ⟨h,rfl⟩ | ⟨h,rfl⟩
 .rw[xq h,List.take_append,UN (by rw[QF];exact Nat.sub_le_sub_right kZ a),QF,Nat.sub_sub_sub_cancel_right h]
  have:=bW B (i:=0) (k:=b - A.length) (by grind)
  rw[List.drop_zero]at this;rw[this,show B.length - 0 - (b - A.length)=A.length+B.length - b by grind]
 .rw[List.drop_append,xi h,OV,OV,bW B (by grind),show B.length - (c - A.length) - (b - c)=A.length+B.length - b by grind]
theorem kY{x y:Int}:∃ m,(if x<y then x else y)=m/\m<=x/\m<=y/\(x<y->m=x)/\(¬ x<y->m=y):=by
 by_cases c:x<y
 .exact⟨x,if_pos c,Ma _,Md c,λ_=>rfl,λh=>absurd c h⟩
 .exact⟨y,if_neg c,Gu.mp c,Ma _,λh=>absurd h c,λ_=>rfl⟩
theorem bV{H H2:Hp}{Pt r:Addr}{pos:Pos}{qual:Str}(t:TabH H2 Pt pos qual)(s:SameX Pt H H2)(h:H2 r=none):H r=none:=by
 cases e:H r with
 | none=>rfl
 | some o =>
  have XH:r≠Pt:=λe'=>by obtain⟨p,h1,_⟩:=t;rw[<- e',h]at h1;cases h1
  rw[s _ _ XH e]at h;cases h
theorem Pl:FnScope ["part","size","start","stop","first","middle","trees","turned"] ["part","size","start","stop"] (XB sZE):=⟨rfl,rfl,rfl,by decide +kernel,rfl,by decide +kernel,by decide +kernel⟩
theorem kX {Pt:Addr} (T:Txt K mg t) (hB:SS K mg base t.dZx Pt) (d:Nat):FnOk P w K mg base Xk (11+d) t.aZE t.dZE ["part","size","start","stop"] (Iz K t.A_Part t.A_Web Pt d):=by
 have key:∀(d k:Nat) (sp:Sp),FnOk P w K mg base Xk k t.aZE t.dZE ["part","size","start","stop"] sp->k<=10+d->(∀ e,d=e+1->sp=Iz K t.A_Part t.A_Web Pt e)->FnOk P w K mg base Xk (11+d) t.aZE t.dZE ["part","size","start","stop"] (Iz K t.A_Part t.A_Web Pt d):=by
  intro d k sp ih hk Su;rw[show 11+d=10+d+1 by lia];refine T.fZE.ok Pl (λvs H Q E h=>?_) (λXy A outer s H vs Q E hr h=>?_)
  .obtain⟨x,n,ps,I,O,F,inc,ld,fu,R,size,start,stop,rfl,_⟩:=h;rfl
  .obtain⟨x,n,ps,I,O,F,inc,ld,fu,R,size,start,stop,rfl,SI,Vy,hG,hT,hR,hsz,Hu,JO,NX,q⟩:=h;refine⟨_,(XQ (WL (Zd Ki (pv 2) (pv 3) (Zq _))
   (XI (Zi (Sv XY)))
   Zo)
   (XQ (WL (Zd HK (Zn K (pv 0) rfl) VS (Zq _))
   (XI (Zi (LR (LN K) (XF (AX T) (hr.mono (by omega)) rfl T.mZD T.fZD.kp T.bZD .nil Zp (XZ (pv 0) XY)) (NQ (pv 2)) (NQ (pv 3)))))
   Zo)
   (XQ (Zh (i:=4) Pl.nd rfl (Or.inl rfl) (XF (Be T hB) (hr.mono (by omega)) rfl T.mZz T.fZz.kp T.bZz .nil Zp (XZ (pv 0) XY)))
   (XQ (Zh (i:=5) Pl.nd rfl (Or.inl rfl) (XF (Bb T) (hr.mono (by omega)) rfl T.mZB T.fZB.kp T.bZB .nil Zp (XZ (pv 4) XY)))
   (XQ (Zh (i:=6) Pl.nd rfl (Or.inl rfl) (XF ih (hr.mono (by omega)) rfl T.mZE T.fZE.kp T.bZE .nil Zp (XZ (pv 4) (XZ (pv 5) (XZ (pv 2) (XZ (Zf (vp rfl) (by rfl) T.n_min Boot.«min» (XZ (pv 3) (XZ (pv 5) XY))) XY))))))
   (XQ (WL (Zd LS (pv 3) (pv 5) (Zq _))
   (XQ (Zh (i:=7) Pl.nd rfl (Or.inl rfl) (XF ih (hr.mono (by omega)) rfl T.mZE T.fZE.kp T.bZE .nil Zp (XZ (XF (Bc T hB) (hr.mono (by omega)) rfl T.mZA T.fZA.kp T.bZA .nil Zp (XZ (pv 0) XY)) (XZ (Zs Te (pv 1) (pv 5)) (XZ (Zs Te (pv 1) (pv 3)) (XZ (Zs Te (pv 1) (Zf (iJ rfl) (by rfl) T.n_max Boot.«max» (XZ (pv 2) (XZ (pv 5) XY)))) XY))))))
   (XI (Wl (QQ K YU jr js iq (pv 6) (XZ (gM K rfl rfl T.n_list rfl T.n_reversed (XZ (pv 7) XY)) XY)))))
   Zo)
   (XI (Zi (pv 6))))))))),?_⟩
   obtain⟨dx,w0,a,b,l,i,hx,hW,hA,Se,hl,hi⟩:=id SI;refine⟨_,rfl,_,rfl,_,_,rfl,rfl,_,rfl,?_⟩;refine Xf (λPL=>?_) (λXd=>?_)
   .refine⟨Yl _,λr hr=>?_⟩;have s1:=XM (o:=.lst []) hr
    refine q r [] _ (SameX.same s1) (hT.same s1) hr XR ?_;rw[show(stop - start).toNat=0 by lia,wJ];exact⟨rfl,λi l e=>by simp at e⟩
   show(_:Prop);refine SU ?_;obtain⟨a0,rfl⟩:=jh Hu;obtain⟨b0,rfl⟩:=jh (show 0<=stop by lia);have VI:a0<=b0:=by lia
   have kW:b0<=R.length:=by rw[hsz]at JO;exact Int.ofNat_le.mp JO
   have e0:((b0:Int) - (a0:Int)).toNat=b0 - a0:=Int.toNat_sub _ _;rw[YC,e0]at q;subst hsz;refine⟨_,rfl,x,_,dx,_,Xc fu,rfl,hx,T.cl_Part,T.n_Part_further,rfl,rfl,_,rfl,?_⟩;cases hR with
   | und Wh VG kT =>
    obtain⟨rfl,rfl,rfl⟩:=Vy.uniq Wh;refine Wj ?_;refine⟨_,rfl,x,n,ps,I,O,F,inc,ld,none,rfl,SI,hG,Vy.tr.1,VG,kT,λr xs H1 s1 VU VY hX=>?_⟩;have IX:=hX.1
    refine⟨_,rfl,_,rfl,_,rfl,_,rfl,r,xs,rfl,SqL.of VY,λq1 bU=>?_⟩;rw[lg xs (by rw[IX];exact kW)];have s2:=XM (o:=.lst ((xs.drop a0).take (b0 - a0))) bU
    have WO:=s1.trans s2;refine q q1 _ _ (SameX.same WO) (hT.same WO) (s1.free bU) XR ?_;exact(ZE8 hX _ _).imp λ_ _ h=>by obtain⟨c,e,hc⟩:=h;exact⟨c,e,s2 _ _ hc⟩
   | div Wh hIn Xo Vk Sd Iy Iw y0 y1 kR xB xA =>
    rename_i e F' WA z y A' B;obtain⟨rfl,rfl,rfl⟩:=Vy.uniq Wh;have kQ:=Su e rfl
    subst kQ;refine Wv ?_;show(_:Prop)
    refine SU ?_;have TY:=QP.mp hIn
    have Pk:I.Nodup:=TY.1;have Pj:∀ v∈I,0<=v/\v<(ps.length:Int):=λv hv=>Xo v (Yb _ hv)
    have Ph:∀ v∈I,v∉O++[z]:=λv hv h=>(Xx.mp h).elim (Vk v (Yb _ hv)) λh=>TY.2.2 v hv z (by simp) (XD.mp h);have SN:O.length<=30:=by rw[Xt,Yh]at Sd;lia
    rw[Xt,YK]at kW;have QJ:(((A'++B.reverse).length:Nat):Int)=(A'.length:Int)+B.length:=by rw[Xt,YK,Int.natCast_add]
    obtain⟨m,em,m1,m2,m3,m4⟩:=kY (x:=(A'.length:Int)) (y:=(b0:Int));refine⟨_,rfl,x,n,ps,I,O,F,inc,z,y,rfl,SI,hG,hT,Pk,Pj,Ph,Sd,Iw,y0,y1,λx1 F1 SM IZ H1 Nb Um UP WN=>?_⟩;refine nm ?_;dsimp only [List.set];refine⟨_,rfl,x1,n,ps,I,O++[z],F1,SM,some y,IZ,rfl,Um,hG,Pk,Pj,Sd,Ph,λc H2 hc s2=>?_⟩;have ec:=hc.uniq kR
    subst ec;refine nm ?_;dsimp only [List.set];have UO:SameX Pt H H2:=UP.trans (SameX.same s2)
    have Xb:=WN.same s2;refine⟨_,rfl,_,rfl,_,rfl,_,rfl,_,rfl,_,_,rfl,?_⟩;refine⟨x1,n,ps,I,O++[z],F1,SM,some y,IZ,A',_,_,_,rfl,Um.samex WN (SameX.same s2),Nb,hG,Xb,xB,rfl,Hu,(by rw[em];exact m1),(by rw[em];exact RU (Int.sub_le_sub_right m2 _) NX),λr xs H3 Lg VX VU Uv hX=>?_⟩;refine nm ?_;dsimp only [List.set];have Uu:=UO.trans Lg
    have kP:H r=none:=bV Xb UO VU;rw[YC,em]at hX;refine⟨_,rfl,_,rfl,_,_,rfl,rfl,_,rfl,?_⟩;refine Xf (λbT=>?_) (λhle=>?_);rotate_left
    .show(_:Prop);refine SU ?_;refine⟨_,rfl,?_⟩;have kO:¬ (A'.length:Int)<(b0:Int):=hle
     rw[m4 kO,e0]at hX;rw[k9 A' B.reverse (by lia)]at q;exact q r xs H3 Uu VX kP Uv hX
    have AV:(A'.length:Int)<(b0:Int):=bT;rw[m3 AV,Int.toNat_sub,UN (by rw[QF];exact XN _)]at hX;clear m1 m2 m3 m4 em m;refine⟨_,rfl,x,n,ps,I,O,F,inc,z,y,rfl,SI.samex hT Uu,hG,VX,hIn,Xo,Vk,SN,Iy,y0,y1,λx2 F2 PB Cr H4 SK Vo TM Ws=>?_⟩;refine⟨_,rfl,_,rfl,_,_,rfl,rfl,_,rfl,_,rfl,_,_,rfl,rfl,_,rfl,_,rfl,_,rfl,_,_,rfl,_,_,rfl,rfl,?_⟩;obtain⟨c0,ec,BY,kZ⟩:∃ c0:Nat,(if (A'.length:Int) > (a0:Int) then (A'.length:Int) else (a0:Int))=(c0:Int)/\((a0<=A'.length/\c0=A'.length)\/(A'.length<=a0/\c0=a0))/\c0<=b0:=by
     by_cases c:(A'.length:Int) > (a0:Int)
     .exact⟨A'.length,if_pos c,.inl ⟨Oh (Int.ofNat_lt.mp c),rfl⟩,Oh (Int.ofNat_lt.mp AV)⟩
     .exact⟨a0,if_neg c,.inr ⟨Int.ofNat_le.mp (Gu.mp c),rfl⟩,VI⟩
    rw[k8 A' B BY kZ kW]at q;have hAc:A'.length<=c0:=by rcases BY with h | h <;> lia
    have hac:a0<=c0:=by rcases BY with h | h <;> lia
    clear BY;refine⟨x2,n,ps,I++[z],O,F2,PB,some y,Cr,B,_,_,_,rfl,Vo,SK,hG,Ws,xA,(by rw[QJ];lia),(by rw[QJ];lia),(by rw[ec,QJ];lia),(by rw[ec,QJ];lia),λr2 ys H5 Sb VB ma Lf hY=>?_⟩;refine nm ?_;dsimp only [List.set];have Ln:=TM _ _ (VX.ne Uv (by simp)) Uv
    have AU:=Sb _ _ (Ws.ne Ln (by simp)) Ln;have kN:=(Uu.trans TM).trans Sb
    have e2:((A'.length:Int)+B.length - (b0:Int)).toNat=A'.length+B.length - b0:=by grind
    have e3:((A'.length:Int)+B.length - (c0:Int) - ((A'.length:Int)+B.length - (b0:Int))).toNat=b0 - c0:=by grind
    rw[ec,QJ,e2,e3]at hY;have IX:xs.length<=100000:=by rw[hX.1,QF];lia
    have xT:ys.length<=100000:=by rw[hY.1,Yy];lia
    refine⟨_,rfl,.inl ⟨rfl,_,SqL.of AU⟩,_,rfl,r2,ys,rfl,SqL.of Lf,λdA hd=>?_⟩;have s6:=XM (o:=.lst ys.reverse) hd
    have Lm:=s6 _ _ AU;have z1:1000000<=sizeLine:=by decide
    refine⟨r,dA,xs,ys.reverse,rfl,rfl,Lm,XR,(by rw[YK];lia),?_⟩;refine⟨_,rfl,?_⟩;refine q r (xs++ys.reverse) _ (λb o hb e=>?_) ((VB.same s6).put Lm) kP XR ?_
    .rw[Zb (Zc e kP)];exact s6 _ _ (kN _ _ hb e)
    .have f1:Bears (WR (upd H5 dA (.lst ys.reverse))) xs (A'.drop a0):=hX.imp λ_ _ h=>by
      obtain⟨c,e,hc⟩:=h;have bS:=TM _ _ (VX.ne hc (by simp)) hc
      exact⟨c,e,s6 _ _ (Sb _ _ (Ws.ne bS (by simp)) bS)⟩
     have f2:Bears (WR (upd H5 dA (.lst ys.reverse))) ys.reverse ((B.drop (A'.length+B.length - b0)).take (b0 - c0)).reverse:=bX (hY.imp λ_ _ h=>by obtain⟨c,e,hc⟩:=h;exact⟨c,e,s6 _ _ hc⟩)
     exact(bY f1 f2).imp λ_ _ h=>by obtain⟨c,e,hc⟩:=h;exact⟨c,e,by rw[Zb (QX hc Lm (by simp))];exact hc⟩
 induction d with
 | zero=>exact key 0 0 _ dv (by lia) λe h=>(by cases h)
 | succ d ih=>exact key (d+1) (11+d) _ ih (by lia) λe h=>(by cases h;rfl)
def kM:Sp:=λvs H Q _=>∃ z:Int,vs=[.int z]/\-(10 ^ 70)<z/\z<10 ^ 70/\(0<=z->Q .non H)/\(z<0->False)
theorem kJ:FnScope ["number"] ["number"] (XB sZF):=⟨rfl,rfl,rfl,by decide +kernel,rfl,by decide +kernel,by decide +kernel⟩
theorem kI (T:Txt K mg t):FnOk P w K mg base Xk 1 t.aZF t.dZF ["number"] kM:=by
 refine T.fZF.ok kJ (λvs H Q E h=>?_) (λXy A outer s H vs Q E hr h=>?_)
 .obtain⟨z,rfl,_⟩:=h;rfl
 .obtain⟨z,rfl,z0,z1,q,qe⟩:=h;refine⟨_,(XI (WL (Zd Kj (pv 0) Za (Zq _))
   (XI Vu)
   Zo)),?_⟩
  refine⟨_,rfl,_,_,rfl,rfl,_,rfl,?_⟩;refine Xf (λh=>?_) (λh=>?_)
  .exact qe h
  .exact q (by lia)
def kH(K:Ad)(CP C Pt:Addr):Sp:=λvs H Q _=>∃(w:Addr) (n:Int) (ps:Aa) (num most:Int) (R:Ab),vs=[.ref w,.int num,.int most]/\WebAt C H w n ps/\Zu n ps/\Xi H Pt/\0<=num/\num<10 ^ 70/\0<=most/\most<=100000/\((∃ U,Ze n ps U)->RowW n ps R)/\((∀ U,¬ Ze n ps U)->R=[]) /\
 ∀(r:Addr) (xs:List V) (H':Hp),SameX Pt H H'->Xi H' Pt->H r=none->H' r=some (.lst xs)->Bears (WR H') xs ((R.drop num.toNat).take most.toNat)->Q (.ref r) H'
theorem AS:FnScope ["web","number","most","size"] ["web","number","most"] (XB sZG):=⟨rfl,rfl,rfl,by decide +kernel,rfl,by decide +kernel,by decide +kernel⟩
theorem AR {Pt:Addr} (T:Txt K mg t) (hB:SS K mg base t.dZx Pt):FnOk P w K mg base Xk 44 t.aZG t.dZG ["web","number","most"] (kH K t.A_Part t.A_Web Pt):=by
 refine T.fZG.ok AS (λvs H Q E h=>?_) (λXy A outer s H vs Q E hr h=>?_)
 .obtain⟨w,n,ps,num,most,R,rfl,_⟩:=h;rfl
 .obtain⟨w,n,ps,num,most,R,rfl,hW,hG,hT,n0,n1,m0,m1,bR,AQ,q⟩:=h;refine⟨_,(XQ (Wl (XF (kI T) (hr.mono (by decide)) rfl T.mZF T.fZF.kp T.bZF .nil Zp (XZ (pv 1) XY)))
   (XQ (Zh (i:=3) AS.nd rfl (Or.inl rfl) (XF (Py T) (hr.mono (by decide)) rfl T.mZl T.fZl.kp T.bZl .nil Zp (XZ (pv 0) XY)))
   (XQ (WL (Zd Ki (pv 1) (pv 3) (Zq _))
   (XI (Zi (Sv XY)))
   Zo)
   (XI (Zi (XF (kX T hB 31) (hr.mono (by decide)) rfl T.mZE T.fZE.kp T.bZE .nil Zp (XZ (XF (Bg T hB) (hr.mono (by decide)) rfl T.mZy T.fZy.kp T.bZy .nil Zp (XZ (pv 0) XY)) (XZ (pv 3) (XZ (pv 1) (XZ (Zf (vp rfl) (by rfl) T.n_min Boot.«min» (XZ (Zs UY (pv 1) (pv 2)) (XZ (pv 3) XY))) XY)))))))))),?_⟩
  have big:(0:Int)<10 ^ 70:=by decide
  refine⟨_,rfl,num,rfl,by lia,n1,λ_=>?_,λh=>absurd h (by lia)⟩;refine⟨_,rfl,w,n,ps,rfl,hW,hG,λc H1 hc s1=>?_⟩;refine nm ?_;dsimp only [List.set];have QJ:R.length=c:=by
   by_cases hex:∃ U,Ze n ps U
   .obtain⟨_,_,_,_,_,_,_,_,h⟩:=bR hex;exact h.uniq hc
   .have Sq:∀ U,¬ Ze n ps U:=λU hU=>hex ⟨U,hU⟩;rw[AQ Sq,(Jc hc).mpr Sq];rfl
  refine⟨_,rfl,_,rfl,_,_,rfl,rfl,_,rfl,?_⟩;refine Xf (λPL=>?_) (λXd=>?_)
  .refine⟨Yl _,λr hr=>?_⟩;have s2:=XM (o:=.lst []) hr
   have WO:=s1.trans s2;refine q r [] _ (SameX.same WO) (hT.same WO) (s1.free hr) XR ?_;rw[Ld (by lia),zL];exact⟨rfl,λi l e=>by simp at e⟩
  show(_:Prop);refine SU ?_;obtain⟨U0,GV⟩:∃ U,Ze n ps U:=Yt λno=>by
   have:=(Jc hc).mpr λU hU=>no ⟨U,hU⟩
   lia
  obtain⟨ld,F,inc,fu,Vy,hn,hs,Lo,_⟩:=bR ⟨U0,GV⟩;have WN:=hT.same s1
  refine⟨_,rfl,w,n,ps,rfl,hW.same s1,hG,WN,⟨U0,GV⟩,λx F' WA Lp Ls H2 Wh RS OL SI UO Xb=>?_⟩;have eF:F'=F:=Tu (Vy.least F' Wh.tr) (Wh.least F Vy.tr)
  subst eF;have el:=dj RS OL hn hs
  subst el;refine⟨_,rfl,_,rfl,_,rfl,_,rfl,_,_,rfl,rfl,_,rfl,_,_,rfl,?_⟩;refine⟨x,n,ps,[],[],F',WA,Lp,Ls,R,_,_,_,rfl,SI,Wh,hG,Xb,Lo,by lia,n0,(by split <;> lia),(by split <;> lia),λr xs H3 Lg VX VU Uv hX=>?_⟩
  have e1:((R.drop num.toNat).take ((if (c:Int)<num+most then (c:Int) else num+most) - num).toNat)=(R.drop num.toNat).take most.toNat:=by rw[List.take_eq_take_iff,QF];split <;> grind
  rw[e1]at hX;exact q r xs H3 ((SameX.same s1).trans (UO.trans Lg)) VX (bV Xb ((SameX.same s1).trans UO) VU) Uv hX
def kG(K:Ad)(CP C Pt:Addr):Sp:=λvs H Q _=>∃(w:Addr) (n:Int) (ps:Aa) (num:Int) (R:Ab),vs=[.ref w,.int num]/\WebAt C H w n ps/\Zu n ps/\Xi H Pt/\0<=num/\num<R.length/\RowW n ps R /\
 ∀(r:Addr) (T:Ac) (H':Hp),R[num.toNat]?=some T->SameX Pt H H'->Xi H' Pt->H' r=some (.tup (IL T))->Q (.ref r) H'
theorem kF{R:Ab}{j:Nat}{T:Ac}(h:R[j]?=some T):(R.drop j).take 1=[T]:=by have hj:=(Xs.mp h);rw[xp hj.1,hj.2];rfl
theorem AO:FnScope ["web","number","trees"] ["web","number"] (XB sZH):=⟨rfl,rfl,rfl,by decide +kernel,rfl,by decide +kernel,by decide +kernel⟩
theorem MD {Pt:Addr} (T:Txt K mg t) (hB:SS K mg base t.dZx Pt):FnOk P w K mg base Xk 45 t.aZH t.dZH ["web","number"] (kG K t.A_Part t.A_Web Pt):=by
 refine T.fZH.ok AO (λvs H Q E h=>?_) (λXy A outer s H vs Q E hr h=>?_)
 .obtain⟨w,n,ps,num,R,rfl,_⟩:=h;rfl
 .obtain⟨w,n,ps,num,R,rfl,hW,hG,hT,n0,n1,hR,q⟩:=h;refine⟨_,(XQ (Zh (i:=2) AO.nd rfl (Or.inl rfl) (XF (AR T hB) (hr.mono (by decide)) rfl T.mZG T.fZG.kp T.bZG .nil Zp (XZ (pv 0) (XZ (pv 1) (XZ Za XY)))))
   (XQ (WL (Zd Td (Zf (Zj K) (by rfl) T.n_len Boot.«len» (XZ (pv 2) XY)) Za (Zq _))
   (XI Vu)
   Zo)
   (XI (Zi (ZR (Zk K) (pv 2) Za (λ_ _=>rfl)))))),?_⟩
  obtain⟨ld,F,inc,fu,Vy,_,_,_,Pg⟩:=id hR;have bQ:=Jl hG Pg
  obtain⟨U,hU⟩:∃ U,R[num.toNat]?=some U:=⟨_,Xn (by lia)⟩;refine⟨_,rfl,_,rfl,w,n,ps,num,1,R,rfl,hW,hG,hT,n0,by lia,by decide,by decide,λ_=>hR,λno=>absurd Vy.tr.1 (no F),λr xs H1 UP WN VU VY hX=>?_⟩;refine nm ?_;dsimp only [List.set];rw[show(1:Int).toNat=1 from rfl,kF hU]at hX;obtain⟨v,hv,c,rfl,hc⟩:=hX.2 0 U rfl;have hl:xs.length=1:=hX.1
  refine⟨_,rfl,r,xs,rfl,.inl (SqL.of VY),rfl,_,rfl,?_⟩;rw[Zx];refine Xf (λh0=>by lia) (λ_=>?_);show(_:Prop)
  refine SU ?_;exact⟨_,rfl,r,xs,0,.ref c,rfl,rfl,SqL.of VY,ZL (n:=0) rfl hv,q c U H1 hU UP WN hc⟩
def kE(K:Ad)(CP C Pt:Addr):Sp:=λvs H Q _=>∃(w:Addr) (n:Int) (ps:Aa) (R:Ab),vs=[.ref w]/\WebAt C H w n ps/\Zu n ps/\Xi H Pt/\RowW n ps R /\
 ∀(r:Addr) (T:Ac) (H':Hp),R[R.length - 1]?=some T->SameX Pt H H'->Xi H' Pt->H' r=some (.tup (IL T))->Q (.ref r) H'
theorem ZB5{n:Int}{ps:Aa}{T:Ac}(h:Ze n ps T):Np n ps:=λi j hi hj=>(h.2.2 i j hi hj).mono (ZA λz hz=>XE.mpr (h.1.all z hz))
theorem kD:FnScope ["web"] ["web"] (XB sZI):=⟨rfl,rfl,rfl,by decide +kernel,rfl,by decide +kernel,by decide +kernel⟩
theorem AN {Pt:Addr} (T:Txt K mg t) (hB:SS K mg base t.dZx Pt):FnOk P w K mg base Xk 46 t.aZI t.dZI ["web"] (kE K t.A_Part t.A_Web Pt):=by
 refine T.fZI.ok kD (λvs H Q E h=>?_) (λXy A outer s H vs Q E hr h=>?_)
 .obtain⟨w,n,ps,R,rfl,_⟩:=h;rfl
 .obtain⟨w,n,ps,R,rfl,hW,hG,hT,hR,q⟩:=h;refine⟨_,(XQ (Wl (XF (BM T) (hr.mono (by decide)) rfl T.mZi T.fZi.kp T.bZi .nil Zp (XZ (pv 0) XY)))
   (XI (Zi (XF (MD T hB) (hr.mono (by decide)) rfl T.mZH T.fZH.kp T.bZH .nil Zp (XZ (pv 0) (XZ (Zs Te (XF (Py T) (hr.mono (by decide)) rfl T.mZl T.fZl.kp T.bZl .nil Zp (XZ (pv 0) XY)) Za) XY)))))),?_⟩
  obtain⟨ld,F,inc,fu,Vy,_,_,_,Pg⟩:=id hR;have hJ:=ZB5 Vy.tr.1
  have c0:R.length≠0:=λe=>by rw[e]at Pg;exact(Jc Pg).mp rfl F Vy.tr.1
  refine⟨_,rfl,w,n,ps,rfl,hW,hG,λ_ H1 s1=>?_,λh=>absurd hJ h⟩;refine⟨_,rfl,_,rfl,w,n,ps,rfl,hW.same s1,hG,λc H2 hc s2=>⟨_,_,rfl,rfl,?_⟩⟩;obtain rfl:=hc.uniq Pg;have WO:=s1.trans s2
  refine⟨w,n,ps,_,R,rfl,hW.same WO,hG,hT.same WO,(by show(0:Int)<=(R.length:Int) - 1;omega),(by show(R.length:Int) - 1<R.length;omega),hR,λr U H3 hU sx tab Uv=>?_⟩;exact q r U H3 (by rw[show((R.length:Int) - 1).toNat=R.length - 1 by omega]at hU;exact hU) ((SameX.same WO).trans sx) tab Uv
def Iv(K:Ad)(CP C Pt:Addr)(d:Nat):Sp:=λvs H Q _=>∃(x a:Addr) (n:Int) (ps:Aa) (I O F inc T:Ac) (ld fu:Option Int) (R:Ab) (size:Int),vs=[.ref x,.int size,.ref a]/\PartAt K CP C H x n ps I O F inc ld fu/\PartOk n ps I O ld F inc fu/\Zu n ps/\Xi H Pt/\RowR n ps d I O ld R/\size=R.length/\SqT K H a (IL T)/\T∈R /\
 ∀(j:Nat) (H':Hp),R[j]?=some T->SameX Pt H H'->Xi H' Pt->Q (.int j) H'
theorem Iu:FnScope ["part","size","tree","first","middle"] ["part","size","tree"] (XB sZJ):=⟨rfl,rfl,rfl,by decide +kernel,rfl,by decide +kernel,by decide +kernel⟩
theorem kC {Pt:Addr} (T:Txt K mg t) (hB:SS K mg base t.dZx Pt) (d:Nat):FnOk P w K mg base Xk (11+d) t.aZJ t.dZJ ["part","size","tree"] (Iv K t.A_Part t.A_Web Pt d):=by
 have key:∀(d k:Nat) (sp:Sp),FnOk P w K mg base Xk k t.aZJ t.dZJ ["part","size","tree"] sp->k<=10+d->(∀ e,d=e+1->sp=Iv K t.A_Part t.A_Web Pt e)->FnOk P w K mg base Xk (11+d) t.aZJ t.dZJ ["part","size","tree"] (Iv K t.A_Part t.A_Web Pt d):=by
  intro d k sp ih hk Su;rw[show 11+d=10+d+1 by lia];refine T.fZJ.ok Iu (λvs H Q E h=>?_) (λXy A outer s H vs Q E hr h=>?_)
  .obtain⟨x,a,n,ps,I,O,F,inc,U,ld,fu,R,size,rfl,_⟩:=h;rfl
  .obtain⟨x,ta,n,ps,I,O,F,inc,U,ld,fu,R,size,rfl,SI,Vy,hG,hT,hR,hsz,xV,hU,q⟩:=h;refine⟨_,(XQ (WL (Zd HK (Zn K (pv 0) rfl) VS (Zq _))
   (XI (Zi (QQ K YU jk jm (oB K (NG hr)) (XF (AX T) (hr.mono (by omega)) rfl T.mZD T.fZD.kp T.bZD .nil Zp (XZ (pv 0) XY)) (XZ (pv 2) XY))))
   Zo)
   (XQ (Zh (i:=3) Iu.nd rfl (Or.inl rfl) (XF (Be T hB) (hr.mono (by omega)) rfl T.mZz T.fZz.kp T.bZz .nil Zp (XZ (pv 0) XY)))
   (XQ (Zh (i:=4) Iu.nd rfl (Or.inl rfl) (XF (Bb T) (hr.mono (by omega)) rfl T.mZB T.fZB.kp T.bZB .nil Zp (XZ (pv 3) XY)))
   (XQ (WL (Zd (Qh K) (Zn K (pv 0) rfl) (pv 2) rfl)
   (XI (Zi (Zs Te (Zs Te (pv 1) Za) (XF ih (hr.mono (by omega)) rfl T.mZJ T.fZJ.kp T.bZJ .nil Zp (XZ (XF (Bc T hB) (hr.mono (by omega)) rfl T.mZA T.fZA.kp T.bZA .nil Zp (XZ (pv 0) XY)) (XZ (Zs Te (pv 1) (pv 4)) (XZ (pv 2) XY)))))))
   Zo)
   (XI (Zi (XF ih (hr.mono (by omega)) rfl T.mZJ T.fZJ.kp T.bZJ .nil Zp (XZ (pv 3) (XZ (pv 4) (XZ (pv 2) XY)))))))))),?_⟩
   obtain⟨dx,w0,a,b,l,i,hx,hW,hA,Se,hl,hi⟩:=id SI;refine⟨_,rfl,x,_,dx,_,Xc fu,rfl,hx,T.cl_Part,T.n_Part_further,rfl,rfl,_,rfl,?_⟩;have bP:=Cq hG hR
   cases hR with
   | und Wh VG kT =>
    obtain⟨rfl,rfl,rfl⟩:=Vy.uniq Wh;refine Wj ?_;refine⟨_,rfl,x,n,ps,I,O,F,inc,ld,none,rfl,SI,hG,Vy.tr.1,VG,kT,λr xs H1 s1 VU VY hX=>?_⟩;obtain⟨e,j,c,h1,h2,h3,h4,h5⟩:=ZP7 (K:=K) hX (SqK.same (k:=true) s1 xV) hU;refine⟨.inl ⟨rfl,_,SqL.of VY⟩,_,rfl,1,r,xs,.ref ta,e,j,c,rfl,rfl,VY,by decide,h1,h2,h3,h4,?_⟩;exact q j H1 h5 (SameX.same s1) (hT.same s1)
   | div Wh hIn Xo Vk Sd Iy Iw y0 y1 kR xB xA =>
    rename_i e F' WA z y A' B;obtain⟨rfl,rfl,rfl⟩:=Vy.uniq Wh;have kQ:=Su e rfl
    subst kQ;refine Wv ?_;show(_:Prop)
    refine SU ?_;have TY:=QP.mp hIn
    have Pk:I.Nodup:=TY.1;have Pj:∀ v∈I,0<=v/\v<(ps.length:Int):=λv hv=>Xo v (Yb _ hv)
    have Ph:∀ v∈I,v∉O++[z]:=λv hv h=>(Xx.mp h).elim (Vk v (Yb _ hv)) λh=>TY.2.2 v hv z (by simp) (XD.mp h);have SN:O.length<=30:=by rw[Xt,Yh]at Sd;lia
    have QJ:size=(A'.length:Int)+B.length:=by rw[hsz,Xt,YK];lia
    refine⟨_,rfl,x,n,ps,I,O,F,inc,z,y,rfl,SI,hG,hT,Pk,Pj,Ph,Sd,Iw,y0,y1,λx1 F1 SM IZ H1 Nb Um UP WN=>?_⟩;refine nm ?_;dsimp only [List.set];refine⟨_,rfl,x1,n,ps,I,O++[z],F1,SM,some y,IZ,rfl,Um,hG,Pk,Pj,Sd,Ph,λc H2 hc s2=>?_⟩;have ec:=hc.uniq kR
    subst ec;refine nm ?_;dsimp only [List.set];have UO:SameX Pt H H2:=UP.trans (SameX.same s2)
    have Xb:=WN.same s2;have mM:=UO _ _ (hT.ne hx (by simp)) hx
    have Ir:SqT K H2 ta (IL U):=SqK.samex (kd:=true) xV hT UO;refine⟨_,rfl,x,_,dx,_,.int z,rfl,mM,T.cl_Part,T.n_Part_lead,rfl,_,rfl,ta,_,rfl,.inr Ir,rfl,ZE _,_,rfl,?_⟩;rw[ZQ];refine Xf (λhz=>?_) (λhz=>?_)
    .have hUB:U∈B:=by
      rcases Xx.mp hU with h | h
      .exact absurd hz ((Cq hG xB U h).2.2 z (by simp))
      .exact HY.mp h
     refine⟨_,rfl,_,_,rfl,rfl,_,rfl,x,n,ps,I,O,F,inc,z,y,rfl,SI.samex hT UO,hG,Xb,hIn,Xo,Vk,SN,Iy,y0,y1,λx2 F2 PB Cr H4 SK Vo TM Ws=>?_⟩;refine⟨_,rfl,_,rfl,_,_,rfl,rfl,_,rfl,?_⟩;refine⟨x2,ta,n,ps,I++[z],O,F2,PB,U,some y,Cr,B,_,rfl,Vo,SK,hG,Ws,xA,by lia,SqK.samex (kd:=true) Ir Xb TM,hUB,λj H5 hj Sb VB=>?_⟩;have NA:=(Xs.mp hj).1
     refine⟨_,_,rfl,rfl,?_⟩;have e:size - 1 - (j:Int)=((A'.length+(B.length - 1 - j):Nat):Int):=by grind
     show Q (.int (size - 1 - (j:Int))) H5;rw[e];refine q _ H5 ?_ ((UO.trans TM).trans Sb) VB;rw[Yp (by lia),Lc (by lia),show B.length - 1 - (A'.length+(B.length - 1 - j) - A'.length)=j by lia];exact hj
    .have hUA:U∈A':=by
      rcases Xx.mp hU with h | h
      .exact h
      .exact absurd ((Cq hG xA U (HY.mp h)).2.1 z (by simp)) hz
     show(_:Prop);refine SU ?_;refine⟨_,rfl,_,rfl,_,rfl,?_⟩;refine⟨x1,ta,n,ps,I,O++[z],F1,SM,U,some y,IZ,A',_,rfl,Um.samex WN (SameX.same s2),Nb,hG,Xb,xB,rfl,Ir,hUA,λj H3 hj Lg VX=>?_⟩;refine q j H3 ?_ (UO.trans Lg) VX;rw[Ys (Xs.mp hj).1];exact hj
 induction d with
 | zero=>exact key 0 0 _ dv (by lia) λe h=>(by cases h)
 | succ d ih=>exact key (d+1) (11+d) _ ih (by lia) λe h=>(by cases h;rfl)
def kB(K:Ad)(CP C Pt:Addr):Sp:=λvs H Q _=>∃(w a:Addr) (n:Int) (ps:Aa) (U:Ac) (R:Ab),vs=[.ref w,.ref a]/\WebAt C H w n ps/\Zu n ps/\Xi H Pt/\SqT K H a (IL U)/\Ze n ps U/\RowW n ps R/\U∈R /\
 ∀(j:Nat) (H':Hp),R[j]?=some U->SameX Pt H H'->Xi H' Pt->Q (.int j) H'
theorem ky:FnScope ["web","tree"] ["web","tree"] (XB sZK):=⟨rfl,rfl,rfl,by decide +kernel,rfl,by decide +kernel,by decide +kernel⟩
theorem MC {Pt:Addr} (T:Txt K mg t) (hB:SS K mg base t.dZx Pt):FnOk P w K mg base Xk 44 t.aZK t.dZK ["web","tree"] (kB K t.A_Part t.A_Web Pt):=by
 refine T.fZK.ok ky (λvs H Q E h=>?_) (λXy A outer s H vs Q E hr h=>?_)
 .obtain⟨w,a,n,ps,U,R,rfl,_⟩:=h;rfl
 .obtain⟨w,a,n,ps,U,R,rfl,hW,hG,hT,hA,hU,⟨ld,F,inc,fu,Vy,hn,hs,Lo,Pg⟩,kx,q⟩:=h;refine⟨_,(XQ (Wl (XF (IG T) (hr.mono (by decide)) rfl T.mZo T.fZo.kp T.bZo .nil Zp (XZ (pv 0) (XZ (pv 1) XY))))
   (XI (Zi (XF (kC T hB 31) (hr.mono (by decide)) rfl T.mZJ T.fZJ.kp T.bZJ .nil Zp (XZ (XF (Bg T hB) (hr.mono (by decide)) rfl T.mZy T.fZy.kp T.bZy .nil Zp (XZ (pv 0) XY)) (XZ (XF (Py T) (hr.mono (by decide)) rfl T.mZl T.fZl.kp T.bZl .nil Zp (XZ (pv 0) XY)) (XZ (Zr (ZC K) (by rfl) T.n_tuple Boot.«tuple» (XZ (pv 1) XY)) XY))))))),?_⟩
  refine⟨_,rfl,_,rfl,w,a,n,ps,true,U,rfl,hW,hG,hA,λ_ H1 s1=>?_,λh=>absurd hU h⟩;have WN:=hT.same s1
  refine⟨_,rfl,w,n,ps,rfl,hW.same s1,hG,WN,⟨U,hU⟩,λx F' WA Lp Ls H2 Wh RS OL SI UO Xb=>?_⟩;have eF:F'=F:=Tu (Vy.least F' Wh.tr) (Wh.least F Vy.tr)
  subst eF;have el:=dj RS OL hn hs
  subst el;have TK:SameX Pt H H2:=(SameX.same s1).trans UO
  refine⟨_,rfl,w,n,ps,rfl,hW.samex hT TK,hG,λc H3 hc s3=>?_⟩;have ec:=hc.uniq Pg
  have Uu:=TK.trans (SameX.same s3);have VX:=Xb.same s3
  have RG:SqT K H3 a (IL U):=SqK.samex (kd:=true) hA hT Uu;refine⟨_,rfl,a,_,rfl,.inr ⟨RG,?_⟩⟩;exact⟨x,a,n,ps,[],[],F',WA,U,Lp,Ls,R,_,rfl,SI.samex Xb (SameX.same s3),Wh,hG,VX,Lo,by rw[ec],RG,kx,λj H4 hj TM Ws=>q j H4 hj (Uu.trans TM) Ws⟩
def ku(K:Ad)(CP C Pt:Addr):Sp:=λvs H Q _=>∃(w a:Addr) (n:Int) (ps:Aa) (U:Ac) (R:Ab) (j:Nat),vs=[.ref w,.ref a]/\WebAt C H w n ps/\Zu n ps/\Xi H Pt/\SqT K H a (IL U)/\Ze n ps U/\RowW n ps R/\R.Nodup/\R[j]?=some U /\
 ∀(v:V) (H':Hp),DJ H' v (R[j+1]?)->SameX Pt H H'->Xi H' Pt->Q v H'
theorem AM:FnScope ["web","tree","trees"] ["web","tree"] (XB sZL):=⟨rfl,rfl,rfl,by decide +kernel,rfl,by decide +kernel,by decide +kernel⟩
theorem AL {Pt:Addr} (T:Txt K mg t) (hB:SS K mg base t.dZx Pt):FnOk P w K mg base Xk 45 t.aZL t.dZL ["web","tree"] (ku K t.A_Part t.A_Web Pt):=by
 refine T.fZL.ok AM (λvs H Q E h=>?_) (λXy A outer s H vs Q E hr h=>?_)
 .obtain⟨w,a,n,ps,U,R,j,rfl,_⟩:=h;rfl
 .obtain⟨w,a,n,ps,U,R,j,rfl,hW,hG,hT,hA,hU,hR,hN,hj,q⟩:=h;refine⟨_,(XQ (Zh (i:=2) AM.nd rfl (Or.inl rfl) (XF (AR T hB) (hr.mono (by decide)) rfl T.mZG T.fZG.kp T.bZG .nil Zp (XZ (pv 0) (XZ (Zs UY (XF (MC T hB) (hr.mono (by decide)) rfl T.mZK T.fZK.kp T.bZK .nil Zp (XZ (pv 0) (XZ (pv 1) XY))) Za) (XZ Za XY)))))
   (XI (Zi (zt (Zd Td (Zf (Zj K) (by rfl) T.n_len Boot.«len» (XZ (pv 2) XY)) Za (Zq _)) VS (ZR (Zk K) (pv 2) Za (λ_ _=>rfl)))))),?_⟩
  obtain⟨ld,F,inc,fu,Vy,_,_,_,Pg⟩:=id hR;have bQ:=Jl hG Pg
  have jl:=(Xs.mp hj).1;refine⟨_,rfl,_,rfl,_,rfl,w,a,n,ps,U,R,rfl,hW,hG,hT,hA,hU,hR,Xg hj,λi H1 hi UP WN=>⟨_,_,rfl,rfl,?_⟩⟩;obtain rfl:i=j:=(GF (Xs.mp hi).1 hN).mp (hi.trans hj.symm);refine⟨w,n,ps,_,1,R,rfl,hW.samex hT UP,hG,WN,(by show(0:Int)<=(i:Int)+1;omega),(by show(i:Int)+1<10 ^ 70;omega),by decide,by decide,λ_=>hR,λno=>absurd Vy.tr.1 (no F),λr xs H2 UO Xb VU Wd hX=>?_⟩;refine nm ?_;dsimp only [List.set];rw[show(1:Int).toNat=1 from rfl,show((i:Int)+1).toNat=i+1 from rfl]at hX;have TK:=UP.trans UO
  refine⟨_,rfl,r,xs,rfl,.inl (SqL.of Wd),rfl,_,rfl,?_⟩;rw[Zx];cases hn:R[i+1]? with
  | none =>
   rw[hn]at q;rw[Ld (Ah.mp hn),zL]at hX;refine Xf (λ_=>q .non H2 rfl TK Xb) (λh=>absurd (by rw[hX.1];rfl) h)
  | some U2 =>
   rw[hn]at q;have e:(R.drop (i+1)).take 1=[U2]:=by obtain⟨h1,h2⟩:=Xs.mp hn;rw[xp h1,h2];rfl
   rw[e]at hX;obtain⟨v,hv,c,rfl,hc⟩:=hX.2 0 U2 rfl;refine Xf (λh=>absurd h (by rw[hX.1];show ¬ (1:Int)=0;decide)) (λ_=>?_);exact⟨_,rfl,r,xs,0,.ref c,rfl,rfl,SqL.of Wd,ZL (n:=0) rfl hv,q (.ref c) H2 ⟨c,rfl,hc⟩ TK Xb⟩
def kq(K:Ad)(CP C Pt:Addr):Sp:=λvs H Q _=>∃(w a:Addr) (n:Int) (ps:Aa) (U:Ac) (R:Ab) (j:Nat),vs=[.ref w,.ref a]/\WebAt C H w n ps/\Zu n ps/\Xi H Pt/\SqT K H a (IL U)/\Ze n ps U/\RowW n ps R/\R.Nodup/\R[j]?=some U /\
 ∀(v:V) (H':Hp),DJ H' v (if j=0 then none else R[j - 1]?)->SameX Pt H H'->Xi H' Pt->Q v H'
theorem AK:FnScope ["web","tree","number"] ["web","tree"] (XB sZM):=⟨rfl,rfl,rfl,by decide +kernel,rfl,by decide +kernel,by decide +kernel⟩
theorem AJ {Pt:Addr} (T:Txt K mg t) (hB:SS K mg base t.dZx Pt):FnOk P w K mg base Xk 46 t.aZM t.dZM ["web","tree"] (kq K t.A_Part t.A_Web Pt):=by
 refine T.fZM.ok AK (λvs H Q E h=>?_) (λXy A outer s H vs Q E hr h=>?_)
 .obtain⟨w,a,n,ps,U,R,j,rfl,_⟩:=h;rfl
 .obtain⟨w,a,n,ps,U,R,j,rfl,hW,hG,hT,hA,hU,hR,hN,hj,q⟩:=h;refine⟨_,(XQ (Zh (i:=2) AK.nd rfl (Or.inl rfl) (XF (MC T hB) (hr.mono (by decide)) rfl T.mZK T.fZK.kp T.bZK .nil Zp (XZ (pv 0) (XZ (pv 1) XY))))
   (XI (Zi (zt (Zd Td (pv 2) Za (Zq _)) VS (XF (MD T hB) (hr.mono (by decide)) rfl T.mZH T.fZH.kp T.bZH .nil Zp (XZ (pv 0) (XZ (Zs Te (pv 2) Za) XY))))))),?_⟩
  have jl:=(Xs.mp hj).1;refine⟨_,rfl,_,rfl,w,a,n,ps,U,R,rfl,hW,hG,hT,hA,hU,hR,Xg hj,λi H1 hi UP WN=>?_⟩;obtain rfl:i=j:=(GF (Xs.mp hi).1 hN).mp (hi.trans hj.symm);refine nm ?_;dsimp only [List.set];refine⟨_,rfl,rfl,_,rfl,?_⟩;rw[Zx];refine Xf (λh0=>?_) (λh0=>?_)
  .rw[if_pos (by omega)]at q;exact q .non H1 rfl UP WN
  .rw[if_neg (by omega)]at q;refine⟨_,rfl,_,rfl,_,_,rfl,rfl,w,n,ps,_,R,rfl,hW.samex hT UP,hG,WN,(by show(0:Int)<=(i:Int) - 1;omega),(by show(i:Int) - 1<R.length;omega),hR,λr U2 H2 Oq UO Xb Wd=>?_⟩;rw[show((i:Int) - 1).toNat=i - 1 by omega]at Oq;rw[Oq]at q;exact q (.ref r) H2 ⟨r,rfl,Wd⟩ (UP.trans UO) Xb
def ko(H:Hp)(v:V)(U:Ac):Option Ac->Prop
 | none=>v=.non
 | some U2=>∃ r o z,v=.ref r/\H r=some (.tup [.int o,.int z])/\o∈U/\o∉U2/\z∈U2/\z∉U
def km(K:Ad)(CP C Pt:Addr):Sp:=λvs H Q _=>∃(w a:Addr) (n:Int) (ps:Aa) (U:Ac) (R:Ab) (j:Nat),vs=[.ref w,.ref a]/\WebAt C H w n ps/\Zu n ps/\Xi H Pt/\SqT K H a (IL U)/\Ze n ps U/\RowW n ps R/\R.Nodup/\R[j]?=some U/\(∀ T∈R,Ze n ps T) /\
 ∀(v:V) (H':Hp),ko H' v U (R[j+1]?)->SameX Pt H H'->Xi H' Pt->Q v H'
theorem bO{n:Int}{ps:Aa}{U V:Ac}(g:Zu n ps)(hU:Ze n ps U)(hV:Ze n ps V)(ne:U≠V):∃ z l,(U.filter λy=>decide (y∉V))=z :: l/\z∈U/\z∉V:=by
 cases e:U.filter λy=>decide (y∉V) with
 | nil =>
  refine absurd (MX g hU hV λz hz=>Yt λno=>?_) ne
  have:z∈U.filter λy=>decide (y∉V):=Yc.mpr ⟨hz,Yn no⟩
  rw[e]at this;cases this
 | cons z l =>
  have:z∈U.filter λy=>decide (y∉V):=by rw[e];exact Ye
  obtain⟨h1,h2⟩:=Yc.mp this;exact⟨z,l,rfl,h1,Yu h2⟩
theorem MB:FnScope ["web","tree","behind","out","into"] ["web","tree"] (XB sZN):=⟨rfl,rfl,rfl,by decide +kernel,rfl,by decide +kernel,by decide +kernel⟩
theorem AI {Pt:Addr} (T:Txt K mg t) (hB:SS K mg base t.dZx Pt):FnOk P w K mg base Xk 46 t.aZN t.dZN ["web","tree"] (km K t.A_Part t.A_Web Pt):=by
 refine T.fZN.ok MB (λvs H Q E h=>?_) (λXy A outer s H vs Q E hr h=>?_)
 .obtain⟨w,a,n,ps,U,R,j,rfl,_⟩:=h;rfl
 .obtain⟨w,a,n,ps,U,R,j,rfl,hW,hG,hT,hA,hU,hR,hN,hj,MA,q⟩:=h;refine⟨_,(XQ (Zh (i:=2) MB.nd rfl (Or.inr rfl) (XF (AL T hB) (hr.mono (by decide)) rfl T.mZL T.fZL.kp T.bZL .nil Zp (XZ (pv 0) (XZ (pv 1) XY))))
   (XQ (WL (Zd HK (pv 2) VS (Zq _))
   (XI (Zi VS))
   Zo)
   (XQ (RM (i:=3) rfl MB.nd rfl rfl (sc0:=XB sZN) (N0:=["web","tree","behind","out","into"]) (N':=["tie","behind"]) (o:=1) (fr:=[2]) ⟨rfl,by decide +kernel,by decide +kernel,by decide +kernel,rfl,by decide +kernel⟩ (JI K (pv 1)) (Zv (by decide)) (λ_ _ _ _=>(Zg (i:=0) (show List.Nodup (["tie","behind"]:List Str) by decide +kernel) rfl (Or.inl rfl))) (λ_ _ _ _=>(Wq (Zd (ZP K) (pv 0) (pv 1) rfl))) (λ_ _ _ _=>(pv 0)))
   (XQ (RM (i:=4) rfl MB.nd rfl rfl (sc0:=XB sZN) (N0:=["web","tree","behind","out","into"]) (N':=["tie","tree"]) (o:=1) (fr:=[1]) ⟨rfl,by decide +kernel,by decide +kernel,by decide +kernel,rfl,by decide +kernel⟩ (JI K (pv 2)) (Zv (by decide)) (λ_ _ _ _=>(Zg (i:=0) (show List.Nodup (["tie","tree"]:List Str) by decide +kernel) rfl (Or.inl rfl))) (λ_ _ _ _=>(Wq (Zd (ZP K) (pv 0) (pv 1) rfl))) (λ_ _ _ _=>(pv 0)))
   (XI (Zi (Uq (XZ (ZR (Zk K) (pv 3) Za (λ_ _=>rfl)) (XZ (ZR (Zk K) (pv 4) Za (λ_ _=>rfl)) XY))))))))),?_⟩
  have two:2<=sizeLine:=by decide
  refine⟨_,rfl,_,rfl,w,a,n,ps,U,R,j,rfl,hW,hG,hT,hA,hU,hR,hN,hj,λv H1 hv UP WN=>?_⟩;refine nm ?_;dsimp only [List.set];cases hn:R[j+1]? with
  | none =>
   rw[hn]at q hv;obtain rfl:v=.non:=hv;refine⟨_,rfl,rfl,_,rfl,?_⟩;exact Wj (q .non H1 rfl UP WN)
  | some U2 =>
   rw[hn]at q hv;obtain⟨b,rfl,hb⟩:=(show WR H1 v U2 from hv);refine⟨_,rfl,rfl,_,rfl,?_⟩;refine Wv ?_;show(_:Prop)
   refine SU ?_;have Oq:=MA U2 (Xg hn)
   have ne:U≠U2:=λe=>by
    have:=(GF (Xs.mp hj).1 hN).mp (hj.trans (by rw[e];exact hn.symm))
    omega
   have Um:SqT K H1 a (IL U):=SqK.samex (kd:=true) hA hT UP;have lU:U.length<=20:=by have:=hU.2.1;have:=hG.2.1;omega
   have lV:U2.length<=20:=by have:=Oq.2.1;have:=hG.2.1;omega
   refine⟨_,rfl,a,rfl,⟨_,Um⟩,JJ (K:=K) (a:=a) (xs:=IL U) (λi ws H3=>H3=H1/\i<=U.length/\ws=IL ((U.take i).filter λy=>decide (y∉U2))) ⟨rfl,Yl _,rfl⟩ (Zl (by rw[Xz];omega))
    (λi ws H3 hi h=>by obtain⟨e,VM,ew⟩:=h;exact⟨e ▸ Um,by rw[ew,Xz];exact Yv (YB ..) (by rw[Yy];omega)⟩) ?_ ?_⟩
   .rintro i y ws H3 hi ⟨rfl,VG,rfl⟩ S Xl;obtain⟨y,rfl,hy⟩:=WU hi;have Xp:i<U.length:=(Xs.mp hy).1
    refine⟨_,rfl,_,rfl,b,_,rfl,.inr (SqT.of hb),rfl,ZE _,_,rfl,?_⟩;rw[ZQ];refine WW (λhc=>?_) (λhc=>?_)
    .refine Xl _ _ ⟨rfl,Xp,?_⟩;rw[Zz hy,if_neg (by simpa using hc),YF]
    .refine⟨_,rfl,Xl _ _ ⟨rfl,Xp,?_⟩⟩;rw[Zz hy,if_pos (Yn hc),ZO]
   rintro ws H3 ⟨rfl,_,rfl⟩ oA kl;rw[Xz,YI];obtain⟨o,lo,eo,o1,o2⟩:=bO hG hU Oq ne;rw[eo];have u4:=XM (o:=.lst (IL (o :: lo))) kl
   have k4:=XR (H:=H3) (a:=oA) (o:=.lst (IL (o :: lo)));generalize upd H3 oA (.lst (IL (o :: lo)))=H4 at *;refine nm ?_;dsimp only [List.set];have GU:=u4 _ _ hb
   have Tq:SqT K H4 a (IL U):=SqK.same (k:=true) u4 Um;refine⟨_,rfl,b,rfl,⟨_,SqT.of GU⟩,JJ (K:=K) (a:=b) (xs:=IL U2) (λi ws H5=>H5=H4/\i<=U2.length/\ws=IL ((U2.take i).filter λy=>decide (y∉U))) ⟨rfl,Yl _,rfl⟩ (Zl (by rw[Xz];omega))
    (λi ws H5 hi h=>by obtain⟨e,VM,ew⟩:=h;exact⟨e ▸ SqT.of GU,by rw[ew,Xz];exact Yv (YB ..) (by rw[Yy];omega)⟩) ?_ ?_⟩
   .rintro i y ws H5 hi ⟨rfl,VG,rfl⟩ S Xl;obtain⟨y,rfl,hy⟩:=WU hi;have Xp:i<U2.length:=(Xs.mp hy).1
    refine⟨_,rfl,_,rfl,a,_,rfl,.inr Tq,rfl,ZE _,_,rfl,?_⟩;rw[ZQ];refine WW (λhc=>?_) (λhc=>?_)
    .refine Xl _ _ ⟨rfl,Xp,?_⟩;rw[Zz hy,if_neg (by simpa using hc),YF]
    .refine⟨_,rfl,Xl _ _ ⟨rfl,Xp,?_⟩⟩;rw[Zz hy,if_pos (Yn hc),ZO]
   rintro ws H5 ⟨rfl,_,rfl⟩ iA hiA;rw[Xz,YI];obtain⟨z,lz,ez,z1,z2⟩:=bO hG Oq hU (YZ ne);rw[ez];have u6:=XM (o:=.lst (IL (z :: lz))) hiA
   have k6:=XR (H:=H5) (a:=iA) (o:=.lst (IL (z :: lz)));generalize upd H5 iA (.lst (IL (z :: lz)))=H6 at *;refine nm ?_;dsimp only [List.set];refine⟨_,rfl,oA,_,0,.int o,rfl,rfl,SqL.of (u6 _ _ k4),ZL (n:=0) rfl rfl,_,rfl,iA,_,0,.int z,rfl,rfl,SqL.of k6,ZL (n:=0) rfl rfl,two,λr Lm=>?_⟩;have u7:=XM (o:=.tup [.int o,.int z]) Lm
   have bM:=u4.trans (u6.trans u7);exact q (.ref r) _ ⟨r,o,z,rfl,XR,o1,o2,z1,z2⟩ (UP.trans (SameX.same bM)) (WN.same bM)
def kj(K:Ad):Sp:=λvs H Q _=>∃(a:Addr) (ns:Ac) (k:Int),vs=[.ref a,.int k]/\SqL K H a (IL ns)/\0<=k/\∀ r:Int,Q (.int r) H
theorem ki:FnScope ["script","k"] ["script","k"] (XB sZO):=⟨rfl,rfl,rfl,by decide +kernel,rfl,by decide +kernel,by decide +kernel⟩
theorem TJ (T:Txt K mg t):FnOk P w K mg base Xk 1 t.aZO t.dZO ["script","k"] (kj K):=by
 refine T.fZO.ok ki (λvs H Q E h=>?_) (λXy A outer s H vs Q E hr h=>?_)
 .obtain⟨a,ns,k,rfl,_⟩:=h;rfl
 .obtain⟨a,ns,k,rfl,hS,hk,q⟩:=h;refine⟨_,(XQ (WL (Zd Kj (pv 1) (Zf (Zj K) (by rfl) T.n_len Boot.«len» (XZ (pv 0) XY)) (Zq _))
   (XI (Zi (ZR (Zk K) (pv 0) (pv 1) (λ_ _=>rfl))))
   Zo)
   (XI (Zi Za))),?_⟩
  refine⟨_,rfl,_,rfl,a,_,rfl,.inl hS,_,_,rfl,rfl,_,rfl,?_⟩;refine EL (λhc=>?_) (λ_=>?_)
  .have hc:=Yu hc;rw[Xz]at hc;obtain⟨z,hz⟩:∃ z,ns[k.toNat]?=some z:=⟨_,Xn (by lia)⟩;exact⟨_,rfl,_,rfl,a,_,k,.int z,rfl,rfl,hS,ZL (n:=k.toNat) (by lia) (by rw[Yq,hz];rfl),q z⟩
  .exact q 0
def kh:Sp:=λvs H Q _=>∃(c k:Int),vs=[.int c,.int k]/\0<=k/\k<1000000000/\∀ r:Int,0<=r->Q (.int r) H
theorem Iq:FnScope ["cell","k","big"] ["cell","k"] (XB sZP):=⟨rfl,rfl,rfl,by decide +kernel,rfl,by decide +kernel,by decide +kernel⟩
theorem SH (T:Txt K mg t):FnOk P w K mg base Xk 1 t.aZP t.dZP ["cell","k"] kh:=by
 refine T.fZP.ok Iq (λvs H Q E h=>?_) (λXy A outer s H vs Q E hr h=>?_)
 .obtain⟨c,k,rfl,_⟩:=h;rfl
 .obtain⟨c,k,rfl,k0,k1,q⟩:=h;refine⟨_,(XQ (Zh (i:=2) Iq.nd rfl (Or.inl rfl) (Zs DQ (Zs UY (Zs ZS (pv 0) (Zs OQ Za Za)) Za) (Zs UY Za (Zs DQ (Zs DQ Za (pv 1)) (pv 1)))))
   (XQ (Zh (i:=2) Iq.nd rfl (Or.inl rfl) (Zs UY (pv 2) (Zs DQ Za (pv 1))))
   (XI (Zi (Zs ZS (Zs DQ (pv 2) (pv 2)) (Zs UY (Zs OQ Za Za) Za)))))),?_⟩
  have a0:0<=c % 10 ^ (60:Int).toNat:=Wx _ (by decide);have a1:c % 10 ^ (60:Int).toNat<10 ^ 60:=YY _ (by decide)
  have b:=gc (M:=10 ^ 20) (N:=10 ^ 20) (a:=2 * k) (b:=k) (by lia) (by lia) k0 (by lia);have d:=gc (M:=10 ^ 70) (N:=10 ^ 70) (a:=c % 10 ^ (60:Int).toNat+3) (b:=16180339887498948482045868343656381177203+2 * k * k) (by lia) (by lia) (by grind) (by omega)
  refine⟨_,rfl,_,_,rfl,rfl,⟨by decide,by decide,by decide⟩,_,_,rfl,rfl,(by show(0:Int)<10 ^ 60;decide),_,_,rfl,rfl,_,rfl,_,_,rfl,rfl,⟨⟨by decide,by decide⟩,by lia,by lia⟩,_,rfl,_,_,rfl,rfl,⟨⟨by lia,by lia⟩,by omega,by omega⟩,_,_,rfl,rfl,_,_,rfl,rfl,⟨⟨by lia,by lia⟩,by omega,by omega⟩,?_⟩;refine⟨_,rfl,_,rfl,_,_,rfl,rfl,⟨⟨by decide,by decide⟩,by omega,by omega⟩,_,_,rfl,rfl,?_⟩;refine⟨_,rfl,_,rfl,_,_,rfl,rfl,⟨⟨by omega,by omega⟩,by omega,by omega⟩,_,_,rfl,rfl,⟨by decide,by decide,by decide⟩,_,_,rfl,rfl,_,_,rfl,rfl,(by show(0:Int)<10 ^ 60+33;decide),?_⟩;exact q _ (Wx _ (by decide))
def kg(K:Ad):Sp:=λvs H Q _=>∃(a:Addr) (ns:Ac) (size:Int),vs=[.ref a,.int size]/\SqL K H a (IL ns)/\0<=size/\size<=200 /\
 ∀(l:Addr) (L:Ac) (H':Hp),Same H H'->H' l=some (.lst (IL L))->(L.length:Int)=size->(∀ z∈L,0<=z)->Q (.ref l) H'
theorem SG:FnScope ["script","size","rest","told","k"] ["script","size"] (XB sZQ):=⟨rfl,rfl,rfl,by decide +kernel,rfl,by decide +kernel,by decide +kernel⟩
theorem kf (T:Txt K mg t):FnOk P w K mg base Xk 2 t.aZQ t.dZQ ["script","size"] (kg K):=by
 refine T.fZQ.ok SG (λvs H Q E h=>?_) (λXy A outer s H vs Q E hr h=>?_)
 .obtain⟨a,ns,size,rfl,_⟩:=h;rfl
 .obtain⟨a,ns,size,rfl,hS,s0,s2,q⟩:=h;refine⟨_,(XQ (Zh (i:=2) SG.nd rfl (Or.inl rfl) (Zs ZS (XF (TJ T) (hr.mono (by decide)) rfl T.mZO T.fZO.kp T.bZO .nil Zp (XZ (pv 0) (XZ Za XY))) (Zs OQ Za Za)))
   (XQ (Zh (i:=3) SG.nd rfl (Or.inl rfl) (Sv XY))
   (XQ (Tf Ww rfl (Ui rfl T.n_range (XZ (pv 1) XY)) (Zg (i:=4) SG.nd rfl (Or.inl rfl))
   (XQ (WL (Zd Td (pv 4) Za (Zq _))
   (XI (Zh (i:=2) SG.nd rfl (Or.inl rfl) (Zs ZS (XF (TJ T) (hr.mono (by decide)) rfl T.mZO T.fZO.kp T.bZO .nil Zp (XZ (pv 0) (XZ Za XY))) (Zs OQ Za Za))))
   Zo)
   (XQ (WL (Zd Td (pv 2) Za (Zq _))
   (XI (Zh (i:=2) SG.nd rfl (Or.inl rfl) (XF (SH T) (hr.mono (by decide)) rfl T.mZP T.fZP.kp T.bZP .nil Zp (XZ (XF (TJ T) (hr.mono (by decide)) rfl T.mZO T.fZO.kp T.bZO .nil Zp (XZ (pv 0) (XZ Za XY))) (XZ Za XY)))))
   Zo)
   (XQ (Wl (QQ K YU GQ GR Fc (pv 3) (XZ (Zs ZS (pv 2) Za) XY)))
   (XI (Zh (i:=2) SG.nd rfl (Or.inl rfl) (Zs LV (pv 2) Za)))))))
   (XI (Zi (pv 3)))))),?_⟩
  refine⟨_,rfl,a,ns,2,rfl,hS,by decide,λc1=>⟨_,_,rfl,rfl,⟨by decide,by decide,by decide⟩,_,_,rfl,rfl,(by show(0:Int)<10 ^ 60;decide),?_⟩⟩;refine nm ?_;dsimp only;refine⟨Yl _,λtd Mz=>?_⟩;have u0:=XM (o:=.lst []) Mz
  have k0:=XR (H:=H) (a:=td) (o:=.lst []);generalize upd H td (.lst [])=H0 at *;refine nm ?_;dsimp only;refine⟨_,rfl,_,rfl,by lia,by omega,vA (lo:=0) (n:=size.toNat) (λi σ H2=>∃(L:Ac) (rs:Int) (v4:Option V),σ=[some (.ref a),some (.int size),some (.int rs),some (.ref td),v4]/\Same H H2/\H2 td=some (.lst (IL L))/\L.length=i/\∀ z∈L,0<=z) ⟨[],_,_,rfl,u0,k0,rfl,λz h=>(by cases h)⟩ ?_ ?_⟩
  .rintro i σ H2 hi ⟨L,rs,v4,rfl,s2,h2,hl,hp⟩;refine nm ?_;dsimp only;refine PK (λσ H3=>∃ Ip:Int,H3=H2/\σ=[some (.ref a),some (.int size),some (.int Ip),some (.ref td),some (.int (0+(i:Int)))]) ?_ ?_
   .rintro σ H3 ⟨Ip,rfl,rfl⟩;refine PK (λσ H4=>∃ Ip:Int,H4=H3/\σ=[some (.ref a),some (.int size),some (.int Ip),some (.ref td),some (.int (0+(i:Int)))]) ?_ ?_
    .rintro σ H4 ⟨Ip,rfl,rfl⟩;refine⟨_,rfl,.inl ⟨rfl,_,SqL.of h2⟩,_,rfl,_,_,rfl,rfl,(by show(0:Int)<12;decide),td,_,_,rfl,rfl,h2,Zl (by rw[Xz];lia),?_⟩;refine⟨_,rfl,_,_,rfl,rfl,⟨by decide,by decide⟩,?_⟩;refine⟨L++[Ip % 12],_,_,rfl,ZH Mz s2,by rw[XR,ZO],by rw[Xt,Yh,hl],λz hz=>?_⟩;rcases Xx.mp hz with e | e
     .exact hp z e
     .rw[XD.mp e];exact Wx _ (by decide)
    .intro Kn hK;refine⟨_,rfl,rfl,_,rfl,?_⟩;rw[Zx];refine Xf (λ_=>?_) (λ_=>hK _ _ ⟨Ip,rfl,rfl⟩);exact⟨_,rfl,a,ns,2,rfl,s2.seq hS,by decide,λc3=>⟨c3,38,rfl,by decide,by decide,λr3 _=>hK _ _ ⟨r3,rfl,rfl⟩⟩⟩
   .intro Kn hK;refine⟨_,rfl,rfl,_,rfl,?_⟩;rw[Zx];refine Xf (λ_=>?_) (λ_=>hK _ _ ⟨rs,rfl,rfl⟩);exact⟨_,rfl,a,ns,3,rfl,s2.seq hS,by decide,λc3=>⟨_,_,rfl,rfl,⟨by decide,by decide,by decide⟩,_,_,rfl,rfl,(by show(0:Int)<10 ^ 60;decide),hK _ _ ⟨_,rfl,rfl⟩⟩⟩
  .rintro σ H2 ⟨L,rs,v4,rfl,s2,h2,hl,hp⟩;exact⟨_,rfl,q td L H2 s2 h2 (by lia) hp⟩
def ke(K:Ad):Sp:=λvs H Q _=>∃(a:Addr) (ns:Ac) (size:Int),vs=[.ref a,.int size]/\SqL K H a (IL ns)/\ns.length<=63/\1<=size/\size<=200 /\
 ∀(l:Addr) (L:Ac) (H':Hp),Same H H'->H' l=some (.lst (IL L))->(L.length:Int)=size->(∀ z∈L,0<=z)->Q (.ref l) H'
theorem Pf:FnScope ["script","size","told","k","cell","at"] ["script","size"] (XB sZR):=⟨rfl,rfl,rfl,by decide +kernel,rfl,by decide +kernel,by decide +kernel⟩
theorem j9 (T:Txt K mg t):FnOk P w K mg base Xk 2 t.aZR t.dZR ["script","size"] (ke K):=by
 refine T.fZR.ok Pf (λvs H Q E h=>?_) (λXy A outer s H vs Q E hr h=>?_)
 .obtain⟨a,ns,size,rfl,_⟩:=h;rfl
 .obtain⟨a,ns,size,rfl,hS,hn,s0,s2,q⟩:=h;refine⟨_,(XQ (RM (i:=2) rfl Pf.nd rfl rfl (sc0:=XB sZR) (N0:=["script","size","told","k","cell","at"]) (N':=["k","script"]) (o:=1) (fr:=[0]) ⟨rfl,by decide +kernel,by decide +kernel,by decide +kernel,rfl,by decide +kernel⟩ (Ui rfl T.n_range (XZ (pv 1) XY)) (Zv (by decide)) (λ_ _ _ _=>(Zg (i:=0) (show List.Nodup (["k","script"]:List Str) by decide +kernel) rfl (Or.inl rfl))) (λ_ _ _ _=>QT) (λ_ _ _ _=>(XF (SH T) (hr.mono (by decide)) rfl T.mZP T.fZP.kp T.bZP .nil Zp (XZ (Zs UY (pv 0) (Zs FK Za (Zf (Zj K) (by rfl) T.n_len Boot.«len» (XZ (pv 1) XY)))) (XZ Za XY)))))
   (XQ (Tf Ww rfl (LL K rfl T.n_enumerate (XZ (LR (LN K) (pv 0) (NQ Za) Kb) XY)) (Qg (n:=2) K rfl (Zw (Zg (i:=3) Pf.nd rfl (Or.inl rfl)) (Zw (Zg (i:=4) Pf.nd rfl (Or.inl rfl)) Qw)))
   (XQ (Zh (i:=5) Pf.nd rfl (Or.inl rfl) (Zs ZS (pv 3) (pv 1)))
   (XI (FU (XF (SH T) (hr.mono (by decide)) rfl T.mZP T.fZP.kp T.bZP .nil Zp (XZ (Zs UY (ZR (Zk K) (pv 2) (pv 5) (λ_ _=>rfl)) (Zs ZS (pv 4) (Zs OQ Za Za))) (XZ (Zs ZS (pv 3) Za) XY))) (FV (pv 2) (pv 5) Fl)))))
   (XI (Zi (SX rfl (sc0:=XB sZR) (N0:=["script","size","told","k","cell","at"]) (N':=["m"]) (o:=1) (fr:=[]) ⟨rfl,by decide +kernel,by decide +kernel,by decide +kernel,rfl,by decide +kernel⟩ (OH K (pv 2)) (Zv (by decide)) (λ_ _ _ _=>(Zg (i:=0) (show List.Nodup (["m"]:List Str) by decide +kernel) rfl (Or.inl rfl))) (λ_ _ _ _=>QT) (λ_ _ _ _=>(Zs ZS (Zs LV (pv 0) Za) Za))))))),?_⟩
  refine⟨_,rfl,_,rfl,by lia,by lia,Et (lo:=0) (n:=size.toNat) (λi ys H3=>H3=H/\∃ L:Ac,ys=IL L/\L.length=i) ⟨rfl,[],rfl,rfl⟩ (Zl (by lia)) (λi ys H3 _ ⟨_,L,e,l⟩=>by rw[e,Xz,l];exact XN _) ?_ ?_⟩
  .rintro i ys H3 hi ⟨rfl,L,rfl,hl⟩ S Xl;refine⟨_,rfl,_,rfl,a,_,rfl,.inl hS,_,_,rfl,rfl,.inl ⟨by decide,by decide⟩,_,_,rfl,rfl,_,40,rfl,by decide,by decide,λm m0=>?_⟩;exact Xl _ _ ⟨rfl,L++[m],by rw[ZO],by rw[Xt,Yh,hl]⟩
  .rintro ys H3 ⟨rfl,L,rfl,hl⟩ td Mz;have u0:=XM (o:=.lst (IL L)) Mz
   have k0:=XR (H:=H3) (a:=td) (o:=.lst (IL L));generalize hH0:upd H3 td (.lst (IL L))=H0 at *;clear hH0;refine nm ?_;dsimp only;refine⟨_,rfl,_,rfl,a,_,rfl,u0.seq hS,λp1 Vi=>?_⟩;rw[yU];have cl:(RJ ns (some 3) none).length<=63:=by
    have:=Ft (IL ns) (some 3) none
    rw[yU,Xz,Xz]at this;lia
   generalize RJ ns (some 3) none=cs at *;have u1:=XM (o:=.lst (IL cs)) Vi
   have Uy:p1≠td:=λe=>by rw[e,k0]at Vi;cases Vi
   refine⟨p1,rfl,⟨_,SqL.of XR⟩,y7 (K:=K) (a:=p1) (xs:=IL cs) (λi σ H2=>∃(L:Ac) (v3 v4 v5:Option V),σ=[some (.ref a),some (.int size),some (.ref td),v3,v4,v5]/\Same H3 H2/\H2 p1=some (.lst (IL cs))/\H2 td=some (.lst (IL L))/\(L.length:Int)=size) ⟨L,none,none,none,rfl,u0.trans u1,XR,u1 _ _ k0,by grind⟩ (λi σ H2 _ ⟨_,_,_,_,_,_,e,_⟩=>SqL.of e) ?_ ?_⟩
   .rintro i v σ H2 pt j8 hi ⟨L,v3,v4,v5,rfl,j7,Wm,h2,Sy⟩;obtain⟨c,rfl,hc⟩:=WU hi;have hi63:=(Xs.mp hc).1
    have u2:=XM (o:=.tup [.int i,.int c]) j8;refine⟨pt,_,rfl,SqT.of XR,rfl,_,_,rfl,_,_,rfl,rfl,?_⟩;have PF:=u2 _ _ Wm
    have h3:=u2 _ _ h2;have s3:=j7.trans u2
    generalize upd H2 pt (.tup [.int i,.int c])=H4 at *;have at0:0<=(i:Int) % size:=Wx _ (by lia)
    have sq:(i:Int) % size<size:=YY _ (by grind);obtain⟨z,hz⟩:∃ z,L[((i:Int) % size).toNat]?=some z:=⟨_,Xn (by lia)⟩;refine⟨_,rfl,_,rfl,_,_,rfl,rfl,(by show(0:Int)<size;omega),?_⟩;refine⟨_,rfl,_,rfl,td,_,(i:Int) % size,.int z,rfl,rfl,SqL.of h3,ZL (n:=((i:Int) % size).toNat) (by lia) (UH hz),_,rfl,_,_,rfl,rfl,⟨by decide,by decide,by decide⟩,_,_,rfl,rfl,(by show(0:Int)<10 ^ 60;decide),_,_,rfl,rfl,_,rfl,_,_,rfl,rfl,(by show(0:Int)<37;decide),_,_,rfl,Wx _ (by decide),Int.lt_trans (YY _ (by decide)) (by decide),λm' m0'=>?_⟩;refine⟨_,rfl,_,rfl,td,_,_,((i:Int) % size).toNat,rfl,rfl,h3,?_,?_⟩
    .unfold NP;rw[Xz,if_pos (by lia),if_pos (by grind)]
    .refine⟨L.set ((i:Int) % size).toNat m',_,_,_,rfl,ZH Mz s3,by rw[Zb Uy];exact PF,by rw[XR,tI],by rw[Ti];exact Sy⟩
   .rintro σ H2 ⟨L,v3,v4,v5,rfl,j7,Wm,h2,Sy⟩;refine⟨_,rfl,td,rfl,⟨_,SqL.of h2⟩,UG (K:=K) (a:=td) (xs:=IL L) (λi ys H4=>H4=H2/\∃ M:Ac,ys=IL M/\M.length=i/\∀ z∈M,0<=z) ⟨rfl,[],rfl,rfl,λz h=>(by cases h)⟩ (Zl (by rw[Xz];lia)) (λi ys H4 _ ⟨e,M,ey,l,_⟩=>⟨e ▸ SqL.of h2,by rw[ey,Xz,l];exact XN _⟩) ?_ ?_⟩
    .rintro i v ys H4 hi ⟨rfl,M,rfl,hm,hp⟩ S Xl;obtain⟨c,rfl,hc⟩:=WU hi;refine⟨_,rfl,_,_,rfl,rfl,⟨by decide,by decide⟩,_,_,rfl,rfl,(by show(0:Int)<1000;decide),?_⟩;refine Xl _ _ ⟨rfl,M++[c / 8 % 1000],by rw[ZO],by rw[Xt,Yh,hm],λz hz=>?_⟩;rcases Xx.mp hz with e | e
     .exact hp z e
     .rw[XD.mp e];exact Wx _ (by decide)
    .rintro ys H4 ⟨rfl,M,rfl,hm,hp⟩ p Uw;exact q p M _ (j7.trans (XM Uw)) XR (by rw[Xz]at hm;lia) hp
def j6(K:Ad):Sp:=λvs H Q _=>∃(a:Addr) (ns:Ac),vs=[.ref a]/\SqL K H a (IL ns)/\∀ b:Bool,Q (.bl b) H
theorem j5:FnScope ["script"] ["script"] (XB sZS):=⟨rfl,rfl,rfl,by decide +kernel,rfl,by decide +kernel,by decide +kernel⟩
theorem AH (T:Txt K mg t):FnOk P w K mg base Xk 2 t.aZS t.dZS ["script"] (j6 K):=by
 refine T.fZS.ok j5 (λvs H Q E h=>?_) (λXy A outer s H vs Q E hr h=>?_)
 .obtain⟨a,ns,rfl,_⟩:=h;rfl
 .obtain⟨a,ns,rfl,hS,q⟩:=h;refine⟨_,(XI (Zi (NV Td (Zs ZS (Zs LV (Zs ZS (XF (TJ T) (hr.mono (by decide)) rfl T.mZO T.fZO.kp T.bZO .nil Zp (XZ (pv 0) (XZ Za XY))) (Zs OQ Za Za)) (Zs OQ Za Za)) Za) Za (Zq _)))),?_⟩;refine⟨_,rfl,a,ns,0,rfl,hS,by decide,λc=>⟨_,_,rfl,rfl,⟨by decide,by decide,by decide⟩,_,_,rfl,rfl,(by show(0:Int)<10 ^ 30;decide),_,_,rfl,rfl,⟨by decide,by decide,by decide⟩,_,_,rfl,rfl,⟨by decide,by decide⟩,_,_,rfl,rfl,(by show(0:Int)<8;decide),rfl,q _⟩⟩
def j4(K:Ad):Sp:=λvs H Q _=>∃(a:Addr) (ns:Ac) (most:Int),vs=[.ref a,.int most]/\SqL K H a (IL ns)/\ns.length<=63 /\
 ∀(r:Addr) (cs:Ac) (H':Hp),Same H H'->H' r=some (.lst (IL cs))->cs.length<=64->Q (.ref r) H'
theorem j3:FnScope ["script","most"] ["script","most"] (XB sZT):=⟨rfl,rfl,rfl,by decide +kernel,rfl,by decide +kernel,by decide +kernel⟩
theorem j0 (T:Txt K mg t):FnOk P w K mg base Xk 3 t.aZT t.dZT ["script","most"] (j4 K):=by
 refine T.fZT.ok j3 (λvs H Q E h=>?_) (λXy A outer s H vs Q E hr h=>?_)
 .obtain⟨a,ns,most,rfl,_⟩:=h;rfl
 .obtain⟨a,ns,most,rfl,hS,hn,q⟩:=h;refine⟨_,(XQ (WL (Qz (XF (AH T) (hr.mono (by decide)) rfl T.mZS T.fZS.kp T.bZS .nil Zp (XZ (pv 0) XY)))
   (XI (Zi (Sv (XZ (XF (TJ T) (hr.mono (by decide)) rfl T.mZO T.fZO.kp T.bZO .nil Zp (XZ (pv 0) (XZ Za XY))) XY))))
   Zo)
   (XI (Zi (Zs EY (Sv (XZ Za XY)) (LR (LN K) (pv 0) Kb (NQ (pv 1))))))),?_⟩
  refine⟨_,rfl,a,ns,rfl,hS,λb=>⟨_,rfl,?_⟩⟩;have one:1<=sizeLine:=by decide
  refine tE (λ_=>?_) (λ_=>?_)
  .refine⟨_,rfl,a,ns,2,rfl,hS,by decide,λc=>⟨one,λr hr=>?_⟩⟩;exact q r [c] _ (XM hr) XR (by show 1<=64;decide)
  .refine⟨one,λp1 Vi=>?_⟩;have u1:=XM (o:=.lst (IL [0])) Vi
   refine⟨_,rfl,_,rfl,_,rfl,a,_,rfl,u1.seq hS,λp2 Wm=>?_⟩;rw[yU];have cl:(RJ ns none (some most)).length<=63:=by
    have:=Ft (IL ns) none (some most)
    rw[yU,Xz,Xz]at this;lia
   generalize RJ ns none (some most)=cs at *;have u2:=XM (o:=.lst (IL cs)) Wm
   refine⟨p1,p2,_,_,rfl,rfl,u2 _ _ XR,XR,OI (by rw[Xz];show 1+_<=_;lia),λp3 PF=>?_⟩;have u3:=XM (o:=.lst (IL [0]++IL cs)) PF
   refine q p3 ([0]++cs) _ (u1.trans (u2.trans u3)) ?_ (by rw[Xt];show 1+_<=_;lia);rw[XR,Hz];rfl
def jZ(K:Ad):Sp:=λvs H Q _=>∃(a:Addr) (ns:Ac),vs=[.ref a]/\SqL K H a (IL ns)/\ns.length<=63 /\
 ∀(r l:Addr) (n:Int) (xs:List V) (ps:Aa) (H':Hp),Same H H'->H' r=some (.tup [.int n,.ref l])->H l=none->H' l=some (.lst xs)->PairsV H' xs ps->Zu n ps->2<=n->Np n ps->Q (.ref r) H'
def Io(n:Int)(p:Int × Int):Prop:=0<=p.1/\p.1<n/\0<=p.2/\p.2<n
def xy(n:Int)(P:Int × Int->Prop):Prop:=∀ j:Nat,(j:Int)+1<n->∃ p,P p/\p.2=(j:Int)+1/\0<=p.1/\p.1<(j:Int)+1
theorem Zd8{n:Int}{ps:Aa}(h:xy n λp=>p∈ps):Np n ps:=by
 have key:∀(m i:Nat),i<=m->i<n.toNat->Conn (Df ps) i 0:=by
  intro m
  induction m with
  | zero=>intro i hi _;rw[show i=0 by lia];exact .refl _
  | succ m ih =>
   intro i hi hn;by_cases c:i=0
   .rw[c];exact .refl _
   obtain⟨p,hp,e,p0,p1⟩:=h (i - 1) (by grind);have c2:=ih p.1.toNat (by lia) (by grind)
   have ed:Conn (Df ps) p.1.toNat p.2.toNat:=.edge (YD.mpr ⟨p,hp,rfl⟩);rw[show i=p.2.toNat by grind];exact ed.symm.trans c2
 exact Rt.mpr λi j hi hj=>(key i i (XN _) hi).trans (key j j (XN _) hj).symm
theorem jY{rs:Aa}{i:Nat}{g p:Int × Int}(h:rs[i]?=some g)(hp:p∈rs):p∈rs.eraseIdx i\/p=g:=by
 obtain⟨hi,e⟩:=Xs.mp h;rw[List.eraseIdx_eq_take_drop_succ];rw[<- List.take_append_drop i rs,xp hi,e,Xx,Yj]at hp;rw[Xx];rcases hp with q | q | q
 .exact .inl (.inl q)
 .exact .inr q
 .exact .inl (.inr q)
theorem jX{n:Int}{ps:Aa}{g:Int × Int}(h:∀ p∈ps,Io n p)(hg:Io n g):∀ p∈ps++[g],Io n p:=λp hp=>by
 rcases Xx.mp hp with e | e
 .exact h p e
 .rw[XD.mp e];exact hg
theorem VJ:FnScope ["script","head","count","more","numbers","ties","k","told","m"] ["script"] (XB sZU):=⟨rfl,rfl,rfl,by decide +kernel,rfl,by decide +kernel,by decide +kernel⟩
theorem jW (T:Txt K mg t):FnOk P w K mg base Xk 4 t.aZU t.dZU ["script"] (jZ K):=by
 refine T.fZU.ok VJ (λvs H Q E h=>?_) (λXy A outer s H vs Q E hr h=>?_)
 .obtain⟨a,ns,rfl,_⟩:=h;rfl
 .obtain⟨a,ns,rfl,hS,Mw,q⟩:=h;refine⟨_,(XQ (Zh (i:=1) VJ.nd rfl (Or.inl rfl) (Zs ZS (XF (TJ T) (hr.mono (by decide)) rfl T.mZO T.fZO.kp T.bZO .nil Zp (XZ (pv 0) (XZ Za XY))) (Zs OQ Za Za)))
   (XQ (Zh (i:=2) VJ.nd rfl (Or.inl rfl) (Zs UY Za (Zs ZS (pv 1) Za)))
   (XQ (Zh (i:=3) VJ.nd rfl (Or.inl rfl) (Zs ZS (Zs LV (pv 1) Za) Za))
   (XQ (WL (Qz (XF (AH T) (hr.mono (by decide)) rfl T.mZS T.fZS.kp T.bZS .nil Zp (XZ (pv 0) XY)))
   (XQ (Zh (i:=2) VJ.nd rfl (Or.inl rfl) (Zs UY Za (Zs ZS (pv 1) Za)))
   (XI (Zh (i:=3) VJ.nd rfl (Or.inl rfl) (Zs ZS (Zs LV (pv 1) Za) (Zs Te Za (pv 2))))))
   Zo)
   (XQ (Zh (i:=4) VJ.nd rfl (Or.inr rfl) (XF (j9 T) (hr.mono (by decide)) rfl T.mZR T.fZR.kp T.bZR .nil Zp (XZ (pv 0) (XZ (Zs FK Za (Zs UY (pv 2) (pv 3))) XY))))
   (XQ (WL (Zd Td (Zs ZS (XF (TJ T) (hr.mono (by decide)) rfl T.mZO T.fZO.kp T.bZO .nil Zp (XZ (pv 0) (XZ Za XY))) Za) Za (Zq _))
   (XI (Zh (i:=4) VJ.nd rfl (Or.inr rfl) (XF (kf T) (hr.mono (by decide)) rfl T.mZQ T.fZQ.kp T.bZQ .nil Zp (XZ (pv 0) (XZ (Zs FK Za (Zs UY (pv 2) (pv 3))) XY)))))
   Zo)
   (XQ (RM (i:=5) rfl VJ.nd rfl rfl (sc0:=XB sZU) (N0:=["script","head","count","more","numbers","ties","k","told","m"]) (N':=["k","numbers"]) (o:=1) (fr:=[4]) ⟨rfl,by decide +kernel,by decide +kernel,by decide +kernel,rfl,by decide +kernel⟩ (Ui rfl T.n_range (XZ (Zs Te (pv 2) Za) XY)) (Zv (by decide)) (λ_ _ _ _=>(Zg (i:=0) (show List.Nodup (["k","numbers"]:List Str) by decide +kernel) rfl (Or.inl rfl))) (λ_ _ _ _=>QT) (λ_ _ _ _=>(Uq (XZ (Zs ZS (ZR (Zk K) (pv 1) (pv 0) (λ_ _=>rfl)) (Zs UY (pv 0) Za)) (XZ (Zs UY (pv 0) Za) XY)))))
   (XQ (Tf Ww rfl (Ui rfl T.n_range (XZ (pv 3) XY)) (Zg (i:=6) VJ.nd rfl (Or.inl rfl))
   (XI (Wl (QQ K YU GQ GR Fc (pv 5) (XZ (Uq (XZ (Zs ZS (ZR (Zk K) (pv 4) (Zs UY (pv 2) (Zs FK Za (pv 6))) (λ_ _=>rfl)) (pv 2)) (XZ (Zs ZS (ZR (Zk K) (pv 4) (Zs UY (Zs UY (pv 2) (Zs FK Za (pv 6))) Za) (λ_ _=>rfl)) (pv 2)) XY))) XY)))))
   (XQ (Zh (i:=7) VJ.nd rfl (Or.inl rfl) (Sv XY))
   (XQ (Zh (i:=8) VJ.nd rfl (Or.inl rfl) (XF (SH T) (hr.mono (by decide)) rfl T.mZP T.fZP.kp T.bZP .nil Zp (XZ (Zs ZS (XF (TJ T) (hr.mono (by decide)) rfl T.mZO T.fZO.kp T.bZO .nil Zp (XZ (pv 0) (XZ Za XY))) (Zs OQ Za Za)) (XZ Za XY))))
   (XQ (iW Ww (Zd LS (Zf (Zj K) (by rfl) T.n_len Boot.«len» (XZ (pv 5) XY)) Za (Zq _))
   (XQ (Zh (i:=8) VJ.nd rfl (Or.inl rfl) (XF (SH T) (hr.mono (by decide)) rfl T.mZP T.fZP.kp T.bZP .nil Zp (XZ (pv 8) (XZ Za XY))))
   (XI (Wl (QQ K YU GQ GR Fc (pv 7) (XZ (QQ K YU jb jc ip (pv 5) (XZ (Zs ZS (Zs LV (pv 8) Za) (Zf (Zj K) (by rfl) T.n_len Boot.«len» (XZ (pv 5) XY))) XY)) XY))))))
   (XI (Zi (Uq (XZ (pv 2) (XZ (pv 7) XY)))))))))))))))),?_⟩
  have two:2<=sizeLine:=by decide
  refine⟨_,rfl,a,ns,0,rfl,hS,by decide,λc1=>⟨_,_,rfl,rfl,⟨by decide,by decide,by decide⟩,_,_,rfl,rfl,(by show(0:Int)<10 ^ 30;decide),?_⟩⟩;refine nm ?_;dsimp only;obtain⟨hd,ehd⟩:∃ hd,hd=c1 % 10 ^ (30:Int).toNat:=⟨_,rfl⟩;rw[<- ehd];refine⟨_,rfl,_,_,rfl,rfl,(by show(0:Int)<7;decide),_,_,rfl,rfl,?_⟩;refine⟨_,rfl,_,_,rfl,rfl,⟨by decide,by decide⟩,_,_,rfl,rfl,(by show(0:Int)<12;decide),?_⟩;refine nm ?_;dsimp only [List.set];refine PK (λσ H1=>∃ n mo:Int,H1=H/\2<=n/\n<=12/\0<=mo/\n - 1+mo<=30/\σ=[some (.ref a),some (.int hd),some (.int n),some (.int mo),none,none,none,none,none]) ?_ ?_;rotate_left
  .intro Kn hK;refine⟨_,rfl,a,ns,rfl,hS,λb=>⟨_,rfl,?_⟩⟩;have a0:=Wx hd (show(7:Int)≠0 by decide)
   have a1:=YY hd (show(0:Int)<7 by decide);have b0:=Wx (hd / 11) (show(12:Int)≠0 by decide)
   have b1:=YY (hd / 11) (show(0:Int)<12 by decide);have d0:=Wx hd (show(11:Int)≠0 by decide)
   have d1:=YY hd (show(0:Int)<11 by decide);have e0:=Wx (hd / 11) (show 32 - (2+hd % 11)≠0 by lia)
   have e1:=YY (hd / 11) (show 0<32 - (2+hd % 11) by grind);refine tE (λ_=>?_) (λ_=>hK _ _ ⟨_,_,rfl,by grind,by grind,b0,by lia,rfl⟩);refine⟨_,rfl,_,_,rfl,rfl,(by show(0:Int)<11;decide),_,_,rfl,rfl,?_⟩;refine⟨_,rfl,_,_,rfl,rfl,⟨by decide,by decide⟩,_,rfl,_,_,rfl,rfl,_,_,rfl,rfl,(by show(0:Int)<32 - (2+hd % 11);omega),?_⟩;exact hK _ _ ⟨_,_,rfl,by grind,by grind,e0,by grind,rfl⟩
  rintro σ H1 ⟨n,mo,rfl,n2,n12,m0,nm30,rfl⟩;refine⟨_,rfl,_,rfl,_,rfl,_,_,rfl,rfl,_,_,rfl,rfl,.inl ⟨by decide,by decide⟩,a,ns,_,rfl,hS,Mw,by lia,by lia,λnl L H2 s2 Lk Ha Ck=>?_⟩;refine nm ?_;dsimp only [List.set];refine PK (λσ H3=>∃(nl:Addr) (L:Ac),Same H1 H3/\H3 nl=some (.lst (IL L))/\(L.length:Int)=2 * (n+mo)/\(∀ z∈L,0<=z)/\σ=[some (.ref a),some (.int hd),some (.int n),some (.int mo),some (.ref nl),none,none,none,none]) ?_ ?_;rotate_left
  .intro Kn hK;refine⟨_,rfl,a,ns,1,rfl,s2.seq hS,by decide,λc2=>⟨_,_,rfl,rfl,(by show(0:Int)<2;decide),rfl,_,rfl,?_⟩⟩;rw[Zx];refine Xf (λ_=>?_) (λ_=>hK _ _ ⟨nl,L,s2,Lk,Ha,Ck,rfl⟩);exact⟨_,rfl,_,rfl,_,rfl,_,_,rfl,rfl,_,_,rfl,rfl,.inl ⟨by decide,by decide⟩,a,ns,_,rfl,s2.seq hS,by lia,by lia,λdl M H3 s3 yn Sf hM0=>hK _ _ ⟨dl,M,s2.trans s3,yn,Sf,hM0,rfl⟩⟩
  clear Lk Ha Ck s2;rintro σ H3 ⟨nl,L,s3,Lk,Ha,Ck,rfl⟩;have at_:∀ i:Int,0<=i->i<2 * (n+mo)->∃ z,VQ (IL L) i=some (.int z):=λi i0 i1=>by obtain⟨z,hz⟩:∃ z,L[i.toNat]?=some z:=⟨_,Xn (by lia)⟩;exact⟨z,ZL (n:=i.toNat) (by lia) (UH hz)⟩
  refine⟨_,rfl,_,_,rfl,rfl,_,rfl,by lia,by lia,Et (lo:=0) (n:=(n - 1).toNat) (λi ys H4=>Same H3 H4/\∃ ps:Aa,PairsV H4 ys ps/\ps.length=i/\(∀ p∈ps,Io n p)/\xy ((i:Int)+1) λp=>p∈ps) ⟨Same.refl _,[],PairsV.nil,rfl,λp h=>(by cases h),λj h=>absurd h (by lia)⟩ (Zl (by lia)) (λi ys H4 _ ⟨_,ps,hP,l,_⟩=>by rw[hP.1,l];exact XN _) ?_ ?_⟩
  .rintro i ys H4 hi ⟨s4,ps,hP,hl,hok,Mv⟩ S Xl;obtain⟨z,hz⟩:=at_ (0+(i:Int)) (by lia) (by grind);have z0:=Wx z (show 0+(i:Int)+1≠0 by lia)
   have z1:=YY z (show 0<0+(i:Int)+1 by lia);refine⟨_,rfl,_,rfl,nl,_,_,_,rfl,rfl,SqL.of (s4 _ _ Lk),hz,_,rfl,_,_,rfl,rfl,_,_,rfl,rfl,(by show 0<0+(i:Int)+1;omega),_,rfl,_,_,rfl,rfl,two,λtp BU=>?_⟩;have u5:=XM (o:=.tup [.int (z % (0+(i:Int)+1)),.int (0+(i:Int)+1)]) BU
   refine Xl _ _ ⟨s4.trans u5,ps++[(z % (0+(i:Int)+1),0+(i:Int)+1)],(hP.same u5).snoc ⟨tp,rfl,XR⟩,by rw[Xt,Yh,hl],jX hok ⟨z0,by show z % (0+(i:Int)+1)<n;grind,by show 0<=0+(i:Int)+1;lia,by show 0+(i:Int)+1<n;grind⟩,λj hj=>?_⟩;by_cases c:j=i
   .exact⟨_,Yf _ (XD.mpr rfl),by show 0+(i:Int)+1=_;lia,z0,by show z % (0+(i:Int)+1)<_;lia⟩
   .obtain⟨p,h1,h2⟩:=Mv j (by lia);exact⟨p,Yb _ h1,h2⟩
  rintro xx H4 ⟨s4,ps0,xW,QM,jV,AG⟩ tA Ri;have MM:H1 tA=none:=s3.free (s4.free Ri)
  have u5:=XM (o:=.lst xx) Ri;have k5:=XR (H:=H4) (a:=tA) (o:=.lst xx)
  have hP5:=xW.same u5;have s5:=s3.trans (s4.trans u5)
  have jU:=u5 _ _ (s4 _ _ Lk);have nt:nl≠tA:=λe=>by rw[e,s4.free Ri]at Lk;cases Lk
  generalize upd H4 tA (.lst xx)=H5 at *;refine nm ?_;dsimp only [List.set];have elk:((n - 1).toNat:Int)+1=n:=by grind
  rw[elk]at AG;refine⟨_,rfl,_,rfl,by lia,by lia,vA (lo:=0) (n:=mo.toNat) (λi σ H6=>∃(xs:List V) (ps:Aa) (v6:Option V),σ=[some (.ref a),some (.int hd),some (.int n),some (.int mo),some (.ref nl),some (.ref tA),v6,none,none]/\Same H1 H6/\H6 nl=some (.lst (IL L))/\H6 tA=some (.lst xs)/\PairsV H6 xs ps/\ps.length=(n - 1).toNat+i/\(∀ p∈ps,Io n p)/\xy n λp=>p∈ps) ⟨xx,ps0,none,rfl,s5,jU,k5,hP5,by lia,jV,AG⟩ ?_ ?_⟩
  .rintro i σ H6 hi ⟨xs,ps,v6,rfl,s6,Mu,k6,hP,hl,hok,Mv⟩;refine nm ?_;dsimp only [List.set];obtain⟨x,hx⟩:=at_ (n+2 * (0+(i:Int))) (by lia) (by lia);obtain⟨y,hy⟩:=at_ (n+2 * (0+(i:Int))+1) (by lia) (by lia);have np:(0:Int)<n:=by lia
   have x0:=Wx x (show n≠0 by lia);have x1:=YY x np
   have y0:=Wx y (show n≠0 by lia);have y1:=YY y np
   refine⟨_,rfl,.inl ⟨rfl,_,SqL.of k6⟩,_,rfl,_,rfl,_,rfl,_,_,rfl,rfl,.inl ⟨by decide,by decide⟩,_,_,rfl,rfl,nl,_,_,_,rfl,rfl,SqL.of Mu,hx,_,rfl,_,_,rfl,rfl,np,_,rfl,_,rfl,_,rfl,_,_,rfl,rfl,.inl ⟨by decide,by decide⟩,_,_,rfl,rfl,_,_,rfl,rfl,nl,_,_,_,rfl,rfl,SqL.of Mu,hy,_,rfl,_,_,rfl,rfl,np,two,λtp BU=>?_⟩;have u7:=XM (o:=.tup [.int (x % n),.int (y % n)]) BU
   have k7:=u7 _ _ k6;refine⟨tA,xs,_,rfl,rfl,k7,Zl (by rw[hP.1];lia),?_⟩;refine⟨_,ps++[(x % n,y % n)],_,rfl,ZH MM (s6.trans u7),by rw[Zb nt];exact u7 _ _ Mu,XR,((hP.same u7).snoc ⟨tp,rfl,XR⟩).mut k7,by rw[Xt,Yh,hl];lia,jX hok ⟨x0,x1,y0,y1⟩,λj hj=>?_⟩;obtain⟨p,h1,h2⟩:=Mv j hj;exact⟨p,Yb _ h1,h2⟩
  rintro σ H6 ⟨xs,ps,v6,rfl,s6,Mu,k6,hP,hl,hok,Mv⟩;refine⟨Yl _,λtd Mz=>?_⟩;have u7:=XM (o:=.lst []) Mz
  have k7:=XR (H:=H6) (a:=td) (o:=.lst []);have bL:=u7 _ _ k6
  have rt:tA≠td:=Zc k6 Mz;have bK:=hP.same u7
  have s7:=s6.trans u7;have AF:H1 td=none:=s6.free Mz
  generalize upd H6 td (.lst [])=H7 at *;refine nm ?_;dsimp only [List.set];refine⟨_,rfl,a,ns,1,rfl,s7.seq hS,by decide,λc3=>⟨_,_,rfl,rfl,⟨by decide,by decide,by decide⟩,_,_,rfl,rfl,(by show(0:Int)<10 ^ 60;decide),_,44,rfl,by decide,by decide,λm m0'=>?_⟩⟩;refine nm ?_;dsimp only [List.set];refine⟨λk σ H8=>∃(xs ys:List V) (rs ts:Aa) (mm:Int),σ=[some (.ref a),some (.int hd),some (.int n),some (.int mo),some (.ref nl),some (.ref tA),v6,some (.ref td),some (.int mm)]/\Same H1 H8/\H8 tA=some (.lst xs)/\PairsV H8 xs rs/\H8 td=some (.lst ys)/\PairsV H8 ys ts/\rs.length=k/\ts.length+k<=30/\(∀ p∈rs,Io n p)/\(∀ p∈ts,Io n p)/\xy n λp=>p∈rs\/p∈ts,
   ⟨ps.length,xs,[],ps,[],m,rfl,s7,bL,bK,k7,PairsV.nil,rfl,by show 0+_<=30;lia,hok,λp h=>(by cases h),λj hj=>by obtain⟨p,h1,h2⟩:=Mv j hj;exact⟨p,.inl h1,h2⟩⟩,?_⟩
  clear hP hl hok Mv bK bL k6;rintro k σ H8 ⟨xs,ys,rs,ts,mm,rfl,s8,kr,hP,kt,hT,hrk,vg,bJ,CA,Mv⟩;have xl:=hP.1
  have yl:=hT.1;refine⟨_,rfl,tA,xs,rfl,.inl (SqL.of kr),_,_,rfl,rfl,_,rfl,?_⟩;refine Xf (λSJ=>?_) (λSJ=>?_)
  .refine⟨_,λσ' H' h=>h,?_⟩;refine⟨_,rfl,mm,45,rfl,by decide,by decide,λm2 m20=>?_⟩;refine nm ?_;dsimp only [List.set];have l0:(0:Int)<(xs.length:Int):=by lia
   have a0:=Wx (m2 / 8) (show(xs.length:Int)≠0 by lia);have a1:=YY (m2 / 8) l0
   obtain⟨at',bI⟩:∃ at',m2 / 8 % (xs.length:Int)=at':=⟨_,rfl⟩;rw[bI]at a0 a1;obtain⟨g,hg⟩:∃ g,rs[at'.toNat]?=some g:=⟨_,Xn (by grind)⟩;obtain⟨y1,hy1,tt,rfl,TN⟩:=hP.2 _ _ hg;have gi:=bJ g (Xg hg)
   have ttA:tt≠tA:=QX TN kr (λz=>nomatch z);refine⟨_,rfl,.inl ⟨rfl,_,SqL.of kt⟩,_,rfl,.inl ⟨rfl,_,SqL.of kr⟩,_,rfl,_,_,rfl,rfl,⟨by decide,by decide⟩,_,rfl,tA,xs,rfl,.inl (SqL.of kr),_,_,rfl,rfl,l0,?_⟩;refine⟨tA,xs,at',at'.toNat,.ref tt,rfl,by rw[<- bI],kr,by lia,by lia,Eg a0 (by grind),hy1,?_⟩;have mw:PairsV (upd H8 tA (.lst (xs.eraseIdx at'.toNat))) (xs.eraseIdx at'.toNat) (rs.eraseIdx at'.toNat):=(show Bears (PairV _) _ _ from hP.mut (l:=tA) (zs:=xs.eraseIdx at'.toNat) kr).erase at'.toNat
   have mJ:=hT.mut (l:=tA) (zs:=xs.eraseIdx at'.toNat) kr;have kr9:=XR (H:=H8) (a:=tA) (o:=.lst (xs.eraseIdx at'.toNat))
   have jT:(upd H8 tA (.lst (xs.eraseIdx at'.toNat))) td=some (.lst ys):=by rw[Zb (YZ rt)];exact kt
   have ht9:(upd H8 tA (.lst (xs.eraseIdx at'.toNat))) tt=some (.tup [.int g.1,.int g.2]):=by rw[Zb ttA];exact TN
   have s9:Same H1 (upd H8 tA (.lst (xs.eraseIdx at'.toNat))):=ZH MM s8;generalize upd H8 tA (.lst (xs.eraseIdx at'.toNat))=H9 at *;have elen:(rs.eraseIdx at'.toNat).length+1=rs.length:=by
    rw[zZ,if_pos (Xs.mp hg).1]
    have:=(Xs.mp hg).1
    lia
   refine⟨td,ys,_,rfl,rfl,jT,Zl (by lia),k - 1,by lia,?_⟩;refine⟨xs.eraseIdx at'.toNat,ys++[.ref tt],rs.eraseIdx at'.toNat,ts++[g],m2,rfl,ZH AF s9,by rw[Zb rt];exact kr9,mw.mut (l:=td) (zs:=ys++[.ref tt]) jT,XR,(mJ.snoc ⟨tt,rfl,ht9⟩).mut (l:=td) (zs:=ys++[.ref tt]) jT,by lia,by rw[Xt,Yh];lia,λp hp=>bJ p (xm hp),jX CA gi,λj hj=>?_⟩;obtain⟨p,h1,h2⟩:=Mv j hj;refine⟨p,?_,h2⟩;rcases h1 with h1 | h1
   .rcases jY hg h1 with e | e
    .exact .inl e
    .exact .inr (Yf _ (XD.mpr e))
   .exact .inr (Yb _ h1)
  .have k00:k=0:=by lia
   subst k00;have r0:rs=[]:=YQ.mp hrk
   subst r0;refine⟨_,rfl,_,rfl,two,λr hr'=>?_⟩;have u9:=XM (o:=.tup [.int n,.ref td]) hr'
   refine q r td n ys ts _ (s8.trans u9) XR AF (u9 _ _ kt) (hT.same u9) ⟨by lia,by lia,by lia,λp hp=>CA p hp⟩ n2 (Zd8 λj hj=>?_);obtain⟨p,h1,h2⟩:=Mv j hj;exact⟨p,h1.resolve_left (λe=>by cases e),h2⟩
def jS(K:Ad):Sp:=λvs H Q _=>∃ z:Int,vs=[.int z]/\Q (.bl true) H
theorem jR:FnScope ["found"] ["found"] (XB sZV):=⟨rfl,rfl,rfl,by decide +kernel,rfl,by decide +kernel,by decide +kernel⟩
theorem jQ (T:Txt K mg t):FnOk P w K mg base Xk 1 t.aZV t.dZV ["found"] (jS K):=by
 refine T.fZV.ok jR (λvs H Q E h=>?_) (λXy A outer s H vs Q E hr h=>?_)
 .obtain⟨z,rfl,_⟩:=h;rfl
 .obtain⟨z,rfl,q⟩:=h;refine⟨_,(XI (Zi (Ge (Zf (tw K (T:="int")) (by rfl) T.n_isinstance Boot.«isinstance» (XZ (pv 0) (XZ (wa (v:=V.ty "int") rfl T.n_int Boot.«int» rfl) XY))) (vT (Gd (Zf (tw K (T:="bool")) (by rfl) T.n_isinstance Boot.«isinstance» (XZ (pv 0) (XZ (wa (v:=V.ty "bool") rfl T.n_bool Boot.«bool» rfl) XY)))))))),?_⟩;refine⟨_,rfl,_,_,_,rfl,TyOf.int _,gT,_,rfl,?_⟩;refine Wj ?_;exact⟨_,rfl,_,_,_,rfl,TyOf.int _,Zk4,_,rfl,q⟩
def jP(K:Ad)(C:Addr):Sp:=λvs H Q _=>∃(w:Addr) (n:Int) (ps:Aa) (m:Int),vs=[.ref w,.int m]/\WebAt C H w n ps/\Zu n ps/\Np n ps /\
 ∀(r:Addr) (U:Ac) (H':Hp),Same H H'->H' r=some (.tup (IL U))->Ze n ps U->Q (.ref r) H'
theorem Ut:FnScope ["web","m","tree","turn","others","into","ring","out"] ["web","m"] (XB sZW):=⟨rfl,rfl,rfl,by decide +kernel,rfl,by decide +kernel,by decide +kernel⟩
theorem jO (T:Txt K mg t):FnOk P w K mg base Xk 9 t.aZW t.dZW ["web","m"] (jP K t.A_Web):=by
 refine T.fZW.ok Ut (λvs H Q E h=>?_) (λXy A outer s H vs Q E hr h=>?_)
 .obtain⟨w,n,ps,m,rfl,_⟩:=h;rfl
 .obtain⟨w,n,ps,m,rfl,hW,hG,hJ,q⟩:=h;refine⟨_,(XQ (Zh (i:=2) Ut.nd rfl (Or.inr rfl) (XF (BC T) (hr.mono (by decide)) rfl T.mZq T.fZq.kp T.bZq .nil Zp (XZ (pv 0) XY)))
   (XQ (Tf Ww rfl (Ui rfl T.n_range (XZ (Zs ZS (pv 1) Za) XY)) (Zg (i:=3) Ut.nd rfl (Or.inl rfl))
   (XQ (Zh (i:=1) Ut.nd rfl (Or.inl rfl) (XF (SH T) (hr.mono (by decide)) rfl T.mZP T.fZP.kp T.bZP .nil Zp (XZ (pv 1) (XZ Za XY))))
   (XQ (RM (i:=4) rfl Ut.nd rfl rfl (sc0:=XB sZW) (N0:=["web","m","tree","turn","others","into","ring","out"]) (N':=["tie","tree"]) (o:=1) (fr:=[2]) ⟨rfl,by decide +kernel,by decide +kernel,by decide +kernel,rfl,by decide +kernel⟩ (Ui rfl T.n_range (XZ (Zf (Zj K) (by rfl) T.n_len Boot.«len» (XZ (Zn K (pv 0) rfl) XY)) XY)) (Zv (by decide)) (λ_ _ _ _=>(Zg (i:=0) (show List.Nodup (["tie","tree"]:List Str) by decide +kernel) rfl (Or.inl rfl))) (λ_ _ _ _=>(Wq (Zd (ZP K) (pv 0) (pv 1) rfl))) (λ_ _ _ _=>(pv 0)))
   (XI (WL (Zd LS (Zf (Zj K) (by rfl) T.n_len Boot.«len» (XZ (pv 4) XY)) Za (Zq _))
   (XQ (Zh (i:=5) Ut.nd rfl (Or.inr rfl) (ZR (Zk K) (pv 4) (Zs ZS (Zs LV (pv 1) Za) (Zf (Zj K) (by rfl) T.n_len Boot.«len» (XZ (pv 4) XY))) (λ_ _=>rfl)))
   (XQ (RM (i:=6) rfl Ut.nd rfl rfl (sc0:=XB sZW) (N0:=["web","m","tree","turn","others","into","ring","out"]) (N':=["tie","into"]) (o:=1) (fr:=[5]) ⟨rfl,by decide +kernel,by decide +kernel,by decide +kernel,rfl,by decide +kernel⟩ (JI K (XF (By T) (hr.mono (by decide)) rfl T.mZs T.fZs.kp T.bZs .nil Zp (XZ (pv 0) (XZ (pv 2) (XZ (pv 5) XY))))) (Zv (by decide)) (λ_ _ _ _=>(Zg (i:=0) (show List.Nodup (["tie","into"]:List Str) by decide +kernel) rfl (Or.inl rfl))) (λ_ _ _ _=>(Wq (Zd RR (pv 0) (pv 1) (Zq _)))) (λ_ _ _ _=>(pv 0)))
   (XI (WL (Zd LS (Zf (Zj K) (by rfl) T.n_len Boot.«len» (XZ (pv 6) XY)) Za (Zq _))
   (XQ (Zh (i:=7) Ut.nd rfl (Or.inr rfl) (ZR (Zk K) (pv 6) (Zs ZS (Zs LV (pv 1) (Zs OQ Za Za)) (Zf (Zj K) (by rfl) T.n_len Boot.«len» (XZ (pv 6) XY))) (λ_ _=>rfl)))
   (XI (Zh (i:=2) Ut.nd rfl (Or.inr rfl) (Zr (ZC K) (by rfl) T.n_tuple Boot.«tuple» (XZ (Zf (yT K) (by rfl) T.n_sorted Boot.«sorted» (XZ (Zs EY (SX rfl (sc0:=XB sZW) (N0:=["web","m","tree","turn","others","into","ring","out"]) (N':=["tie","out"]) (o:=1) (fr:=[7]) ⟨rfl,by decide +kernel,by decide +kernel,by decide +kernel,rfl,by decide +kernel⟩ (JI K (pv 2)) (Zv (by decide)) (λ_ _ _ _=>(Zg (i:=0) (show List.Nodup (["tie","out"]:List Str) by decide +kernel) rfl (Or.inl rfl))) (λ_ _ _ _=>(Wq (Zd RR (pv 0) (pv 1) (Zq _)))) (λ_ _ _ _=>(pv 0))) (Sv (XZ (pv 5) XY))) XY)) XY)))))
   Zo))))
   Zo)))))
   (XI (Zi (pv 2))))),?_⟩
  obtain⟨g1,g2,g3,g4⟩:=id hG;have one:1<=sizeLine:=by decide
  have hg:=(sd hG).mp hJ;have hF:=su hG hg
  refine⟨_,rfl,w,n,ps,rfl,hW,hG,λ_ b H1 s1 Jn=>?_,λh=>absurd h hg⟩;refine nm ?_;dsimp only [List.set];have d0:=Wx m (show(6:Int)≠0 by decide)
  have d1:=YY m (show(0:Int)<6 by decide);refine⟨_,rfl,_,_,rfl,rfl,(by show(0:Int)<6;decide),_,rfl,by omega,by omega,vA (lo:=0) (n:=(m % 6).toNat) (λi σ H2=>∃(U:Ac) (b:Addr) (mm:Int) (v3 v4 v5 v6 v7:Option V),σ=[some (.ref w),some (.int mm),some (.ref b),v3,v4,v5,v6,v7]/\Same H H2/\H2 b=some (.tup (IL U))/\Ze n ps U) ⟨_,b,m,none,none,none,none,none,rfl,s1,Jn,hF⟩ ?_ ?_⟩;rotate_left
  .rintro σ H2 ⟨U,b,mm,v3,v4,v5,v6,v7,rfl,s2,QK,hU⟩;exact⟨_,rfl,q b U H2 s2 QK hU⟩
  clear Jn s1 b d0 d1 hF hg hJ q;rintro i σ H2 hi ⟨U,b,mm,v3,v4,v5,v6,v7,rfl,s2,QK,hU⟩;clear hi;refine nm ?_;dsimp only [List.set];have lU:U.length<=20:=by have:=hU.2.1;omega
  have jN:=hW.same s2;refine⟨_,rfl,mm,50,rfl,by decide,by decide,λm1 _=>?_⟩;refine nm ?_;dsimp only [List.set];obtain⟨dx,tl,xs,h1,h2,h3⟩:=id jN;have OD:=h3.1
  refine⟨_,rfl,w,_,dx,_,_,rfl,h1,T.cl_Web,T.n_Web_ties,QR _ _,tl,_,rfl,.inl (SqL.of h2),_,rfl,by omega,by omega,Et (lo:=0) (n:=(xs.length:Int).toNat) (λi ws H3=>H3=H2/\ws.length<=i/\∃ os:Ac,ws=IL os/\∀ z∈os,0<=z/\z<(ps.length:Int)/\z∉U) ⟨rfl,XN _,[],rfl,λz h=>(by cases h)⟩ (Zl (by omega)) (λi ws H3 _ h=>h.2.1) ?_ ?_⟩
  .rintro i ws H3 hi ⟨rfl,hl,os,rfl,xw⟩ S Xl;refine⟨_,rfl,_,rfl,b,_,rfl,.inr (SqT.of QK),rfl,ZE _,_,rfl,?_⟩;rw[ZQ];refine WW (λhc=>?_) (λhc=>?_)
   .exact Xl _ _ ⟨rfl,by omega,os,rfl,xw⟩
   .refine⟨_,rfl,Xl _ _ ⟨rfl,by rw[Xt,Yh];omega,os++[0+(i:Int)],by rw[ZO],λz hz=>?_⟩⟩;rcases Xx.mp hz with e | e
    .exact xw z e
    .rw[XD.mp e];exact⟨by omega,by omega,hc⟩
  rintro ws H3 ⟨rfl,Sr,os,rfl,xw⟩ oA kl;rw[Xz]at Sr;have u4:=XM (o:=.lst (IL os)) kl
  have k4:=XR (H:=H3) (a:=oA) (o:=.lst (IL os));change Vv _ _ _ _ (upd H3 oA (.lst (IL os)));generalize upd H3 oA (.lst (IL os))=H4 at *;refine nm ?_;dsimp only [List.set];have s4:=s2.trans u4
  have GU:=u4 _ _ QK;refine⟨_,rfl,oA,_,rfl,.inl (SqL.of k4),_,_,rfl,rfl,_,rfl,?_⟩;rw[Xz];refine Xf (λSJ=>?_) (λ_=>⟨U,b,m1,_,_,_,_,_,rfl,s4,GU,hU⟩);have op:(0:Int)<(os.length:Int):=by omega
  have a0:=Wx (m1 / 8) (show(os.length:Int)≠0 by omega);have a1:=YY (m1 / 8) op
  obtain⟨z,hz⟩:∃ z,os[(m1 / 8 % (os.length:Int)).toNat]?=some z:=⟨_,Xn (by omega)⟩;obtain⟨z0,z1,zU⟩:=xw z (Xg hz);refine⟨_,rfl,_,rfl,_,_,rfl,rfl,⟨by decide,by decide⟩,_,rfl,oA,_,rfl,.inl (SqL.of k4),_,_,rfl,rfl,(by rw[Xz];exact op),oA,_,_,.int z,rfl,rfl,SqL.of k4,(by rw[Xz];exact ZL (n:=(m1 / 8 % (os.length:Int)).toNat) (by omega) (UH hz)),?_⟩;refine nm ?_;dsimp only [List.set];clear a0 a1 op hz SJ;refine⟨_,rfl,_,rfl,_,rfl,w,b,n,ps,true,U,z,rfl,hW.same s4,hG,SqT.of GU,by omega,by omega,λ_ _ _ _ rs hp hs rA H5 s5 VU Lf=>?_,λ_ h=>?_,λh=>absurd hU h⟩;rotate_left
  .rcases h with h | h
   .exact absurd h zU
   .exact absurd ⟨z0,z1⟩ h
  have hrl:rs.length<=30:=by
   rw[hp.length_eq,Xt,Yh]
   have:(UT n ps U z U).length<=U.length:=YB ..
   omega
  have hrm:∀ v∈rs,v≠z->exg n ps U v z:=λv hv ne=>by
   rcases Xx.mp (hp.mem_iff.mp hv) with h | h
   .obtain⟨h5,h6⟩:=Xh.mp h;exact⟨h5,λe=>zU (by rw[e];exact h5),h6⟩
   .exact absurd (XD.mp h) ne
  refine⟨rA,rfl,⟨_,SqT.of Lf⟩,JJ (K:=K) (a:=rA) (xs:=IL rs) (λi ws H6=>H6=H5/\ws.length<=i/\∃ os:Ac,ws=IL os/\∀ v∈os,exg n ps U v z) ⟨rfl,XN _,[],rfl,λz h=>(by cases h)⟩ (Zl (by rw[Xz];omega)) (λi ws H6 _ h=>⟨h.1 ▸ SqT.of Lf,h.2.1⟩) ?_ ?_⟩
  .rintro i v ws H6 hi ⟨rfl,hl,HJ,rfl,AE⟩ S Xl;obtain⟨v,rfl,hv⟩:=WU hi;refine⟨_,rfl,_,rfl,rfl,_,rfl,?_⟩;rw[Zx];refine WW (λhc=>?_) (λhc=>?_)
   .exact Xl _ _ ⟨rfl,by omega,HJ,rfl,AE⟩
   .refine⟨_,rfl,Xl _ _ ⟨rfl,by rw[Xt,Yh];omega,HJ++[v],by rw[ZO],λx hx=>?_⟩⟩;rcases Xx.mp hx with e | e
    .exact AE x e
    .rw[XD.mp e];exact hrm v (Xg hv) hc
  rintro ws H6 ⟨rfl,BF,gs,rfl,hgs⟩ gA hgA;rw[Xz,Xz]at BF;have u7:=XM (o:=.lst (IL gs)) hgA
  have k7:=XR (H:=H6) (a:=gA) (o:=.lst (IL gs));change Vv _ _ _ _ (upd H6 gA (.lst (IL gs)));generalize upd H6 gA (.lst (IL gs))=H7 at *;refine nm ?_;dsimp only [List.set];have Px:=s5.trans u7
  have s7:=s4.trans Px;have jM:=Px _ _ GU
  refine⟨_,rfl,gA,_,rfl,.inl (SqL.of k7),_,_,rfl,rfl,_,rfl,?_⟩;rw[Xz];refine Xf (λSJ=>?_) (λ_=>⟨U,b,m1,_,_,_,_,_,rfl,s7,jM,hU⟩);have op:(0:Int)<(gs.length:Int):=by omega
  have a0:=Wx (m1 / 10 ^ (6:Int).toNat) (show(gs.length:Int)≠0 by omega);have a1:=YY (m1 / 10 ^ (6:Int).toNat) op
  obtain⟨o,ho⟩:∃ o,gs[(m1 / 10 ^ (6:Int).toNat % (gs.length:Int)).toNat]?=some o:=⟨_,Xn (by omega)⟩;have hx:=hgs o (Xg ho)
  refine⟨_,rfl,_,rfl,_,_,rfl,rfl,⟨by decide,by decide,by decide⟩,_,_,rfl,rfl,⟨by decide,by decide⟩,_,rfl,gA,_,rfl,.inl (SqL.of k7),_,_,rfl,rfl,(by rw[Xz];exact op),gA,_,_,.int o,rfl,rfl,SqL.of k7,(by rw[Xz];exact ZL (n:=(m1 / 10 ^ (6:Int).toNat % (gs.length:Int)).toNat) (by omega) (UH ho)),?_⟩;refine nm ?_;dsimp only [List.set];clear a0 a1 op ho SJ;refine⟨_,rfl,b,rfl,⟨_,SqT.of jM⟩,JJ (K:=K) (a:=b) (xs:=IL U) (λi ws H8=>H8=H7/\i<=U.length/\ws=IL (wo (U.take i) o)) ⟨rfl,Yl _,rfl⟩ (Zl (by rw[Xz];omega)) (λi ws H8 hi h=>by obtain⟨e,VM,ew⟩:=h;exact⟨e ▸ SqT.of jM,by rw[ew,Xz];exact Yv (YB ..) (by rw[Yy];omega)⟩) ?_ ?_⟩
  .rintro i y ws H8 hi ⟨rfl,VG,rfl⟩ S Xl;obtain⟨y,rfl,hy⟩:=WU hi;have Xp:i<U.length:=(Xs.mp hy).1
   refine⟨_,rfl,_,rfl,rfl,_,rfl,?_⟩;rw[Zx];refine WW (λhc=>?_) (λhc=>?_)
   .refine Xl _ _ ⟨rfl,Xp,?_⟩;unfold wo;rw[Zz hy,if_neg (by simpa using hc),YF]
   .refine⟨_,rfl,Xl _ _ ⟨rfl,Xp,?_⟩⟩;unfold wo;rw[Zz hy,if_pos (Yn hc),ZO]
  rintro ws H8 ⟨rfl,_,rfl⟩ wA hwA;rw[Xz,YI];have wl:=yL U o
  have u9:=XM (o:=.lst (IL (wo U o))) hwA;refine⟨_,rfl,one,λzA hzA=>?_⟩;have uA:=XM (o:=.lst (IL [z])) hzA
  refine⟨wA,zA,IL (wo U o),IL [z],rfl,rfl,uA _ _ XR,XR,OI (by rw[Xz];show _+1<=_;omega),λcA Ox=>?_⟩;have uB:=XM (o:=.lst (IL (wo U o)++IL [z])) Ox
  refine⟨cA,wo U o++[z],rfl,SqL.of (by rw[XR];exact Xw (λl=>some (HO.lst l)) (Hz _ _).symm),by rw[Xt,Yh];omega,λms VN Uc sA hsA=>?_⟩;have uC:=XM (o:=.lst (IL ms)) hsA
  refine⟨sA,_,rfl,.inl ⟨SqL.of XR,λtA Ri=>?_⟩⟩;exact⟨ms,tA,m1,_,_,_,_,_,rfl,s7.trans (u9.trans (uA.trans (uB.trans (uC.trans (XM Ri))))),XR,Eb hG hU hx VN Uc⟩
def jL(K:Ad)(CP C Pt:Addr):Sp:=λvs H Q _=>∃(w a:Addr) (n:Int) (ps:Aa) (U:Ac) (R:Ab),vs=[.ref w,.int R.length,.ref a]/\WebAt C H w n ps/\Zu n ps/\Xi H Pt/\H a=some (.tup (IL U))/\Ze n ps U/\RowW n ps R/\R.Nodup/\(∀ T,T∈R↔Ze n ps T)/\Adj Sh R /\
 ∀ H':Hp,SameX Pt H H'->Xi H' Pt->Q (.bl true) H'
theorem jK{n:Int}{ps:Aa}{U V:Ac}{o z:Int}(g:Zu n ps)(hU:Ze n ps U)(hV:Ze n ps V)(h:Sh U V)(o1:o∈U)(o2:o∉V)(z1:z∈V)(z2:z∉U):exg n ps U o z/\∀ ms:Ac,ms.Perm (wo U o++[z])->ms.Pairwise (·<=·)->ms=V:=by
 have one:∀ {A B:Ac} {x v:Int},Sh A B->x∈A->x∉B->v∈A->v∉B->v=x:=λ{A B x v} h a1 a2 b1 b2=>by
  have m1:x∈A.filter λy=>decide (y∉B):=Yc.mpr ⟨a1,Yn a2⟩;have m2:v∈A.filter λy=>decide (y∉B):=Yc.mpr ⟨b1,Yn b2⟩
  obtain⟨c,e⟩:=je.mp h;rw[e]at m1 m2;rw[XD.mp m1,XD.mp m2]
 have h':=IY hU hV h;have mem:∀ v,v∈V↔(v∈U/\v≠o)\/v=z:=λv=>by
  constructor
  .intro hv;by_cases c:v∈U
   .exact .inl ⟨c,λe=>o2 (e ▸ hv)⟩
   .exact .inr (one h' z1 z2 hv c)
  .rintro(⟨a,b⟩ | rfl)
   .exact Yt λno=>b (one h o1 o2 a no)
   .exact z1
 obtain⟨z0,z3⟩:=hV.1.all z z1;refine⟨(RE g hU).mpr ⟨o1,z2,z0,z3,λi j hi hj=>(hV.2.2 i j hi hj).mono (ZA λv hv=>?_)⟩,λms hp hs=>?_⟩
 .rw[Xx,Xq,XD];exact(mem v).mp hv
 .refine RF (hp.trans ((Uk (QP.mpr ⟨hU.1.nodup.filter _,by simp,λa ha b hb e=>z2 (by rw[<- XD.mp hb,<- e];exact(Yc.mp ha).1)⟩) hV.1.nodup).mpr λv=>?_)) hs ((XX.mp hV.1).2.imp λh=>Md h);show v∈wo U o++[z]↔v∈V
  rw[Xx,Xq,XD,mem v]
theorem Mt:FnScope ["web","total","tree","number","step","later"] ["web","total","tree"] (XB sZX):=⟨rfl,rfl,rfl,by decide +kernel,rfl,by decide +kernel,by decide +kernel⟩
theorem jJ {Pt:Addr} (T:Txt K mg t) (hB:SS K mg base t.dZx Pt):FnOk P w K mg base Xk 47 t.aZX t.dZX ["web","total","tree"] (jL K t.A_Part t.A_Web Pt):=by
 refine T.fZX.ok Mt (λvs H Q E h=>?_) (λXy A outer s H vs Q E hr h=>?_)
 .obtain⟨w,a,n,ps,U,R,rfl,_⟩:=h;rfl
 .obtain⟨w,a,n,ps,U,R,rfl,hW,hG,hT,hA,hU,hR,hN,MA,jI,q⟩:=h;refine⟨_,(XQ (Zh (i:=3) Mt.nd rfl (Or.inl rfl) (XF (MC T hB) (hr.mono (by decide)) rfl T.mZK T.fZK.kp T.bZK .nil Zp (XZ (pv 0) (XZ (pv 2) XY))))
   (XQ (WL (PW.pt (QV (OR (Qz (XF (jQ T) (hr.mono (by decide)) rfl T.mZV T.fZV.kp T.bZV .nil Zp (XZ (pv 3) XY)))) (QV (Zd Kj (pv 3) Za (Zq _)) (QV (Zd Ki (pv 3) (pv 1) (Zq _)) (Ku (Zd (Er K (NG hr)) (XF (MD T hB) (hr.mono (by decide)) rfl T.mZH T.fZH.kp T.bZH .nil Zp (XZ (pv 0) (XZ (pv 3) XY))) (pv 2) (Zq _)))))))
   (XI (Zi UI))
   Zo)
   (XQ (Zh (i:=4) Mt.nd rfl (Or.inl rfl) (XF (AI T hB) (hr.mono (by decide)) rfl T.mZN T.fZN.kp T.bZN .nil Zp (XZ (pv 0) (XZ (pv 2) XY))))
   (XQ (Zh (i:=5) Mt.nd rfl (Or.inl rfl) (XF (AL T hB) (hr.mono (by decide)) rfl T.mZL T.fZL.kp T.bZL .nil Zp (XZ (pv 0) (XZ (pv 2) XY))))
   (XQ (WL (Zd Td (pv 3) (Zs Te (pv 1) Za) (Zq _))
   (XI (Zi (Ge (NV HK (pv 4) VS (Zq _)) (Ge (NV HK (pv 5) VS (Zq _)) (vT (NV (tD K (NG hr)) (pv 2) (XF (AN T hB) (hr.mono (by decide)) rfl T.mZI T.fZI.kp T.bZI .nil Zp (XZ (pv 0) XY)) (Zq _)))))))
   Zo)
   (XQ (WL (PW.pt (QV (OR (Qz (Zf (tw K (T:="tuple")) (by rfl) T.n_isinstance Boot.«isinstance» (XZ (pv 4) (XZ (wa (v:=V.ty "tuple") rfl T.n_tuple Boot.«tuple» rfl) XY))))) (QV (Zd RR (Zf (Zj K) (by rfl) T.n_len Boot.«len» (XZ (pv 4) XY)) Za (Zq _)) (Ku (Zd (Er K (NG hr)) (XF (lZ T) (hr.mono (by decide)) rfl T.mZt T.fZt.kp T.bZt .nil Zp (XZ (pv 0) (XZ (pv 2) (XZ (ZR (ZN K) (pv 4) Za (λ_ _=>rfl)) (XZ (ZR (ZN K) (pv 4) Za (λ_ _=>rfl)) XY))))) (pv 5) (Zq _))))))
   (XI (Zi UI))
   Zo)
   (XI (Zi (NV (tD K (NG hr)) (XF (AJ T hB) (hr.mono (by decide)) rfl T.mZM T.fZM.kp T.bZM .nil Zp (XZ (pv 0) (XZ (pv 5) XY))) (pv 2) (Zq _)))))))))),?_⟩
  have kx:=(MA U).mpr hU;refine⟨_,rfl,_,rfl,w,a,n,ps,U,R,rfl,hW,hG,hT,SqT.of hA,hU,hR,kx,λj H1 hj UP WN=>?_⟩;refine nm ?_;dsimp only [List.set];have jl:=(Xs.mp hj).1
  have Um:=UP _ _ (hT.ne hA (by simp)) hA;have hW1:=hW.samex hT UP
  refine⟨_,rfl,_,rfl,_,rfl,?_⟩;refine Wv ?_;refine⟨_,rfl,_,_,rfl,rfl,_,rfl,?_⟩;refine Xf (λh=>by omega) (λ_=>?_);refine⟨_,rfl,_,rfl,_,_,rfl,rfl,_,rfl,?_⟩;refine Xf (λh=>by omega) (λ_=>?_);refine⟨_,rfl,_,rfl,w,n,ps,_,R,rfl,hW1,hG,WN,by omega,by omega,hR,λr U1 H2 Bf UO Xb Wd=>?_⟩;rw[YC,hj]at Bf;obtain rfl:=Yg Bf;have Vo:=UO _ _ (WN.ne Um (by simp)) Um
  have TK:=UP.trans UO;refine⟨_,rfl,1,_,r,a,rfl,rfl,by decide,JD (SqT.of Wd) (SqT.of Vo),_,rfl,?_⟩;rw[Yn rfl];refine Wv ?_;show(_:Prop)
  refine SU ?_;have jN:=hW.samex hT TK
  have trees:∀ V∈R,Ze n ps V:=λV hV=>(MA V).mp hV;refine⟨_,rfl,_,rfl,w,a,n,ps,U,R,j,rfl,jN,hG,Xb,SqT.of Vo,hU,hR,hN,hj,trees,λv H3 hv Lg VX=>?_⟩;refine nm ?_;dsimp only [List.set];have Uu:=TK.trans Lg
  have RG:=Lg _ _ (Xb.ne Vo (by simp)) Vo;have hW3:=hW.samex hT Uu
  refine⟨_,rfl,_,rfl,w,a,n,ps,U,R,j,rfl,hW3,hG,VX,SqT.of RG,hU,hR,hN,hj,λv' H4 NU TM Ws=>?_⟩;refine nm ?_;dsimp only [List.set];have Im:=Uu.trans TM
  have Tq:=TM _ _ (VX.ne RG (by simp)) RG;have Ot:=hW.samex hT Im
  refine⟨_,rfl,_,rfl,_,_,rfl,rfl,rfl,_,rfl,?_⟩;rw[Zx];cases hn:R[j+1]? with
  | none =>
   rw[hn]at hv NU;obtain rfl:v=.non:=hv;obtain rfl:v'=.non:=NU;have jn:=Ah.mp hn
   refine Xf (λ_=>?_) (λh=>absurd (show(j:Int)=(R.length:Int) - 1 by omega) h);refine⟨_,rfl,rfl,_,rfl,?_⟩;refine Wj ?_;refine⟨_,rfl,rfl,_,rfl,?_⟩;refine Wj ?_;refine⟨_,rfl,_,rfl,w,n,ps,R,rfl,Ot,hG,Ws,hR,λr5 U5 H5 bH Sb VB Lf=>?_⟩;rw[show R.length - 1=j by omega,hj]at bH;obtain rfl:=Yg bH;have hA5:=Sb _ _ (Ws.ne Tq (by simp)) Tq
   refine⟨1,_,a,r5,rfl,rfl,by decide,JD (SqT.of hA5) (SqT.of Lf),?_⟩;show Q (.bl (decide (U=U))) H5
   rw[Yn rfl];exact q H5 (Im.trans Sb) VB
  | some U2 =>
   rw[hn]at hv NU;have jn:=(Xs.mp hn).1
   refine Xf (λh=>absurd h (show ¬ (j:Int)=(R.length:Int) - 1 by omega)) (λ_=>?_);show(_:Prop)
   refine SU ?_;obtain⟨p,o,z,rfl,hp,o1,o2,z1,z2⟩:=(show ∃ r o z,v=.ref r/\H3 r=some (.tup [.int o,.int z])/\o∈U/\o∉U2/\z∈U2/\z∉U from hv);obtain⟨c,rfl,hc⟩:=(show WR H4 v' U2 from NU);have Oq:=trees U2 (Xg hn)
   have Uw:=TM _ _ (VX.ne hp (by simp)) hp;obtain⟨hx,hms⟩:=jK hG hU Oq (jI j U U2 hj hn) o1 o2 z1 z2;have ob:=hU.1.all o o1
   have zb:=Oq.1.all z z1;have g3:=hG.2.2.1
   refine⟨_,rfl,_,_,_,rfl,TyOf.tup Uw,gT,_,rfl,?_⟩;refine Wv ?_;refine⟨_,rfl,p,_,rfl,.inr (SqT.of Uw),rfl,_,rfl,?_⟩;rw[Zx];refine Wv ?_;refine⟨_,rfl,_,rfl,_,rfl,p,_,0,.int o,rfl,rfl,SqT.of Uw,rfl,_,rfl,p,_,1,.int z,rfl,rfl,SqT.of Uw,rfl,w,a,n,ps,true,U,o,z,rfl,Ot,hG,SqT.of Tq,by omega,by omega,by omega,by omega,λ_ _ ms VN Uc r5 H5 s5 hr50 Lf=>?_,λ_ h=>absurd hx h,λh=>absurd hU h⟩;obtain rfl:=hms ms VN Uc;have bG:=s5 _ _ hc
   refine⟨_,rfl,1,_,r5,c,rfl,rfl,by decide,JD (SqT.of Lf) (SqT.of bG),_,rfl,?_⟩;rw[Yn rfl];refine Wv ?_;show(_:Prop)
   refine SU ?_;have VB:=Ws.same s5
   refine⟨_,rfl,_,rfl,w,c,n,ps,_,R,j+1,rfl,Ot.same s5,hG,VB,SqT.of bG,Oq,hR,hN,hn,λv6 H6 bF Pq TH=>?_⟩;rw[if_neg (Nat.succ_ne_zero j),show j+1 - 1=j from rfl,hj]at bF;obtain⟨d,rfl,hd⟩:=(show WR H6 v6 U from bF);have hA6:=Pq _ _ (VB.ne (s5 _ _ Tq) (by simp)) (s5 _ _ Tq)
   refine⟨_,rfl,1,_,d,a,rfl,rfl,by decide,JD (SqT.of hd) (SqT.of hA6),?_⟩;show Q (.bl (decide (U=U))) H6
   rw[Yn rfl];exact q H6 ((Im.trans (SameX.same s5)).trans Pq) TH
def AD(K:Ad)(Pt:Addr):Sp:=λvs H Q _=>∃(a:Addr) (ns:Ac),vs=[.ref a]/\SqL K H a (IL ns)/\ns.length<=63/\Xi H Pt/\∀ H',Q (.bl true) H'
theorem jH{C w d:Addr}{H:Hp}{n:Int}{ps:Aa}{kvs Il:List (Key × V)}(h:WebAt C H w n ps)(hd:H d=some (.dK kvs)):WebAt C (upd H d (.dK Il)) w n ps:=by
 obtain⟨e,tl,xs,h1,h2,h3⟩:=h;refine⟨e,tl,xs,?_,?_,h3.1,λi p q=>?_⟩
 .rw[Zb (λz=>by rw[z,hd]at h1;cases h1)];exact h1
 .rw[Zb (λz=>by rw[z,hd]at h2;cases h2)];exact h2
 .obtain⟨v,a1,tt,a2,a3⟩:=h3.2 i p q;exact⟨v,a1,tt,a2,by rw[Zb (λz=>by rw[z,hd]at a3;cases a3)];exact a3⟩
theorem jG{Pt d:Addr}{H:Hp}{pos:Pos}{qual:Str}{kvs Il:List (Key × V)}(t:TabH H Pt pos qual)(hd:H d=some (.dK kvs)):TabH (upd H d (.dK Il)) Pt pos qual:=by
 obtain⟨ps,h1,h2,h3⟩:=t;refine⟨ps,by rw[Zb (λz=>by rw[z,hd]at h1;cases h1)];exact h1,h2,?_⟩;rcases h3 with h | ⟨c,h,h'⟩
 .exact .inl h
 .exact .inr ⟨c,h,by rw[Zb (λz=>by rw[z,hd]at h';cases h')];exact h'⟩
theorem VA:FnScope ["script","count","ties","web","total","last","first","met","k","cell","tree","number"] ["script"] (XB sZY):=⟨rfl,rfl,rfl,by decide +kernel,rfl,by decide +kernel,by decide +kernel⟩
theorem jF {Pt:Addr} (T:Txt K mg t) (hB:SS K mg base t.dZx Pt):FnOk P w K mg base Xk 48 t.aZY t.dZY ["script"] (AD K Pt):=by
 refine T.fZY.ok VA (λvs H Q E h=>?_) (λXy A outer s H vs Q E hr h=>?_)
 .obtain⟨a,ns,rfl,_⟩:=h;rfl
 .obtain⟨a,ns,rfl,hS,Mw,hT,k⟩:=h;refine⟨_,(XQ (FU (XF (jW T) (hr.mono (by decide)) rfl T.mZU T.fZU.kp T.bZU .nil Zp (XZ (pv 0) XY)) (Qg (n:=2) K rfl (Zw (Zg (i:=1) VA.nd rfl (Or.inl rfl)) (Zw (Zg (i:=2) VA.nd rfl (Or.inl rfl)) Qw))))
   (XQ (Zh (i:=3) VA.nd rfl (Or.inl rfl) (Fw T.k_Web (BW T) (hr.mono (by decide)) rfl T.c_Web T.bZ8 .nil Zp (XZ (pv 1) (XZ (pv 2) XY))))
   (XQ (Zh (i:=4) VA.nd rfl (Or.inl rfl) (XF (Py T) (hr.mono (by decide)) rfl T.mZl T.fZl.kp T.bZl .nil Zp (XZ (pv 3) XY)))
   (XQ (Zh (i:=5) VA.nd rfl (Or.inl rfl) (XF (AN T hB) (hr.mono (by decide)) rfl T.mZI T.fZI.kp T.bZI .nil Zp (XZ (pv 3) XY)))
   (XQ (Zh (i:=6) VA.nd rfl (Or.inr rfl) (XF (MD T hB) (hr.mono (by decide)) rfl T.mZH T.fZH.kp T.bZH .nil Zp (XZ (pv 3) (XZ Za XY))))
   (XQ (WL (PW.pt (QV (Zd (Er K (NG hr)) (pv 6) (XF (BC T) (hr.mono (by decide)) rfl T.mZq T.fZq.kp T.bZq .nil Zp (XZ (pv 3) XY)) (Zq _)) (QV (Zd iL (XF (AJ T hB) (hr.mono (by decide)) rfl T.mZM T.fZM.kp T.bZM .nil Zp (XZ (pv 3) (XZ (pv 6) XY))) VS (Zq _)) (Ku (Zd iL (XF (AI T hB) (hr.mono (by decide)) rfl T.mZN T.fZN.kp T.bZN .nil Zp (XZ (pv 3) (XZ (pv 5) XY))) VS (Zq _))))))
   (XI (Zi UI))
   Zo)
   (XQ (WL (PW.pt (vW (Zd LS (pv 4) Za (Zq _)) (vX (Zd RR (Zf (Zj K) (by rfl) T.n_len Boot.«len» (XZ (SX rfl (sc0:=XB sZY) (N0:=["script","count","ties","web","total","last","first","met","k","cell","tree","number"]) (N':=["tie","first"]) (o:=1) (fr:=[6]) ⟨rfl,by decide +kernel,by decide +kernel,by decide +kernel,rfl,by decide +kernel⟩ (JI K (pv 5)) (Zv (by decide)) (λ_ _ _ _=>(Zg (i:=0) (show List.Nodup (["tie","first"]:List Str) by decide +kernel) rfl (Or.inl rfl))) (λ_ _ _ _=>(Wq (Zd (ZP K) (pv 0) (pv 1) rfl))) (λ_ _ _ _=>(pv 0))) XY)) Za (Zq _)))))
   (XI (Zi UI))
   Zo)
   (XQ (Zh (i:=7) VA.nd rfl (Or.inl rfl) ig)
   (XQ (Tf Ww rfl (LL K rfl T.n_enumerate (XZ (XF (j0 T) (hr.mono (by decide)) rfl T.mZT T.fZT.kp T.bZT .nil Zp (XZ (pv 0) (XZ Za XY))) XY)) (Qg (n:=2) K rfl (Zw (Zg (i:=8) VA.nd rfl (Or.inl rfl)) (Zw (Zg (i:=9) VA.nd rfl (Or.inl rfl)) Qw)))
   (XQ (Zh (i:=10) VA.nd rfl (Or.inl rfl) (XF (jO T) (hr.mono (by decide)) rfl T.mZW T.fZW.kp T.bZW .nil Zp (XZ (pv 3) (XZ (XF (SH T) (hr.mono (by decide)) rfl T.mZP T.fZP.kp T.bZP .nil Zp (XZ (pv 9) (XZ (Zs UY Za (pv 8)) XY))) XY))))
   (XQ (WL (OR (Qz (XF (jJ T hB) (hr.mono (by decide)) rfl T.mZX T.fZX.kp T.bZX .nil Zp (XZ (pv 3) (XZ (pv 4) (XZ (pv 10) XY))))))
   (XI (Zi UI))
   Zo)
   (XQ (Zh (i:=11) VA.nd rfl (Or.inl rfl) (XF (MC T hB) (hr.mono (by decide)) rfl T.mZK T.fZK.kp T.bZK .nil Zp (XZ (pv 3) (XZ (pv 10) XY))))
   (XQ (WL (Zd (Er K (NG hr)) (ab (EM hr) (pv 7) (pv 11) (pv 10) ⟨rfl,rfl,rfl,rfl⟩) (pv 10) (Zq _))
   (XI (Zi UI))
   Zo)
   (XI (uw (EM hr) (pv 7) (pv 11) (pv 10) rfl)))))))
   (XI (Zi UI))))))))))),?_⟩
  refine⟨_,rfl,a,ns,rfl,hS,Mw,λr l n xs ps H1 s1 VY QM SO hP hG NT hJ=>?_⟩;refine⟨r,_,rfl,SqT.of VY,rfl,_,_,rfl,_,_,rfl,rfl,?_⟩;refine nm ?_;dsimp only [List.set];refine⟨_,rfl,_,rfl,?_⟩;intro x dx nx Pw MJ;have t1:Same H1 (upd (upd H1 dx (.own x)) x (.ins t.A_Web dx [])):=Zy (XM Pw) (by rw[Zb (YZ MJ)];exact nx)
  refine⟨x,dx,n,l,false,xs,ps,rfl,XR,λo=>?_,hP.same t1,hG,λH3 hW k3=>⟨rfl,?_⟩⟩
  .exact SqL.of (by rw[Zb (Zc SO nx),Zb (Zc SO nx),Zb (Zc SO Pw)];exact SO)
  have t03:Same H1 H3:=λb o e=>k3 b o (t1 b o e) (Zc e nx);have s3:=s1.trans t03
  refine nm ?_;dsimp only [List.set];have hg:=(sd hG).mp hJ
  have hF:=su hG hg;have VL:∀ U,Ze n ps U->HT.lexLt U (WM n.toNat ps ps.length)=false:=λU hU=>Zt8 hG hU
  obtain⟨R,hR,AQ,Cc⟩:=oG hG ⟨_,hF⟩;obtain⟨_,_,_,_,_,_,_,_,Pg⟩:=id hR;have trees:∀ V∈R,Ze n ps V:=λV hV=>(Cc V).mp hV
  refine⟨_,rfl,x,n,ps,rfl,hW,hG,λc H4 hc s4=>?_⟩;obtain rfl:=hc.uniq Pg;refine nm ?_;dsimp only [List.set];have GX:=s3.trans s4
  have Ws:=hT.same GX;have bQ:=Jl hG hc
  have c0:0<R.length:=QB ((Cc _).mpr hF);have Ot:=hW.same s4
  refine⟨_,rfl,x,n,ps,R,rfl,Ot,hG,Ws,hR,λlA L H5 hL Sb VB AY=>?_⟩;refine nm ?_;dsimp only [List.set];obtain⟨Pe,jI,Ik⟩:=Zo6 (L:=L) hG hR hF VL;have bE:=Ot.samex Ws Sb
  have bD:=trees L (Xg hL);refine⟨_,rfl,x,n,ps,0,R,rfl,bE,hG,VB,by decide,by omega,hR,λfA F1 H6 lK Pq TH IK=>?_⟩;rw[show(0:Int).toNat=0 from rfl,Pe]at lK;obtain rfl:=Yg lK;refine nm ?_;dsimp only [List.set];generalize bC:WM n.toNat ps ps.length=F at *;have Ij:=Sb.trans Pq
  have Pd:=Pq _ _ (VB.ne AY (by simp)) AY;have xu:=Ot.samex Ws Ij
  refine⟨_,rfl,_,rfl,x,n,ps,rfl,xu,hG,λ_ b H7 s7 hb=>?_,λh=>absurd h (by rw[bC];exact hg)⟩;rw[bC]at hb;refine⟨1,_,fA,b,rfl,rfl,by decide,JD (SqT.of (s7 _ _ IK)) (SqT.of hb),_,rfl,?_⟩;rw[Yn rfl];refine Wv ?_;have AB:=s7 _ _ IK
  have AA:=TH.same s7;refine⟨_,rfl,_,rfl,x,fA,n,ps,F,R,0,rfl,xu.same s7,hG,AA,SqT.of AB,hF,hR,AQ,Pe,λv H8 hv xD Rc=>?_⟩;rw[if_pos rfl]at hv;obtain rfl:v=.non:=hv;refine⟨rfl,_,rfl,?_⟩;refine Wv ?_;have Ms:=(SameX.same s7).trans xD
  have Az:=Ms _ _ (TH.ne Pd (by simp)) Pd;have bB:=xu.samex TH Ms
  refine⟨_,rfl,_,rfl,x,lA,n,ps,L,R,R.length - 1,rfl,bB,hG,Rc,SqT.of Az,bD,hR,AQ,hL,trees,λv H9 hv Bs jE=>?_⟩;rw[YW (show R.length<=R.length - 1+1 by omega)]at hv;obtain rfl:v=.non:=hv;refine⟨rfl,_,rfl,?_⟩;refine Wv ?_;show(_:Prop)
  refine SU ?_;have Mr:=Ms.trans Bs
  have Ay:=Mr _ _ (TH.ne Pd (by simp)) Pd;have jD:=Mr _ _ (TH.ne IK (by simp)) IK
  have lL:L.length<=20:=by have:=bD.2.1;have:=hG.2.1;omega
  have Ax:=Ij.trans Mr;have hS9:SqL K H9 a (IL ns):=SqK.samex (kd:=false) (GX.seq hS) Ws Ax
  have hW9:=Ot.samex Ws Ax;clear Ms xD Bs Sb Pq bB xu bE Pd Az AY IK AB hb s7 VB TH AA Rc Ij Mr;refine PK (λσ Tp=>Same H9 Tp/\σ=[some (.ref a),some (.int n),some (.ref l),some (.ref x),some (.int R.length),some (.ref lA),some (.ref fA),none,none,none,none,none]) ?_ ?_;rotate_left
  .intro Kn hK;refine⟨_,rfl,_,_,rfl,rfl,_,rfl,?_⟩;refine Xf (λbT=>?_) (λ_=>?_);rotate_left
   .exact hK _ _ ⟨Same.refl _,rfl⟩
   refine⟨_,rfl,lA,rfl,⟨_,SqT.of Ay⟩,JJ (K:=K) (a:=lA) (xs:=IL L) (λi ws Tp=>Tp=H9/\i<=L.length/\ws=IL ((L.take i).filter λy=>decide (y∉F))) ⟨rfl,Yl _,rfl⟩ (Zl (by rw[Xz];omega)) (λi ws Tp hi h=>by obtain⟨e,VM,ew⟩:=h;exact⟨e ▸ SqT.of Ay,by rw[ew,Xz];exact Yv (YB ..) (by rw[Yy];omega)⟩) ?_ ?_⟩
   .rintro i y ws Tp hi ⟨rfl,VG,rfl⟩ S Xl;obtain⟨y,rfl,hy⟩:=WU hi;have Xp:i<L.length:=(Xs.mp hy).1
    refine⟨_,rfl,_,rfl,fA,_,rfl,.inr (SqT.of jD),rfl,ZE _,_,rfl,?_⟩;rw[ZQ];refine WW (λhc=>?_) (λhc=>?_)
    .refine Xl _ _ ⟨rfl,Xp,?_⟩;rw[Zz hy,if_neg (by simpa using hc),YF]
    .refine⟨_,rfl,Xl _ _ ⟨rfl,Xp,?_⟩⟩;rw[Zz hy,if_pos (Yn hc),ZO]
   rintro ws Tp ⟨rfl,_,rfl⟩ dA lS;rw[Xz,YI];have e1:(L.filter λy=>decide (y∉F)).length=1:=Ik (by omega) hL
   refine⟨dA,_,rfl,.inl (SqL.of XR),rfl,_,rfl,?_⟩;rw[Zx,Xz,e1];refine Wv ?_;exact hK _ _ ⟨XM lS,rfl⟩
  rintro σ Tp ⟨Rg,rfl⟩;intro d hd;have bA:=XM (o:=.dK []) hd
  have kd:=XR (H:=Tp) (a:=d) (o:=.dK []);have xt:=Rg.trans bA
  have hd9:H9 d=none:=Rg.free hd;have Aw:=jE.same xt
  have bz:=hW9.same xt;have bw:=xt.seq hS9
  change Vv _ _ _ _ (upd Tp d (.dK []));generalize upd Tp d (.dK [])=HB at *;refine nm ?_;dsimp only [List.set];refine⟨_,rfl,a,ns,1,rfl,bw,Mw,λcA cs HC sC Ox QL=>?_⟩;have Av:=Aw.same sC
  have bu:=bz.same sC;have jC:=sC _ _ kd
  have cd:cA≠d:=QX Ox jC (by simp);refine⟨cA,rfl,⟨_,SqL.of Ox⟩,y7 (K:=K) (a:=cA) (xs:=IL cs) (λi σ HD=>∃(v8 v9 v10 v11:Option V) (kvs:List (Key × V)),σ=[some (.ref a),some (.int n),some (.ref l),some (.ref x),some (.int R.length),some (.ref lA),some (.ref fA),some (.ref d),v8,v9,v10,v11]/\WebAt t.A_Web HD x n ps/\Xi HD Pt/\HD cA=some (.lst (IL cs))/\HD d=some (.dK kvs)/\kvs.length<=i/\∀(j:Nat) (v:V),Xm kvs (Sum.inl (j:Int))=some v->∃ U,R[j]?=some U/\WR HD v U)
   ⟨none,none,none,none,[],rfl,bu,Av,Ox,jC,XN _,λj v h=>(by cases h)⟩ (λi σ HD _ h=>by obtain⟨_,_,_,_,_,_,_,_,e,_⟩:=h;exact SqL.of e) ?_ ?_⟩
  rotate_left
  .rintro σ HD ⟨v8,v9,v10,v11,kvs,rfl,_⟩;exact k _
  clear jC bu Av Ox sC bw bz Aw xt bA Rg;rintro i v σ HD pt Uy hi ⟨v8,v9,v10,v11,kvs,rfl,hWD,jB,vk,kdD,dR,hkv⟩;obtain⟨c,rfl,WE⟩:=WU hi;have VG:=(Xs.mp WE).1
  have u8:=XM (o:=.tup [.int i,.int c]) Uy;refine⟨pt,_,rfl,SqT.of XR,rfl,_,_,rfl,_,_,rfl,rfl,?_⟩;have Pc:=jB.same u8
  have jA:=hWD.same u8;have br:=u8 _ _ vk
  have bq:=u8 _ _ kdD;have hkE:∀(j:Nat) (v:V),Xm kvs (Sum.inl (j:Int))=some v->∃ U,R[j]?=some U/\WR (upd HD pt (.tup [.int i,.int c])) v U:=λj v h=>by obtain⟨U,h1,q,h2,h3⟩:=hkv j v h;exact⟨U,h1,q,h2,u8 _ _ h3⟩
  generalize upd HD pt (.tup [.int i,.int c])=HE at *;refine nm ?_;dsimp only [List.set];refine⟨_,rfl,_,rfl,_,rfl,_,_,rfl,rfl,c,_,rfl,by omega,by omega,λm m0=>?_⟩;refine⟨x,n,ps,m,rfl,jA,hG,hJ,λuA U HF sF Bq hU=>?_⟩;refine nm ?_;dsimp only [List.set];have Ii:=Pc.same sF
  have bp:=jA.same sF;refine⟨_,rfl,_,rfl,_,rfl,x,uA,n,ps,U,R,rfl,bp,hG,Ii,Bq,hU,hR,AQ,Cc,jI,λHG jz Au=>⟨_,rfl,?_⟩⟩;refine Wv ?_;show(_:Prop)
  refine SU ?_;have jy:=jz _ _ (Ii.ne Bq (by simp)) Bq
  refine⟨_,rfl,_,rfl,x,uA,n,ps,U,R,rfl,bp.samex Ii jz,hG,Au,SqT.of jy,hU,hR,(Cc U).mpr hU,λj HI hj bo tabI=>?_⟩;refine nm ?_;dsimp only [List.set];have jx:=jz.trans bo
  have Mq:SameX Pt HE HI:=(SameX.same sF).trans jx;have jw:=bo _ _ (Au.ne jy (by simp)) jy
  have GS:=Mq _ _ (Pc.ne bq (by simp)) bq;have hcI:=Mq _ _ (Pc.ne br (by simp)) br
  have bj:∀(j:Nat) (v:V),Xm kvs (Sum.inl (j:Int))=some v->∃ U,R[j]?=some U/\WR HI v U:=λj v h=>by obtain⟨U,h1,q,h2,h3⟩:=hkE j v h;exact⟨U,h1,q,h2,Mq _ _ (Pc.ne h3 (by simp)) h3⟩
  have hWI:=jA.samex Pc Mq;refine⟨_,rfl,d,rfl,.inl ⟨kvs,.inl GS⟩,_,rfl,_,rfl,Xm kvs (Sum.inl (j:Int)),DGet.k (k:=Sum.inl (j:Int)) GS,?_⟩;obtain⟨g,eg,hgI⟩:∃ g,(Xm kvs (Sum.inl (j:Int))).getD (.ref uA)=.ref g/\HI g=some (.tup (IL U)):=by
   cases e:Xm kvs (Sum.inl (j:Int)) with
   | none=>exact⟨uA,rfl,jw⟩
   | some v =>
    obtain⟨U',h1,q,h2,h3⟩:=bj j v e;rw[hj]at h1;obtain rfl:=Yg h1;exact⟨q,h2,h3⟩
  rw[eg];refine⟨_,rfl,1,_,g,uA,rfl,rfl,by decide,JD (SqT.of hgI) (SqT.of jw),_,rfl,?_⟩;rw[Yn rfl];refine Wv ?_;show(_:Prop)
  refine SU ?_;refine⟨_,rfl,_,rfl,_,rfl,d,_,rfl,DPut.k (k:=Sum.inl (j:Int)) GS (Zl (by omega)),?_⟩;refine⟨_,_,_,_,_,rfl,?_,jG tabI GS,by rw[Zb cd];exact hcI,XR,?_,λj' v' h=>?_⟩
  .exact jH hWI GS
  .have:=zf kvs (Sum.inl (j:Int)) (V.ref uA)
   omega
  .rw[ah]at h;have tup:∀ q W,HI q=some (.tup W)->(upd HI d (.dK (putK kvs (Sum.inl (j:Int)) (.ref uA)))) q=some (.tup W):=λq W e=>by rw[Zb (λz=>by rw[z,GS]at e;cases e)];exact e
   by_cases c:(Sum.inl (j':Int):Key)=Sum.inl (j:Int)
   .rw[if_pos c]at h;obtain rfl:=Yg h;obtain rfl:j'=j:=by have:=Sum.inl.inj c;omega
    exact⟨U,hj,uA,rfl,tup _ _ jw⟩
   .rw[if_neg c]at h;obtain⟨U',h1,q,h2,h3⟩:=bj j' v' h;exact⟨U',h1,q,h2,tup _ _ h3⟩
end
end My
namespace My
open PySem L2
theorem Ra {K:Ad} {f:Addr} {fd:FuncData} (F:Fun K "law" "law" sZY f fd) (s:Shared) (u:Value):BindsTo s fd ⟨[u],[]⟩ [("script",u)]:=by obtain⟨oc,od,kV,doc,pm,an,Xy,ct,Up,rfl,lk,TB⟩:=F.ex;exact .of_eq rfl
end My
open PySem PySem.W PyProof.Rows
set_option maxRecDepth 100000 in
set_option maxHeartbeats 0 in
theorem PySem.Challenge.cw_spanrow_k45_whole_the_row_closes_holds : PySem.Challenge.rw_spanrow_k45_whole_the_row_closes.Holds := by
 w_on;o_law;k_head;(case hw=>w_witness2)
 k_fill
 refine L2.PH (l:=PySem.Challenge.rw_spanrow_k45_whole_the_row_closes) (n:=63) (k:=48) (x:="script") (CX:=L2.Xk) (sp:=λK=>My.AD K 348) (c:=350) (Pt:=348) rfl (by decide) rfl ⟨rfl,by decide,by decide⟩ (λw h Y=>⟨PySem.W.km_in_of Y,PySem.W.km_tabs_of Y 348 (XD.mpr rfl)⟩) ?C ?P ?F (λ_ H a ns hl hO hS=>⟨a,ns,rfl,hS,hl,⟨#[],hO.1,trivial,.inl rfl⟩,λ_=>rfl⟩) (λ_ _ _ _ z=>z)
 case C=>intro w;kernel_rfl
 case P=>intro w;kernel_rfl
 case F =>
  intro w mg fa h KX G EO;obtain⟨aZ0,dZ0,mZ0,fZ0⟩:My.FX (L2.XJ KX) mg "refuse_not_square" "refuse_not_square" My.sZ0:=by dsimp only [L2.XJ];refine' My.XS KX G ?a ?l ?c ?k;case a | l | c | k=>k_is
  obtain⟨aZ1,dZ1,mZ1,fZ1⟩:My.FX (L2.XJ KX) mg "row_taken_off" "row_taken_off" My.sZ1:=by dsimp only [L2.XJ];refine' My.XS KX G ?a ?l ?c ?k;case a | l | c | k=>k_is
  obtain⟨aZ2,dZ2,mZ2,fZ2⟩:My.FX (L2.XJ KX) mg "first_with_some" "first_with_some" My.sZ2:=by dsimp only [L2.XJ];refine' My.XS KX G ?a ?l ?c ?k;case a | l | c | k=>k_is
  obtain⟨aZ3,dZ3,mZ3,fZ3⟩:My.FX (L2.XJ KX) mg "determinant" "determinant" My.sZ3:=by dsimp only [L2.XJ];refine' My.XS KX G ?a ?l ?c ?k;case a | l | c | k=>k_is
  obtain⟨aZ4,dZ4,mZ4,fZ4⟩:My.FX (L2.XJ KX) mg "row_without" "row_without" My.sZ4:=by dsimp only [L2.XJ];refine' My.XS KX G ?a ?l ?c ?k;case a | l | c | k=>k_is
  obtain⟨aZ5,dZ5,mZ5,fZ5⟩:My.FX (L2.XJ KX) mg "table_without" "table_without" My.sZ5:=by dsimp only [L2.XJ];refine' My.XS KX G ?a ?l ?c ?k;case a | l | c | k=>k_is
  obtain⟨aZ6,dZ6,mZ6,fZ6⟩:My.FX (L2.XJ KX) mg "is_tie" "is_tie" My.sZ6:=by dsimp only [L2.XJ];refine' My.XS KX G ?a ?l ?c ?k;case a | l | c | k=>k_is
  obtain⟨aZ7,dZ7,mZ7,fZ7⟩:My.FX (L2.XJ KX) mg "refuse_bad_web" "refuse_bad_web" My.sZ7:=by dsimp only [L2.XJ];refine' My.XS KX G ?a ?l ?c ?k;case a | l | c | k=>k_is
  obtain⟨aZ9,dZ9,mZ9,fZ9⟩:My.FX (L2.XJ KX) mg "all_ties" "all_ties" My.sZ9:=by dsimp only [L2.XJ];refine' My.XS KX G ?a ?l ?c ?k;case a | l | c | k=>k_is
  obtain⟨aZa,dZa,mZa,fZa⟩:My.FX (L2.XJ KX) mg "ties_beside" "ties_beside" My.sZa:=by dsimp only [L2.XJ];refine' My.XS KX G ?a ?l ?c ?k;case a | l | c | k=>k_is
  obtain⟨aZb,dZb,mZb,fZb⟩:My.FX (L2.XJ KX) mg "ties_without" "ties_without" My.sZb:=by dsimp only [L2.XJ];refine' My.XS KX G ?a ?l ?c ?k;case a | l | c | k=>k_is
  obtain⟨aZc,dZc,mZc,fZc⟩:My.FX (L2.XJ KX) mg "is_set" "is_set" My.sZc:=by dsimp only [L2.XJ];refine' My.XS KX G ?a ?l ?c ?k;case a | l | c | k=>k_is
  obtain⟨aZd,dZd,mZd,fZd⟩:My.FX (L2.XJ KX) mg "made_set" "made_set" My.sZd:=by dsimp only [L2.XJ];refine' My.XS KX G ?a ?l ?c ?k;case a | l | c | k=>k_is
  obtain⟨aZe,dZe,mZe,fZe⟩:My.FX (L2.XJ KX) mg "merged_marks" "merged_marks" My.sZe:=by dsimp only [L2.XJ];refine' My.XS KX G ?a ?l ?c ?k;case a | l | c | k=>k_is
  obtain⟨aZf,dZf,mZf,fZf⟩:My.FX (L2.XJ KX) mg "piece_marks" "piece_marks" My.sZf:=by dsimp only [L2.XJ];refine' My.XS KX G ?a ?l ?c ?k;case a | l | c | k=>k_is
  obtain⟨aZg,dZg,mZg,fZg⟩:My.FX (L2.XJ KX) mg "pieces_of" "pieces_of" My.sZg:=by dsimp only [L2.XJ];refine' My.XS KX G ?a ?l ?c ?k;case a | l | c | k=>k_is
  obtain⟨aZh,dZh,mZh,fZh⟩:My.FX (L2.XJ KX) mg "is_joined" "is_joined" My.sZh:=by dsimp only [L2.XJ];refine' My.XS KX G ?a ?l ?c ?k;case a | l | c | k=>k_is
  obtain⟨aZi,dZi,mZi,fZi⟩:My.FX (L2.XJ KX) mg "refuse_parted" "refuse_parted" My.sZi:=by dsimp only [L2.XJ];refine' My.XS KX G ?a ?l ?c ?k;case a | l | c | k=>k_is
  obtain⟨aZj,dZj,mZj,fZj⟩:My.FX (L2.XJ KX) mg "weighted_table" "weighted_table" My.sZj:=by dsimp only [L2.XJ];refine' My.XS KX G ?a ?l ?c ?k;case a | l | c | k=>k_is
  obtain⟨aZk,dZk,mZk,fZk⟩:My.FX (L2.XJ KX) mg "pull_table" "pull_table" My.sZk:=by dsimp only [L2.XJ];refine' My.XS KX G ?a ?l ?c ?k;case a | l | c | k=>k_is
  obtain⟨aZl,dZl,mZl,fZl⟩:My.FX (L2.XJ KX) mg "tree_count" "tree_count" My.sZl:=by dsimp only [L2.XJ];refine' My.XS KX G ?a ?l ?c ?k;case a | l | c | k=>k_is
  obtain⟨aZm,dZm,mZm,fZm⟩:My.FX (L2.XJ KX) mg "part_count" "part_count" My.sZm:=by dsimp only [L2.XJ];refine' My.XS KX G ?a ?l ?c ?k;case a | l | c | k=>k_is
  obtain⟨aZn,dZn,mZn,fZn⟩:My.FX (L2.XJ KX) mg "is_tree" "is_tree" My.sZn:=by dsimp only [L2.XJ];refine' My.XS KX G ?a ?l ?c ?k;case a | l | c | k=>k_is
  obtain⟨aZo,dZo,mZo,fZo⟩:My.FX (L2.XJ KX) mg "refuse_no_tree" "refuse_no_tree" My.sZo:=by dsimp only [L2.XJ];refine' My.XS KX G ?a ?l ?c ?k;case a | l | c | k=>k_is
  obtain⟨aZp,dZp,mZp,fZp⟩:My.FX (L2.XJ KX) mg "grown_tree" "grown_tree" My.sZp:=by dsimp only [L2.XJ];refine' My.XS KX G ?a ?l ?c ?k;case a | l | c | k=>k_is
  obtain⟨aZq,dZq,mZq,fZq⟩:My.FX (L2.XJ KX) mg "least_tree" "least_tree" My.sZq:=by dsimp only [L2.XJ];refine' My.XS KX G ?a ?l ?c ?k;case a | l | c | k=>k_is
  obtain⟨aZr,dZr,mZr,fZr⟩:My.FX (L2.XJ KX) mg "tree_cut" "tree_cut" My.sZr:=by dsimp only [L2.XJ];refine' My.XS KX G ?a ?l ?c ?k;case a | l | c | k=>k_is
  obtain⟨aZs,dZs,mZs,fZs⟩:My.FX (L2.XJ KX) mg "ring_of" "ring_of" My.sZs:=by dsimp only [L2.XJ];refine' My.XS KX G ?a ?l ?c ?k;case a | l | c | k=>k_is
  obtain⟨aZt,dZt,mZt,fZt⟩:My.FX (L2.XJ KX) mg "exchanged" "exchanged" My.sZt:=by dsimp only [L2.XJ];refine' My.XS KX G ?a ?l ?c ?k;case a | l | c | k=>k_is
  obtain⟨aZu,dZu,mZu,fZu⟩:My.FX (L2.XJ KX) mg "least_in" "least_in" My.sZu:=by dsimp only [L2.XJ];refine' My.XS KX G ?a ?l ?c ?k;case a | l | c | k=>k_is
  obtain⟨aZv,dZv,mZv,fZv⟩:My.FX (L2.XJ KX) mg "end_pieces" "end_pieces" My.sZv:=by dsimp only [L2.XJ];refine' My.XS KX G ?a ?l ?c ?k;case a | l | c | k=>k_is
  obtain⟨aZw,dZw,mZw,fZw⟩:My.FX (L2.XJ KX) mg "open_ties" "open_ties" My.sZw:=by dsimp only [L2.XJ];refine' My.XS KX G ?a ?l ?c ?k;case a | l | c | k=>k_is
  obtain⟨aZy,dZy,mZy,fZy⟩:My.FX (L2.XJ KX) mg "whole_part" "whole_part" My.sZy:=by dsimp only [L2.XJ];refine' My.XS KX G ?a ?l ?c ?k;case a | l | c | k=>k_is
  obtain⟨aZz,dZz,mZz,fZz⟩:My.FX (L2.XJ KX) mg "half_without" "half_without" My.sZz:=by dsimp only [L2.XJ];refine' My.XS KX G ?a ?l ?c ?k;case a | l | c | k=>k_is
  obtain⟨aZA,dZA,mZA,fZA⟩:My.FX (L2.XJ KX) mg "half_with" "half_with" My.sZA:=by dsimp only [L2.XJ];refine' My.XS KX G ?a ?l ?c ?k;case a | l | c | k=>k_is
  obtain⟨aZB,dZB,mZB,fZB⟩:My.FX (L2.XJ KX) mg "part_size" "part_size" My.sZB:=by dsimp only [L2.XJ];refine' My.XS KX G ?a ?l ?c ?k;case a | l | c | k=>k_is
  obtain⟨aZC,dZC,mZC,fZC⟩:My.FX (L2.XJ KX) mg "trees_with_tie" "trees_with_tie" My.sZC:=by dsimp only [L2.XJ];refine' My.XS KX G ?a ?l ?c ?k;case a | l | c | k=>k_is
  obtain⟨aZD,dZD,mZD,fZD⟩:My.FX (L2.XJ KX) mg "undivided_row" "undivided_row" My.sZD:=by dsimp only [L2.XJ];refine' My.XS KX G ?a ?l ?c ?k;case a | l | c | k=>k_is
  obtain⟨aZE,dZE,mZE,fZE⟩:My.FX (L2.XJ KX) mg "trees_between" "trees_between" My.sZE:=by dsimp only [L2.XJ];refine' My.XS KX G ?a ?l ?c ?k;case a | l | c | k=>k_is
  obtain⟨aZF,dZF,mZF,fZF⟩:My.FX (L2.XJ KX) mg "refuse_below_nought" "refuse_below_nought" My.sZF:=by dsimp only [L2.XJ];refine' My.XS KX G ?a ?l ?c ?k;case a | l | c | k=>k_is
  obtain⟨aZG,dZG,mZG,fZG⟩:My.FX (L2.XJ KX) mg "row_from" "row_from" My.sZG:=by dsimp only [L2.XJ];refine' My.XS KX G ?a ?l ?c ?k;case a | l | c | k=>k_is
  obtain⟨aZH,dZH,mZH,fZH⟩:My.FX (L2.XJ KX) mg "row_at" "row_at" My.sZH:=by dsimp only [L2.XJ];refine' My.XS KX G ?a ?l ?c ?k;case a | l | c | k=>k_is
  obtain⟨aZI,dZI,mZI,fZI⟩:My.FX (L2.XJ KX) mg "row_last" "row_last" My.sZI:=by dsimp only [L2.XJ];refine' My.XS KX G ?a ?l ?c ?k;case a | l | c | k=>k_is
  obtain⟨aZJ,dZJ,mZJ,fZJ⟩:My.FX (L2.XJ KX) mg "number_in" "number_in" My.sZJ:=by dsimp only [L2.XJ];refine' My.XS KX G ?a ?l ?c ?k;case a | l | c | k=>k_is
  obtain⟨aZK,dZK,mZK,fZK⟩:My.FX (L2.XJ KX) mg "row_number" "row_number" My.sZK:=by dsimp only [L2.XJ];refine' My.XS KX G ?a ?l ?c ?k;case a | l | c | k=>k_is
  obtain⟨aZL,dZL,mZL,fZL⟩:My.FX (L2.XJ KX) mg "row_next" "row_next" My.sZL:=by dsimp only [L2.XJ];refine' My.XS KX G ?a ?l ?c ?k;case a | l | c | k=>k_is
  obtain⟨aZM,dZM,mZM,fZM⟩:My.FX (L2.XJ KX) mg "row_ahead" "row_ahead" My.sZM:=by dsimp only [L2.XJ];refine' My.XS KX G ?a ?l ?c ?k;case a | l | c | k=>k_is
  obtain⟨aZN,dZN,mZN,fZN⟩:My.FX (L2.XJ KX) mg "row_step" "row_step" My.sZN:=by dsimp only [L2.XJ];refine' My.XS KX G ?a ?l ?c ?k;case a | l | c | k=>k_is
  obtain⟨aZO,dZO,mZO,fZO⟩:My.FX (L2.XJ KX) mg "_law_at" "_law_at" My.sZO:=by dsimp only [L2.XJ];refine' My.XS KX G ?a ?l ?c ?k;case a | l | c | k=>k_is
  obtain⟨aZP,dZP,mZP,fZP⟩:My.FX (L2.XJ KX) mg "_law_mixed" "_law_mixed" My.sZP:=by dsimp only [L2.XJ];refine' My.XS KX G ?a ?l ?c ?k;case a | l | c | k=>k_is
  obtain⟨aZQ,dZQ,mZQ,fZQ⟩:My.FX (L2.XJ KX) mg "_law_digits" "_law_digits" My.sZQ:=by dsimp only [L2.XJ];refine' My.XS KX G ?a ?l ?c ?k;case a | l | c | k=>k_is
  obtain⟨aZR,dZR,mZR,fZR⟩:My.FX (L2.XJ KX) mg "_law_stirred" "_law_stirred" My.sZR:=by dsimp only [L2.XJ];refine' My.XS KX G ?a ?l ?c ?k;case a | l | c | k=>k_is
  obtain⟨aZS,dZS,mZS,fZS⟩:My.FX (L2.XJ KX) mg "_law_large" "_law_large" My.sZS:=by dsimp only [L2.XJ];refine' My.XS KX G ?a ?l ?c ?k;case a | l | c | k=>k_is
  obtain⟨aZT,dZT,mZT,fZT⟩:My.FX (L2.XJ KX) mg "_law_cells" "_law_cells" My.sZT:=by dsimp only [L2.XJ];refine' My.XS KX G ?a ?l ?c ?k;case a | l | c | k=>k_is
  obtain⟨aZU,dZU,mZU,fZU⟩:My.FX (L2.XJ KX) mg "_law_far_web" "_law_far_web" My.sZU:=by dsimp only [L2.XJ];refine' My.XS KX G ?a ?l ?c ?k;case a | l | c | k=>k_is
  obtain⟨aZV,dZV,mZV,fZV⟩:My.FX (L2.XJ KX) mg "_law_whole" "_law_whole" My.sZV:=by dsimp only [L2.XJ];refine' My.XS KX G ?a ?l ?c ?k;case a | l | c | k=>k_is
  obtain⟨aZW,dZW,mZW,fZW⟩:My.FX (L2.XJ KX) mg "_law_tree" "_law_tree" My.sZW:=by dsimp only [L2.XJ];refine' My.XS KX G ?a ?l ?c ?k;case a | l | c | k=>k_is
  obtain⟨aZX,dZX,mZX,fZX⟩:My.FX (L2.XJ KX) mg "_law_good" "_law_good" My.sZX:=by dsimp only [L2.XJ];refine' My.XS KX G ?a ?l ?c ?k;case a | l | c | k=>k_is
  obtain⟨aZY,dZY,om,fZY⟩:My.FX (L2.XJ KX) mg "law" "law" My.sZY:=by dsimp only [L2.XJ];refine' My.XS KX G ?a ?l ?c ?k;case a | l | c | k=>k_is
  have As:My.gZ (L2.XJ KX) mg "Web" "Web.__init__" My.sZ8 ["places","ties"]:=by
   dsimp only [L2.XJ];refine' My.Eu KX G ?aC ?a ?i ?l ?c ?k ?pg ?hd ?po ?sa ?mk ?kc ?na
   (case aC=>k_is);(case a=>k_is);(case i=>k_is);(case l=>k_is);(case c=>k_is);(case k=>k_is)
   (case pg=>k_is);(case hd=>k_is);(case po=>k_is);(case sa=>k_is);(case mk=>k_is);(case kc=>k_is)
   (case na=>(intro f hf;simp only [Yj,wU,or_false]at hf;rcases hf with rfl | rfl <;> k_is))
  have Ih:My.CJ (L2.XJ KX) mg "Part" "Part.__init__" My.sZx ["web","kept","shut","lead","least","incoming","further"] 348:=by
   dsimp only [L2.XJ];refine' My.Jb KX G ?aC ?a ?i ?l ?c ?k ?pg ?hd ?po ?sa ?mk ?kc ?na ?z
   (case aC=>k_is);(case a=>k_is);(case i=>k_is);(case l=>k_is);(case c=>k_is);(case k=>k_is)
   (case pg=>k_is);(case hd=>k_is);(case po=>k_is);(case sa=>k_is);(case mk=>k_is);(case kc=>k_is)
   (case na=>(intro f hf;simp only [Yj,wU,or_false]at hf;rcases hf with rfl | rfl | rfl | rfl | rfl | rfl | rfl <;> k_is))
   (case z=>kernel_rfl)
  have h_MOST_PLACES:∃ tk,mg "MOST_PLACES"=some (.int 14 tk):=by
   refine' My.Ud KX G ?a ?b
   (case a=>k_is);(case b=>exact⟨_,rfl⟩)
  have h_MOST_TIES:∃ tk,mg "MOST_TIES"=some (.int 30 tk):=by
   refine' My.Ud KX G ?a ?b
   (case a=>k_is);(case b=>exact⟨_,rfl⟩)
  have Ig:mg "bool"=none:=by refine' YX KX G ?a;case a=>k_is
  have h_enumerate:mg "enumerate"=none:=by refine' YX KX G ?a;case a=>k_is
  have Ar:mg "int"=none:=by refine' YX KX G ?a;case a=>k_is
  have h_isinstance:mg "isinstance"=none:=by refine' YX KX G ?a;case a=>k_is
  have Aq:mg "len"=none:=by refine' YX KX G ?a;case a=>k_is
  have Ie:mg "list"=none:=by refine' YX KX G ?a;case a=>k_is
  have Ap:mg "max"=none:=by refine' YX KX G ?a;case a=>k_is
  have Ao:mg "min"=none:=by refine' YX KX G ?a;case a=>k_is
  have Mp:mg "range"=none:=by refine' YX KX G ?a;case a=>k_is
  have h_reversed:mg "reversed"=none:=by refine' YX KX G ?a;case a=>k_is
  have An:mg "set"=none:=by refine' YX KX G ?a;case a=>k_is
  have Pb:mg "sorted"=none:=by refine' YX KX G ?a;case a=>k_is
  have Mo:mg "tuple"=none:=by refine' YX KX G ?a;case a=>k_is
  have Am:mg "zip"=none:=by refine' YX KX G ?a;case a=>k_is
  obtain⟨A_Web,aZ8,dZ8,c_Web,fZ8,cl_Web,k_Web,Pa⟩:=As;obtain⟨A_Part,aZx,dZx,Al,c_Part,fZx,cl_Part,k_Part,WC,Ak,Aj⟩:=Ih;have T:My.Txt (L2.XJ KX) mg ⟨aZ0,dZ0,aZ1,dZ1,aZ2,dZ2,aZ3,dZ3,aZ4,dZ4,aZ5,dZ5,aZ6,dZ6,aZ7,dZ7,aZ8,dZ8,aZ9,dZ9,aZa,dZa,aZb,dZb,aZc,dZc,aZd,dZd,aZe,dZe,aZf,dZf,aZg,dZg,aZh,dZh,aZi,dZi,aZj,dZj,aZk,dZk,aZl,dZl,aZm,dZm,aZn,dZn,aZo,dZo,aZp,dZp,aZq,dZq,aZr,dZr,aZs,dZs,aZt,dZt,aZu,dZu,aZv,dZv,aZw,dZw,aZx,dZx,aZy,dZy,aZz,dZz,aZA,dZA,aZB,dZB,aZC,dZC,aZD,dZD,aZE,dZE,aZF,dZF,aZG,dZG,aZH,dZH,aZI,dZI,aZJ,dZJ,aZK,dZK,aZL,dZL,aZM,dZM,aZN,dZN,aZO,dZO,aZP,dZP,aZQ,dZQ,aZR,dZR,aZS,dZS,aZT,dZT,aZU,dZU,aZV,dZV,aZW,dZW,aZX,dZX,aZY,dZY,A_Web,A_Part⟩:=⟨fZ0,fZ0.binds (λ_ _ _ _ _ _=>My.UA λ_=>rfl),mZ0,fZ1,fZ1.binds (λ_ _ _ _ _ _=>My.Rp λ_ _ _=>rfl),mZ1,fZ2,fZ2.binds (λ_ _ _ _ _ _=>My.UA λ_=>rfl),mZ2,fZ3,fZ3.binds (λ_ _ _ _ _ _=>My.UA λ_=>rfl),mZ3,fZ4,fZ4.binds (λ_ _ _ _ _ _=>My.VW λ_ _=>rfl),mZ4,fZ5,fZ5.binds (λ_ _ _ _ _ _=>My.VW λ_ _=>rfl),mZ5,fZ6,fZ6.binds (λ_ _ _ _ _ _=>My.VW λ_ _=>rfl),mZ6,fZ7,fZ7.binds (λ_ _ _ _ _ _=>My.VW λ_ _=>rfl),mZ7,fZ8,fZ8.binds (λ_ _ _ _ _ _=>My.Rp λ_ _ _=>rfl),fZ9,fZ9.binds (λ_ _ _ _ _ _=>My.UA λ_=>rfl),mZ9,fZa,fZa.binds (λ_ _ _ _ _ _=>My.VW λ_ _=>rfl),mZa,fZb,fZb.binds (λ_ _ _ _ _ _=>My.VW λ_ _=>rfl),mZb,fZc,fZc.binds (λ_ _ _ _ _ _=>My.VW λ_ _=>rfl),mZc,fZd,fZd.binds (λ_ _ _ _ _ _=>My.VW λ_ _=>rfl),mZd,fZe,fZe.binds (λ_ _ _ _ _ _=>My.Rp λ_ _ _=>rfl),mZe,fZf,fZf.binds (λ_ _ _ _ _ _=>My.VW λ_ _=>rfl),mZf,fZg,fZg.binds (λ_ _ _ _ _ _=>My.VW λ_ _=>rfl),mZg,fZh,fZh.binds (λ_ _ _ _ _ _=>My.VW λ_ _=>rfl),mZh,fZi,fZi.binds (λ_ _ _ _ _ _=>My.UA λ_=>rfl),mZi,fZj,fZj.binds (λ_ _ _ _ _ _=>My.VW λ_ _=>rfl),mZj,fZk,fZk.binds (λ_ _ _ _ _ _=>My.UA λ_=>rfl),mZk,fZl,fZl.binds (λ_ _ _ _ _ _=>My.UA λ_=>rfl),mZl,fZm,fZm.binds (λ_ _ _ _ _ _=>My.Rp λ_ _ _=>rfl),mZm,fZn,fZn.binds (λ_ _ _ _ _ _=>My.VW λ_ _=>rfl),mZn,fZo,fZo.binds (λ_ _ _ _ _ _=>My.VW λ_ _=>rfl),mZo,fZp,fZp.binds (λ_ _ _ _ _ _=>My.Rp λ_ _ _=>rfl),mZp,fZq,fZq.binds (λ_ _ _ _ _ _=>My.UA λ_=>rfl),mZq,fZr,fZr.binds (λ_ _ _ _ _ _=>My.Rp λ_ _ _=>rfl),mZr,fZs,fZs.binds (λ_ _ _ _ _ _=>My.Rp λ_ _ _=>rfl),mZs,fZt,fZt.binds (λ_ _ _ _ _ _=>My.dW λ_ _ _ _=>rfl),mZt,fZu,fZu.binds (λ_ _ _ _ _ _=>My.Rp λ_ _ _=>rfl),mZu,fZv,fZv.binds (λ_ _ _ _ _ _=>My.Rp λ_ _ _=>rfl),mZv,fZw,fZw.binds (λ_ _ _ _ _ _=>My.Rp λ_ _ _=>rfl),mZw,fZx,fZx.binds (λ_ _ _ _ _ _=>My.un5 λ_ _ _ _ _=>rfl),fZy,fZy.binds (λ_ _ _ _ _ _=>My.UA λ_=>rfl),mZy,fZz,fZz.binds (λ_ _ _ _ _ _=>My.UA λ_=>rfl),mZz,fZA,fZA.binds (λ_ _ _ _ _ _=>My.UA λ_=>rfl),mZA,fZB,fZB.binds (λ_ _ _ _ _ _=>My.UA λ_=>rfl),mZB,fZC,fZC.binds (λ_ _ _ _ _ _=>My.VW λ_ _=>rfl),mZC,fZD,fZD.binds (λ_ _ _ _ _ _=>My.UA λ_=>rfl),mZD,fZE,fZE.binds (λ_ _ _ _ _ _=>My.dW λ_ _ _ _=>rfl),mZE,fZF,fZF.binds (λ_ _ _ _ _ _=>My.UA λ_=>rfl),mZF,fZG,fZG.binds (λ_ _ _ _ _ _=>My.Rp λ_ _ _=>rfl),mZG,fZH,fZH.binds (λ_ _ _ _ _ _=>My.VW λ_ _=>rfl),mZH,fZI,fZI.binds (λ_ _ _ _ _ _=>My.UA λ_=>rfl),mZI,fZJ,fZJ.binds (λ_ _ _ _ _ _=>My.Rp λ_ _ _=>rfl),mZJ,fZK,fZK.binds (λ_ _ _ _ _ _=>My.VW λ_ _=>rfl),mZK,fZL,fZL.binds (λ_ _ _ _ _ _=>My.VW λ_ _=>rfl),mZL,fZM,fZM.binds (λ_ _ _ _ _ _=>My.VW λ_ _=>rfl),mZM,fZN,fZN.binds (λ_ _ _ _ _ _=>My.VW λ_ _=>rfl),mZN,fZO,fZO.binds (λ_ _ _ _ _ _=>My.VW λ_ _=>rfl),mZO,fZP,fZP.binds (λ_ _ _ _ _ _=>My.VW λ_ _=>rfl),mZP,fZQ,fZQ.binds (λ_ _ _ _ _ _=>My.VW λ_ _=>rfl),mZQ,fZR,fZR.binds (λ_ _ _ _ _ _=>My.VW λ_ _=>rfl),mZR,fZS,fZS.binds (λ_ _ _ _ _ _=>My.UA λ_=>rfl),mZS,fZT,fZT.binds (λ_ _ _ _ _ _=>My.VW λ_ _=>rfl),mZT,fZU,fZU.binds (λ_ _ _ _ _ _=>My.UA λ_=>rfl),mZU,fZV,fZV.binds (λ_ _ _ _ _ _=>My.UA λ_=>rfl),mZV,fZW,fZW.binds (λ_ _ _ _ _ _=>My.VW λ_ _=>rfl),mZW,fZX,fZX.binds (λ_ _ _ _ _ _=>My.Rp λ_ _ _=>rfl),mZX,fZY,fZY.binds (λ_ _ _ _ _ _=>My.UA λ_=>rfl),om,c_Web,cl_Web,k_Web,Pa _ (by simp),Pa _ (by simp),c_Part,cl_Part,k_Part,WC _ (by simp),WC _ (by simp),WC _ (by simp),WC _ (by simp),WC _ (by simp),WC _ (by simp),WC _ (by simp),h_MOST_PLACES,h_MOST_TIES,Ig,h_enumerate,Ar,h_isinstance,Aq,Ie,Ap,Ao,Mp,h_reversed,An,Pb,Mo,Am⟩
  have e0:=EO.symm.trans om;cases e0;exact⟨dZY,λs u=>My.Ra fZY s u,λbase _ _ HB=>My.jF T ⟨Al,Ak,Aj,HB,by decide⟩⟩
#print axioms PySem.Challenge.cw_spanrow_k45_whole_the_row_closes_holds
