import PyProof.Rows.All
import Wide.All
import OpenK.AllK
import Wide.FinOn
import Lean
import PyProof.EqAt
import PyProof.EqKinds
import PyProof.TupleCall
import PySem.Challenge.RW_spanrow_k43_whole_halves_of_the_row
set_option Elab.async false
set_option linter.all false
set_option maxRecDepth 100000
namespace PySem.W.Fast
def tw11135485121168435490:=0
def tw362981289421954710:=0
def tw12517791205086270049:=0
def tw3486740413914883036:=0
def tw8925691081318766045:=0
def tw16266311435838528315:=0
def tw8548482840037344604:=0
def tw15371325543035706331:=0
def tw2737671151322822066:=0
def tw467672285677075436:=0
def tw12044348861020516273:=0
def tw1966114008518914726:=0
def tw1767967492632912915:=0
def tw5943659044784383778:=0
def tw10398836096490192838:=0
def tw15141094288415923003:=0
def tw6429202439736281038:=0
def tw11213908234792584563:=0
def tw11894179790162832970:=0
def tw12499815587840106537:=0
def tw9344349982874630584:=0
def tw5268189032902208477:=0
def tw15254762308796104040:=0
def tw12414404600738081335:=0
def tw12421529184930426556:=0
def tw14882762233425804520:=0
def tw4239088333909404963:=0
def tw6417691690357021611:=0
def tw6248095228393744426:=0
def tw7967128026347069818:=0
def tw348753689248233752:=0
def tw15803018868060116313:=0
def tw1279704491792085791:=0
def tw9120902034459263968:=0
def tw3095677090920900961:=0
def tw13577221202242234040:=0
def tw14240222353216512171:=0
def tw15242890777439230807:=0
def tw10014821390476842666:=0
def tw156259057678316574:=0
def tw7836263681505502990:=0
def tw6551528701133943256:=0
def tw6135502791582086645:=0
def tw16314626944253156609:=0
def tw15958592004827219935:=0
def tw8340399329806144303:=0
def tw5347882649603327553:=0
def tw17872748881520898820:=0
def tw16720141902880306805:=0
def tw6101979773243911221:=0
def tw10730181835010515924:=0
def tw18018102994603700682:=0
def tw531424632806052759:=0
def tw7747795162857437042:=0
def tw16089227258346827770:=0
def tw13177495767859042236:=0
def tw6842928557634896957:=0
def tw9562537380273829431:=0
def tw11150741453218996250:=0
def tw8339833037408530470:=0
def tw878965474007197481:=0
def tw11393524975139715100:=0
def tw3278386338561002945:=0
def tw17316339343984857538:=0
def tw4528263428159333724:=0
def tw15893788024653718770:=0
def tw5491352594704588949:=0
def tw1259509113934310608:=0
def tw17908353598893276363:=0
def tw8388345664330912469:=0
def tw9270677364534071222:=0
def tw4078954837308200246:=0
def tw6808022282233442660:=0
def tw15466377409903427539:=0
def tw1401856426398285716:=0
def tw17534205464152156467:=0
def tw128490872498537709:=0
def tw2322008818010675459:=0
def tw17533958453914865045:=0
def tw7976631009221176841:=0
def tw1551720666519532448:=0
def tw8706087485940951389:=0
def tw7961012490600937751:=0
def tw179995140255199530:=0
def tw17650443430594007129:=0
def tw4303118246501016788:=0
def tw4137428588133804027:=0
def tw12820286654916391427:=0
def tw15381575210314866346:=0
def tw12628813557149759291:=0
def tw1166193373243407620:=0
def tw6529960917511653948:=0
def tw18358016949963703287:=0
def tw13687363962912999581:=0
def tw11690669279197587500:=0
def tw16436244384332309120:=0
def tw9916416191630962:=0
def tw5206077405772372107:=0
def tw13331210124814298397:=0
def tw4626968864528705558:=0
def tw3297549540396694436:=0
def tw4017235727394273185:=0
def tw3645239470700611874:=0
def tw9383658464941481853:=0
def tw4322273942774752694:=0
def tw5607539777243102061:=0
def tw17617027075849976652:=0
def tw51568614383660402:=0
def tw4497202449501004470:=0
def tw13479861391387000957:=0
def tw15526251266192556617:=0
def tw16340920269820491642:=0
def tw15100607765086382684:=0
def tw3288698679695713102:=0
def tw7447972839861453216:=0
def tw250285635275475414:=0
def tw15630365671919152045:=0
def tw5562632095023826254:=0
def tw527623111220308523:=0
def tw16401692137702282959:=0
def tw1899181176769528587:=0
def tw16917408162259739098:=0
def tw7986563695805451506:=0
def tw612677191986412956:=0
def tw14232167077830929111:=0
def tw2920527433983661237:=0
def tw13677314767250622999:=0
def tw7484608369710122170:=0
def tw10850046594777999127:=0
def tw9018071005742845290:=0
def tw9527609275017411062:=0
def tw7628447855378135950:=0
def tw6167828863361230292:=0
def tw11566592756267669661:=0
def tw13710025578837537731:=0
def tw7834785411984733351:=0
def tw166792145599391639:=0
def tw14085528370726567263:=0
def tw10247170619066294987:=0
def tw18006821233122427863:=0
def tw16386409387427530883:=0
def tw6156326231279195842:=0
def tw12160006454219431543:=0
def tw13387460654473473450:=0
def tw7325697620994356002:=0
def tw8406657368702668737:=0
def tw5972872218777199843:=0
def tw13000061343450520905:=0
def tw4653125464196733521:=0
def tw9924315004453347640:=0
def tw9793173796718252371:=0
def tw4104782196245387810:=0
def tw17328467273897530142:=0
def tw15492775973175992892:=0
def tw8566709384882307719:=0
def tw13290529538717673233:=0
def tw6914939314994316586:=0
def tw5632664974351620722:=0
def tw12027578543832196448:=0
def tw7787623067891373056:=0
def tw5896532508297694531:=0
def tw1511288943156839251:=0
def tw11756470298219633491:=0
def tw1526176132594455746:=0
def tw7961647485678722985:=0
def tw15543279588729642578:=0
def tw13876763388780788142:=0
def tw8092263982154833248:=0
def tw4210726011271563224:=0
def tw6180402395064894694:=0
def tw16408268554309155902:=0
def tw2915551382333861939:=0
def tw8196653848388090458:=0
def tw7641020278974575069:=0
def tw4869444390569980284:=0
def tw16878445602691658653:=0
def tw1405944842322229158:=0
def tw1203142222983047962:=0
def tw119044576898856139:=0
def tw9876088199907102194:=0
def tw5850565728669869971:=0
def tw6329373260250876593:=0
def tw7337166259705001629:=0
def tw12537174280644765176:=0
def tw5688748844614352635:=0
def tw5140517644706240175:=0
def tw11857797668067298335:=0
def tw8715983268049863622:=0
def tw7692575415039162171:=0
def tw4460062618192338651:=0
def tw2288336903064466522:=0
def tw16250030610042115975:=0
def tw13079818689810508683:=0
def tw8165425293771959755:=0
def tw1926861152846476013:=0
def tw11776905833906840279:=0
def tw8082440214117636408:=0
def tw16748795044002770485:=0
def tw13166317534510669922:=0
def tw4999977203021316175:=0
def tw4731381068620506188:=0
def tw3310196064161087493:=0
def tw9151597621944459950:=0
def tw5914815672979462956:=0
def tw5056023106594060145:=0
def tw4971815475982142648:=0
def tw766033407115383525:=0
def tw17119761177902951739:=0
def tw369528973192967681:=0
def tw2112369862574393131:=0
def tw16315783796032177576:=0
def tw15427534042652935782:=0
def tw9441608420290157060:=0
def tw17186780864252066665:=0
def tw4600576879742429387:=0
def tw7721149036321547445:=0
def tw6439718565311085634:=0
def tw4438341102715722162:=0
def tw1341177636085577058:=0
def tw18371741122579466255:=0
def tw15259030950962088905:=0
def tw12757524504599513491:=0
def tw12325901761332291699:=0
def tw981719212255963009:=0
def tw4324415009104292275:=0
def tw11908567159558704151:=0
def tw43495124576895031:=0
def tw3697459421474609313:=0
def tw9433644526778627373:=0
def tw5708316271083208597:=0
def tw1182383905455066979:=0
def tw10411117099115736416:=0
def tw10237249698994703243:=0
def tw9535013502838298212:=0
def tw14445931852429801664:=0
def tw16564028452464227636:=0
def tw14723550713630154203:=0
def tw10868776153023950534:=0
def tw3138954573380302274:=0
def tw15500301963713086457:=0
def tw6875951252054732966:=0
def tw13795175095531315634:=0
def tw11099346407017978240:=0
def tw13892382111757891033:=0
def tw8044636557587459228:=0
def tw1047121569490401498:=0
def tw7034859752245357194:=0
def tw5903209272427294284:=0
def tw3338145350909516632:=0
def tw12750595848407235007:=0
def tw7833919543813781931:=0
def tw2023424184756732426:=0
def tw6279969990825156104:=0
def tw16378964333228757951:=0
def tw13308201667744577655:=0
def tw7024171334062727010:=0
def tw16763105719281476360:=0
def tw15526120827226600205:=0
def tw13445345916415283749:=0
def tw1802479519726718492:=0
def tw12358365835842015721:=0
def tw5932523518187546671:=0
def tw17795420431405088233:=0
def tw17556862175324089744:=0
def tw1752756388373842553:=0
def tw7818736362133089609:=0
def tw9664527151916425598:=0
def tw7743062761471887379:=0
def tw16999117446518058618:=0
def tw9576564610372319302:=0
def tw2581421627705060016:=0
def tw934382245215313247:=0
def tw17192559745643531605:=0
def tw11725544157876268443:=0
def tw3447289870916531196:=0
def tw511051751576990662:=0
def tw15032304766575208254:=0
def tw13834617392168488511:=0
def tw3696345772985146693:=0
def tw13043386612210114526:=0
def tw12470069678593210343:=0
def tw3638506190805355717:=0
def tw10248393162645329661:=0
def tw2224754210379167:=0
def tw15482296392477527654:=0
def tw12023208682672856947:=0
def tw9394834121854942316:=0
def tw7007240807590537556:=0
def tw3964446920848625315:=0
def tw17816807000325772177:=0
def tw1414164767469957165:=0
def tw9097093568687319019:=0
def tw17972586558055903277:=0
def tw13172795649064199981:=0
def tw17024982104085384913:=0
def tw12247255734813304670:=0
def tw8762716408161037340:=0
def tw4555970763391751488:=0
def tw18363550114501644886:=0
def tw9798332883284635317:=0
def tw4474799152565168520:=0
def tw18314229993389410378:=0
def tw15416451170651435566:=0
def tw15001622535414727923:=0
def tw13051751083960515769:=0
def tw13016222696357824619:=0
def tw12975155766873633028:=0
def tw11917923944108760944:=0
def tw8176523361052998034:=0
def tw6174538572238626972:=0
def tw9250581237797558226:=0
def tw6502394507032186930:=0
def tw15903792135604958138:=0
def tw15278759221673389565:=0
def tw7019447648809932433:=0
def tw13641693893576944438:=0
def tw18256020451680338070:=0
def tw12447238643033544588:=0
def tw15195318921181419262:=0
def tw12014747323813972094:=0
def tw9119753121207208680:=0
def tw4991162075919105972:=0
def tw15458514302583186799:=0
def tw598208147851804190:=0
def tw5644548592524283803:=0
def tw16504707768858717560:=0
def tw11891313621227482569:=0
def tw11788336560727191265:=0
def tw9981756945678347336:=0
def tw8446031292376791618:=0
def tw453411906923758683:=0
def tw3408359163007212002:=0
def tw17769812650985268888:=0
def tw16850872613727140452:=0
def tw16337574220034910704:=0
def tw15849089148294173989:=0
def tw13047027386382257896:=0
def tw11302942285138164689:=0
end PySem.W.Fast
def Yy0:=@List.getElem?_eq_getElem
def Yy1:=@List.getElem?_eq_some_iff
def Yy2:=@List.mem_singleton
def Yy3:=@PySem.wpAny_bind
def Yy4:=@List.length_append
def Yy5:=@PySem.Heap.get?_push_of_some
def Yy6:=@List.getD_eq_getElem?_getD
def Yy7:=@List.mem_append
def Yy8:=@Nat.le_refl
def Yy9:=@List.mem_of_getElem?
def Ya:=@List.size_toArray
def Yb:=@List.length_map
def Yc:=@List.mem_append_left
def Yd:=@List.mem_append_right
def Ye:=@List.mem_cons_self
def Yf:=@List.mem_cons
def Yg:=@List.mem_cons_of_mem
def Yh:=@Option.some.inj
def Yi:=@PySem.wpAny_pure
def Yj:=@List.length_singleton
def Yk:=@List.mem_filter
def Yl:=@Nat.zero_le
def Ym:=@PySem.Heap.get?_push_size
def Yn:=@PySem.Heap.lt_size
def Yo:=@Nat.lt_of_lt_of_le
def Yp:=@List.getElem?_append_left
def Yq:=@List.getElem?_append_right
def Yr:=@Nat.ne_of_lt
def Ys:=@Bool.false_ne_true
def Yt:=@Nat.le_trans
def Yu:=@List.getElem?_map
def Yv:=@Array.getD_eq_getD_getElem?
def Yw:=@of_decide_eq_true
def Yx:=@decide_eq_true
def Yy:=@Classical.byContradiction
def Yz:=@List.length_take
def YA:=@Int.toNat_natCast
def YB:=@Array.length_toList
def YC:=@List.mem_map
def YD:=@List.length_cons
def YE:=@Array.getElem?_eq_getElem
def YF:=@List.length_filter_le
def YG:=@List.append_nil
def YH:=@List.mem_range
def YI:=@List.length_replicate
def YJ:=@List.take_length
def YK:=@List.pairwise_cons
def YL:=@List.map_append
def YM:=@PySem.Heap.get?_update_other
def YN:=@List.length_eq_zero_iff
def YO:=@List.filter_cons
def QP:=@Array.getElem?_toList
def YQ:=@List.nodup_append
def YR:=@List.map_congr_left
def YS:=@List.length_reverse
def YT:=@PySem.F.plainAttrs_list
def YU:=@List.take_succ
def YV:=@congrArg
def YW:=@Nat.not_lt_zero
def YX:=@List.getElem?_of_mem
def YY:=@Ne.symm
def YZ:=@List.getElem?_eq_none
def Yy00:=@decide_eq_true_iff
def Yy01:=@Int.emod_lt_of_pos
def Yy02:=@Int.emod_nonneg
def Yy03:=@PySem.Heap.get?_update_self
def Yy04:=@PySem.PassesOwn.never
def Yy05:=@PySem.W.mg_none_of
def Yy06:=@List.map_cons
def Yy07:=@List.take_of_length_le
def Yy08:=@List.pairwise_append
def Yy09:=@decide_eq_false
def Y0a:=@List.append_assoc
def Y0b:=@List.filter_append
def Y0c:=@PyProof.Rows.callWith_type1
def Y0d:=@PySem.codeAny_builtin
def Y0e:=@PySem.wpAny_holding
def Y0f:=@PySem.wpAny_Call_Name_kw
def Y0g:=@PySem.Obj.data_mapFields
def Y0h:=@List.length_drop
def Y0i:=@List.all_eq_true
def Y0j:=@Nat.le_succ
def Y0k:=@List.length_range
def Y0l:=@Int.mul_assoc
def Y0m:=@PySem.wpAny_truthy_bool
def Y0n:=@List.nodup_cons
def Y0o:=@Bool.eq_iff_iff
def Y0p:=@Nat.lt_succ_self
def Y0q:=@Nat.lt_irrefl
def Y0r:=@PySem.sizeLine_eq
def Y0s:=@Int.mul_zero
def Y0t:=@List.nil_append
def Y0u:=@PySem.Heap.SameBut.update
def Y0v:=@PySem.wpAny_newObj_type
def Y0w:=@Int.one_mul
def Y0x:=@Nat.ne_of_gt
def Y0y:=@List.mem_reverse
def Y0z:=@Int.add_zero
def Y0A:=@List.pairwise_singleton
def Y0B:=@List.pairwise_map
def Y0C:=@PySem.mem_of_lookup
def Y0D:=@List.replicate_succ
def Y0E:=@List.drop_eq_nil_of_le
def Y0F:=@PySem.F.plain_min_loop
def Y0G:=@PySem.Around.under_plainId
def Y0H:=@List.perm_ext_iff_of_nodup
def Y0I:=@List.getElem?_zipWith
def Y0J:=@PySem.wpAny_mono
def Y0K:=@List.pairwise_iff_getElem
def Y0L:=@List.lookup_cons
def Y0M:=@List.getElem_mem
def Y0N:=@PySem.F.type_list_append
def Y0O:=@PySem.F.slot_list_append
def Y0P:=@Int.mul_comm
def Y0Q:=@PySem.builtinLookup_eq_fast
def Y0R:=@PySem.wpAny_call_entry
def Y0S:=@decide_eq_true_eq
def Y0T:=@PySem.Heap.size_push
def Y0U:=@beq_iff_eq
def Y0V:=@List.pairwise_lt_range
def Y0W:=@Bool.and_eq_true
def Y0X:=@List.getElem?_reverse
def Y0Y:=@PySem.plainId_quiet
def Y0Z:=@List.length_set
def Yy10:=@Array.perm_iff_toList_perm
def Yy11:=@Nat.lt_succ_of_lt
def Yy12:=@List.ext_getElem?
def Yy13:=@Nat.succ.inj
def Yy14:=@Nat.sub_self
def Yy15:=@Nat.le_of_lt
def Yy16:=@PySem.wpAny_passesOwn
def Yy17:=@beq_eq_false_iff_ne
def Yy18:=@Nat.mul_le_mul
def Yy19:=@List.map_eq_nil_iff
def Y1a:=@List.length_zipWith
def Y1b:=@List.eq_of_mem_replicate
def Y1c:=@List.any_eq_true
def Y1d:=@PySem.wpAny_setState_of
def Y1e:=@List.getElem?_replicate
def Y1f:=@Nat.zero_add
def Y1g:=@List.map_map
def Y1h:=@List.getElem?_take
def Y1i:=@Int.mul_one
def Y1j:=@Int.le_refl
def Y1k:=@Int.le_of_lt
def Y1l:=@List.range_succ
def Y1m:=@List.length_nil
def Y1n:=@PySem.wpAny_setEntries_of
def Y1o:=@PySem.wpAny_seqItems
def Y1p:=@PySem.wpAny_askSetting
def Y1q:=@List.length_pos_of_mem
def Y1r:=@Array.getElem?_eq_none
def Y1s:=@List.getElem?_set
def Y1t:=@List.flatten_cons
def Y1u:=@List.filter_congr
def Y1v:=@List.eq_nil_iff_forall_not_mem
def Y1w:=@PySem.wpAny_callSpecial?_slot
def Y1x:=@PySem.wpAny_of_eq
def Y1y:=@PySem.codeAny_mono
def Y1z:=@List.take_append_of_le_length
def Y1A:=@List.drop_append_of_le_length
def Y1B:=@PySem.F.called_set
def Y1C:=@PySem.typeLookup_type
def Y1D:=@PySem.wpAny_newList
def Y1E:=@decide_eq_decide
def Y1F:=@List.not_mem_nil
def Y1G:=@List.mem_of_mem_take
def Y1H:=@List.length_eraseIdx
def Y1I:=@List.cons_append
def Y1J:=@Int.pow_zero
def Y1K:=@PySem.Obj.isFreed_of_fields
def Y1L:=@List.getElem?_range
def Y1M:=@List.filterMap_cons
def Y1N:=@PySem.wpAny_setField
def Y1O:=@Nat.min_eq_left
def Y1P:=@Nat.lt_of_le_of_lt
def Y1Q:=@Int.mul_add
def Y1R:=@PyProof.Rows.listUpdate_at
def Y1S:=@PySem.F.args_tuple_add_2
def Y1T:=@Option.isSome_iff_exists
def Y1U:=@List.mem_of_mem_eraseIdx
def Y1V:=@List.length_erase_of_mem
def Y1W:=@Int.zero_add
def Y1X:=@Int.le_trans
def Y1Y:=@List.foldl_append
def Y1Z:=@Int.mul_left_comm
def Yy20:=@PySem.F.entry_tuple_add
def Yy21:=@PySem.F.slot_tuple_add
def Yy22:=@Nat.le_of_not_lt
def Yy23:=@List.sum_cons
def Yy24:=@List.getElem?_eraseIdx
def Yy25:=@List.drop_of_length_le
def Yy26:=@List.any_cons
def Yy27:=@Int.max_eq_right
def Yy28:=@PySem.Code.quiet_builtin
def Yy29:=@PySem.wpAny_tryCatch
def Y2a:=@PySem.wpAny_pyIter_list
def Y2b:=@List.foldl_cons
def Y2c:=@List.find?_cons
def Y2d:=@Int.min_eq_left
def Y2e:=@Nat.pow_le_pow_right
def Y2f:=@List.mem_of_getLast?
def Y2g:=@List.mem_erase_of_ne
def Y2h:=@Int.zero_mul
def Y2i:=@Int.pow_succ
def Y2j:=@PySem.wpAny_isInstance
def Y2k:=@PySem.wpAny_attempt
def Y2l:=@PySem.call_meets
def Y2m:=@List.getElem_of_mem
def Y2n:=@List.filter_eq_self
def Y2o:=@PySem.F.entry_min_loop
def Y2p:=@PySem.wpAny_letGo
def Y2q:=@Nat.add_sub_cancel
def Y2r:=@List.getElem?_drop
def Y2s:=@Bool.false_eq_true
def Y2t:=@PySem.wpAny_updateSeq
def Y2u:=@PySem.wpAny_execs_nil
def Y2v:=@PySem.W.mg_of
def Y2w:=@PySem.wpAny_typeOf
def Y2x:=@PyProof.Rows.callWith_builtin1
def Y2y:=@List.reverse_perm
def Y2z:=@List.reverse_cons
def Y2A:=@List.getElem?_inj
def Y2B:=@Array.toList_push
def Y2C:=@PyProof.Rows.F.plain_set_update_loop
def Y2D:=@PySem.wpAny_runValue
def Y2E:=@PySem.wpAny_fieldsOf
def Y2F:=@PySem.isSubtype_type
def Y2G:=@beq_self_eq_true
def Y2H:=@PySem.F.slot_dict_setdefault
def Y2I:=@Nat.mul_comm
def Y2J:=@Nat.min_eq_right
def Y2K:=@Nat.lt_of_not_le
def Y2L:=@List.dropLast_concat_getLast
def Y2M:=@Int.sub_zero
def Y2N:=@Int.not_lt
def Y2O:=@Int.min_eq_right
def Y2P:=@beq_false_of_ne
def Y2Q:=@PySem.SeqAt.EqAt.of_refs
def Y2R:=@Option.map_some
def Y2S:=@Nat.le_antisymm
def Y2T:=@List.of_mem_zip
def Y2U:=@List.length_eraseIdx_of_lt
def Y2V:=@List.filter_nil
def Y2W:=@Int.max_eq_left
def Y2X:=@PySem.Calls.spliced_cons
def Y2Y:=@Bool.or_eq_true
def Y2Z:=@PySem.wpAny_standAt
def Yy30:=@if_true
def Yy31:=@PySem.F.plain_extend_loop
def Yy32:=@List.getElem?_eq_none_iff
def Yy33:=@List.drop_eq_getElem_cons
def Yy34:=@Int.neg_mul
def Yy35:=@Int.eq_of_mul_eq_mul_left
def Yy36:=@Int.add_mul
def Yy37:=@PyProof.Rows.get?_update_seq
def Yy38:=@PySem.F.type_list_extend
def Yy39:=@PySem.F.slot_list_extend
def Y3a:=@PySem.F.slot_dict_values
def Y3b:=@PySem.Obj.cls_mapFields
def Y3c:=@List.take_zero
def Y3d:=@List.Pairwise.imp_of_mem
def Y3e:=@Int.natAbs_mul
def Y3f:=@PySem.Calls.spliced_nil
def Y3g:=@PyProof.Rows.entry_proto_collect'
def Y3h:=@PySem.F.type_list_index
def Y3i:=@PySem.F.slot_list_index
def Y3j:=@PySem.F.plainAttrs_dict
def Y3k:=@List.pairwise_mergeSort
def Y3l:=@Int.eq_ofNat_of_zero_le
def Y3m:=@PySem.wpAny_rule
def Y3n:=@PySem.wpAny_load
def Y3o:=@PySem.wpAny_call
def Y3p:=@PySem.noFill_tuple_add
def Y3q:=@PySem.W.cellsFrom_some
def Y3r:=@List.take_nil
def Y3s:=@List.getElem?_set_self
def Y3t:=@PySem.F.type_list_pop
def Y3u:=@PySem.F.slot_list_pop
def Y3v:=@List.getElem?_toArray
def Y3w:=@List.Pairwise.sublist
/-! THE HAND LAYER,for ints,bools,texts,own classes,LISTS and tuples (index,slices,in,append,pop ..),calls,loops. Paste it whole ahead of your own text;what your proof does not reach may be deleted. -/
namespace L2
open PySem PySem.Spec PyProof.Rows
abbrev Key:=Sum Int Str
def ZG10:Key->Value->Bool
 | .inl k,v=>Value.isInt k v
 | .inr x,v=>Value.isStrOf x v
def keyH(w:World):Key->Int
 | .inl k=>hashInt k
 | .inr x=>hashStr w x
theorem ZE:∀ {k:Key} {v:Value},ZG10 k v=true->(∃ i t,k=Sum.inl i/\v=Value.int i t)\/(∃ x t,k=Sum.inr x/\v=Value.str x t)
 | .inl i,v,h=>by obtain⟨t,e⟩:=Value.isInt_shape (k:=i) (v:=v) h;exact .inl ⟨i,t,rfl,e⟩
 | .inr x,v,h=>by obtain⟨t,e⟩:=Value.isStrOf_shape (x:=x) (v:=v) h;exact .inr ⟨x,t,rfl,e⟩
theorem Zz18(i:Int)(t:Tok):ZG10 (.inl i) (.int i t)=true:=by simp[ZG10,Value.isInt]
theorem Zz08(x:Str)(t:Tok):ZG10 (.inr x) (.str x t)=true:=by simp[ZG10,Value.isStrOf]
theorem Zz213(a b:Int):decide ((Sum.inl a:Key)=Sum.inl b)=(a == b):=by
 by_cases e:a=b
 ·subst e;simp
 ·have h:¬ (Sum.inl a:Key)=Sum.inl b:=λq=>e (Sum.inl.inj q);rw[Yy09 h];exact(Yy17.mpr e).symm
theorem ZZ12(a b:Str):decide ((Sum.inr a:Key)=Sum.inr b)=decide (a=b):=by
 by_cases e:a=b
 ·subst e;simp
 ·have h:¬ (Sum.inr a:Key)=Sum.inr b:=λq=>e (Sum.inr.inj q);rw[Yy09 h,Yy09 e]
theorem Zz113(a:Int)(b:Str):decide ((Sum.inl a:Key)=Sum.inr b)=false:=Yy09 (λq=>nomatch q)
theorem Zz013(a:Str)(b:Int):decide ((Sum.inr a:Key)=Sum.inl b)=false:=Yy09 (λq=>nomatch q)
def Zf1(prog:Program)(w:World):PySem.KeyKind prog w Key where
 is:=ZG10
 hash:=keyH w
 inj:=λv a b ha hb=>by
  rcases ZE ha with ⟨i,t,rfl,rfl⟩ | ⟨x,t,rfl,rfl⟩
  ·rcases ZE hb with ⟨j,u,rfl,e⟩ | ⟨y,u,rfl,e⟩
   ·injection e with e1 _;rw[e1]
   ·exact nomatch e
  ·rcases ZE hb with ⟨j,u,rfl,e⟩ | ⟨y,u,rfl,e⟩
   ·exact nomatch e
   ·injection e with e1 _;rw[e1]
 byValue:=λk v h=>by rcases ZE h with ⟨i,t,rfl,rfl⟩ | ⟨x,t,rfl,rfl⟩ <;> rfl
 pyHash:=λhv h=>by
  rcases ZE hv with ⟨i,t,rfl,rfl⟩ | ⟨x,t,rfl,rfl⟩
  ·exact wpAny_pyHash_int h
  ·exact wpAny_pyHash_str h
 eqBool:=λhu hv h=>by
  rcases ZE hu with ⟨i,t,rfl,rfl⟩ | ⟨x,t,rfl,rfl⟩
  ·rcases ZE hv with ⟨j,u,rfl,rfl⟩ | ⟨y,u,rfl,rfl⟩
   ·rw[Zz213]at h;exact wpAny_eqBool_int h
   ·rw[Zz113]at h;exact SeqAt.EqAt.int_str i t y u _ _ _ _ h
  ·rcases ZE hv with ⟨j,u,rfl,rfl⟩ | ⟨y,u,rfl,rfl⟩
   ·rw[Zz013]at h;exact SeqAt.EqAt.str_int x t j u _ _ _ _ h
   ·rw[ZZ12]at h;exact wpAny_eqBool_str h
 «strs»:=λk x t v h=>by
  rcases ZE h with ⟨i,u,rfl,e⟩ | ⟨y,u,rfl,e⟩
  ·exact nomatch e
  ·injection e with e1 _;subst e1;cases v <;> rfl
theorem Zx5(prog:Program)(w:World)(i:Int)(t:Tok):(Zf1 prog w).is (.inl i) (.int i t)=true:=Zz18 i t
theorem Zw5(prog:Program)(w:World)(x:Str)(t:Tok):(Zf1 prog w).is (.inr x) (.str x t)=true:=Zz08 x t
inductive V where
 | non | bl (b:Bool) | int (i:Int) | str (x:Str) | byt (b:Array UInt8) | flt (b:UInt64) | ref (a:Addr) | ty (n:String)
 deriving DecidableEq
def RelV:V->Value->Prop
 | .non,u=>u=Value.none
 | .bl b,u=>u=Value.bool b
 | .int i,u=>∃ t,u=Value.int i t
 | .str x,u=>∃ t,u=Value.str x t
 | .byt b,u=>∃ t,u=Value.bytes b t
 | .flt b,u=>∃ t,u=Value.float b t
 | .ref a,u=>u=Value.ref a
 | .ty n,u=>u=Value.type n
abbrev Vals:List V->List Value->Prop:=Paired RelV
theorem Vals.length{xs:List V}{us:List Value}(r:Vals xs us):xs.length=us.length:=Paired.length r
theorem Vals.get:∀ {xs:List V} {us:List Value} {i:Nat} {x:V},Vals xs us->xs[i]?=some x->∃ u,us[i]?=some u/\RelV x u
 | _,_,_,_,.nil,e=>by simp at e
 | _,_,0,_,.cons r _,e=>by simp at e;subst e;exact⟨_,rfl,r⟩
 | _,_,i+1,x,.cons _ t,e=>by obtain⟨u,h1,h2⟩:=Vals.get (i:=i) (x:=x) t (by simpa using e);exact⟨u,by simpa using h1,h2⟩
theorem Vals.set{x:V}{u:Value}(r:RelV x u):∀ {xs:List V} {us:List Value} (i:Nat),Vals xs us->Vals (xs.set i x) (us.set i u)
 | _,_,_,.nil=>.nil
 | _,_,0,.cons _ t=>.cons r t
 | _,_,i+1,.cons q t=>.cons q (Vals.set r i t)
theorem Vals.append:∀ {xs ys:List V} {us ws:List Value},Vals xs us->Vals ys ws->Vals (xs++ys) (us++ws)
 | _,_,_,_,.nil,s=>s
 | _,_,_,_,.cons r t,s=>.cons r (Vals.append t s)
theorem Vals.take:∀ {xs:List V} {us:List Value} (n:Nat),Vals xs us->Vals (xs.take n) (us.take n)
 | _,_,0,_=>.nil
 | _,_,_+1,.nil=>.nil
 | _,_,n+1,.cons r t=>.cons r (Vals.take n t)
theorem Vals.drop:∀ {xs:List V} {us:List Value} (n:Nat),Vals xs us->Vals (xs.drop n) (us.drop n)
 | _,_,0,r=>r
 | _,_,_+1,.nil=>.nil
 | _,_,n+1,.cons _ t=>Vals.drop n t
def RelO:Option V->Option Value->Prop
 | some v,some u=>RelV v u
 | none,none=>True
 | _,_=>False
def KV{κ:Type}:List (κ × V)->List (κ × Value)->Prop:=Paired λ(p:κ × V) (q:κ × Value)=>p.1=q.1/\RelV p.2 q.2
def kV:Key->V
 | .inl i=>.int i
 | .inr x=>.str x
inductive HO where
 | lst (xs:List V)
 | tup (xs:List V)
 | dK (kvs:List (Key × V)) | dT (kvs:List (List Key × V))
 | set (S:Int->Bool) (n:Nat)
 | ins (C dx:Addr) (fs:List (Str × V))
 | own (x:Addr)
 | xd (fs:List (Str × V))
 | met (f x:Addr)
 | rng (lo hi:Int)
 | frz (o:Obj) (u:HO)
 | tbl (ps:Array Value)
 | ext (φ:Heap->Prop)
abbrev Hp:=Addr->Option HO
def upd(H:Hp)(a:Addr)(o:HO):Hp:=λb=>if b=a then some o else H b
theorem Zz1{H:Hp}{a:Addr}{o:HO}:upd H a o a=some o:=by unfold upd;rw[if_pos rfl]
theorem Zb{H:Hp}{a b:Addr}{o:HO}(h:b≠a):upd H a o b=H b:=by unfold upd;rw[if_neg h]
theorem Zs7{H:Hp}{a b:Addr}{o u:HO}(h:H a=some o)(h':H b=some u)(d:o≠u):a≠b:=by intro e;subst e;rw[h]at h';exact d (Yh h')
theorem Zc{H:Hp}{a b:Addr}{o:HO}(h:H a=some o)(h':H b=none):a≠b:=by intro e;subst e;rw[h]at h';cases h'
section
variable(P:Program)(w:World)
def ObjOk(H:Hp)(h:Heap)(a:Addr):HO->Prop
 | .lst xs=>xs.length<=sizeLine/\∃(its:List Value) (n:Nat),Vals xs its/\h.get? a=some { cls:=.type "list",data:=.seq its.toArray n }
 | .tup xs=>xs.length<=sizeLine/\∃ its:List Value,Vals xs its/\IsTup h a its.toArray
 | .dK kvs=>kvs.length<=sizeLine/\(a == sysModules)=false/\∃ vs,KV kvs vs/\h.DictOf (Zf1 P w) a vs
 | .dT kvs=>kvs.length<=sizeLine/\(a == sysModules)=false/\∃ xs:List (List Key × Addr × Value),
   Paired (λ(p:List Key × V) (q:List Key × Addr × Value)=>p.1=q.1/\H q.2.1=some (.tup (p.1.map kV))/\RelV p.2 q.2.2) kvs xs /\
   ∃ o es ep,h.get? a=some o/\o.ExactDict/\o.data=.dict es ep/\es.toList=xs.map (entryOfKey (tupleKind (Zf1 P w)))/\(xs.map (·.1)).Nodup
 | .set S n=>h.SetOf (intKind P w) a S n
 | .ins C dx fs=>H dx=some (.own a)/\fs.length<=1000/\dx≠a/\h.get? a=some (PySem.W.instObj C dx) /\
   ∃ mA,h.Ns1 dx mA/\(∀ f,RelO (fs.lookup f) (mA f))/\PySem.Within mA (fs.map (·.1))
 | .own _=>∃ o,h.get? a=some o
 | .xd fs=>∃ mA,h.Ns1 a mA/\∀ f,RelO (fs.lookup f) (mA f)
 | .rng lo hi=>∃ t u v,h.get? a=some { cls:=.type "range",data:=.fields #[.int lo t,.int hi u,.int 1 v] }
 | .frz o u=>h.get? a=some o/\ObjOk H h a u
 | .tbl ps=>h.get? a=some { cls:=.none,data:=.fields ps }
 | .met f x=>h.get? a=some (PySem.W.methodObj (.ref f) (.ref x))
 | .ext φ=>φ h/\(∃ o,h.get? a=some o)/\∀ h1 h2:Heap,φ h1->(∀ o,h1.get? a=some o->h2.get? a=some o)->φ h2
def HOk(H:Hp)(h:Heap):Prop:=∀ a o,H a=some o->ObjOk P w H h a o
end
section
variable{P:Program}{w:World}{H H':Hp}{h h':Heap}{a:Addr}{o:HO}
theorem ObjOk.lt(x:ObjOk P w H h a o):a<h.objs.size:=by
 cases o with
 | lst xs=>obtain⟨_,_,_,_,e⟩:=x;exact Yn e
 | tup xs=>obtain⟨_,_,_,p⟩:=x;exact p.lt
 | dK kvs=>obtain⟨_,_,_,_,o,_,_,e,_⟩:=x;exact Yn e
 | dT kvs=>obtain⟨_,_,_,_,o,_,_,e,_⟩:=x;exact Yn e
 | set S n=>obtain⟨o,_,_,_,e,_⟩:=x;exact Yn e
 | ins C dx fs=>obtain⟨_,_,_,e,_⟩:=x;exact Yn e
 | own y=>obtain⟨_,e⟩:=x;exact Yn e
 | xd fs=>obtain⟨_,⟨_,_,_,e,_⟩,_⟩:=x;exact Yn e
 | rng lo hi=>obtain⟨_,_,_,e⟩:=x;exact Yn e
 | frz ob u=>obtain⟨e,_⟩:=x;exact Yn e
 | tbl ps=>exact Yn (show h.get? a=some _ from x)
 | met f y=>exact Yn (show h.get? a=some _ from x)
 | ext φ=>obtain⟨_,⟨_,e⟩,_⟩:=x;exact Yn e
theorem Paired.mapP{α β:Type}{F G:α->β->Prop}:∀ {l₁:List α} {l₂:List β},Paired F l₁ l₂->(∀ a b,F a b->G a b)->Paired G l₁ l₂
 | _,_,.nil,_=>.nil
 | _,_,.cons r t,f=>.cons (f _ _ r) (Paired.mapP t f)
theorem ObjOk.stay(x:ObjOk P w H h a o)(k:∀ b u,(b=a\/H b=some (.own a))->h.get? b=some u->h'.get? b=some u)
  (ho:∀ b,H b=some (.own a)->H' b=some (.own a)) (ht:∀ b xs,H b=some (.tup xs)->H' b=some (.tup xs)):ObjOk P w H' h' a o:=by
 induction o with
 | lst xs=>obtain⟨z,its,n,r,e⟩:=x;exact⟨z,its,n,r,k _ _ (.inl rfl) e⟩
 | tup xs=>obtain⟨z,its,r,ob,e,c⟩:=x;exact⟨z,its,r,ob,k _ _ (.inl rfl) e,c⟩
 | dK kvs=>obtain⟨z,y,vs,r,ob,es,ep,e,c⟩:=x;exact⟨z,y,vs,r,ob,es,ep,k _ _ (.inl rfl) e,c⟩
 | dT kvs =>
  obtain⟨z,y,xs,r,ob,es,ep,e,c⟩:=x;exact⟨z,y,xs,Paired.mapP r λp q z=>⟨z.1,ht _ _ z.2.1,z.2.2⟩,ob,es,ep,k _ _ (.inl rfl) e,c⟩
 | set S n=>obtain⟨ob,es,ep,t,e,c⟩:=x;exact⟨ob,es,ep,t,k _ _ (.inl rfl) e,c⟩
 | ins C dx fs =>
  obtain⟨d,z,ne,e,mA,⟨od,es,ep,e2,c⟩,r⟩:=x;exact⟨ho _ d,z,ne,k _ _ (.inl rfl) e,mA,⟨od,es,ep,k _ _ (.inr d) e2,c⟩,r⟩
 | own y=>obtain⟨ob,e⟩:=x;exact⟨ob,k _ _ (.inl rfl) e⟩
 | xd fs=>obtain⟨mA,⟨od,es,ep,e,c⟩,r⟩:=x;exact⟨mA,⟨od,es,ep,k _ _ (.inl rfl) e,c⟩,r⟩
 | rng lo hi=>obtain⟨t,u,v,e⟩:=x;exact⟨t,u,v,k _ _ (.inl rfl) e⟩
 | frz ob u ih=>obtain⟨e,q⟩:=x;exact⟨k _ _ (.inl rfl) e,ih q⟩
 | tbl ps =>
  have e:h.get? a=some { cls:=.none,data:=.fields ps }:=x;show h'.get? a=some { cls:=.none,data:=.fields ps }
  exact k a _ (.inl rfl) e
 | met f y =>
  have e:h.get? a=some (PySem.W.methodObj (.ref f) (.ref y)):=x;show h'.get? a=some (PySem.W.methodObj (.ref f) (.ref y))
  exact k a _ (.inl rfl) e
 | ext φ=>obtain⟨p,⟨o,e⟩,st⟩:=x;exact⟨st _ _ p λo q=>k _ _ (.inl rfl) q,⟨o,k _ _ (.inl rfl) e⟩,st⟩
theorem HOk.lt(x:HOk P w H h)(e:H a=some o):a<h.objs.size:=(x a o e).lt
theorem HOk.fresh(x:HOk P w H h)(e:h.objs.size<=a):H a=none:=by
 cases q:H a with
 | none=>rfl
 | some u=>exact absurd (Yo (x.lt q) e) (Y0q _)
theorem HOk.kept(x:HOk P w H h)(k:∀ b u,h.get? b=some u->h'.get? b=some u):HOk P w H h':=λa o e =>
 (x a o e).stay (λb u _ q=>k b u q) (λ_ q=>q) λ_ _ q=>q
theorem HOk.laid(x:HOk P w H h)(k:∀ b u,h.get? b=some u->h'.get? b=some u)(hp:h.objs.size<=a)(new:ObjOk P w (upd H a o) h' a o):HOk P w (upd H a o) h':=λb u e=>by
 have hn:=x.fresh hp;by_cases hb:b=a
 ·subst hb;rw[Zz1]at e;cases e;exact new
 ·rw[Zb hb]at e;exact(x b u e).stay (λc v _ q=>k c v q) (λc q=>by rw[Zb (Zc q hn)];exact q) λc xs q=>by rw[Zb (Zc q hn)];exact q
end
def Rd(H:Hp)(a:Addr)(u:HO):Prop:=H a=some u\/∃ o,H a=some (.frz o u)
theorem Rd.ok{P:Program}{w:World}{H:Hp}{h:Heap}{a:Addr}{u:HO}(r:Rd H a u)(x:HOk P w H h):ObjOk P w H h a u:=by
 rcases r with r | ⟨o,r⟩
 ·exact x a u r
 ·obtain⟨_,q⟩:=x a _ r;exact q
def Mut:Option HO->Prop
 | some (.lst _)=>True
 | some (.dK _)=>True
 | some (.dT _)=>True
 | some (.set _ _)=>True
 | some (.ins _ _ _)=>True
 | some (.ext _)=>True
 | _=>False
section
variable{P:Program}{w:World}{H:Hp}{h h':Heap}{x e:Addr}{o':HO}
theorem HOk.write(ok:HOk P w H h)(mu:Mut (H x))(he:e=x\/H e=some (.own x))(k:∀ b u,b≠e->h.get? b=some u->h'.get? b=some u)(heo:∃ u,h'.get? e=some u)
  (new:ObjOk P w (upd H x o') h' x o'):HOk P w (upd H x o') h':=λb u q=>by
 have nown:∀ c y,H c=some (.own y)->c≠x:=λc y r z=>by subst z;rw[r]at mu;exact mu
 have ntup:∀ c xs,H c=some (.tup xs)->c≠x:=λc xs r z=>by subst z;rw[r]at mu;exact mu
 by_cases hb:b=x
 ·subst hb;rw[Zz1]at q;cases q;exact new
 ·rw[Zb hb]at q;by_cases hbe:b=e
  ·have q':H b=some (.own x):=by
    rcases he with z | z
    ·exact absurd (hbe.trans z) hb
    ·rw[hbe];exact z
   rw[q]at q';cases q';obtain⟨v,hv⟩:=heo;exact⟨v,by rw[hbe];exact hv⟩
  ·refine(ok b u q).stay (λc v hc r=>k c v ?_ r) (λc r=>by rw[Zb (nown c b r)];exact r) λc xs r=>by rw[Zb (ntup c xs r)];exact r
   rcases hc with rfl | hc
   ·exact hbe
   ·rintro rfl;rcases he with z | z
    ·exact nown c b hc z
    ·rw[hc]at z;cases z;exact hb rfl
end
structure Un (fs ex:List Addr) (H H':Hp) (h h':Heap):Prop where
 keep:∀ b o,h.get? b=some o->H b=none->b∉fs->b∉ex->h'.get? b=some o
 slot:∀ b o,h.get? b=some o->H b=none->b∈fs->b∉ex->∃ sl,h'.get? b=some { o with slots:=sl }
 free:∀ b o,h.get? b=some o->H b=none->b∉ex->H' b=none
 there:∀ b o,h.get? b=some o->b∉ex->∃ o',h'.get? b=some o'
 tups:∀ b xs,H b=some (.tup xs)->H' b=some (.tup xs)
 frzs:∀ b o u,H b=some (.frz o u)->H' b=some (.frz o u)
 tbls:∀ b ps,H b=some (.tbl ps)->∃ more,H' b=some (.tbl (ps++more))
section
variable{fs ex:List Addr}{H H1:Hp}{h h1 h':Heap}{a x e:Addr}{o:HO}
theorem Un.any(u:Un fs ex H H1 h h1){b:Addr}{ob:Obj}(q:h.get? b=some ob)(n:H b=none)(hx:b∉ex):∃ sl,h1.get? b=some { ob with slots:=sl }:=by
 by_cases hb:b∈fs
 ·exact u.slot b ob q n hb hx
 ·exact⟨ob.slots,u.keep b ob q n hb hx⟩
theorem Un.kept(k:∀ b u,h.get? b=some u->h'.get? b=some u):Un fs ex H H h h' :=
 ⟨λb ob q _ _ _=>k b ob q,λb ob q _ _ _=>⟨ob.slots,k b ob q⟩,λ_ _ _ n _=>n,λb ob q _=>⟨ob,k b ob q⟩,λ_ _ q=>q,λ_ _ _ q=>q,λ_ ps q=>⟨#[],by rw[q];simp⟩⟩
theorem Un.refl:Un fs ex H H h h:=Un.kept λ_ _ q=>q
theorem Un.laid(k:∀ b u,h.get? b=some u->h'.get? b=some u)(hp:h.objs.size<=a)(hn:H a=none):Un fs ex H (upd H a o) h h' where
 keep:=λb u q _ _ _=>k b u q
 slot:=λb u q _ _ _=>⟨u.slots,k b u q⟩
 free:=λb u q n _=>by rw[Zb (Yr (Yo (Yn q) hp))];exact n
 there:=λb u q _=>⟨u,k b u q⟩
 tups:=λb xs q=>by rw[Zb (Zc q hn)];exact q
 frzs:=λb u xs q=>by rw[Zb (Zc q hn)];exact q
 tbls:=λb ps q=>⟨#[],by rw[Zb (Zc q hn),q];simp⟩
theorem Un.write(mu:Mut (H x))(he:e=x\/H e=some (.own x))(k:∀ b u,b≠e->h.get? b=some u->h'.get? b=some u)(heo:∃ u,h'.get? e=some u):Un fs ex H (upd H x o) h h':=by
 have hx:∀ b,H b=none->b≠x:=λb n z=>by subst z;rw[n]at mu;exact mu
 have hb:∀ b,H b=none->b≠e:=λb n z=>by
  subst z;rcases he with r | r
  ·exact hx b n r
  ·rw[n]at r;cases r
 have hm:∀ b u,H b=some u->¬ Mut (some u)->b≠x:=λb u q nm z=>by subst z;rw[q]at mu;exact nm mu
 refine⟨λb u q n _ _=>k b u (hb b n) q,λb u q n _ _=>⟨u.slots,k b u (hb b n) q⟩,λb u q n _=>by rw[Zb (hx b n)];exact n,λb u q _=>?_,
  λb xs q=>by rw[Zb (hm b _ q λz=>z)];exact q,λb u xs q=>by rw[Zb (hm b _ q λz=>z)];exact q,λb ps q=>⟨#[],by rw[Zb (hm b _ q λz=>z),q];simp⟩⟩
 by_cases hbe:b=e
 ·subst hbe;exact heo
 ·exact⟨u,k b u hbe q⟩
end
def trk(h:Heap)(H:Hp):List Addr:=(List.range h.objs.size).filter λa=>(H a).isSome
def hidT(h:Heap)(H:Hp):Heap:=PySem.W.hideAll h (trk h H)
theorem Zz68(h:Heap)(H:Hp):(hidT h H).objs.size=h.objs.size:=PySem.W.hideAll_size _ _
theorem Zz310{h:Heap}{H:Hp}{b:Addr}{o:Obj}(e:h.get? b=some o)(n:H b=none):(hidT h H).get? b=some o :=
 PySem.W.hideAll_get _ e λhm=>by have q:(H b).isSome=true:=(Yk.mp hm).2;rw[n]at q;simp at q
theorem ZB11{h:Heap}{H:Hp}{b:Addr}{o:Obj}(e:(hidT h H).get? b=some o):h.get? b=some o/\H b=none:=by
 have e':h.get? b=some o:=PySem.W.of_hideAll (trk h H) e;refine⟨e',?_⟩;cases q:H b with
 | none=>rfl
 | some x =>
  have hm:b∈trk h H:=Yk.mpr ⟨YH.mpr (Yn e'),by simp[q]⟩;have z:(hidT h H).get? b=none:=PySem.W.hideAll_none (trk h H) hm
  rw[z]at e;cases e
def Zi12(g h:Heap)(L:Addr):List (Addr × Obj):=(List.range h.objs.size).filterMap λa=>if a=L\/(g.get? a).isSome=true then none else (h.get? a).map λo=>(a,o)
def rest(g h:Heap)(L d:Addr):List (Addr × Obj):=(Zi12 g h L).filter λp=>decide (p.1≠d)
structure Mod (K:PySem.W.Frag) (mg:Str->Option Value) (base:Heap):Prop where
 kin:K.In base
 glob:base.Ns mainGlobals mg
 blt:∃ mb,base.Ns builtinsNs mb/\∀ x:Str,x≠"__name__"->mb x=bootBuiltins x
 nolimit:base.NoLimit
structure Cx where
 prog:Program
 w:World
 K:PySem.W.Frag
 mg:Str->Option Value
 base:Heap
 A:Around
 N:List Str
 s₀:Shared
 H₀:Hp
 env:Env
 outer:List Env
 stack:List Env
 ex:List Addr
 fn:Str->Bool
 calm:Bool
 pn:List (Addr × Obj)
 xe:Value->Shared->Prop
def frs(l:List Env):List Addr:=l.filterMap (·.frame)
abbrev Cx.fs(X:Cx):List Addr:=frs X.outer
def Vis(sc:Scope)(x:Str):Prop:=sc.names.lookup x=some .local\/sc.names.lookup x=some .cell\/sc.names.lookup x=some .free
def Loc(sc:Scope)(x:Str):Prop:=sc.names.lookup x=some .local\/sc.names.lookup x=some .cell
def Look(env:Env)(h:Heap)(m:Str->Option Value)(x:Str)(u:Value):Prop :=
 (env.kindOf x=some .local/\m x=some u)\/((env.kindOf x=some .cell\/env.kindOf x=some .free)/\∃ c,env.cells.lookup x=some c/\h.IsCell c (some u))
structure Cx.Ok (X:Cx):Prop where
 mod:Mod X.K X.mg X.base
 kind:X.env.scope.kind=.function
 glob:X.env.globals=mainGlobals
 blt:X.env.builtins=builtinsNs
 above:X.s₀.heap.objs.size<=X.env.locals
 inj:∀ x y c,X.env.cells.lookup x=some c->X.env.cells.lookup y=some c->x=y
 has:∀ x,(X.env.kindOf x=some .cell\/X.env.kindOf x=some .free)->∃ c,X.env.cells.lookup x=some c
 cab:∀ x c,X.fn x=true->X.env.cells.lookup x=some c->X.s₀.heap.objs.size<=c
 hd:X.calm=true->X.A.handled=none
 frames:X.A.frames=some X.stack
 stk:X.stack=X.outer\/(X.stack=X.env :: X.outer/\X.env.frame=some X.env.locals)
 exf:∀ b∈X.ex,b≠X.env.locals/\∀ x c,X.env.cells.lookup x=some c->c≠b
 bs:∀ b o,X.base.get? b=some o->X.s₀.heap.get? b=some o/\X.H₀ b=none
 bsz:X.base.objs.size<=X.s₀.heap.objs.size
 noex:∀ b o,X.base.get? b=some o->b∉X.ex
 exfs:∀ b∈X.ex,b∉X.fs
 funs:X.s₀.heap.FunFrames X.base X.outer
 frf:∀ b∈X.fs,X.H₀ b=none
structure Inv (X:Cx) (pins:List (Addr × Obj)) (σ:List (Option V)) (H:Hp) (s:Shared):Prop where
 ok:X.Ok
 os:s.os=X.s₀.os
 bare:AllBare s.gens
 base:Un X.fs X.ex X.H₀ H X.s₀.heap s.heap
 loc:∃ m,s.heap.Ns X.env.locals m/\∀(i:Nat) (x:Str) (v:V),X.N[i]?=some x->σ[i]?=some (some v)->Vis X.env.scope x->∃ u,RelV v u/\Look X.env s.heap m x u
 cell:∀ x c,X.env.cells.lookup x=some c->∃ v,s.heap.IsCell c v
 free:H X.env.locals=none
 freeC:∀ x c,X.env.cells.lookup x=some c->H c=none
 pin:∀ p∈X.pn++pins,s.heap.get? p.1=some p.2/\H p.1=none/\p.1≠X.env.locals/\p.1∉X.fs/\∀ v,p.2.data≠.cell v
 hok:HOk X.prog X.w H s.heap
 len:σ.length=X.N.length
section
variable{X:Cx}{pins:List (Addr × Obj)}{σ:List (Option V)}{H H':Hp}{s:Shared}{h':Heap}
theorem Cx.Ok.nofr(ok:X.Ok){b:Addr}{o:Obj}(e:X.base.get? b=some o):b∉X.fs:=λhb=>by
 have:=(ok.funs.mem hb).1
 rw[e]at this;cases this
theorem Inv.bs(I:Inv X pins σ H s):∀ b o,X.base.get? b=some o->s.heap.get? b=some o/\H b=none:=λb o e =>
 ⟨I.base.keep b o (I.ok.bs b o e).1 (I.ok.bs b o e).2 (I.ok.nofr e) (I.ok.noex b o e),I.base.free b o (I.ok.bs b o e).1 (I.ok.bs b o e).2 (I.ok.noex b o e)⟩
theorem Inv.bk(I:Inv X pins σ H s):∀ b o,X.base.get? b=some o->s.heap.get? b=some o:=λb o e=>(I.bs b o e).1
theorem Inv.mod(I:Inv X pins σ H s):Mod X.K X.mg X.base:=I.ok.mod
theorem Inv.kIn(I:Inv X pins σ H s):X.K.In s.heap:=I.ok.mod.kin.keeps I.bk
theorem Inv.lt(I:Inv X pins σ H s):X.env.locals<s.heap.objs.size:=let ⟨_,hn,_⟩:=I.loc;hn.lt
theorem Inv.sz(I:Inv X pins σ H s):X.s₀.heap.objs.size<=s.heap.objs.size:=Yt I.ok.above (Yy15 I.lt)
theorem Inv.nofs(I:Inv X pins σ H s){a:Addr}(h:s.heap.objs.size<=a):a∉X.fs:=λhb=>by obtain⟨_,o,ho,_⟩:=I.ok.funs.mem hb;exact absurd (Yo (Yn ho) (Yt I.sz h)) (Y0q _)
theorem Inv.cne(I:Inv X pins σ H s):∀ x c,X.env.cells.lookup x=some c->c≠X.env.locals:=λx c e z=>by obtain⟨v,o,ho,hd⟩:=I.cell x c e;obtain⟨m,⟨o',es,ep,ho',hd',_⟩,_⟩:=I.loc;rw[z,ho']at ho;cases ho;rw[hd']at hd;cases hd
theorem Inv.funs(I:Inv X pins σ H s):s.heap.FunFrames X.base X.outer:=by
 have all:∀(l:List Env),(∀ b∈frs l,b∈X.fs)->X.s₀.heap.FunFrames X.base l->s.heap.FunFrames X.base l:=by
  intro l
  induction l with
  | nil=>intro _ _;trivial
  | cons env r ih =>
   intro hs hl;obtain⟨hk,⟨L,o,hf,hn,ho,hd⟩,hr⟩:=hl;have hL:L∈X.fs:=hs L (by unfold frs;rw[Y1M,hf];exact Ye)
   obtain⟨sl,e⟩:=I.base.slot L o ho (I.ok.frf L hL) hL λz=>I.ok.exfs L z hL;exact⟨hk,⟨L,_,hf,hn,e,hd⟩,ih (λb hb=>hs b (by unfold frs;rw[Y1M,hf];exact Yg _ hb)) hr⟩
 exact all X.outer (λ_ hb=>hb) I.ok.funs
theorem Inv.stack(I:Inv X pins σ H s):s.heap.FunFrames X.base X.stack:=by
 rcases I.ok.stk with e | ⟨e,hf⟩
 ·rw[e];exact I.funs
 ·rw[e];obtain⟨m,hn,_⟩:=I.loc;refine .cons (by rw[I.ok.kind];decide) hf hn ?_ I.funs;exact Heap.get?_none_of_le (Yt I.ok.bsz I.ok.above)
theorem Inv.stkSub(I:Inv X pins σ H s):∀ b∈frs X.stack,b∈X.env.locals :: X.fs:=λb hb=>by
 rcases I.ok.stk with e | ⟨e,hf⟩
 ·rw[e]at hb;exact Yg _ hb
 ·rw[e]at hb;unfold frs at hb;rw[Y1M,hf]at hb;exact hb
theorem Inv.stkFree(I:Inv X pins σ H s):∀ b∈frs X.stack,H b=none:=λb hb=>by
 rcases Yf.mp (I.stkSub b hb) with e | hb
 ·rw[e];exact I.free
 ·obtain⟨_,o,ho,_⟩:=I.ok.funs.mem hb;exact I.base.free b o ho (I.ok.frf b hb) λz=>I.ok.exfs b z hb
theorem Inv.step{g':Array GenState}{t':Nat}{d':Drawn}{ch:List Addr}(I:Inv X pins σ H s)
  (hch:∀ b∈ch,(b∈X.ex\/X.s₀.heap.objs.size<=b)/\b≠X.env.locals/\(∀ x c,X.env.cells.lookup x=some c->c≠b)/\∀ p∈X.pn++pins,p.1≠b)
  (keep:∀ b o,b≠X.env.locals->b∉X.fs->b∉ch->s.heap.get? b=some o->H b=none->h'.get? b=some o)
  (slot:∀ b o,b≠X.env.locals->b∈X.fs->b∉ch->s.heap.get? b=some o->H b=none->∃ sl,h'.get? b=some { o with slots:=sl }) (free:∀ b o,b∉ch->s.heap.get? b=some o->H b=none->H' b=none)
  (there:∀ b o,b∉ch->s.heap.get? b=some o->∃ o',h'.get? b=some o')
  (tups:∀ b xs,H b=some (.tup xs)->H' b=some (.tup xs)) (frzs:∀ b o u,H b=some (.frz o u)->H' b=some (.frz o u)) (tbls:∀ b ps,H b=some (.tbl ps)->∃ more,H' b=some (.tbl (ps++more)))
  (ns:∀ m,s.heap.Ns X.env.locals m->h'.Ns X.env.locals m) (hok:HOk X.prog X.w H' h') (hg:AllBare g') :
  Inv X pins σ H' { s with heap:=h',gens:=g',drawn:=d',toks:=t' }:=by
 have neL:∀ b o,X.s₀.heap.get? b=some o->b≠X.env.locals:=λb o e=>Yr (Yo (Yn e) I.ok.above);have neC:∀ b o,X.s₀.heap.get? b=some o->b∉X.ex->b∉ch:=λb o e hx hb=>by
  rcases(hch b hb).1 with z | z
  ·exact hx z
  ·exact absurd (Yo (Yn e) z) (Y0q _)
 have cellK:∀ x c,X.env.cells.lookup x=some c->∀ v,s.heap.IsCell c v->h'.IsCell c v:=λx c e v ⟨o,ho,hd⟩=>by
  have nch:c∉ch:=λz=>(hch c z).2.2.1 x c e rfl;by_cases hc:c∈X.fs
  ·obtain⟨sl,q⟩:=slot c o (I.cne x c e) hc nch ho (I.freeC x c e);exact⟨_,q,hd⟩
  ·exact⟨o,keep c o (I.cne x c e) hc nch ho (I.freeC x c e),hd⟩
 refine⟨I.ok,I.os,hg,⟨λb o e n hb hx=>?_,λb o e n hb hx=>?_,λb o e n hx=>?_,λb o e hx=>?_,λb xs e=>tups b xs (I.base.tups b xs e),λb o xs e=>frzs b o xs (I.base.frzs b o xs e),λb ps e=>?_⟩,?_,λx c e=>?_,?_,λx c e=>?_,λp hp=>?_,hok,I.len⟩
 ·exact keep b o (neL b o e) hb (neC b o e hx) (I.base.keep b o e n hb hx) (I.base.free b o e n hx)
 ·obtain⟨sl,e1⟩:=I.base.slot b o e n hb hx;obtain⟨sl',e2⟩:=slot b _ (neL b o e) hb (neC b o e hx) e1 (I.base.free b o e n hx);exact⟨sl',e2⟩
 ·obtain⟨o',e1⟩:=I.base.there b o e hx;exact free b o' (neC b o e hx) e1 (I.base.free b o e n hx)
 ·obtain⟨o',e1⟩:=I.base.there b o e hx;exact there b o' (neC b o e hx) e1
 ·obtain⟨m1,e1⟩:=I.base.tbls b ps e;obtain⟨m2,e2⟩:=tbls b _ e1;exact⟨m1++m2,by rw[e2,Array.append_assoc]⟩
 ·obtain⟨m,hn,hl⟩:=I.loc;refine⟨m,ns m hn,λi x v e1 e2 e3=>?_⟩;obtain⟨u,r,l⟩:=hl i x v e1 e2 e3;refine⟨u,r,?_⟩;rcases l with l | ⟨k,c,e,z⟩
  ·exact .inl l
  ·exact .inr ⟨k,c,e,cellK x c e _ z⟩
 ·obtain⟨v,z⟩:=I.cell x c e;exact⟨v,cellK x c e v z⟩
 ·obtain⟨m,⟨o,_,_,ho,_⟩,_⟩:=I.loc;exact free _ o (λz=>(hch _ z).2.1 rfl) ho I.free
 ·obtain⟨v,o,ho,hd⟩:=I.cell x c e;exact free c o (λz=>(hch c z).2.2.1 x c e rfl) ho (I.freeC x c e)
 ·obtain⟨e,n,ne,nf,d⟩:=I.pin p hp;have nch:p.1∉ch:=λz=>(hch p.1 z).2.2.2 p hp rfl
  exact⟨keep p.1 p.2 ne nf nch e n,free p.1 p.2 nch e n,ne,nf,d⟩
theorem Inv.un{t':Nat}(I:Inv X pins σ H s)(u:Un X.fs [] H H' s.heap h')(hok:HOk X.prog X.w H' h'):Inv X pins σ H' { s with heap:=h',toks:=t' }:=by
 obtain⟨m,⟨o,es,ep,ho,r⟩,_⟩:=id I.loc;obtain⟨sl,hL⟩:=u.any ho I.free (by simp);exact I.step (g':=s.gens) (d':=s.drawn) (ch:=[]) (λ_ z=>nomatch z) (λb o _ hb _ e n=>u.keep b o e n hb (by simp)) (λb o _ hb _ e n=>u.slot b o e n hb (by simp)) (λb o _ e n=>u.free b o e n (by simp)) (λb o _ e=>u.there b o e (by simp)) u.tups u.frzs u.tbls (λm' hm=>by obtain⟨o',es',ep',ho',r'⟩:=hm;rw[ho]at ho';cases ho';exact⟨_,es',ep',hL,r'⟩) hok I.bare
theorem Inv.call{g':Array GenState}{t':Nat}{d':Drawn}{ch:List Addr}(I:Inv X pins σ H s)(u:Un (frs X.stack) ch H H' s.heap h')(hok:HOk X.prog X.w H' h')(hg:AllBare g')
  (hch:∀ b∈ch,(b∈X.ex\/X.s₀.heap.objs.size<=b)/\b≠X.env.locals/\(∀ x c,X.env.cells.lookup x=some c->c≠b)/\∀ p∈X.pn++pins,p.1≠b) :
  Inv X pins σ H' { s with heap:=h',gens:=g',drawn:=d',toks:=t' }:=by
 obtain⟨m,⟨o,es,ep,ho,r⟩,_⟩:=id I.loc;obtain⟨sl,hL⟩:=u.any ho I.free λz=>(hch _ z).2.1 rfl;exact I.step (ch:=ch) hch (λb o hL hb hc e n=>u.keep b o e n (λz=>(Yf.mp (I.stkSub b z)).elim hL hb) hc) (λb o _ _ hc e n=>u.any e n hc) (λb o hc e n=>u.free b o e n hc) (λb o hc e=>u.there b o e hc) u.tups u.frzs u.tbls (λm' hm=>by obtain⟨o',es',ep',ho',r'⟩:=hm;rw[ho]at ho';cases ho';exact⟨_,es',ep',hL,r'⟩) hok hg
theorem Inv.turned{t':Nat}{it:Addr}(I:Inv X pins σ H s)(k:∀ b o,b≠it->s.heap.get? b=some o->h'.get? b=some o)(hn:H it=none)(hL:it≠X.env.locals)
  (h1:it∈X.ex\/X.s₀.heap.objs.size<=it) (h2:∀ x c,X.env.cells.lookup x=some c->c≠it) (h3:∀ p∈X.pn++pins,p.1≠it):Inv X pins σ H { s with heap:=h',toks:=t' }:=by
 have nit:∀ b u,H b=some u->b≠it:=λb u e z=>by rw[z,hn]at e;cases e
 refine I.step (g':=s.gens) (d':=s.drawn) (ch:=[it]) (λb hb=>?_) (λb o _ _ hc e _=>k b o (λz=>hc (by simp[z])) e) (λb o _ _ hc e _=>⟨o.slots,k b o (λz=>hc (by simp[z])) e⟩) (λ_ _ _ _ n=>n)
  (λb o hc e=>⟨o,k b o (λz=>hc (by simp[z])) e⟩) (λ_ _ e=>e) (λ_ _ _ e=>e) (λb ps e=>⟨#[],by rw[e];simp⟩) (λm hm=>?_) (λb u e=>?_) I.bare
 ·have e:b=it:=by simpa using hb
  subst e;exact⟨h1,hL,h2,h3⟩
 ·obtain⟨o,es,ep,ho,r⟩:=hm;exact⟨o,es,ep,k _ o (YY hL) ho,r⟩
 ·refine(I.hok b u e).stay (λc v hc q=>k c v ?_ q) (λ_ q=>q) λ_ _ q=>q;rcases hc with z | z
  ·rw[z];exact nit b u e
  ·exact nit c _ z
theorem Inv.tok(I:Inv X pins σ H s)(t:Nat):Inv X pins σ H { s with toks:=t }:=I.un (h':=s.heap) (t':=t) Un.refl I.hok
theorem Inv.kept{t':Nat}(I:Inv X pins σ H s)(k:∀ b u,s.heap.get? b=some u->h'.get? b=some u):Inv X pins σ H { s with heap:=h',toks:=t' }:=I.un (Un.kept k) (I.hok.kept k)
theorem Inv.laid{a:Addr}{o:HO}{t':Nat}(I:Inv X pins σ H s)(k:∀ b u,s.heap.get? b=some u->h'.get? b=some u)(hp:s.heap.objs.size<=a)(new:ObjOk X.prog X.w (upd H a o) h' a o) :
  Inv X pins σ (upd H a o) { s with heap:=h',toks:=t' }:=I.un (Un.laid k hp (I.hok.fresh hp)) (I.hok.laid k hp new)
theorem Inv.write{x e:Addr}{o:HO}{t':Nat}(I:Inv X pins σ H s)(mu:Mut (H x))(he:e=x\/H e=some (.own x))(k:∀ b u,b≠e->s.heap.get? b=some u->h'.get? b=some u)(heo:∃ u,h'.get? e=some u)
  (new:ObjOk X.prog X.w (upd H x o) h' x o):Inv X pins σ (upd H x o) { s with heap:=h',toks:=t' }:=I.un (Un.write mu he k heo) (I.hok.write mu he k heo new)
theorem Inv.weak{σ':List (Option V)}(I:Inv X pins σ H s)(hl:σ'.length=σ.length)(w:∀(i:Nat) v,σ'[i]?=some (some v)->σ[i]?=some (some v)):Inv X pins σ' H s :=
 ⟨I.ok,I.os,I.bare,I.base,let ⟨m,hn,hl'⟩:=I.loc;⟨m,hn,λi x v e1 e2 e3=>hl' i x v e1 (w i v e2) e3⟩,I.cell,I.free,I.freeC,I.pin,I.hok,hl.trans I.len⟩
theorem Inv.pins_of{pins':List (Addr × Obj)}(I:Inv X pins σ H s)(h:∀ p∈pins',s.heap.get? p.1=some p.2/\H p.1=none/\p.1≠X.env.locals/\p.1∉X.fs/\∀ v,p.2.data≠.cell v):Inv X pins' σ H s :=
 ⟨I.ok,I.os,I.bare,I.base,I.loc,I.cell,I.free,I.freeC,λp hp=>(Yy7.mp hp).elim (λz=>I.pin p (Yc _ z)) (h p),I.hok,I.len⟩
theorem Zt6{N:List Str}(hN:N.Nodup){i j:Nat}{x:Str}(a:N[i]?=some x)(b:N[j]?=some x):i=j:=by obtain⟨h1,e1⟩:=Yy1.mp a;obtain⟨h2,e2⟩:=Yy1.mp b;exact(List.getElem_inj hN).mp (e1.trans e2.symm)
theorem Yz7{M:Model}{A:Around}{E:Value->Shared->Prop}{i:Nat}{x:Str}{v:V}{u:Value}{Q:Unit->Shared->Prop}(I:Inv X pins σ H s)(hN:X.N.Nodup)(hi:X.N[i]?=some x)(hx:Loc X.env.scope x)(r:RelV v u)
  (h:∀ s',Inv X pins (σ.set i (some v)) H s'->(∃ a,Heap.SameBut a s.heap s'.heap/\(a=X.env.locals\/X.env.cells.lookup x=some a))->Q () s') (hf:X.fn x=true\/X.env.scope.names.lookup x=some .local:=by first | exact .inl rfl | exact .inr rfl | assumption):wpAny M A (storeName X.env x u) Q E s:=by
 obtain⟨m,hn,hl⟩:=id I.loc;have hcls:(X.env.scope.kind == .class || (X.env.scope.kind == .module && X.env.locals != X.env.globals))=false:=by rw[I.ok.kind];rfl
 have hiσ:i<σ.length:=by rw[I.len];exact(Yy1.mp hi).1
 have cne:=I.cne;have tracked:∀ {a:Addr} {h':Heap},(∃ o,s.heap.get? a=some o/\H a=none)->Heap.SameBut a s.heap h'->HOk X.prog X.w H h':=λ{a h'} ha hs b ob e=>by
  obtain⟨_,_,hfree⟩:=ha;refine(I.hok b ob e).stay (λc w' hc q=>(hs.2 c ?_).trans q) (λ_ q=>q) λ_ _ q=>q;rintro rfl;rcases hc with rfl | hc
  ·rw[hfree]at e;cases e
  ·rw[hfree]at hc;cases hc
 rcases hx with hk | hk
 ·refine wpAny_storeName_local hk hn (λh' hn' hs=>?_) hcls;obtain⟨oL,_,_,hoL,_⟩:=id hn;refine h _ ⟨I.ok,I.os,I.bare,⟨λb o e n hb hx=>?_,λb o e n hb hx=>?_,I.base.free,λb o e hx=>?_,I.base.tups,I.base.frzs,I.base.tbls⟩,⟨_,hn',λj y v' e1 e2 e3=>?_⟩,λy c e=>?_,I.free,I.freeC,λp hp=>?_,tracked ⟨oL,hoL,I.free⟩ hs,by simpa using I.len⟩ ⟨_,hs,.inl rfl⟩
  ·exact(hs.2 b (Yr (Yo (Yn e) I.ok.above))).trans (I.base.keep b o e n hb hx)
  ·obtain⟨sl,e1⟩:=I.base.slot b o e n hb hx;exact⟨sl,(hs.2 b (Yr (Yo (Yn e) I.ok.above))).trans e1⟩
  ·obtain⟨o',e1⟩:=I.base.there b o e hx;exact⟨o',(hs.2 b (Yr (Yo (Yn e) I.ok.above))).trans e1⟩
  ·by_cases hj:j=i
   ·subst hj;rw[hi]at e1;cases e1;rw[Y3s hiσ]at e2;cases e2;exact⟨u,r,.inl ⟨hk,by simp⟩⟩
   ·rw[List.getElem?_set_ne (YY hj)]at e2;obtain⟨u',r',q⟩:=hl j y v' e1 e2 e3;refine⟨u',r',?_⟩;rcases q with ⟨k,e⟩ | ⟨k,c,e,z⟩
    ·refine .inl ⟨k,?_⟩
     have:y≠x:=λe=>hj (Zt6 hN e1 (e ▸ hi))
     simp[this,e]
    ·exact .inr ⟨k,c,e,z.sameBut hs (cne y c e)⟩
  ·obtain⟨w',z⟩:=I.cell y c e;exact⟨w',z.sameBut hs (cne y c e)⟩
  ·obtain⟨e,n,ne,nf,d⟩:=I.pin p hp;exact⟨(hs.2 p.1 ne).trans e,n,ne,nf,d⟩
 ·have hfn:X.fn x=true:=by
   rcases hf with z | z
   ·exact z
   ·rw[z]at hk;cases hk
  obtain⟨c,hc⟩:=I.ok.has x (.inl hk);obtain⟨w',z⟩:=I.cell x c hc;refine wpAny_storeName_cell I.ok.kind hk hc z (λh' hc' hs=>?_);obtain⟨oc,hoc,hocd⟩:=id z;refine h { s with heap:=h' } ⟨I.ok,I.os,I.bare,⟨λb o e n hb hx=>?_,λb o e n hb hx=>?_,I.base.free,λb o e hx=>?_,I.base.tups,I.base.frzs,I.base.tbls⟩,⟨m,hn.sameBut hs (YY (cne x c hc)),λj y v' e1 e2 e3=>?_⟩,λy c' e=>?_,I.free,I.freeC,λp hp=>?_,tracked ⟨oc,hoc,I.freeC x c hc⟩ hs,by simpa using I.len⟩ ⟨c,hs,.inr hc⟩
  ·exact(hs.2 b (Yr (Yo (Yn e) (I.ok.cab x c hfn hc)))).trans (I.base.keep b o e n hb hx)
  ·obtain⟨sl,e1⟩:=I.base.slot b o e n hb hx;exact⟨sl,(hs.2 b (Yr (Yo (Yn e) (I.ok.cab x c hfn hc)))).trans e1⟩
  ·obtain⟨o',e1⟩:=I.base.there b o e hx;exact⟨o',(hs.2 b (Yr (Yo (Yn e) (I.ok.cab x c hfn hc)))).trans e1⟩
  ·by_cases hj:j=i
   ·subst hj;rw[hi]at e1;cases e1;rw[Y3s hiσ]at e2;cases e2;exact⟨u,r,.inr ⟨.inl hk,c,hc,hc'⟩⟩
   ·rw[List.getElem?_set_ne (YY hj)]at e2;obtain⟨u',r',q⟩:=hl j y v' e1 e2 e3;refine⟨u',r',?_⟩;rcases q with q | ⟨k,c',e,z'⟩
    ·exact .inl q
    ·refine .inr ⟨k,c',e,z'.sameBut hs ?_⟩;rintro rfl;exact hj (Zt6 hN e1 (I.ok.inj _ _ _ e hc ▸ hi))
  ·by_cases hcc:c'=c
   ·subst hcc;exact⟨_,hc'⟩
   ·obtain⟨w2,z2⟩:=I.cell y c' e;exact⟨w2,z2.sameBut hs hcc⟩
  ·obtain⟨e,n,ne,nf,d⟩:=I.pin p hp;refine⟨(hs.2 p.1 ?_).trans e,n,ne,nf,d⟩;intro q;rw[q,hoc]at e;have q':oc=p.2:=Yh e
   exact d w' (by rw[<- q'];exact hocd)
theorem Zz24{M:Model}{A:Around}{E:Value->Shared->Prop}{i:Nat}{x:Str}{v:V}{u:Value}{Q:Unit->Shared->Prop}(I:Inv X pins σ H s)(hN:X.N.Nodup)(hi:X.N[i]?=some x)(hx:Loc X.env.scope x)(r:RelV v u)
  (h:∀ s',Inv X pins (σ.set i (some v)) H s'->Q () s') (hf:X.fn x=true\/X.env.scope.names.lookup x=some .local:=by first | exact .inl rfl | exact .inr rfl | assumption):wpAny M A (storeName X.env x u) Q E s :=
 Yz7 I hN hi hx r (λs' I' _=>h s' I') hf
theorem Inv.call'{s':Shared}{ch:List Addr}(I:Inv X pins σ H s)(ho:s'.os=s.os)(u:Un (frs X.stack) ch H H' s.heap s'.heap)(hok:HOk X.prog X.w H' s'.heap)(hg:AllBare s'.gens)
  (hch:∀ b∈ch,(b∈X.ex\/X.s₀.heap.objs.size<=b)/\b≠X.env.locals/\(∀ x c,X.env.cells.lookup x=some c->c≠b)/\∀ p∈X.pn++pins,p.1≠b):Inv X pins σ H' s':=by
 obtain⟨h',g',d',t',o'⟩:=s';have e:o'=s.os:=ho
 subst e;exact I.call (g':=g') (t':=t') (d':=d') u hok hg hch
end
abbrev XK:=Value->Option Addr->Hp->Prop
abbrev St:=List (Option V)
abbrev VK:=V->Hp->Prop
abbrev TE:=St->Hp->VK->Prop
abbrev TT:=St->Hp->(Bool->Hp->Prop)->Prop
abbrev TA:=St->Hp->(List V->Hp->Prop)->Prop
structure Ends where
 nx:St->Hp->Prop
 rt:VK
 bk:St->Hp->Prop:=λ_ _=>False
 ct:St->Hp->Prop:=λ_ _=>False
abbrev TS:=Ends->St->Hp->Prop
def EP(X:Cx)(pins:List (Addr × Obj))(σ:St)(Q:VK)(u:Value)(s':Shared):Prop:=∃ v H',Inv X pins σ H' s'/\RelV v u/\Q v H'
def TP(X:Cx)(pins:List (Addr × Obj))(σ:St)(Q:Bool->Hp->Prop)(b:Bool)(s':Shared):Prop:=∃ H',Inv X pins σ H' s'/\Q b H'
def AP(X:Cx)(pins:List (Addr × Obj))(σ:St)(Q:List V->Hp->Prop)(us:List Value)(s':Shared):Prop:=∃ vs H',Inv X pins σ H' s'/\Vals vs us/\Q vs H'
def SP(X:Cx)(pins:List (Addr × Obj))(D:Ends)(f:Flow)(s':Shared):Prop :=
 match f with
 | .next=>∃ σ' H',Inv X pins σ' H' s'/\D.nx σ' H'
 | .brk=>∃ σ' H',Inv X pins σ' H' s'/\D.bk σ' H'
 | .cont=>∃ σ' H',Inv X pins σ' H' s'/\D.ct σ' H'
 | .ret u=>∃ v σ' H',Inv X pins σ' H' s'/\RelV v u/\D.rt v H'
def PE(X:Cx)(e:Expr)(t:TE):Prop :=
 ∀(pins:List (Addr × Obj)) (s:Shared) (σ:St) (H:Hp) (Q:VK),Inv X pins σ H s->t σ H Q->wpAny (model X.prog X.w) X.A (eval e X.env) (EP X pins σ Q) X.xe s
def PT(X:Cx)(e:Expr)(t:TT):Prop :=
 ∀(pins:List (Addr × Obj)) (s:Shared) (σ:St) (H:Hp) (Q:Bool->Hp->Prop),Inv X pins σ H s->t σ H Q->wpAny (model X.prog X.w) X.A (isTrue e X.env (eval e X.env)) (TP X pins σ Q) X.xe s
def PW(X:Cx)(e:Expr)(t:TT):Prop :=
 ∀(whole:Sem Value) (pins:List (Addr × Obj)) (s:Shared) (σ:St) (H:Hp) (Q:Bool->Hp->Prop),Inv X pins σ H s->t σ H Q->wpAny (model X.prog X.w) X.A (isTrue e X.env whole) (TP X pins σ Q) X.xe s
theorem PW.pt{X:Cx}{e:Expr}{t:TT}(h:PW X e t):PT X e t:=h _
def PA(X:Cx)(es:List Expr)(t:TA):Prop :=
 ∀(pos:Pos) (pins:List (Addr × Obj)) (s:Shared) (σ:St) (H:Hp) (Q:List V->Hp->Prop),Inv X pins σ H s->t σ H Q->wpAny (model X.prog X.w) X.A (spliced (backTo pos (starEach es X.env))) (AP X pins σ Q) X.xe s
def PS(X:Cx)(st:Stmt)(t:TS):Prop :=
 ∀(pins:List (Addr × Obj)) (s:Shared) (σ:St) (H:Hp) (D:Ends),Inv X pins σ H s->t D σ H->wpAny (model X.prog X.w) X.A (exec st X.env) (SP X pins D) X.xe s
def PSs(X:Cx)(st:List Stmt)(t:TS):Prop :=
 ∀(pins:List (Addr × Obj)) (s:Shared) (σ:St) (H:Hp) (D:Ends),Inv X pins σ H s->t D σ H->wpAny (model X.prog X.w) X.A (execs st X.env) (SP X pins D) X.xe s
theorem thn{α:Type}{t:Sem α}{Q Q':α->Shared->Prop}{M:Model}{A:Around}{E:Value->Shared->Prop}{s:Shared}(h:wpAny M A t Q E s)(hQ:∀ a s,Q a s->Q' a s):wpAny M A t Q' E s:=Y0J h hQ λ_ _ x=>x
section
variable{X:Cx}
def tVar(i:Nat):TE:=λσ H Q=>∃ v,σ[i]?=some (some v)/\Q v H
def tC(v:V):TE:=λ_ H Q=>Q v H
theorem ZO12 {i:Nat} {x:Str} {pos:Pos} (hN:X.N[i]?=some x) (hv:Vis X.env.scope x) (hd:(x == ("__debug__":Str))=false:=by decide) (hcd:(x == ("__classdict__":Str))=false:=by decide):PE X (.Name x pos) (tVar i):=by
 intro pins s σ H Q I h;obtain⟨v,e,h⟩:=h;obtain⟨m,hn,hl⟩:=I.loc;obtain⟨u,r,l⟩:=hl i x v hN e hv;have fin:EP X pins σ Q u s:=⟨v,H,I,r,h⟩
 rcases l with ⟨hk,hm⟩ | ⟨hk,c,hc,hcell⟩
 ·exact wpAny_Name (wpAny_loadName_local I.ok.kind hk hn hm fin) hd
 ·rcases hk with hk | hk
  ·exact wpAny_Name (wpAny_loadName_cell I.ok.kind hk hc hcell fin) hd
  ·exact wpAny_Name (wpAny_loadName_free I.ok.kind hk hc hcell fin hcd) hd
theorem Za{i j pos}:PE X (.Constant (.int i) j pos) (tC (.int i)):=λ_ _ _ H _ I h=>wpAny_Constant_int ⟨.int i,H,I.tok _,⟨_,rfl⟩,h⟩
theorem ZF10{b j pos}:PE X (.Constant (.bool b) j pos) (tC (.bl b)):=λ_ _ _ H _ I h=>Constant_bool ⟨.bl b,H,I,rfl,h⟩
theorem ZF2{j pos}:PE X (.Constant .none j pos) (tC .non):=λ_ _ _ H _ I h=>Constant_none ⟨.non,H,I,rfl,h⟩
def Gl(X:Cx)(x:Str):Prop:=X.env.kindOf x=some .globalImplicit
theorem ZG6{E:Value->Shared->Prop}{pins:List (Addr × Obj)}{s:Shared}{σ:St}{H:Hp}{x:Str}{u:Value}{pos:Pos}{Q:Value->Shared->Prop}(I:Inv X pins σ H s)(hg:Gl X x)(hm:X.mg x=some u)(h:Q u s)
  (hd:(x == ("__debug__":Str))=false:=by decide):wpAny (model X.prog X.w) X.A (eval (.Name x pos) X.env) Q E s :=
 Calls.Name_function_global I.ok.kind hg (Calls.loadGlobal_global (by rw[I.ok.glob];exact I.mod.glob.keeps I.bk) hm h) hd
theorem Zu2{E:Value->Shared->Prop}{pins:List (Addr × Obj)}{s:Shared}{σ:St}{H:Hp}{x:Str}{u:Value}{pos:Pos}{Q:Value->Shared->Prop}(I:Inv X pins σ H s)(hg:Gl X x)(hm:X.mg x=none)(hv:bootBuiltins x=some u)(h:Q u s)
  (hn:x≠"__name__":=by decide) (hd:(x == ("__debug__":Str))=false:=by decide):wpAny (model X.prog X.w) X.A (eval (.Name x pos) X.env) Q E s:=by obtain⟨mb,h1,h2⟩:=I.mod.blt;exact Calls.Name_function_global I.ok.kind hg (Calls.loadGlobal_builtin (by rw[I.ok.glob];exact I.mod.glob.keeps I.bk) hm (by rw[I.ok.blt];exact h1.keeps I.bk) ((h2 x hn).trans hv) h) hd
theorem ZC8 {x:Str} {v:V} {u:Value} {pos:Pos} (hg:Gl X x) (hm:X.mg x=some u) (r:RelV v u) (hd:(x == ("__debug__":Str))=false:=by decide):PE X (.Name x pos) (tC v) :=
 λ_ _ _ H _ I h=>ZG6 I hg hm ⟨v,H,I,r,h⟩ hd
variable{a b:Expr}{ta tb:TE}{pos:Pos}
def PC(X:Cx)(op:CmpOp)(a b:Expr)(t:TE):Prop :=
 ∀(pins:List (Addr × Obj)) (s:Shared) (σ:St) (H:Hp) (Q:VK),Inv X pins σ H s->t σ H Q ->
  wpAny (model X.prog X.w) X.A (eval a X.env) (λv s₁=>wpAny (model X.prog X.w) X.A (eval b X.env) (λu s₂=>wpAny (model X.prog X.w) X.A (compareOp op v u) (EP X pins σ Q) X.xe s₂) X.xe s₁) X.xe s
def tB(t:TE):TT:=λσ H Q=>t σ H λx H1=>∃ c,x=.bl c/\Q c H1
theorem ZE2{e:Expr}{t:TE}(h:PE X e t)(he:∀ whole,isTrue e X.env whole=(do let v <- whole;standAt e.pos;holding [v] (truthy v)):=by intro _;rfl):PT X e (tB t):=by intro pins s σ H Q I hw;refine isTrue_plain (thn (h pins s σ H _ I hw) λv s1 ⟨x,H1,I1,r1,q1⟩=>?_) (he _);obtain⟨d,rfl,q⟩:=q1;cases r1;exact Y0m ⟨H1,I1,q⟩
variable{tA tB':TT}{rest:List Expr}
def tAnd(t u:TT):TT:=λσ H Q=>t σ H λc H1=>if c=true then u σ H1 Q else Q false H1
def tOr(t u:TT):TT:=λσ H Q=>t σ H λc H1=>if c=true then Q true H1 else u σ H1 Q
def tNot(t:TT):TT:=λσ H Q=>t σ H λc H1=>Q (!c) H1
theorem Zd6(ha:PT X a tA):PW X (.BoolOp .And [a] pos) tA:=by
 intro wh pins s σ H Q I h;refine isTrue_and (thn (ha pins s σ H Q I h) λc s1 e=>?_);cases c with
 | true=>exact isTrue_and_nil e
 | false=>exact e
theorem Zw9(ha:PT X a tA):PW X (.BoolOp .Or [a] pos) tA:=by
 intro wh pins s σ H Q I h;refine isTrue_or (thn (ha pins s σ H Q I h) λc s1 e=>?_);cases c with
 | false=>exact isTrue_or_nil e
 | true=>exact e
theorem Zx9(ha:PT X a tA)(hb:PW X (.BoolOp .And (b :: rest) pos) tB'):PW X (.BoolOp .And (a :: b :: rest) pos) (tAnd tA tB'):=by
 intro wh pins s σ H Q I h;refine isTrue_and (thn (ha pins s σ H _ I h) λc s1 hz0=>?_);obtain⟨H1,I1,q1⟩:=hz0;cases c with
 | true=>exact hb wh pins s1 σ H1 Q I1 q1
 | false=>exact⟨H1,I1,q1⟩
theorem ZI12(ha:PT X a tA)(hb:PW X (.BoolOp .Or (b :: rest) pos) tB'):PW X (.BoolOp .Or (a :: b :: rest) pos) (tOr tA tB'):=by
 intro wh pins s σ H Q I h;refine isTrue_or (thn (ha pins s σ H _ I h) λc s1 hz0=>?_);obtain⟨H1,I1,q1⟩:=hz0;cases c with
 | true=>exact⟨H1,I1,q1⟩
 | false=>exact hb wh pins s1 σ H1 Q I1 q1
theorem ZA3(ha:PT X a tA):PT X (.UnaryOp .Not a pos) (tNot tA):=by intro pins s σ H Q I h;exact isTrue_not (ha pins s σ H (λc H1=>Q (!c) H1) I h)
def Zy13(ta tb:TE):TE:=λσ H Q=>ta σ H λx H1=>∃ c,x=.bl c/\if c=true then tb σ H1 Q else Q (.bl false) H1
def Zr13(ta:TE):TE:=λσ H Q=>ta σ H λx H1=>∃ c,x=.bl c/\Q (.bl (!c)) H1
theorem ZF9{op}{t:TE}(h:PE X a t):PE X (.BoolOp op [a] pos) t:=λpins s σ H Q I hw=>BoolOp_one (h pins s σ H Q I hw)
theorem ZH7(ha:PE X a ta)(hb:PE X (.BoolOp .And (b :: rest) pos) tb):PE X (.BoolOp .And (a :: b :: rest) pos) (Zy13 ta tb):=by
 intro pins s σ H Q I h;refine BoolOp_and (thn (ha pins s σ H _ I h) λv s1 hz0=>?_);obtain⟨x,H1,I1,r1,q1⟩:=hz0;obtain⟨c,rfl,q1⟩:=q1;cases r1;refine Y0m ?_;cases c with
 | true=>exact hb pins s1 σ H1 Q I1 q1
 | false=>exact⟨.bl false,H1,I1,rfl,q1⟩
theorem ZP12(ha:PE X a ta):PE X (.UnaryOp .Not a pos) (Zr13 ta):=by intro pins s σ H Q I h;refine UnaryOp_ (thn (ha pins s σ H _ I h) λv s1 hz0=>?_);obtain⟨x,H1,I1,r1,q1⟩:=hz0;obtain⟨c,rfl,q1⟩:=q1;cases r1;exact not_of (Y0m ⟨.bl (!c),H1,I1,rfl,q1⟩)
def tIf(t:TT)(ta tb:TE):TE:=λσ H Q=>t σ H λc H1=>if c=true then ta σ H1 Q else tb σ H1 Q
theorem Zj6{c:Expr}(hc:PT X c tA)(ha:PE X a ta)(hb:PE X b tb):PE X (.IfExp c a b pos) (tIf tA ta tb):=by
 intro pins s σ H Q I h;refine wpAny_IfExp (thn (hc pins s σ H _ I h) λd s1 hz0=>?_);obtain⟨H1,I1,q1⟩:=hz0;cases d with
 | true=>exact ha pins s1 σ H1 Q I1 q1
 | false=>exact hb pins s1 σ H1 Q I1 q1
end
def SqL(K:PySem.W.Frag)(H:Hp)(a:Addr)(xs:List V):Prop :=
 Rd H a (.lst xs) \/
  ∃(o:Obj) (its:Array Value) (n:Nat),K.lookup a=some o/\o.cls=.type "list"/\o.dict=none/\o.data=.seq its n/\its.size<=sizeLine/\Vals xs its.toList
def SqT(K:PySem.W.Frag)(H:Hp)(a:Addr)(xs:List V):Prop :=
 Rd H a (.tup xs) \/
  ∃(o:Obj) (its:Array Value) (n:Nat),K.lookup a=some o/\o.cls=.type "tuple"/\o.data=.seq its n/\its.size<=sizeLine/\Vals xs its.toList
def absV:Value->Option V
 | .none=>some .non
 | .bool b=>some (.bl b)
 | .int i _=>some (.int i)
 | .str x _=>some (.str x)
 | .bytes b _=>some (.byt b)
 | .float b _=>some (.flt b)
 | .ref a=>some (.ref a)
 | .type n=>some (.ty n)
 | _=>none
theorem RelV.abs{x:V}{u:Value}(r:RelV x u):absV u=some x:=by
 cases x with
 | non=>cases r;rfl
 | bl _=>cases r;rfl
 | int _=>obtain⟨t,rfl⟩:=r;rfl
 | str _=>obtain⟨t,rfl⟩:=r;rfl
 | byt _=>obtain⟨t,rfl⟩:=r;rfl
 | flt _=>obtain⟨t,rfl⟩:=r;rfl
 | ref _=>cases r;rfl
 | ty _=>cases r;rfl
theorem RelV.inj{x y:V}{u:Value}(r:RelV x u)(q:RelV y u):x=y:=Yh (r.abs.symm.trans q.abs)
theorem Vals.inj:∀ {xs ys:List V} {us:List Value},Vals xs us->Vals ys us->xs=ys
 | _,_,_,.nil,.nil=>rfl
 | _,_,_,.cons r t,.cons r' t'=>by rw[r.inj r',Vals.inj t t']
section
variable{X:Cx}{pins:List (Addr × Obj)}{σ:St}{H:Hp}{s:Shared}{a:Addr}{xs ys:List V}
theorem SqL.of{K:PySem.W.Frag}(h:H a=some (.lst xs)):SqL K H a xs:=.inl (.inl h)
theorem SqT.of{K:PySem.W.Frag}(h:H a=some (.tup xs)):SqT K H a xs:=.inl (.inl h)
theorem Inv.list(I:Inv X pins σ H s)(h:SqL X.K H a xs):∃ its:List Value,Vals xs its/\PlainL s.heap a its.toArray/\xs.length<=sizeLine:=by
 rcases h with h | ⟨o,its,n,hk,hc,hd,hs,hz,r⟩
 ·obtain⟨z,its,n,r,e⟩:=h.ok I.hok;exact⟨its,r,⟨_,n,e,rfl,rfl,rfl⟩,z⟩
 ·refine⟨its.toList,r,⟨o,n,I.kIn a o hk,hc,hd,by simpa using hs⟩,?_⟩;have e:=r.length
  simp only [YB]at e;omega
theorem Inv.tuple(I:Inv X pins σ H s)(h:SqT X.K H a xs):∃ its:List Value,Vals xs its/\IsTup s.heap a its.toArray/\xs.length<=sizeLine:=by
 rcases h with h | ⟨o,its,n,hk,hc,hs,hz,r⟩
 ·obtain⟨z,its,r,p⟩:=h.ok I.hok;exact⟨its,r,p,z⟩
 ·refine⟨its.toList,r,⟨o,I.kIn a o hk,hc,n,by simpa using hs⟩,?_⟩;have e:=r.length
  simp only [YB]at e;omega
theorem Inv.list_inj(I:Inv X pins σ H s)(h:SqL X.K H a xs)(h':SqL X.K H a ys):xs=ys:=by
 obtain⟨its,r,⟨o,n,e,_,_,d⟩,_⟩:=I.list h;obtain⟨its',r',⟨o',n',e',_,_,d'⟩,_⟩:=I.list h';rw[e]at e';cases e';rw[d]at d';injection d' with d1 _
 have:its=its':=by simpa using YV Array.toList d1
 subst this;exact r.inj r'
theorem Inv.tuple_inj(I:Inv X pins σ H s)(h:SqT X.K H a xs)(h':SqT X.K H a ys):xs=ys:=by
 obtain⟨its,r,⟨o,e,_,n,d⟩,_⟩:=I.tuple h;obtain⟨its',r',⟨o',e',_,n',d'⟩,_⟩:=I.tuple h';rw[e]at e';cases e';rw[d]at d';injection d' with d1 _
 have:its=its':=by simpa using YV Array.toList d1
 subst this;exact r.inj r'
end
abbrev Cx.wish(X:Cx)(E:Value->Shared->Prop):Cx:={ X with xe:=E }
abbrev Cx.nox(X:Cx):Cx:=X.wish λ_ _=>False
theorem Cx.Ok.wish{X:Cx}(ok:X.Ok)(E:Value->Shared->Prop):(X.wish E).Ok :=
 ⟨ok.mod,ok.kind,ok.glob,ok.blt,ok.above,ok.inj,ok.has,ok.cab,ok.hd,ok.frames,ok.stk,ok.exf,ok.bs,ok.bsz,ok.noex,ok.exfs,ok.funs,ok.frf⟩
theorem Cx.Ok.unwish{X:Cx}{E:Value->Shared->Prop}(ok:(X.wish E).Ok):X.Ok :=
 ⟨ok.mod,ok.kind,ok.glob,ok.blt,ok.above,ok.inj,ok.has,ok.cab,ok.hd,ok.frames,ok.stk,ok.exf,ok.bs,ok.bsz,ok.noex,ok.exfs,ok.funs,ok.frf⟩
section
variable{X:Cx}{pins:List (Addr × Obj)}{σ:St}{H:Hp}{s:Shared}{E:Value->Shared->Prop}
theorem Inv.wish(I:Inv X pins σ H s)(E:Value->Shared->Prop):Inv (X.wish E) pins σ H s:=⟨I.ok.wish E,I.os,I.bare,I.base,I.loc,I.cell,I.free,I.freeC,I.pin,I.hok,I.len⟩
theorem Inv.unwish(I:Inv (X.wish E) pins σ H s):Inv X pins σ H s:=⟨I.ok.unwish,I.os,I.bare,I.base,I.loc,I.cell,I.free,I.freeC,I.pin,I.hok,I.len⟩
theorem SP.unwish{D:Ends}{f:Flow}{s':Shared}(h:SP (X.wish E) pins D f s'):SP X pins D f s':=by
 cases f with
 | next=>obtain⟨σ',H',I,q⟩:=h;exact⟨σ',H',I.unwish,q⟩
 | brk=>obtain⟨σ',H',I,q⟩:=h;exact⟨σ',H',I.unwish,q⟩
 | cont=>obtain⟨σ',H',I,q⟩:=h;exact⟨σ',H',I.unwish,q⟩
 | ret u=>obtain⟨v,σ',H',I,r,q⟩:=h;exact⟨v,σ',H',I.unwish,r,q⟩
theorem PSs.nox{st:List Stmt}{t:TS}(h:PSs X.nox st t):PSs X st t:=λpins s σ H D I hw =>
 Y0J (h pins s σ H D (I.wish _) hw) (λ_ _ q=>q.unwish) λ_ _ z=>False.elim z
end
section
variable{X:Cx}{st:Stmt}{rest:List Stmt}{t u:TS}{e:Expr}{te:TE}{pos:Pos}
def Zs13:TS:=λD σ H=>D.nx σ H
def tSeq(t u:TS):TS:=λD σ H=>t { D with nx:=u D } σ H
theorem Zn:PSs X [] Zs13:=λ_ _ σ H _ I h=>Y2u ⟨σ,H,I,h⟩
theorem Zz2(h1:PS X st t)(h2:PSs X rest u):PSs X (st :: rest) (tSeq t u):=by
 intro pins s σ H D I h;refine wpAny_execs_cons (thn (h1 pins s σ H { D with nx:=u D } I h) λf s1 q=>?_);cases f with
 | next =>
  obtain⟨σ',H',I',q⟩:=q;exact h2 pins s1 σ' H' D I' q
 | ret v=>exact q
 | brk=>exact q
 | cont=>exact q
theorem Zz8(h1:PS X st t):PSs X [st] t:=by
 intro pins s σ H D I h;refine wpAny_execs_cons (thn (h1 pins s σ H D I h) λf s1 q=>?_);cases f with
 | next=>exact Y2u q
 | ret v=>exact q
 | brk=>exact q
 | cont=>exact q
theorem Inv.quiet{pins:List (Addr × Obj)}{σ:St}{H:Hp}{s:Shared}(I:Inv X pins σ H s):interactive X.env=false:=by simp[interactive,I.ok.kind]
def Zv13(te:TE):TS:=λD σ H=>te σ H λ_ H1=>D.nx σ H1
theorem Za1(he:PE X e te)(hs:swapsWith e none pos.line X.env=pure false:=by rfl):PS X (.Expr e pos) (Zv13 te):=by intro pins s σ H D I h;exact wpAny_Expr_any (thn (he pins s σ H _ I h) λv s1 ⟨x,H1,I1,r1,q1⟩=>⟨σ,H1,I1,q1⟩) I.quiet hs
def tRet(te:TE):TS:=λD σ H=>te σ H D.rt
theorem Zh(he:PE X e te):PS X (.Return (some e) pos) (tRet te):=by intro pins s σ H D I h;exact wpAny_Return_some (thn (he pins s σ H _ I h) λv s1 ⟨x,H1,I1,r1,q1⟩=>⟨x,σ,H1,I1,r1,q1⟩)
def tIfS(c:TT)(t u:TS):TS:=λD σ H=>c σ H λb H1=>if b=true then t D σ H1 else u D σ H1
theorem Zn1{c:Expr}{a b:List Stmt}{tc:TT}(hc:PT X c tc)(ha:PSs X a t)(hb:PSs X b u):PS X (.If c a b pos) (tIfS tc t u):=by
 intro pins s σ H D I h;refine wpAny_If (thn (hc pins s σ H _ I h) λd s1 hz0=>?_);obtain⟨H1,I1,q1⟩:=hz0;cases d with
 | true=>exact ha pins s1 σ H1 D I1 q1
 | false=>exact hb pins s1 σ H1 D I1 q1
def Zv12:TS:=λ_ _ _=>False
theorem Zz61:PS X st Zv12:=λ_ _ _ _ _ _ h=>h.elim
end
abbrev TG:=V->St->Hp->(St->Hp->Prop)->Prop
abbrev TGs:=List V->St->Hp->(St->Hp->Prop)->Prop
def PG(X:Cx)(target:Expr)(t:TG):Prop :=
 ∀(pins:List (Addr × Obj)) (s:Shared) (σ:St) (H:Hp) (v:V) (u:Value) (Q:St->Hp->Prop),Inv X pins σ H s->RelV v u->t v σ H Q ->
  wpAny (model X.prog X.w) X.A (assign target X.env u) (λ_ s'=>∃ σ' H',Inv X pins σ' H' s'/\Q σ' H') X.xe s
def PGs(X:Cx)(ts:List Expr)(t:TGs):Prop :=
 ∀(pins:List (Addr × Obj)) (s:Shared) (σ:St) (H:Hp) (vs:List V) (us:List Value) (Q:St->Hp->Prop),Inv X pins σ H s->Vals vs us->t vs σ H Q ->
  wpAny (model X.prog X.w) X.A (assignInOrder ((assignEach ts X.env).map (·.2)) us) (λ_ s'=>∃ σ' H',Inv X pins σ' H' s'/\Q σ' H') X.xe s
abbrev TSet:=V->V->V->Hp->(Hp->Prop)->Prop
def PSet(X:Cx)(t:TSet):Prop :=
 ∀(pins:List (Addr × Obj)) (s:Shared) (σ:St) (H:Hp) (o i v:V) (ov iv u:Value) (Q:Hp->Prop),Inv X pins σ H s->RelV o ov->RelV i iv->RelV v u->t o i v H Q ->
  wpAny (model X.prog X.w) X.A (setItem ov iv u) (λ_ s'=>∃ H',Inv X pins σ H' s'/\Q H') X.xe s
abbrev TIp:=V->V->Hp->VK->Prop
def PIp(X:Cx)(op:Operator)(t:TIp):Prop :=
 ∀(pins:List (Addr × Obj)) (s:Shared) (σ:St) (H:Hp) (x y:V) (v u:Value) (Q:VK),Inv X pins σ H s->RelV x v->RelV y u->t x y H Q ->
  wpAny (model X.prog X.w) X.A (inplaceOp op v u) (EP X pins σ Q) X.xe s
section
variable{X:Cx}{pos:Pos}
def Zz810(i:Nat):TG:=λv σ H Q=>Q (σ.set i (some v)) H
theorem Zd{i:Nat}{x:Str}(hN:X.N.Nodup)(hi:X.N[i]?=some x)(hx:Loc X.env.scope x)(hf:X.fn x=true\/X.env.scope.names.lookup x=some .local:=by first | exact .inl rfl | exact .inr rfl | assumption):PG X (.Name x pos) (Zz810 i):=by intro pins s σ H v u Q I r h;exact wpAny_assign_Name (Zz24 I hN hi hx r (λs' I'=>⟨_,H,I',h⟩) hf)
def gNil:TGs:=λvs σ H Q=>vs=[]/\Q σ H
def Zn13(t:TG)(u:TGs):TGs:=λvs σ H Q=>∃ v r,vs=v :: r/\t v σ H λσ' H'=>u r σ' H' Q
theorem Zc1:PGs X [] gNil:=by intro pins s σ H vs us Q I r h;obtain⟨e,h⟩:=h;subst e;cases r;exact assignInOrder_nil ⟨σ,H,I,h⟩
theorem Zt{e:Expr}{es:List Expr}{t:TG}{u:TGs}(h1:PG X e t)(h2:PGs X es u)
  (hs:(assignEach (e :: es) X.env).map (·.2)=assign e X.env :: (assignEach es X.env).map (·.2):=by rfl):PGs X (e :: es) (Zn13 t u):=by
 intro pins s σ H vs us Q I r h;obtain⟨v,vr,e1,h⟩:=h;subst e1;cases r with
 | cons r rr =>
  rw[hs];refine assignInOrder_cons (thn (h1 pins s σ H _ _ _ I r h) λ_ s1 hz0=>?_);obtain⟨σ1,H1,I1,q1⟩:=hz0;exact h2 pins s1 σ1 H1 _ _ Q I1 rr q1
def gTup(K:PySem.W.Frag)(n:Nat)(t:TGs):TG:=λv σ H Q=>∃ a xs,v=.ref a/\SqT K H a xs/\xs.length=n/\t xs σ H Q
theorem ZL12{es:List Expr}{k:Nat}{t:TGs}{n:Nat}(hc:X.calm=true)(h:PGs X es t)
  (hn:(assignEach es X.env).length=n:=by rfl) (hst:(assignEach es X.env).findIdx? (·.1)=none:=by rfl):PG X (.Tuple es k pos) (gTup X.K n t):=by
 intro pins s σ H v u Q I r hw;obtain⟨a,xs,e1,hq,hl,hw⟩:=hw;subst e1;cases r;obtain⟨its,rv,ht,hz⟩:=I.tuple hq;refine assign_Tuple_tuple (I.ok.hd hc) ht (by simp[hn,<- hl,rv.length]) hst λh' hx=>?_;have I1:Inv X pins σ H { s with heap:=h' }:=I.kept (t':=s.toks) λb o e=>hx b o (Yr (Yn e)) e
 exact h pins _ σ H xs _ Q I1 (by simpa using rv) hw
def gSub(to ti:TE)(t:TSet):TG:=λv σ H Q=>to σ H λo H1=>ti σ H1 λi H2=>t o i v H2 λH3=>Q σ H3
theorem ZM12{o i:Expr}{to ti:TE}{t:TSet}(ho:PE X o to)(hi:PE X i ti)(hs:PSet X t)
  (ha:∀ v,assign (.Subscript o i pos) X.env v=(do
   let ov <- holding [v] (eval o X.env)
   let iv <- holding [v,ov] (eval i X.env)
   standAt pos
   holding [v,ov,iv] (setItem ov iv v)
   release [v,ov,iv] []):=by intro _;rfl):PG X (.Subscript o i pos) (gSub to ti t):=by intro pins s σ H v u Q I r h;rw[ha];refine Yy3 (Y0e (thn (ho pins s σ H _ I h) λov s1 hz0=>?_));obtain⟨x,H1,I1,r1,q1⟩:=hz0;refine Yy3 (Y0e (thn (hi pins s1 σ H1 _ I1 q1) λiv s2 hz0=>?_));obtain⟨y,H2,I2,r2,q2⟩:=hz0;refine Yy3 (Y2Z (Yy3 (Y0e (thn (hs pins s2 σ H2 x y v ov iv u _ I2 r1 r2 r q2) λ_ s3 hz0=>?_))));obtain⟨H3,I3,q3⟩:=hz0;exact wpAny_release ⟨σ,H3,I3,q3⟩
def tAsg(te:TE)(g:TG):TS:=λD σ H=>te σ H λx H1=>g x σ H1 D.nx
theorem ZA9{tg e:Expr}{te:TE}{g:TG}(he:PE X e te)(hg:PG X tg g)(hs:swapsWithSole [tg] e pos.line X.env=pure false:=by rfl)(hw:swappedStores [tg] e X.env=pure none:=by rfl)
  (h1:(assignEach [tg] X.env).map (·.2)=[assign tg X.env]:=by rfl):PS X (.Assign [tg] e pos) (tAsg te g):=by intro pins s σ H D I h;refine wpAny_Assign_stores (thn (he pins s σ H _ I h) λv s1 hz0=>?_) hs hw;obtain⟨x,H1,I1,r1,q1⟩:=hz0;rw[h1];exact thn (hg pins s1 σ H1 x v _ I1 r1 q1) λ_ s2 q=>q
theorem Zj{i:Nat}{x:Str}{e:Expr}{te:TE}{pos':Pos}(hN:X.N.Nodup)(hi:X.N[i]?=some x)(hx:Loc X.env.scope x)(he:PE X e te)(hs:swapsWith e (some (.Name x pos')) pos.line X.env=pure false:=by rfl)(hf:X.fn x=true\/X.env.scope.names.lookup x=some .local:=by first | exact .inl rfl | exact .inr rfl | assumption) :
  PS X (.Assign [.Name x pos'] e pos) (tAsg te (Zz810 i)):=by intro pins s σ H D I h;refine wpAny_Assign_Name (thn (he pins s σ H _ I h) λv s1 hz0=>?_) hs;obtain⟨y,H1,I1,r1,q1⟩:=hz0;exact Zz24 I1 hN hi hx r1 (λs2 I2=>⟨_,H1,I2,q1⟩) hf
def Zx13(to ti te:TE)(tget:V->V->Hp->VK->Prop)(tip:TIp)(tset:TSet):TS:=λD σ H=>to σ H λo H1=>ti σ H1 λi H2=>tget o i H2 λx H3=>te σ H3 λy H4=>tip x y H4 λz H5=>tset o i z H5 λH6=>D.nx σ H6
def PGet(X:Cx)(t:V->V->Hp->VK->Prop):Prop :=
 ∀(pins:List (Addr × Obj)) (s:Shared) (σ:St) (H:Hp) (o i:V) (ov iv:Value) (Q:VK),Inv X pins σ H s->RelV o ov->RelV i iv->t o i H Q ->
  wpAny (model X.prog X.w) X.A (getItem ov iv) (EP X pins σ Q) X.xe s
theorem ZA4{o i e:Expr}{to ti te:TE}{tget:V->V->Hp->VK->Prop}{tip:TIp}{tset:TSet}{op:Operator}{tpos:Pos}(ho:PE X o to)(hi:PE X i ti)(hg:PGet X tget)(he:PE X e te)(hp:PIp X op tip)(hs:PSet X tset)
  (ha:∀ ov iv new,augStore i ov iv new=(do holding [new,ov,iv] (setItem ov iv new);release [new,ov,iv] [];pure .next):=by intros;rfl):PS X (.AugAssign (.Subscript o i tpos) op e pos) (Zx13 to ti te tget tip tset):=by intro pins s σ H D I h;refine wpAny_AugAssign_SubscriptAny (thn (ho pins s σ H _ I h) λov s1 hz0=>?_) ha;obtain⟨x1,H1,I1,r1,q1⟩:=hz0;refine thn (hi pins s1 σ H1 _ I1 q1) λiv s2 hz0=>?_;obtain⟨x2,H2,I2,r2,q2⟩:=hz0;refine thn (hg pins s2 σ H2 x1 x2 ov iv _ I2 r1 r2 q2) λold s3 hz0=>?_;obtain⟨x3,H3,I3,r3,q3⟩:=hz0;refine thn (he pins s3 σ H3 _ I3 q3) λv s4 hz0=>?_;obtain⟨x4,H4,I4,r4,q4⟩:=hz0;refine thn (hp pins s4 σ H4 x3 x4 old v _ I4 r3 r4 q4) λnew s5 hz0=>?_;obtain⟨x5,H5,I5,r5,q5⟩:=hz0;exact thn (hs pins s5 σ H5 x1 x2 x5 ov iv new _ I5 r1 r2 r5 q5) λ_ s6 ⟨H6,I6,q6⟩=>⟨σ,H6,I6,q6⟩
def ipI(f:Int->Int->Int):TIp:=λx y H Q=>∃ i j,x=.int i/\y=.int j/\Q (.int (f i j)) H
theorem ZP11:PIp X .Add (ipI λi j=>i+j):=by intro pins s σ H x y v u Q I r1 r2 h;obtain⟨i,j,e1,e2,q⟩:=h;subst e1;subst e2;obtain⟨t,rfl⟩:=r1;obtain⟨t',rfl⟩:=r2;exact iadd_int ⟨.int _,H,I.tok _,⟨_,rfl⟩,q⟩
theorem ZO11:PIp X .Sub (ipI λi j=>i - j):=by intro pins s σ H x y v u Q I r1 r2 h;obtain⟨i,j,e1,e2,q⟩:=h;subst e1;subst e2;obtain⟨t,rfl⟩:=r1;obtain⟨t',rfl⟩:=r2;exact isub_int ⟨.int _,H,I.tok _,⟨_,rfl⟩,q⟩
def Zu12(c:TT)(tb:TS):TS:=λD σ H=>∃ W:Nat->St->Hp->Prop,(∃ m,W m σ H)/\∀ m σ H,W m σ H ->
 c σ H λb H1=>if b=true then ∃ N:St->Hp->Prop,(∀ σ' H',N σ' H'->∃ m',m'<m/\W m' σ' H')/\tb { D with nx:=N,ct:=N,bk:=D.nx } σ H1 else D.nx σ H1
theorem Zg6{c:Expr}{body:List Stmt}{tc:TT}{tb:TS}(hp:PassesOwn (model X.prog X.w) X.A X.env X.xe)(hc:PT X c tc)(hb:PSs X body tb):PS X (.While c body [] pos) (Zu12 tc tb):=by
 intro pins s σ H D I h;obtain⟨W,⟨m0,w0⟩,turn⟩:=h;refine wpAny_While (codeAny_whileLoop (λn s'=>∃ σ' H',Inv X pins σ' H' s'/\W n σ' H') ?_ m0 ⟨σ,H,I,w0⟩);rintro n s1 ⟨σ1,H1,I1,w1⟩;refine Yy16 hp (thn (hc pins s1 σ1 H1 _ I1 (turn n σ1 H1 w1)) λb s2 hz0=>?_);obtain⟨H2,I2,q2⟩:=hz0;cases b with
 | true =>
  obtain⟨N,hN,q2⟩:=q2;rw[if_pos rfl];refine Yy16 hp (thn (hb pins s2 σ1 H2 _ I2 q2) λf s3 q3=>?_);cases f with
  | next =>
   obtain⟨σ3,H3,I3,n3⟩:=q3;obtain⟨m',hm,w3⟩:=hN σ3 H3 n3;exact⟨m',hm,σ3,H3,I3,w3⟩
  | cont =>
   obtain⟨σ3,H3,I3,n3⟩:=q3;obtain⟨m',hm,w3⟩:=hN σ3 H3 n3;exact⟨m',hm,σ3,H3,I3,w3⟩
  | brk=>exact q3
  | ret v=>exact q3
 | false =>
  rw[if_neg Ys];exact Y2u ⟨σ1,H2,I2,q2⟩
end
structure It where
 go:Nat->Hp->Prop
 yld:Nat->Hp->V->Hp->Prop
 stop:Nat->Hp->Prop
def FpOk(X:Cx)(pins:List (Addr × Obj))(H:Hp)(b:Addr):Prop :=
 H b=none/\b≠X.env.locals/\b∉X.fs/\(b∈X.ex\/X.s₀.heap.objs.size<=b)/\(∀ x c,X.env.cells.lookup x=some c->c≠b)/\∀ p∈X.pn++pins,p.1≠b
theorem Inv.fpOk{X:Cx}{pins:List (Addr × Obj)}{σ:St}{H H':Hp}{s:Shared}{b:Addr}(I:Inv X pins σ H s)(hb:s.heap.objs.size<=b)(hn:H' b=none):FpOk X pins H' b:=by
 refine⟨hn,Y0x (Yo I.lt hb),I.nofs hb,.inr (Yt I.sz hb),λx c e z=>?_,λp hp z=>?_⟩
 ·obtain⟨v,q⟩:=I.cell x c e;exact absurd (Yo q.lt (by rw[z];exact hb)) (Y0q _)
 ·exact absurd (Yo (Yn (I.pin p hp).1) (by rw[z];exact hb)) (Y0q _)
structure Turn (P:Program) (w:World) (K:PySem.W.Frag) (tg:Expr) (J:It) (fp:List Addr) (it:Addr) (tn:Nat->Heap->Prop):Prop where
 mem:it∈fp
 obj:∀ i h,tn i h->∀ b∈fp,∃ o,h.get? b=some o/\∀ v,o.data≠.cell v
 keep:∀ i h h',tn i h->(∀ b∈fp,∀ o,h.get? b=some o->h'.get? b=some o)->tn i h'
 item:∀(X:Cx),X.prog=P->X.w=w->X.K=K->X.calm=true->∀(i:Nat) (pins:List (Addr × Obj)) (s:Shared) (σ:St) (H:Hp) (E:Value->Shared->Prop),Inv X pins σ H s->(∀ b∈fp,FpOk X pins H b)->tn i s.heap->J.go i H ->
  wpAny (model P w) X.A (pyNext (.ref it)) (λr s1=>∃ u,r=some u /\
   wpAny (model P w) X.A (letOwnedTupleGo tg (.ref it) u) (λ_ s2=>∃ x H',Inv X pins σ H' s2/\RelV x u/\J.yld i H x H'/\tn (i+1) s2.heap/\∀ b∈fp,H' b=none) E s1) E s
 done:∀(X:Cx),X.prog=P->X.w=w->X.K=K->X.calm=true->∀(i:Nat) (pins:List (Addr × Obj)) (s:Shared) (σ:St) (H:Hp) (E:Value->Shared->Prop),Inv X pins σ H s->(∀ b∈fp,FpOk X pins H b)->tn i s.heap->J.stop i H ->
  wpAny (model P w) X.A (pyNext (.ref it)) (λr s1=>r=none/\Inv X pins σ H s1) E s
 self:∀(A:Around) (i:Nat) (s:Shared) (Q:Value->Shared->Prop) (E:Value->Shared->Prop),tn i s.heap->Q (.ref it) s->wpAny (model P w) A (pyIter (.ref it)) Q E s
abbrev TI:=St->Hp->(It->Hp->Prop)->Prop
def PIE(X:Cx)(pins:List (Addr × Obj))(σ:St)(tg:Expr)(R:It->Hp->Prop)(itv:Value)(s2:Shared):Prop :=
 ∃(it:Addr) (fp:List Addr) (tn:Nat->Heap->Prop) (J:It) (H':Hp),itv=.ref it/\Inv X pins σ H' s2/\Turn X.prog X.w X.K tg J fp it tn/\tn 0 s2.heap/\(∀ b∈fp,FpOk X pins H' b)/\R J H'
def PI(X:Cx)(tg iter:Expr)(wi:TI):Prop :=
 ∀(pins:List (Addr × Obj)) (s:Shared) (σ:St) (H:Hp) (R:It->Hp->Prop),Inv X pins σ H s->wi σ H R ->
  wpAny (model X.prog X.w) X.A (eval iter X.env) (λv s1=>wpAny (model X.prog X.w) X.A (pyIter v) (PIE X pins σ tg R) X.xe s1) X.xe s
theorem Zz513{M:Model}{A:Around}{E:Value->Shared->Prop}{s:Shared}{tg:Expr}{it:Addr}{u:Value}{o:Obj}{n:String}{vs:Array Value}{Q:Unit->Shared->Prop}(ho:s.heap.get? it=some o)(hc:o.cls=.type n)(hd:o.data=.fields vs)
  (hn:["enumerate","zip","dict_itemiterator","dict_reverseitemiterator","odict_iterator","itertools.zip_longest","itertools.pairwise"].contains n=false) (hQ:Q () s):wpAny M A (letOwnedTupleGo tg (.ref it) u) Q E s:=by
 unfold letOwnedTupleGo;cases tg <;> first
  | exact Yi hQ
  | (cases u <;> first
    | exact Yi hQ
    | (refine Yy3 (Y3n ho ?_)
       rw[hc,hd];show wpAny M A (if (["enumerate","zip","dict_itemiterator","dict_reverseitemiterator","odict_iterator","itertools.zip_longest","itertools.pairwise"].contains n && vs[0]? == some (rawInt _))=true then _ else _) Q E s
       rw[if_neg (by intro h;rw[hn,Bool.false_and]at h;cases h)];exact Yi hQ))
def Itl(K:PySem.W.Frag)(a:Addr):It :=
 ⟨λi H=>∃ xs x,SqL K H a xs/\xs[i]?=some x,λi H x H'=>H'=H/\∀ xs,SqL K H a xs->xs[i]?=some x,λi H=>∃ xs,SqL K H a xs/\xs.length<=i⟩
def Itt(K:PySem.W.Frag)(a:Addr):It :=
 ⟨λi H=>∃ xs x,SqT K H a xs/\xs[i]?=some x,λi H x H'=>H'=H/\∀ xs,SqT K H a xs->xs[i]?=some x,λi H=>∃ xs,SqT K H a xs/\xs.length<=i⟩
def Itr(lo:Int)(n:Nat):It:=⟨λi _=>i<n,λi H x H'=>H'=H/\x=.int (lo+i),λi _=>n<=i⟩
theorem Zu4{P:Program}{w:World}{K:PySem.W.Frag}{tg:Expr}(a it:Addr):Turn P w K tg (Itl K a) [it] it (λi h=>h.IsListIter it a i) where
 mem:=by simp
 obj:=λi h st b hb=>by
  have e:b=it:=by simpa using hb
  subst e;obtain⟨o,e,c,d⟩:=st;exact⟨o,e,λv z=>by rw[d]at z;cases z⟩
 keep:=λi h h' st k=>st.at λo e=>k it (by simp) o e
 item:=by
  intro X hP hw hK hc i pins s σ H E I hf st hg;subst hP hw hK;obtain⟨xs,x,hq,hx⟩:=hg;obtain⟨its,rv,p,hz⟩:=I.list hq;obtain⟨u,hu,ru⟩:=rv.get hx;obtain⟨f0,f1,f2,f3,f4,f5⟩:=hf it (by simp);refine wpAny_pyNext_list_item st p.isList (x:=u) (by simpa using hu) λh' st' sb=>?_;have I1:Inv X pins σ H { s with heap:=h' }:=I.turned (t':=s.toks) (λb o hb e=>(sb.2 b hb).trans e) f0 f1 f3 f4 f5
  obtain⟨o,e,c,d⟩:=id st';exact⟨u,rfl,Zz513 (s:={ s with heap:=h' }) e c d (by decide) ⟨x,H,I1,ru,⟨rfl,λys hy=>by rw[I.list_inj hy hq];exact hx⟩,st',λb hb=>(hf b hb).1⟩⟩
 done:=by
  intro X hP hw hK hc i pins s σ H E I hf st hg;subst hP hw hK;obtain⟨xs,hq,hx⟩:=hg;obtain⟨its,rv,p,hz⟩:=I.list hq;obtain⟨f0,f1,f2,f3,f4,f5⟩:=hf it (by simp);have hl:=rv.length
  exact wpAny_pyNext_list_end (I.ok.hd hc) st p.isList (by simp;omega) λh' eb=>⟨rfl,I.turned (t':=s.toks) (λb o hb e=>eb b o hb e) f0 f1 f3 f4 f5⟩
 self:=λ_ _ _ _ _ st h=>wpAny_pyIter_listiter st h
theorem Zs3{P:Program}{w:World}{K:PySem.W.Frag}{tg:Expr}(a it:Addr):Turn P w K tg (Itt K a) [it] it (λi h=>h.IsTupleIter it a i) where
 mem:=by simp
 obj:=λi h st b hb=>by
  have e:b=it:=by simpa using hb
  subst e;obtain⟨o,e,c,d⟩:=st;exact⟨o,e,λv z=>by rw[d]at z;cases z⟩
 keep:=λi h h' st k=>st.at λo e=>k it (by simp) o e
 item:=by
  intro X hP hw hK hc i pins s σ H E I hf st hg;subst hP hw hK;obtain⟨xs,x,hq,hx⟩:=hg;obtain⟨its,rv,p,hz⟩:=I.tuple hq;obtain⟨u,hu,ru⟩:=rv.get hx;obtain⟨f0,f1,f2,f3,f4,f5⟩:=hf it (by simp);refine wpAny_pyNext_tuple_item st (show s.heap.IsTuple a its.toArray from p) (x:=u) (by simpa using hu) λh' st' sb=>?_;have I1:Inv X pins σ H { s with heap:=h' }:=I.turned (t':=s.toks) (λb o hb e=>(sb.2 b hb).trans e) f0 f1 f3 f4 f5
  obtain⟨o,e,c,d⟩:=id st';exact⟨u,rfl,Zz513 (s:={ s with heap:=h' }) e c d (by decide) ⟨x,H,I1,ru,⟨rfl,λys hy=>by rw[I.tuple_inj hy hq];exact hx⟩,st',λb hb=>(hf b hb).1⟩⟩
 done:=by
  intro X hP hw hK hc i pins s σ H E I hf st hg;subst hP hw hK;obtain⟨xs,hq,hx⟩:=hg;obtain⟨its,rv,p,hz⟩:=I.tuple hq;obtain⟨f0,f1,f2,f3,f4,f5⟩:=hf it (by simp);have hl:=rv.length
  exact wpAny_pyNext_tuple_end (I.ok.hd hc) st (show s.heap.IsTuple a its.toArray from p) (by simp;omega) λh' eb=>⟨rfl,I.turned (t':=s.toks) (λb o hb e=>eb b o hb e) f0 f1 f3 f4 f5⟩
 self:=λ_ _ _ _ _ st h=>wpAny_pyIter_tupleiter st h
theorem ZV5{P:Program}{w:World}{K:PySem.W.Frag}{tg:Expr}(it:Addr)(lo:Int)(n:Nat):Turn P w K tg (Itr lo n) [it] it (λi h=>IsRangeIter h it (lo+(i:Nat) * 1) ((n:Int) - (i:Nat)) 1) where
 mem:=by simp
 obj:=λi h st b hb=>by
  have e:b=it:=by simpa using hb
  subst e;exact⟨_,st,λv z=>by have z':Data.fields _=Data.cell v:=z;cases z'⟩
 keep:=λi h h' st k=>k it (by simp) _ st
 item:=by
  intro X hP hw hK hc i pins s σ H E I hf st hg;subst hP hw hK;obtain⟨f0,f1,f2,f3,f4,f5⟩:=hf it (by simp);have W:=Walks.range (prog:=X.prog) (w:=X.w) (I.ok.hd hc) it lo 1 n
  refine W.item i s _ _ hg st λv h' tk hv st' kk=>?_;obtain⟨t,rfl⟩:=hv;have I1:Inv X pins σ H { s with heap:=h',toks:=tk }:=I.turned (λb o hb e=>kk b o (by simpa using hb) e) f0 f1 f3 f4 f5
  refine⟨_,rfl,Zz513 (s:={ s with heap:=h',toks:=tk }) (n:="range_iterator") st' rfl rfl (by decide) ⟨.int (lo+i),H,I1,⟨t,?_⟩,⟨rfl,rfl⟩,st',λb hb=>(hf b hb).1⟩⟩;rw[Y1i]
 done:=by intro X hP hw hK hc i pins s σ H E I hf st hg;subst hP hw hK;obtain⟨f0,f1,f2,f3,f4,f5⟩:=hf it (by simp);exact wpAny_pyNext_range_end (I.ok.hd hc) st (by have:n<=i:=hg;omega) λh' eb=>⟨rfl,I.turned (t':=s.toks) (λb o hb e=>eb b o hb e) f0 f1 f3 f4 f5⟩
 self:=λ_ _ _ _ _ st h=>wpAny_pyIter_rangeiter st h
section
variable{X:Cx}{tg:Expr}
def Zl13(K:PySem.W.Frag)(tl:TE):TI:=λσ H R=>tl σ H λx H1=>∃ a,x=.ref a/\(∃ xs,SqL K H1 a xs)/\R (Itl K a) H1
def iTup(K:PySem.W.Frag)(tl:TE):TI:=λσ H R=>tl σ H λx H1=>∃ a,x=.ref a/\(∃ xs,SqT K H1 a xs)/\R (Itt K a) H1
theorem Zo11{l:Expr}{tl:TE}(hl:PE X l tl):PI X tg l (Zl13 X.K tl):=by
 intro pins s σ H R I h;refine thn (hl pins s σ H _ I h) λv s1 hz0=>?_;obtain⟨x,H1,I1,r1,q1⟩:=hz0;obtain⟨a,e,⟨xs,hq⟩,q⟩:=q1;subst e;cases r1;obtain⟨its,rv,p,hz⟩:=I1.list hq;refine Y2a p.isList ?_;refine⟨s1.heap.objs.size,[s1.heap.objs.size],_,_,H1,rfl,I1.kept (t':=s1.toks) λb o e=>Yy5 _ e,Zu4 a _,⟨_,Ym _ rfl,rfl,rfl⟩,λb hb=>?_,q⟩;have e:b=s1.heap.objs.size:=by simpa using hb
 subst e;exact I1.fpOk (Yy8 _) (I1.hok.fresh (Yy8 _))
theorem ZK12{l:Expr}{tl:TE}(hl:PE X l tl):PI X tg l (iTup X.K tl):=by
 intro pins s σ H R I h;refine thn (hl pins s σ H _ I h) λv s1 hz0=>?_;obtain⟨x,H1,I1,r1,q1⟩:=hz0;obtain⟨a,e,⟨xs,hq⟩,q⟩:=q1;subst e;cases r1;obtain⟨its,rv,p,hz⟩:=I1.tuple hq;refine wpAny_pyIter_tuple (show s1.heap.IsTuple a its.toArray from p) ?_;refine⟨s1.heap.objs.size,[s1.heap.objs.size],_,_,H1,rfl,I1.kept (t':=s1.toks) λb o e=>Yy5 _ e,Zs3 a _,⟨_,Ym _ rfl,rfl,rfl⟩,λb hb=>?_,q⟩;have e:b=s1.heap.objs.size:=by simpa using hb
 subst e;exact I1.fpOk (Yy8 _) (I1.hok.fresh (Yy8 _))
theorem Zv9{pins:List (Addr × Obj)}{σ:St}{H:Hp}{s:Shared}{R:It->Hp->Prop}{E:Value->Shared->Prop}{lo hi:Int}{t u v:Tok}{tk:Nat}(I:Inv X pins σ H s)(h1:-(2 ^ 62)<=lo)(h2:lo<2 ^ 62)(h3:-(2 ^ 62)<=hi)(h4:hi<2 ^ 62)
  (q:R (Itr lo (hi - lo).toNat) H):wpAny (model X.prog X.w) X.A (pyIter (.ref s.heap.objs.size)) (PIE X pins σ tg R) E { s with heap:=s.heap.push { cls:=.type "range",data:=.fields #[.int lo t,.int hi u,.int 1 v] },toks:=tk }:=by
 refine wpAny_pyIter_range (IsRange.new ..) (small_one h1 h2 h3 h4) ?_;have I1:Inv X pins σ H { s with heap:=s.heap.push { cls:=.type "range",data:=.fields #[.int lo t,.int hi u,.int 1 v] },toks:=tk }:=I.kept λb o e=>Yy5 _ e
 refine⟨(s.heap.push { cls:=.type "range",data:=.fields #[.int lo t,.int hi u,.int 1 v] }).objs.size,[(s.heap.push { cls:=.type "range",data:=.fields #[.int lo t,.int hi u,.int 1 v] }).objs.size],_,_,H,rfl,
  I1.kept (t':=tk) λb o e=>Yy5 _ e,ZV5 _ lo (hi - lo).toNat,?_,λb hb=>?_,q⟩
 ·have e1:lo+((0:Nat):Int) * 1=lo:=by simp
  have e2:(((hi - lo).toNat:Nat):Int) - ((0:Nat):Int)=Builtin.Range.rangeSize lo hi 1:=by rw[rangeSize_one];split <;> omega
  show IsRangeIter _ _ (lo+((0:Nat):Int) * 1) ((((hi - lo).toNat:Nat):Int) - ((0:Nat):Int)) 1;rw[e1,e2];exact Ym _ rfl
 ·have e:b=(s.heap.push { cls:=.type "range",data:=.fields #[.int lo t,.int hi u,.int 1 v] }).objs.size:=by simpa using hb
  subst e;exact I1.fpOk (Yy8 _) (I1.hok.fresh (Yy8 _))
def ZM13(ta:TA):TI:=λσ H R=>ta σ H λvs H1=>∃ j:Int,vs=[.int j]/\-(2 ^ 62)<=j/\j<2 ^ 62/\R (Itr 0 j.toNat) H1
theorem ZA1 {a:Expr} {ta:TA} {p pos:Pos} (hg:Gl X "range") (hm:X.mg "range"=none) (ha:PA X [a] ta) (hs:starEach [a] X.env=[(false,eval a X.env)]:=by rfl):PI X tg (.Call (.Name "range" p) [a] [] pos) (ZM13 ta):=by
 intro pins s σ H R I h;refine Call_ (Zu2 I hg hm boot_range (Y0c (thn (ha pos pins s σ H _ I h) λus s1 hz0=>?_) hs rfl));obtain⟨vs,H1,I1,r1,q1⟩:=hz0;obtain⟨j,e,q1,q2,q⟩:=q1;subst e;cases r1 with
 | cons r rr =>
  cases rr;obtain⟨t,rfl⟩:=r;exact call_range_1 (Zv9 I1 (by omega) (by omega) q1 q2 (by simpa using q))
def tFor(wi:TI)(g:TG)(tb:TS):TS:=λD σ H=>wi σ H λJ H1=>∃ W:Nat->Nat->St->Hp->Prop,(∃ m,W 0 m σ H1)/\∀ i m σ H,W i m σ H ->
 (J.stop i H/\D.nx σ H)\/(J.go i H/\∃ N:St->Hp->Prop,(∀ σ' H',N σ' H'->∃ m',m'<m/\W (i+1) m' σ' H')/\∀ x H',J.yld i H x H'->g x σ H' λσ2 H2=>tb { D with nx:=N,ct:=N,bk:=D.nx } σ2 H2)
def Zz23(fp:List Addr)(h:Heap):List (Addr × Obj):=fp.filterMap λb=>(h.get? b).map λo=>(b,o)
theorem ZU1{fp:List Addr}{h:Heap}{b:Addr}{o:Obj}(hb:b∈fp)(e:h.get? b=some o):(b,o)∈Zz23 fp h:=List.mem_filterMap.mpr ⟨b,hb,by rw[e];rfl⟩
theorem ZD4{fp:List Addr}{h:Heap}{p:Addr × Obj}(hp:p∈Zz23 fp h):p.1∈fp/\h.get? p.1=some p.2:=by
 obtain⟨b,hb,e⟩:=List.mem_filterMap.mp hp;cases q:h.get? b with
 | none=>rw[q]at e;cases e
 | some o =>
  rw[q]at e;have e':(b,o)=p:=Yh e
  subst e';exact⟨hb,q⟩
theorem Inv.pinned{pins:List (Addr × Obj)}{σ:St}{H:Hp}{s:Shared}{fp:List Addr}(I:Inv X pins σ H s)(hf:∀ b∈fp,FpOk X pins H b)(ho:∀ b∈fp,∃ o,s.heap.get? b=some o/\∀ v,o.data≠.cell v):Inv X (pins++Zz23 fp s.heap) σ H s :=
 I.pins_of λp hp=>(Yy7.mp hp).elim (λz=>I.pin p (Yd _ z)) λz=>by obtain⟨hb,e⟩:=ZD4 z;obtain⟨f0,f1,f2,_⟩:=hf p.1 hb;obtain⟨o,e',d⟩:=ho p.1 hb;rw[e]at e';cases e';exact⟨e,f0,f1,f2,d⟩
theorem Inv.unpinned{pins pl:List (Addr × Obj)}{σ:St}{H:Hp}{s:Shared}(I:Inv X (pins++pl) σ H s):Inv X pins σ H s:=I.pins_of λp hp=>I.pin p (Yd _ (Yc _ hp))
theorem ZP1{iter:Expr}{body:List Stmt}{wi:TI}{g:TG}{tb:TS}{pos:Pos}(hp:PassesOwn (model X.prog X.w) X.A X.env X.xe)(hc:X.calm=true)(hi:PI X tg iter wi)(hg:PG X tg g)(hb:PSs X body tb)
  (hs:∀ x,foldedSetIterable iter X.env x=pure x:=by intro _;rfl):PS X (.For tg iter body [] pos) (tFor wi g tb):=by
 intro pins s σ H D I h;refine wpAny_For (thn (hi pins s σ H _ I h) λv s1 h1=>thn h1 λitv s2 h2=>?_) hs;obtain⟨it,fp,tn,J,H2,e,I2,T,st2,f2,W,⟨m0,w0⟩,turn⟩:=h2;subst e;have stat:∀ {H':Hp},(∀ b∈fp,H' b=none)->∀ b∈fp,FpOk X pins H' b:=λhn b hb=>⟨hn b hb,(f2 b hb).2⟩
 refine codeAny_forLoop_any (λn s'=>∃ i σ' H',Inv X pins σ' H' s'/\tn i s'.heap/\(∀ b∈fp,H' b=none)/\W i n σ' H') ?_ m0 ⟨0,σ,H2,I2,st2,λb hb=>(f2 b hb).1,w0⟩;rintro n s3 ⟨i,σ3,H3,I3,st3,fr3,w3⟩;rcases turn i n σ3 H3 w3 with ⟨stop,qn⟩ | ⟨go,N,hN,step⟩
 ·refine Yy16 hp (thn (T.done X rfl rfl rfl hc i pins s3 σ3 H3 X.xe I3 (stat fr3) st3 stop) λr s4 ⟨hr,I4⟩=>?_);subst hr;exact Y2u ⟨σ3,H3,I4,qn⟩
 ·refine Yy16 hp (thn (T.item X rfl rfl rfl hc i pins s3 σ3 H3 X.xe I3 (stat fr3) st3 go) λr s4 hz0=>?_);obtain⟨u,hr,h4⟩:=hz0;subst hr;refine Yy16 hp (thn h4 λ_ s5 hz0=>?_);obtain⟨x,H5,I5,r5,y5,st5,fr5⟩:=hz0;have I5':=I5.pinned (stat fr5) (T.obj _ _ st5)
  refine Yy16 hp (thn (hg _ s5 σ3 H5 x u _ I5' r5 (step x H5 y5)) λ_ s6 hz0=>?_);obtain⟨σ6,H6,I6,q6⟩:=hz0;refine Yy16 hp (thn (hb _ s6 σ6 H6 _ I6 q6) λf s7 q7=>?_);have again:∀ {σ7:St} {H7:Hp},Inv X (pins++Zz23 fp s5.heap) σ7 H7 s7->N σ7 H7->∃ m,m<n/\∃ i σ' H',Inv X pins σ' H' s7/\tn i s7.heap/\(∀ b∈fp,H' b=none)/\W i m σ' H':=λ{σ7 H7} I7 n7=>by obtain⟨m',hm,w7⟩:=hN σ7 H7 n7;refine⟨m',hm,i+1,σ7,H7,I7.unpinned,T.keep _ _ _ st5 λb hb o e=>(I7.pin (b,o) (Yd _ (Yd _ (ZU1 hb e)))).1,λb hb=>?_,w7⟩;obtain⟨o,e,d⟩:=T.obj _ _ st5 b hb;exact(I7.pin (b,o) (Yd _ (Yd _ (ZU1 hb e)))).2.1
  cases f with
  | next=>obtain⟨σ7,H7,I7,n7⟩:=q7;exact again I7 n7
  | cont=>obtain⟨σ7,H7,I7,n7⟩:=q7;exact again I7 n7
  | brk=>obtain⟨σ7,H7,I7,q7⟩:=q7;exact⟨σ7,H7,I7.unpinned,q7⟩
  | ret v=>obtain⟨x7,σ7,H7,I7,r7,q7⟩:=q7;exact⟨x7,σ7,H7,I7.unpinned,r7,q7⟩
end
theorem Ze4{K:PySem.W.Frag}{a:Addr}{xs:List V}{g:TG}{tb:TS}{D:Ends}{σ:St}{H:Hp}(Pv:Nat->St->Hp->Prop)(h0:Pv 0 σ H)(hl:∀ i σ H,i<=xs.length->Pv i σ H->SqL K H a xs)
  (hs:∀ i x σ H,xs[i]?=some x->Pv i σ H->g x σ H λσ2 H2=>tb { D with nx:=Pv (i+1),ct:=Pv (i+1),bk:=D.nx } σ2 H2) (hd:∀ σ H,Pv xs.length σ H->D.nx σ H) :
  ∃ W:Nat->Nat->St->Hp->Prop,(∃ m,W 0 m σ H)/\∀ i m σ H,W i m σ H ->
   ((Itl K a).stop i H/\D.nx σ H)\/((Itl K a).go i H/\∃ N:St->Hp->Prop,(∀ σ' H',N σ' H'->∃ m',m'<m/\W (i+1) m' σ' H')/\∀ x H',(Itl K a).yld i H x H'->g x σ H' λσ2 H2=>tb { D with nx:=N,ct:=N,bk:=D.nx } σ2 H2):=by
 refine⟨λi m σ H=>m=xs.length - i/\i<=xs.length/\Pv i σ H,⟨xs.length,by simp,Yl _,h0⟩,?_⟩;rintro i m σ H ⟨rfl,hi,p⟩;have q:=hl i σ H hi p
 by_cases hlt:i<xs.length
 ·refine .inr ⟨⟨xs,xs[i],q,by simp[hlt]⟩,Pv (i+1),λσ' H' p'=>⟨xs.length - (i+1),by omega,rfl,hlt,p'⟩,λx H' y=>?_⟩;obtain⟨e,y⟩:=y;subst e;exact hs i x σ _ (y xs q) p
 ·have e:i=xs.length:=by omega
  subst e;exact .inl ⟨⟨xs,q,Yy8 _⟩,hd σ H p⟩
theorem ZX8{K:PySem.W.Frag}{a:Addr}{xs:List V}{g:TG}{tb:TS}{D:Ends}{σ:St}{H:Hp}(Pv:Nat->St->Hp->Prop)(h0:Pv 0 σ H)(hl:∀ i σ H,i<=xs.length->Pv i σ H->SqT K H a xs)
  (hs:∀ i x σ H,xs[i]?=some x->Pv i σ H->g x σ H λσ2 H2=>tb { D with nx:=Pv (i+1),ct:=Pv (i+1),bk:=D.nx } σ2 H2) (hd:∀ σ H,Pv xs.length σ H->D.nx σ H) :
  ∃ W:Nat->Nat->St->Hp->Prop,(∃ m,W 0 m σ H)/\∀ i m σ H,W i m σ H ->
   ((Itt K a).stop i H/\D.nx σ H)\/((Itt K a).go i H/\∃ N:St->Hp->Prop,(∀ σ' H',N σ' H'->∃ m',m'<m/\W (i+1) m' σ' H')/\∀ x H',(Itt K a).yld i H x H'->g x σ H' λσ2 H2=>tb { D with nx:=N,ct:=N,bk:=D.nx } σ2 H2):=by
 refine⟨λi m σ H=>m=xs.length - i/\i<=xs.length/\Pv i σ H,⟨xs.length,by simp,Yl _,h0⟩,?_⟩;rintro i m σ H ⟨rfl,hi,p⟩;have q:=hl i σ H hi p
 by_cases hlt:i<xs.length
 ·refine .inr ⟨⟨xs,xs[i],q,by simp[hlt]⟩,Pv (i+1),λσ' H' p'=>⟨xs.length - (i+1),by omega,rfl,hlt,p'⟩,λx H' y=>?_⟩;obtain⟨e,y⟩:=y;subst e;exact hs i x σ _ (y xs q) p
 ·have e:i=xs.length:=by omega
  subst e;exact .inl ⟨⟨xs,q,Yy8 _⟩,hd σ H p⟩
theorem ZW4{lo:Int}{n:Nat}{g:TG}{tb:TS}{D:Ends}{σ:St}{H:Hp}(Pv:Nat->St->Hp->Prop)(h0:Pv 0 σ H)
  (hs:∀ i σ H,i<n->Pv i σ H->g (.int (lo+i)) σ H λσ2 H2=>tb { D with nx:=Pv (i+1),ct:=Pv (i+1),bk:=D.nx } σ2 H2) (hd:∀ σ H,Pv n σ H->D.nx σ H) :
  ∃ W:Nat->Nat->St->Hp->Prop,(∃ m,W 0 m σ H)/\∀ i m σ H,W i m σ H ->
   ((Itr lo n).stop i H/\D.nx σ H)\/((Itr lo n).go i H/\∃ N:St->Hp->Prop,(∀ σ' H',N σ' H'->∃ m',m'<m/\W (i+1) m' σ' H')/\∀ x H',(Itr lo n).yld i H x H'->g x σ H' λσ2 H2=>tb { D with nx:=N,ct:=N,bk:=D.nx } σ2 H2):=by
 refine⟨λi m σ H=>m=n - i/\i<=n/\Pv i σ H,⟨n,by simp,Yl _,h0⟩,?_⟩;rintro i m σ H ⟨rfl,hi,p⟩;by_cases hlt:i<n
 ·refine .inr ⟨hlt,Pv (i+1),λσ' H' p'=>⟨n - (i+1),by omega,rfl,hlt,p'⟩,λx H' y=>?_⟩;obtain⟨e,y⟩:=y;subst e y;exact hs i σ _ hlt p
 ·have e:i=n:=by omega
  subst e;exact .inl ⟨Yy8 _,hd σ H p⟩
abbrev R2:=V->V->Hp->VK->Prop
def OpR(X:Cx)(f:Value->Value->Sem Value)(r:R2):Prop :=
 ∀(pins:List (Addr × Obj)) (s:Shared) (σ:St) (H:Hp) (x y:V) (v u:Value) (Q:VK),Inv X pins σ H s->RelV x v->RelV y u->r x y H Q ->
  wpAny (model X.prog X.w) X.A (f v u) (EP X pins σ Q) X.xe s
def UnR(X:Cx)(f:Value->Sem Value)(r:V->Hp->VK->Prop):Prop :=
 ∀(pins:List (Addr × Obj)) (s:Shared) (σ:St) (H:Hp) (x:V) (v:Value) (Q:VK),Inv X pins σ H s->RelV x v->r x H Q ->
  wpAny (model X.prog X.w) X.A (f v) (EP X pins σ Q) X.xe s
def ZX3(X:Cx)(f:Value)(r:List V->Hp->VK->Prop):Prop :=
 ∀(pins:List (Addr × Obj)) (s:Shared) (σ:St) (H:Hp) (xs:List V) (us:List Value) (Q:VK),Inv X pins σ H s->Vals xs us->r xs H Q ->
  wpAny (model X.prog X.w) X.A (call f us) (EP X pins σ Q) X.xe s
def tOp(r:R2)(ta tb:TE):TE:=λσ H Q=>ta σ H λx H1=>tb σ H1 λy H2=>r x y H2 Q
def tUn(r:V->Hp->VK->Prop)(ta:TE):TE:=λσ H Q=>ta σ H λx H1=>r x H1 Q
def rI(C:Int->Int->Prop)(g:Int->Int->V):R2:=λx y H Q=>∃ i j,x=.int i/\y=.int j/\C i j/\Q (g i j) H
def rI0(g:Int->Int->V):R2:=λx y H Q=>∃ i j,x=.int i/\y=.int j/\Q (g i j) H
def rU(g:Int->V):V->Hp->VK->Prop:=λx H Q=>∃ i,x=.int i/\Q (g i) H
section
variable{X:Cx}{a b:Expr}{ta tb:TE}{pos:Pos}
theorem binT(ha:PE X a ta)(hb:PE X b tb){pins:List (Addr × Obj)}{s:Shared}{σ:St}{H:Hp}{R:V->V->Hp->Prop}(I:Inv X pins σ H s)
  (h:ta σ H λx H1=>tb σ H1 λy H2=>R x y H2) {Q:Value->Shared->Prop} {f:Value->Value->Sem Value}
  (hf:∀ v u s2 x y H2,Inv X pins σ H2 s2->RelV x v->RelV y u->R x y H2->wpAny (model X.prog X.w) X.A (f v u) Q X.xe s2) :
  wpAny (model X.prog X.w) X.A (eval a X.env) (λv s₁=>wpAny (model X.prog X.w) X.A (eval b X.env) (λu s₂=>wpAny (model X.prog X.w) X.A (f v u) Q X.xe s₂) X.xe s₁) X.xe s:=by refine thn (ha pins s σ H _ I h) λv s1 hz0=>?_;obtain⟨x,H1,I1,r1,q1⟩:=hz0;refine thn (hb pins s1 σ H1 _ I1 q1) λu s2 hz0=>?_;obtain⟨y,H2,I2,r2,q2⟩:=hz0;exact hf v u s2 x y H2 I2 r1 r2 q2
theorem Zq{op:Operator}{r:R2}(ho:OpR X (binaryOp op) r)(ha:PE X a ta)(hb:PE X b tb):PE X (.BinOp a op b pos) (tOp r ta tb):=by intro pins s σ H Q I h;exact wpAny_BinOp (binT ha hb I h λv u s2 x y H2 I2 rx ry q=>ho pins s2 σ H2 x y v u Q I2 rx ry q)
theorem Zj13{op:UnaryOp}{r:V->Hp->VK->Prop}(ho:UnR X (unaryOp op) r)(ha:PE X a ta):PE X (.UnaryOp op a pos) (tUn r ta):=by intro pins s σ H Q I h;exact UnaryOp_ (thn (ha pins s σ H _ I h) λv s1 ⟨x,H1,I1,r1,q1⟩=>ho pins s1 σ H1 x v Q I1 r1 q1)
theorem opI{f:Value->Value->Sem Value}{C:Int->Int->Prop}{g:Int->Int->Int}
  (rule:∀(i j:Int) (t u:Tok) (s:Shared) (Q:Value->Shared->Prop) (E:Value->Shared->Prop),C i j->Q (.int (g i j) s.toks) { s with toks:=s.toks+1 }->wpAny (model X.prog X.w) X.A (f (.int i t) (.int j u)) Q E s) :
  OpR X f (rI C λi j=>.int (g i j)):=by intro pins s σ H x y v u Q I rx ry h;obtain⟨i,j,rfl,rfl,hc,q⟩:=h;obtain⟨t,rfl⟩:=rx;obtain⟨t',rfl⟩:=ry;exact rule i j t t' s _ _ hc ⟨.int (g i j),H,I.tok _,⟨_,rfl⟩,q⟩
theorem opI0{f:Value->Value->Sem Value}{g:Int->Int->Int}
  (rule:∀(i j:Int) (t u:Tok) (s:Shared) (Q:Value->Shared->Prop) (E:Value->Shared->Prop),Q (.int (g i j) s.toks) { s with toks:=s.toks+1 }->wpAny (model X.prog X.w) X.A (f (.int i t) (.int j u)) Q E s) :
  OpR X f (rI0 λi j=>.int (g i j)):=by intro pins s σ H x y v u Q I rx ry h;obtain⟨i,j,rfl,rfl,q⟩:=h;obtain⟨t,rfl⟩:=rx;obtain⟨t',rfl⟩:=ry;exact rule i j t t' s _ _ ⟨.int (g i j),H,I.tok _,⟨_,rfl⟩,q⟩
theorem opB0{f:Value->Value->Sem Value}{g:Int->Int->Bool}
  (rule:∀(i j:Int) (t u:Tok) (s:Shared) (Q:Value->Shared->Prop) (E:Value->Shared->Prop),Q (.bool (g i j)) s->wpAny (model X.prog X.w) X.A (f (.int i t) (.int j u)) Q E s) :
  OpR X f (rI0 λi j=>.bl (g i j)):=by intro pins s σ H x y v u Q I rx ry h;obtain⟨i,j,rfl,rfl,q⟩:=h;obtain⟨t,rfl⟩:=rx;obtain⟨t',rfl⟩:=ry;exact rule i j t t' s _ _ ⟨.bl (g i j),H,I,rfl,q⟩
def CDiv(i j:Int):Prop:=0<j/\j<1073741824
def CPow(i j:Int):Prop:=0<=j/\j<=1000000/\i.natAbs<2 ^ 64
def CMul(i j:Int):Prop:=(-(2 ^ 64)<i/\i<2 ^ 64)\/(-(2 ^ 64)<j/\j<2 ^ 64)
theorem CMul.ok{i j:Int}(h:CMul i j):IntMulOk i j:=by
 rcases h with ⟨h1,h2⟩ | ⟨h1,h2⟩
 ·exact .of_left (intBits_le_64 h1 h2)
 ·exact .of_right (intBits_le_64 h1 h2)
theorem Ze1:OpR X (binaryOp .Add) (rI0 λi j=>.int (i+j)):=opI0 λ_ _ _ _ _ _ _ q=>add_int q
theorem ZG1:OpR X (binaryOp .Sub) (rI0 λi j=>.int (i - j)):=opI0 λ_ _ _ _ _ _ _ q=>sub_int q
theorem Zm6:OpR X (binaryOp .Mult) (rI CMul λi j=>.int (i * j)):=opI λ_ _ _ _ _ _ _ hc q=>mul_int q hc.ok
theorem ZS1:OpR X (binaryOp .FloorDiv) (rI CDiv λi j=>.int (i / j)):=opI λi j _ _ _ _ _ hc q=>by
 have h1:(0:Int)<j:=hc.1;have h2:j<1073741824:=hc.2
 exact floordiv_int (by omega) (by rw[Int.fdiv_eq_ediv_of_nonneg i (by omega)];exact q) (.inl (PyProof.noPylong_small (by omega)))
theorem ZQ:OpR X (binaryOp .Mod) (rI (λ_ j=>0<j) λi j=>.int (i % j)):=opI λi j _ _ _ _ _ hc q=>by have h1:(0:Int)<j:=hc;exact mod_int' (by omega) (by rw[Int.fmod_eq_emod_of_nonneg i (by omega)];exact q)
theorem Zz33:OpR X (binaryOp .Pow) (rI CPow λi j=>.int (i ^ j.toNat)):=opI λ_ _ _ _ _ _ _ hc q=>pow_int_small hc.1 hc.2.1 hc.2.2 q
theorem unI{f:Value->Sem Value}{g:Int->Int}
  (rule:∀(i:Int) (t:Tok) (s:Shared) (Q:Value->Shared->Prop) (E:Value->Shared->Prop),Q (.int (g i) s.toks) { s with toks:=s.toks+1 }->wpAny (model X.prog X.w) X.A (f (.int i t)) Q E s) :
  UnR X f (rU λi=>.int (g i)):=by intro pins s σ H x v Q I rx h;obtain⟨i,rfl,q⟩:=h;obtain⟨t,rfl⟩:=rx;exact rule i t s _ _ ⟨.int (g i),H,I.tok _,⟨_,rfl⟩,q⟩
theorem ZS10:UnR X (unaryOp .USub) (rU λi=>.int (-i)):=unI λ_ _ _ _ _ q=>neg_int q
end
def scal:V->V->Bool
 | .non,.non=>true | .non,.int _=>true | .int _,.non=>true | .non,.bl _=>true | .bl _,.non=>true | .non,.str _=>true | .str _,.non=>true
 | .int _,.int _=>true | .bl _,.bl _=>true | .str _,.str _=>true | .byt _,.byt _=>true
 | .int _,.str _=>true | .str _,.int _=>true | .bl _,.str _=>true | .str _,.bl _=>true
 | _,_=>false
def rEq:R2:=λx y H Q=>scal x y=true/\Q (.bl (decide (x=y))) H
def rNe:R2:=λx y H Q=>scal x y=true/\Q (.bl (!decide (x=y))) H
theorem Zx{i j:Int}:decide (V.int i=V.int j)=(i == j):=by rw[Y0o];simp
theorem Zz612{i j:Bool}:decide (V.bl i=V.bl j)=(i == j):=by rw[Y0o];simp
theorem Zz49{i j:Str}:decide (V.str i=V.str j)=(i == j):=by rw[Y0o];simp
theorem Zz59{i j:Array UInt8}:decide (V.byt i=V.byt j)=(i.toList == j.toList):=by rw[Y0o];cases i;cases j;simp
section
variable{X:Cx}{a b c:Expr}{ta tb tc:TE}{pos:Pos}
theorem ZM{pins:List (Addr × Obj)}{σ:St}{H:Hp}{s:Shared}{Q:VK}{k k':Bool}(I:Inv X pins σ H s)(q:Q (.bl k) H)(e:k=k'):EP X pins σ Q (.bool k') s:=by subst e;exact⟨.bl k,H,I,rfl,q⟩
theorem Zq3:OpR X (compareOp .Eq) rEq:=by
 intro pins s σ H x y v u Q I rx ry h;obtain⟨hs,q⟩:=h;cases x with
 | non =>
  cases rx;cases y with
  | non=>cases ry;exact PySem.EqNone.eq_none_none (ZM I q (by simp))
  | bl j=>cases ry;exact PySem.EqNone.eq_none_bool (ZM I q (by simp))
  | int j=>obtain⟨t',rfl⟩:=ry;exact PySem.EqNone.eq_none_int (ZM I q (by simp))
  | str j=>obtain⟨t',rfl⟩:=ry;exact PySem.EqNone.eq_none_str (ZM I q (by simp))
  | _=>exact absurd (show false=true from hs) Ys
 | bl i =>
  cases rx;cases y with
  | non=>cases ry;exact PySem.EqNone.eq_bool_none (ZM I q (by simp))
  | bl j=>cases ry;exact eq_bool (ZM I q Zz612)
  | str j=>obtain⟨t',rfl⟩:=ry;exact PySem.EqMixed.eq_bool_str (ZM I q (by simp))
  | _=>exact absurd (show false=true from hs) Ys
 | int i =>
  obtain⟨t,rfl⟩:=rx;cases y with
  | non=>cases ry;exact PySem.EqNone.eq_int_none (ZM I q (by simp))
  | int j=>obtain⟨t',rfl⟩:=ry;exact eq_int (ZM I q Zx)
  | str j=>obtain⟨t',rfl⟩:=ry;exact PySem.EqMixed.eq_int_str (ZM I q (by simp))
  | _=>exact absurd (show false=true from hs) Ys
 | str i =>
  obtain⟨t,rfl⟩:=rx;cases y with
  | non=>cases ry;exact PySem.EqNone.eq_str_none (ZM I q (by simp))
  | bl j=>cases ry;exact PySem.EqMixed.eq_str_bool (ZM I q (by simp))
  | int j=>obtain⟨t',rfl⟩:=ry;exact PySem.EqMixed.eq_str_int (ZM I q (by simp))
  | str j=>obtain⟨t',rfl⟩:=ry;exact eq_str (ZM I q Zz49)
  | _=>exact absurd (show false=true from hs) Ys
 | byt i =>
  obtain⟨t,rfl⟩:=rx;cases y with
  | byt j=>obtain⟨t',rfl⟩:=ry;exact PySem.W.eq_bytes (ZM I q Zz59)
  | _=>exact absurd (show false=true from hs) Ys
 | _=>cases y <;> exact absurd (show false=true from hs) Ys
theorem ZK5:OpR X (compareOp .NotEq) rNe:=by
 intro pins s σ H x y v u Q I rx ry h;obtain⟨hs,q⟩:=h;cases x with
 | non =>
  cases rx;cases y with
  | non=>cases ry;exact PySem.EqNone.ne_none_none (ZM I q (by simp))
  | bl j=>cases ry;exact PySem.EqNone.ne_none_bool (ZM I q (by simp))
  | int j=>obtain⟨t',rfl⟩:=ry;exact PySem.EqNone.ne_none_int (ZM I q (by simp))
  | str j=>obtain⟨t',rfl⟩:=ry;exact PySem.EqNone.ne_none_str (ZM I q (by simp))
  | _=>exact absurd (show false=true from hs) Ys
 | bl i =>
  cases rx;cases y with
  | non=>cases ry;exact PySem.EqNone.ne_bool_none (ZM I q (by simp))
  | bl j=>cases ry;exact ne_bool (ZM I q (YV not Zz612))
  | str j=>obtain⟨t',rfl⟩:=ry;exact PySem.EqMixed.ne_bool_str (ZM I q (by simp))
  | _=>exact absurd (show false=true from hs) Ys
 | int i =>
  obtain⟨t,rfl⟩:=rx;cases y with
  | non=>cases ry;exact PySem.EqNone.ne_int_none (ZM I q (by simp))
  | int j=>obtain⟨t',rfl⟩:=ry;exact ne_int (ZM I q (YV not Zx))
  | str j=>obtain⟨t',rfl⟩:=ry;exact PySem.EqMixed.ne_int_str (ZM I q (by simp))
  | _=>exact absurd (show false=true from hs) Ys
 | str i =>
  obtain⟨t,rfl⟩:=rx;cases y with
  | non=>cases ry;exact PySem.EqNone.ne_str_none (ZM I q (by simp))
  | bl j=>cases ry;exact PySem.EqMixed.ne_str_bool (ZM I q (by simp))
  | int j=>obtain⟨t',rfl⟩:=ry;exact PySem.EqMixed.ne_str_int (ZM I q (by simp))
  | str j=>obtain⟨t',rfl⟩:=ry;exact ne_str (ZM I q (YV not Zz49))
  | _=>exact absurd (show false=true from hs) Ys
 | byt i =>
  obtain⟨t,rfl⟩:=rx;cases y with
  | byt j=>obtain⟨t',rfl⟩:=ry;exact PySem.W.ne_bytes (ZM I q (YV not Zz59))
  | _=>exact absurd (show false=true from hs) Ys
 | _=>cases y <;> exact absurd (show false=true from hs) Ys
theorem ZI9:OpR X (compareOp .Lt) (rI0 λi j=>.bl (decide (i<j))):=opB0 λ_ _ _ _ _ _ _ q=>lt_int q
theorem Zw11:OpR X (compareOp .LtE) (rI0 λi j=>.bl (decide (i<=j))):=opB0 λ_ _ _ _ _ _ _ q=>le_int q
theorem Zx11:OpR X (compareOp .Gt) (rI0 λi j=>.bl (decide (j<i))):=opB0 λ_ _ _ _ _ _ _ q=>gt_int q
theorem Zy11:OpR X (compareOp .GtE) (rI0 λi j=>.bl (decide (j<=i))):=opB0 λ_ _ _ _ _ _ _ q=>ge_int q
theorem Zn6:OpR X (compareOp .Is) (λx y H Q=>y=.non/\Q (.bl (decide (x=.non))) H):=by
 intro pins s σ H x y v u Q I rx ry h;obtain⟨rfl,q⟩:=h;cases ry;refine is_none_gen (ZM I q ?_);cases x <;> first
  | (cases rx;rfl)
  | (obtain⟨t,rfl⟩:=rx;rfl)
theorem Zp(b:Expr){op:CmpOp}(h:op≠.In:=by decide)(h2:op≠.NotIn:=by decide):behindInMarks op b=false:=by
 have e1:(op == CmpOp.In)=false:=by cases op <;> first | rfl | exact absurd rfl h
 have e2:(op == CmpOp.NotIn)=false:=by cases op <;> first | rfl | exact absurd rfl h2
 cases b <;> simp[behindInMarks,e1,e2]
theorem ZF{op:CmpOp}{r:R2}(ho:OpR X (compareOp op) r)(ha:PE X a ta)(hb:PE X b tb)(hm:behindInMarks op b=false):PE X (.Compare a [op] [b] pos) (tOp r ta tb):=by intro pins s σ H Q I h;exact wpAny_Compare1 (binT ha hb I h λv u s2 x y H2 I2 rx ry q=>ho pins s2 σ H2 x y v u Q I2 rx ry q) hm
def Zg13(t:TE):TT:=λσ H Q=>t σ H λx H'=>∃ k,x=.bl k/\Q k H'
theorem Zf{op:CmpOp}{r:R2}(ho:OpR X (compareOp op) r)(ha:PE X a ta)(hb:PE X b tb)(hm:behindInMarks op b=false):PT X (.Compare a [op] [b] pos) (Zg13 (tOp r ta tb)):=by
 intro pins s σ H Q I h;refine wpAny_isTrue_Compare1 (thn (ha pins s σ H _ I h) λv s1 ⟨x,H1,I1,r1,q1⟩=>thn (hb pins s1 σ H1 _ I1 q1) λu s2 ⟨y,H2,I2,r2,q2⟩ =>
  thn (ho pins s2 σ H2 x y v u _ I2 r1 r2 q2) λc s3 ⟨z,H3,I3,r3,k,e,q3⟩=>?_) hm
 subst e;cases r3;exact Y0m ⟨H3,I3,q3⟩
def Zz011(r r':R2)(ta tb tc:TE):TE:=λσ H Q=>ta σ H λx H1=>tb σ H1 λy H2=>r x y H2 λz H3=>∃ k,z=.bl k /\
 (if k=true then tc σ H3 λw' H4=>r' y w' H4 Q else Q (.bl false) H3)
theorem ZH9{op op':CmpOp}{r r':R2}(ho:OpR X (compareOp op) r)(ho':OpR X (compareOp op') r')(ha:PE X a ta)(hb:PE X b tb)(hc:PE X c tc)
  (hm:lastMarks [op,op'] [b,c]=false:=by with_unfolding_all rfl):PE X (.Compare a [op,op'] [b,c] pos) (Zz011 r r' ta tb tc):=by
 intro pins s σ H Q I h;refine Compare_chain (thn (ha pins s σ H _ I h) λv s1 ⟨x,H1,I1,r1,q1⟩=>chain_link (thn (hb pins s1 σ H1 _ I1 q1) λu s2 ⟨y,H2,I2,r2,q2⟩ =>
  thn (ho pins s2 σ H2 x y v u _ I2 r1 r2 q2) λd s3 ⟨z,H3,I3,r3,k,e,q3⟩=>?_)) hm
 subst e;cases r3;refine Y0m ?_;cases k with
 | false=>exact ite_ff ⟨.bl false,H3,I3,rfl,q3⟩
 | true=>exact ite_tt (chain_last (thn (hc pins s3 σ H3 _ I3 q3) λw' s4 ⟨z',H4,I4,r4,q4⟩=>ho' pins s4 σ H4 y z' u w' Q I4 r2 r4 q4))
theorem Zf6{op op':CmpOp}{r r':R2}(ho:OpR X (compareOp op) r)(ho':OpR X (compareOp op') r')(ha:PE X a ta)(hb:PE X b tb)(hc:PE X c tc)
  (hm:lastMarks [op,op'] [b,c]=false:=by with_unfolding_all rfl):PT X (.Compare a [op,op'] [b,c] pos) (Zg13 (Zz011 r r' ta tb tc)):=by
 intro pins s σ H Q I h;refine isTrue_chain (thn (ha pins s σ H _ I h) λv s1 ⟨x,H1,I1,r1,q1⟩=>test_link (thn (hb pins s1 σ H1 _ I1 q1) λu s2 ⟨y,H2,I2,r2,q2⟩ =>
  thn (ho pins s2 σ H2 x y v u _ I2 r1 r2 q2) λd s3 ⟨z,H3,I3,r3,k,e,q3⟩=>?_)) hm
 subst e;cases r3;refine Y0m ?_;cases k with
 | false =>
  obtain⟨k',e',q'⟩:=q3;cases e';exact ite_ff ⟨H3,I3,q'⟩
 | true =>
  refine ite_tt (test_last (thn (hc pins s3 σ H3 _ I3 q3) λw' s4 ⟨z',H4,I4,r4,q4⟩=>thn (ho' pins s4 σ H4 y z' u w' _ I4 r2 r4 q4) λd' s5 hz0=>?_));obtain⟨z2,H5,I5,r5,k2,e2,q5⟩:=hz0;subst e2;cases r5;exact Y0m ⟨H5,I5,q5⟩
theorem ZF6:(sizeLine:Nat)<2 ^ 63:=by rw[Y0r];decide
theorem ZZ3{x:V}{us:List Value}(r:Vals [x] us):∃ u,us=[u]/\RelV x u:=by
 cases r with
 | cons r1 r2=>cases r2;exact⟨_,rfl,r1⟩
theorem Zt12{x y:V}{us:List Value}(r:Vals [x,y] us):∃ u w',us=[u,w']/\RelV x u/\RelV y w':=by
 cases r with
 | cons r1 r2 =>
  cases r2 with
  | cons r3 r4=>cases r4;exact⟨_,_,rfl,r1,r3⟩
theorem Ze5 (hc:X.calm=true):ZX3 X (.builtin "max") (λxs H Q=>∃ i j,xs=[.int i,.int j]/\Q (.int (if j > i then j else i)) H):=by
 intro pins s σ H xs us Q I r h;obtain⟨i,j,rfl,q⟩:=h;obtain⟨u,w',rfl,⟨t,rfl⟩,⟨t',rfl⟩⟩:=Zt12 r;refine max_two_ints (I.ok.hd hc) λh' tk k=>⟨_,H,I.kept k,?_,q⟩;by_cases hj:j > i
 ·rw[if_pos hj,if_pos hj];exact⟨_,rfl⟩
 ·rw[if_neg hj,if_neg hj];exact⟨_,rfl⟩
theorem Zk3 (hc:X.calm=true):ZX3 X (.builtin "min") (λxs H Q=>∃ i j,xs=[.int i,.int j]/\Q (.int (if j<i then j else i)) H):=by
 intro pins s σ H xs us Q I r h;obtain⟨i,j,rfl,q⟩:=h;obtain⟨u,w',rfl,⟨t,rfl⟩,⟨t',rfl⟩⟩:=Zt12 r;refine min_two_ints (I.ok.hd hc) λh' tk k=>⟨_,H,I.kept k,?_,q⟩;by_cases hj:j<i
 ·rw[if_pos hj,if_pos hj];exact⟨_,rfl⟩
 ·rw[if_neg hj,if_neg hj];exact⟨_,rfl⟩
end
structure ObjM (h:Heap) (x dx C:Addr) (mA:Str->Option Value):Prop where
 obj:h.get? x=some (PySem.W.instObj C dx)
 ns:h.Ns1 dx mA
 ne:dx≠x
theorem ZT7{h:Heap}{dx:Addr}{mA:Str->Option Value}(n:h.Ns1 dx mA):∃ od,h.get? dx=some od/\∀ name,PySem.W.lookIn name od=some (mA name):=by
 obtain⟨o,es,ep,ho,hd,hk,_,hm⟩:=n;refine⟨o,ho,λname=>?_⟩;have e:=hm name
 unfold nsFind findBy at e;rw[<- Array.find?_toList]at e;unfold PySem.W.lookIn;rw[hd];dsimp only;split
 ·rename_i y q;rw[q]at e;exact YV some e
 ·rename_i q;rw[q]at e;have a:es.toList.any (·.refKey)=false:=by rw[List.any_eq_false];intro y hy;obtain⟨z,t,hkey⟩:=hk y (Array.mem_toList_iff.mp hy);simp[DictEntry.refKey,hkey]
  have a':¬ es.toList.any (·.refKey)=true:=by rw[a];exact Ys
  rw[if_neg a'];exact YV some e
theorem ObjM.look{h:Heap}{x dx C:Addr}{mA:Str->Option Value}(I:ObjM h x dx C mA):∃ od,PySem.W.InstAt h x (PySem.W.instObj C dx) C (some od)/\∀ name,PySem.W.lookIn name od=some (mA name) :=
 let ⟨od,ho,hl⟩:=ZT7 I.ns
 ⟨od,⟨I.obj,rfl,rfl,ho⟩,hl⟩
section
variable{prog:Program}{w:World}{A:Around}{E:Value->Shared->Prop}{s:Shared}{K:PySem.W.Frag}{x dx C f:Addr}{mA:Str->Option Value}{name:Str}{v:Value}
theorem ZV11{expr:Bool}{Q:Value->Shared->Prop}(X:K.In s.heap)(I:ObjM s.heap x dx C mA)(hg:PySem.W.plainGet K C name=true)(hh:PySem.W.hasDictIn K C=true)
  (ha:PySem.W.findIn K (.ref C) name=some none) (hv:mA name=some v) (hv':PySem.W.handedIn v=true) (h:Q v { s with toks:=s.toks+1 }) :
  wpAny (model prog w) A (getAttr (.ref x) name expr) Q E s:=by obtain⟨od,J,hl⟩:=I.look;exact PySem.W.get_value X J (PySem.W.plainGet_of hg).1 (PySem.W.findObj_own hh ha rfl (by rw[hl,hv])) hv' h
theorem Zz911{ns:List Str}{Q:Unit->Shared->Prop}(X:K.In s.heap)(I:ObjM s.heap x dx C mA)
  (hs:PySem.W.findIn K (.ref C) "__setattr__"=some (some (.builtin "object.__setattr__"))) (hp:PySem.W.plainOver K C=true) (ht:PySem.W.takerIn K C name=some none) (hh:PySem.W.hasDictIn K C=true)
  (hw:PySem.Within mA ns) (hsz:ns.length<=sizeLine)
  (h:∀ h',ObjM h' x dx C (λy=>if y=name then some v else mA y)->Heap.SameBut dx s.heap h'->Q () { s with heap:=h',toks:=s.toks+2 }) :
  wpAny (model prog w) A (setAttr (.ref x) name v) Q E s:=by
 obtain⟨od,J,hl⟩:=I.look;refine PySem.W.set_plain X J hs (PySem.W.osa_open (s:={ s with toks:=s.toks+1 }) (r:=none) X J hp ht λb=>?_);obtain⟨cd,hc,hd'⟩:=PySem.W.any_some hh;have hx:s.heap.get? x=some ⟨.ref C,some dx,.plain,#[]⟩:=I.obj
 refine Yy3 (Yi (Yy3 (Yy3 (wpAny_loadPart hx (Yy3 (PySem.W.Looks.here (s:={ s with toks:=s.toks+1 }) (PySem.W.looks_clsIn X hc) ?_))))));rw[hd'];refine Yi (a:=some dx) (Yy3 (Yi (Yy3 ?_)));refine wpAny_nsSet1 (s:={ s with toks:=s.toks+1 }) I.ns λh' hn2 hs2=>?_;obtain⟨oD,esD,epD,hoD,hdD,hcD⟩:=hn2.count (PySem.Within.cons name v hw);refine Yy3 (wpAny_lookBehind hoD (by rw[hdD];exact pastItsLine_dict (Yt hcD (by rw[YD];omega))) ?_);exact Yi (h _ ⟨(hs2.2 _ (YY I.ne)).trans I.obj,hn2,I.ne⟩ hs2)
theorem ZQ9{R:Result->Shared->Prop}{vs:List Value}{kw:List (Str × Value)}(X:K.In s.heap)(hm:PySem.W.makesIn K C=true)
  (hi:PySem.W.findIn K (.ref C) "__init__"=some (some (.ref f))) (hf:PySem.W.typeIn K (.ref f)=some (.type "function"))
  (h:codeAny (model prog w) (A.under (.builtin "type.__call__" ⟨.ref C :: vs,kw⟩)) (.call (.ref f) ⟨.ref (s.heap.objs.size+1) :: vs,kw⟩) (PySem.W.InitBack (s.heap.objs.size+1) R)
   { s with heap:=(s.heap.push PySem.W.emptyDict).push (PySem.W.instObj C s.heap.objs.size) }) :
  codeAny (model prog w) A (.call (.ref C) ⟨vs,kw⟩) R s:=by obtain⟨hh,g,d,t,os⟩:=s;exact PySem.W.make_core (PySem.W.makes_of X hm) (PySem.W.looks_findIn X hi) (λself=>PySem.W.bind_fn X self hf) (.inl rfl) h
end
def putF(f:Str)(v:V):List (Str × V)->List (Str × V)
 | []=>[(f,v)]
 | (g,x) :: r=>if g=f then (g,v) :: r else (g,x) :: putF f v r
theorem Zg1(f g:Str)(v:V):∀ fs:List (Str × V),(putF f v fs).lookup g=if g=f then some v else fs.lookup g
 | []=>by
  show List.lookup g [(f,v)]=_;by_cases h:g=f
  ·have hb:(g == f)=true:=Y0U.mpr h;simp only [List.lookup,hb,if_pos h]
  ·have hb:(g == f)=false:=Yy17.mpr h;simp only [List.lookup,hb,if_neg h]
 | (k,x) :: r=>by
  have ih:=Zg1 f g v r;rw[show putF f v ((k,x) :: r)=(if k=f then (k,v) :: r else (k,x) :: putF f v r) from rfl];by_cases hk:k=f
  ·rw[if_pos hk];by_cases h:g=k
   ·have hb:(g == k)=true:=Y0U.mpr h;simp only [List.lookup,hb,if_pos (h.trans hk)]
   ·have hb:(g == k)=false:=Yy17.mpr h;simp only [List.lookup,hb,if_neg (λe:g=f=>h (e.trans hk.symm))]
  ·rw[if_neg hk];by_cases h:g=k
   ·have hb:(g == k)=true:=Y0U.mpr h;simp only [List.lookup,hb,if_neg (λe:g=f=>hk (h.symm.trans e))]
   ·have hb:(g == k)=false:=Yy17.mpr h;simp only [List.lookup,hb];exact ih
theorem Zb3(f:Str)(v:V):∀ fs:List (Str × V),f∈(putF f v fs).map (·.1)/\∀ g,g∈fs.map (·.1)->g∈(putF f v fs).map (·.1)
 | []=>⟨by simp[putF],λg h=>by simp at h⟩
 | (k,x) :: r=>by
  obtain⟨i1,i2⟩:=Zb3 f v r;rw[show putF f v ((k,x) :: r)=(if k=f then (k,v) :: r else (k,x) :: putF f v r) from rfl];by_cases hk:k=f
  ·rw[if_pos hk];subst hk;exact⟨by simp,λg h=>by simpa using h⟩
  ·rw[if_neg hk];refine⟨?_,λg h=>?_⟩
   ·rw[Yy06];exact Yg _ i1
   ·rw[Yy06]at h ⊢;rcases Yf.mp h with e | e
    ·exact Yf.mpr (.inl e)
    ·exact Yg _ (i2 g e)
theorem ZQ2(f:Str)(v:V):∀ fs:List (Str × V),(putF f v fs).length<=fs.length+1
 | []=>by simp[putF]
 | (k,x) :: r=>by
  have ih:=ZQ2 f v r;rw[show putF f v ((k,x) :: r)=(if k=f then (k,v) :: r else (k,x) :: putF f v r) from rfl];by_cases hk:k=f
  ·rw[if_pos hk,YD,YD];omega
  ·rw[if_neg hk,YD,YD];omega
theorem RelO.some_of{v:V}{o:Option Value}(r:RelO (some v) o):∃ u,o=some u/\RelV v u:=by
 cases o with
 | none=>exact(show False from r).elim
 | some u=>exact⟨u,rfl,r⟩
theorem Zz78{v:V}{u:Value}(r:RelV v u):PySem.W.handedIn u=true:=by
 cases v with
 | non=>cases (show u=Value.none from r);rfl
 | bl b=>cases (show u=Value.bool b from r);rfl
 | int i=>obtain⟨t,e⟩:=(show ∃ t,u=Value.int i t from r);cases e;rfl
 | str x=>obtain⟨t,e⟩:=(show ∃ t,u=Value.str x t from r);cases e;rfl
 | byt b=>obtain⟨t,e⟩:=(show ∃ t,u=Value.bytes b t from r);cases e;rfl
 | flt b=>obtain⟨t,e⟩:=(show ∃ t,u=Value.float b t from r);cases e;rfl
 | ref a=>cases (show u=Value.ref a from r);rfl
 | ty n=>cases (show u=Value.type n from r);rfl
section
variable{P:Program}{w:World}{H:Hp}{h:Heap}{a C dx:Addr}{fs:List (Str × V)}
theorem ZN8(hok:HOk P w H h)(e:H a=some (.ins C dx fs)):∃ mA,ObjM h a dx C mA/\(∀ f,RelO (fs.lookup f) (mA f))/\PySem.Within mA (fs.map (·.1))/\fs.length<=1000/\H dx=some (.own a):=by obtain⟨d,z,ne,ob,mA,n,r,q⟩:=(show ObjOk P w H h a (.ins C dx fs) from hok a _ e);exact⟨mA,⟨ob,n,ne⟩,r,q,z,d⟩
end
structure Cls (K:PySem.W.Frag) (C:Addr):Prop where
 pg:PySem.W.plainGet K C Str.empty=true
 hd:PySem.W.hasDictIn K C=true
 po:PySem.W.plainOver K C=true
 sa:PySem.W.findIn K (.ref C) "__setattr__"=some (some (.builtin "object.__setattr__"))
theorem Cls.get{K:PySem.W.Frag}{C:Addr}(c:Cls K C)(f:Str):PySem.W.plainGet K C f=true:=c.pg
def NoAttr(K:PySem.W.Frag)(C:Addr)(f:Str):Prop:=PySem.W.findIn K (.ref C) f=some none
theorem NoAttr.taker{K:PySem.W.Frag}{C:Addr}{f:Str}(n:NoAttr K C f):PySem.W.takerIn K C f=some none:=by unfold PySem.W.takerIn;rw[show PySem.W.findIn K (.ref C) f=some none from n];rfl
structure Con (K:PySem.W.Frag) (C:Addr) (f:Str) (v:V) (u:Value):Prop where
 at_:PySem.W.findIn K (.ref C) f=some (some u)
 rel:RelV v u
 get:PySem.W.specialIn K u "__get__"=some none
 cp:PySem.W.copiedNames.contains f=false
structure Meth (K:PySem.W.Frag) (C:Addr) (m:Str) (f:Addr):Prop where
 at_:PySem.W.findIn K (.ref C) m=some (some (.ref f))
 fn:PySem.W.isFn K (.ref f)=true
 kp:PySem.W.keepIn K (.ref f)=true
section
variable{X:Cx}{pins:List (Addr × Obj)}{σ:St}{H:Hp}{s:Shared}{a C dx:Addr}{fs:List (Str × V)}{f:Str}{v:V}{A:Around}{E:Value->Shared->Prop}
theorem ZT6{b:Bool}{Q:Value->Shared->Prop}(I:Inv X pins σ H s)(e:H a=some (.ins C dx fs))(c:Cls X.K C)(n:NoAttr X.K C f)(l:fs.lookup f=some v)
  (h:∀ u s',Inv X pins σ H s'->RelV v u->Q u s'):wpAny (model X.prog X.w) A (getAttr (.ref a) f b) Q E s:=by obtain⟨mA,O,r,_,_,_⟩:=ZN8 I.hok e;obtain⟨u,hu,ru⟩:=RelO.some_of (v:=v) (o:=mA f) (by rw[<- l];exact r f);exact ZV11 I.kIn O (c.get f) c.hd n hu (Zz78 ru) (h u _ (I.tok _) ru)
theorem Zz66{y:V}{u:Value}{Q:Unit->Shared->Prop}(I:Inv X pins σ H s)(e:H a=some (.ins C dx fs))(c:Cls X.K C)(n:NoAttr X.K C f)(hl:fs.length<1000)(ry:RelV y u)
  (h:∀ s',Inv X pins σ (upd H a (.ins C dx (putF f y fs))) s'->Q () s'):wpAny (model X.prog X.w) A (setAttr (.ref a) f u) Q E s:=by
 obtain⟨mA,O,r,wi,_,ho⟩:=ZN8 I.hok e;have hz:(fs.map (·.1)).length<=sizeLine:=by rw[Yb,Y0r];omega
 refine Zz911 I.kIn O c.sa c.po n.taker c.hd wi hz λh' O' sb=>h _ ?_;have hd:∃ o,h'.get? dx=some o:=let ⟨o,_,_,e',_⟩:=O'.ns;⟨o,e'⟩
 refine I.write (x:=a) (e:=dx) (by rw[e];exact True.intro) (.inr ho) (λb q hb z=>(sb.2 b hb).trans z) hd ?_;refine⟨by rw[Zb O.ne];exact ho,?_,O.ne,O'.obj,_,O'.ns,λg=>?_,λg hg=>?_⟩
 ·have:=ZQ2 f y fs;omega
 ·show RelO ((putF f y fs).lookup g) (if g=f then some u else mA g);rw[Zg1];by_cases q:g=f
  ·rw[if_pos q,if_pos q];exact ry
  ·rw[if_neg q,if_neg q];exact r g
 ·by_cases q:g=f
  ·rw[q];exact(Zb3 f y fs).1
  ·refine(Zb3 f y fs).2 g (wi g λz=>hg ?_);show(if g=f then some u else mA g)=none
   rw[if_neg q];exact z
theorem Inv.made(I:Inv X pins σ H s):Inv X pins σ (upd (upd H s.heap.objs.size (.own (s.heap.objs.size+1))) (s.heap.objs.size+1) (.ins C s.heap.objs.size []))
  { s with heap:=(s.heap.push PySem.W.emptyDict).push (PySem.W.instObj C s.heap.objs.size) }:=by
 have e1:(s.heap.push PySem.W.emptyDict).get? s.heap.objs.size=some PySem.W.emptyDict:=Ym s.heap rfl;have e2:((s.heap.push PySem.W.emptyDict).push (PySem.W.instObj C s.heap.objs.size)).get? (s.heap.objs.size+1)=some (PySem.W.instObj C s.heap.objs.size):=by
  have:=Ym (s.heap.push PySem.W.emptyDict) (o:=PySem.W.instObj C s.heap.objs.size) rfl
  rwa [Y0T]at this
 have e3:(s.heap.push PySem.W.emptyDict).Ns s.heap.objs.size (λ_=>none):=⟨PySem.W.emptyDict,#[],_,e1,rfl,(λe he=>absurd he (by simp)),λ_=>rfl⟩;have I1:=I.laid (a:=s.heap.objs.size) (o:=.own (s.heap.objs.size+1)) (h':=s.heap.push PySem.W.emptyDict) (t':=s.toks) (λb u q=>Yy5 _ q) (Yy8 _) ⟨_,e1⟩
 refine I1.laid (a:=s.heap.objs.size+1) (o:=.ins C s.heap.objs.size []) (t':=s.toks) (λb u q=>Yy5 _ q) (Nat.le_of_eq (Y0T _ _)) ?_;have ne:s.heap.objs.size≠s.heap.objs.size+1:=Yr (Y0p _)
 refine⟨by rw[Zb ne,Zz1],Yl _,ne,e2,λ_=>none,(Heap.Ns1.of_empty e3).at λo q=>Yy5 _ q,λ_=>True.intro,λy hy=>absurd rfl hy⟩
theorem Zh12{prog:Program}{w:World}{env:Env}{e:Expr}{f:Str}{pos:Pos}{s:Shared}{Q:Value->Shared->Prop}(hb:attributeBase e f env (eval e env)=eval e env)
  (h:wpAny (model prog w) A (eval e env) (λo s₁=>wpAny (model prog w) A (getAttr o f true) Q E s₁) E s):wpAny (model prog w) A (eval (.Attribute e f pos) env) Q E s :=
 Attribute_any_ h (by rw[arm_eval_Attribute,hb])
end
def tFld(K:PySem.W.Frag)(ta:TE)(f:Str):TE:=λσ H Q=>ta σ H λx H1=>∃ a C dx fs v,x=.ref a/\H1 a=some (.ins C dx fs)/\Cls K C/\NoAttr K C f/\fs.lookup f=some v/\Q v H1
def sFld(K:PySem.W.Frag)(ta tv:TE)(f:Str):TS:=λD σ H=>tv σ H λy H1=>ta σ H1 λx H2=>∃ a C dx fs,x=.ref a/\H2 a=some (.ins C dx fs)/\Cls K C/\NoAttr K C f/\fs.length<1000 /\
 D.nx σ (upd H2 a (.ins C dx (putF f y fs)))
section
variable{X:Cx}{o e value:Expr}{f:Str}{pos pos':Pos}{ta tv:TE}
theorem ZQ12(he:PE X e ta)(hb:attributeBase e f X.env (eval e X.env)=eval e X.env):PE X (.Attribute e f pos) (tFld X.K ta f):=by intro pins s σ H Q I h;refine Zh12 hb (thn (he pins s σ H _ I h) λu s1 hz0=>?_);obtain⟨x,H1,I1,rx,a,C,dx,fs,v,ex,ea,c,n,l,q⟩:=hz0;subst ex;obtain rfl:u=Value.ref a:=rx;exact ZT6 I1 ea c n l λu' s2 I2 ru=>⟨v,H1,I2,ru,q⟩
theorem Zz03(ha:PE X o ta)(hv:PE X value tv)(hs:swapsWith value (some (.Attribute o f pos')) pos.line X.env=pure false):PS X (.Assign [.Attribute o f pos'] value pos) (sFld X.K ta tv f):=by intro pins s σ H D I h;refine plainObj_wpAny_Assign_Attribute (thn (hv pins s σ H _ I h) λu s1 ⟨y,H1,I1,ry,q⟩=>thn (ha pins s1 σ H1 _ I1 q) λov s2 hz0=>?_) hs;obtain⟨x,H2,I2,rx,a,C,dx,fs,ex,ea,c,n,l,q2⟩:=hz0;subst ex;obtain rfl:ov=Value.ref a:=rx;exact Zz66 I2 ea c n l ry λs3 I3=>⟨σ,_,I3,q2⟩
end
section
variable{H:Hp}
inductive TyOf (K:PySem.W.Frag) (H:Hp):V->Value->Prop where
 | non:TyOf K H .non (.type "NoneType")
 | bl (x:Bool):TyOf K H (.bl x) (.type "bool")
 | int (i:Int):TyOf K H (.int i) (.type "int")
 | str (x:Str):TyOf K H (.str x) (.type "str")
 | flt (x:UInt64):TyOf K H (.flt x) (.type "float")
 | lst {a:Addr} {xs:List V} (e:H a=some (.lst xs)):TyOf K H (.ref a) (.type "list")
 | frz {a:Addr} {o:Obj} {xs:List V} (e:H a=some (.frz o (.lst xs))):TyOf K H (.ref a) (.type "list")
 | tup {a:Addr} {xs:List V} (e:H a=some (.tup xs)):TyOf K H (.ref a) (.type "tuple")
 | dK {a:Addr} {kvs:List (Key × V)} (e:H a=some (.dK kvs)):TyOf K H (.ref a) (.type "dict")
 | dT {a:Addr} {kvs:List (List Key × V)} (e:H a=some (.dT kvs)):TyOf K H (.ref a) (.type "dict")
 | ins {a C dx:Addr} {fs:List (Str × V)} (e:H a=some (.ins C dx fs)) (cl:Cls K C) (ha:PySem.W.findIn K (.ref C) "__class__"=some (some (.builtin "object.__class__")))
   (hn:PySem.W.specialIn K (.builtin "object.__class__") "__get__"=some (some (.builtin "getset_descriptor.__get__"))) (htk:PySem.W.takesIn K (.builtin "object.__class__")=some true)
   (hm:PySem.W.mroIn K C (.type "object")=some true):TyOf K H (.ref a) (.ref C)
end
structure Room (k:Nat) (A:Around):Prop where
 hd:A.handled=none
 dp:A.depth+3 * k+5<recursionLimit
 un:A.units+16 * k+200<cLine
theorem Room.mono{j k:Nat}{A:Around}(r:Room k A)(h:j<=k):Room j A:=⟨r.hd,by have:=r.dp;omega,by have:=r.un;omega⟩
theorem Room.deeper{k:Nat}{A:Around}(r:Room (k+1) A)(env:Env):Room k (A.deeper env) :=
 ⟨r.hd,by have:=r.dp;show A.depth+1+3 * k+5<_;omega,by have:=r.un;show A.units+3+16 * k+200<_;omega⟩
theorem Room.in1{k:Nat}{A:Around}(r:Room (k+1) A):Room k A.in1 :=
 ⟨r.hd,by have:=r.dp;show A.depth+3 * k+5<_;omega,by have:=r.un;show A.units+1+16 * k+200<_;omega⟩
theorem ZB6 {A:Around} {C:Addr} {us:List Value} {kw:List (Str × Value)}:(A.under (.builtin "type.__call__" ⟨.ref C :: us,kw⟩)).depth=A.depth+1:=by
 first | rfl | simp[Around.under,Code.weight,Code.isCreation,Code.isGuard,Code.isCaller,Code.frames,Code.isFrame,guardIds]
theorem ZA6 {A:Around} {C:Addr} {us:List Value} {kw:List (Str × Value)}:(A.under (.builtin "type.__call__" ⟨.ref C :: us,kw⟩)).units=A.units+1:=by
 first | rfl | simp[Around.under,Code.cUnits,Code.frames,Code.isFrame]
theorem Room.make {k:Nat} {A:Around} (r:Room (k+1) A) (C:Addr) (us:List Value) (kw:List (Str × Value)):Room k (A.under (.builtin "type.__call__" ⟨.ref C :: us,kw⟩)) :=
 ⟨r.hd,by have:=r.dp;rw[ZB6];omega,by have:=r.un;rw[ZA6];omega⟩
theorem Room.depth{k:Nat}{A:Around}(r:Room k A):A.depth<recursionLimit:=by have:=r.dp;omega
theorem Room.units{k:Nat}{A:Around}(r:Room k A):A.units+64<cLine:=by have:=r.un;omega
def tNil:TA:=λ_ H Q=>Q [] H
def Zx12(ta:TE)(tr:TA):TA:=λσ H Q=>ta σ H λx H1=>tr σ H1 λxs H2=>Q (x :: xs) H2
section
variable{X:Cx}{e:Expr}{es:List Expr}{te:TE}{t:TA}{pos:Pos}
theorem Zz3:PA X [] tNil:=λ_ _ _ _ H Q I h=>Y3f ⟨[],H,I,.nil,h⟩
theorem Zz0(ha:PE X e te)(hr:PA X es t)(hs:starEach (e :: es) X.env=(false,eval e X.env) :: starEach es X.env:=by rfl):PA X (e :: es) (Zx12 te t):=by
 intro pos pins s σ H Q I h;rw[hs];show wpAny _ _ (spliced ((false,eval e X.env) :: backTo pos (starEach es X.env))) _ _ s
 refine Y2X (thn (ha pins s σ H _ I h) λu s1 hz0=>?_);obtain⟨x,H1,I1,r1,q1⟩:=hz0;exact thn (hr pos pins s1 σ H1 _ I1 q1) λus s2 ⟨xs,H2,I2,r2,q2⟩=>⟨x :: xs,H2,I2,.cons r1 r2,q2⟩
def tTup(t:TA):TE:=λσ H Q=>t σ H λxs H1=>xs.length<=sizeLine/\∀ p,H1 p=none->Q (.ref p) (upd H1 p (.tup xs))
def tLst(t:TA):TE:=λσ H Q=>t σ H λxs H1=>xs.length<=sizeLine/\∀ p,H1 p=none->Q (.ref p) (upd H1 p (.lst xs))
theorem Zd1{x1}(h:PA X es t):PE X (.Tuple es x1 pos) (tTup t):=by
 intro pins s σ H Q I hq;refine wpAny_Tuple_spliced (thn (h pos pins s σ H _ I hq) λus s1 ⟨xs,H1,I1,r,z,q⟩=>⟨by rw[<- r.length];exact z,?_⟩);have hf:H1 s1.heap.objs.size=none:=I1.hok.fresh (Yy8 _)
 refine⟨.ref s1.heap.objs.size,upd H1 s1.heap.objs.size (.tup xs),I1.laid (t':=s1.toks) (λb u e=>Yy5 _ e) (Yy8 _) ?_,rfl,q _ hf⟩;exact⟨z,us,r,⟨_,Ym _ rfl,rfl,_,rfl⟩⟩
theorem Zp1(h:PA X es t):PE X (.List es pos) (tLst t):=by
 intro pins s σ H Q I hq;refine wpAny_List_spliced (thn (h pos pins s σ H _ I hq) λus s1 ⟨xs,H1,I1,r,z,q⟩=>⟨by rw[<- r.length];exact z,?_⟩);have hf:H1 s1.heap.objs.size=none:=I1.hok.fresh (Yy8 _)
 refine⟨.ref s1.heap.objs.size,upd H1 s1.heap.objs.size (.lst xs),I1.laid (t':=s1.toks) (λb u e=>Yy5 _ e) (Yy8 _) ?_,rfl,q _ hf⟩;exact⟨z,us,0,r,Ym _ rfl⟩
end
abbrev Sp:=List V->Hp->VK->XK->Prop
abbrev CXT:=List Env->Hp->Shared->XK->Value->Shared->Prop
structure Env0 (P:Program) (w:World) (K:PySem.W.Frag) (mg:Str->Option Value) (base:Heap) (A:Around) (outer:List Env) (s:Shared) (H:Hp):Prop where
 frames:A.frames=some outer
 mod:Mod K mg base
 bs:∀ b o,base.get? b=some o->s.heap.get? b=some o/\H b=none
 bsz:base.objs.size<=s.heap.objs.size
 funs:s.heap.FunFrames base outer
 frf:∀ b∈frs outer,H b=none
 hok:HOk P w H s.heap
 bare:AllBare s.gens
def CE(outer:List Env)(P:Program)(w:World)(H:Hp)(s:Shared)(Q:VK)(u:Value)(s':Shared):Prop :=
 ∃ v H',s'.os=s.os/\AllBare s'.gens/\Un (frs outer) [] H H' s.heap s'.heap/\HOk P w H' s'.heap/\RelV v u/\Q v H'
def CR(CX:CXT)(outer:List Env)(P:Program)(w:World)(H:Hp)(s:Shared)(Q:VK)(E:XK)(r:Result)(s':Shared):Prop :=
 match r with
 | .ok (.ret u)=>CE outer P w H s Q u s'
 | .ok _=>False
 | .error e=>CX outer H s E e s'
structure FnOk (P:Program) (w:World) (K:PySem.W.Frag) (mg:Str->Option Value) (base:Heap) (CX:CXT) (k:Nat) (f:Addr) (fd:FuncData) (ps:List Str) (sp:Sp):Prop where
 len:∀ vs H Q E,sp vs H Q E->vs.length=ps.length
 run:∀(A:Around) (outer:List Env) (s:Shared) (H:Hp) (args:Args) (us:List Value) (vs:List V) (Q:VK) (E:XK),Room k A->Env0 P w K mg base A outer s H->BindsTo s fd args (ps.zip us)->Vals vs us->sp vs H Q E ->
  codeAny (model P w) A (.call (.ref f) args) (CR CX outer P w H s Q E) s
theorem Env0.make{P:Program}{w:World}{K:PySem.W.Frag}{mg:Str->Option Value}{base:Heap}{A:Around}{outer:List Env}{s:Shared}{H:Hp}(e:Env0 P w K mg base A outer s H)(C:Addr)(us:List Value)(kw:List (Str × Value)) :
  Env0 P w K mg base (A.under (.builtin "type.__call__" ⟨.ref C :: us,kw⟩)) outer s H:=⟨by first | exact e.frames | (simpa [Around.under,Code.envs,Code.isFrame,pushEnvs] using e.frames),e.mod,e.bs,e.bsz,e.funs,e.frf,e.hok,e.bare⟩
theorem Env0.in1{P:Program}{w:World}{K:PySem.W.Frag}{mg:Str->Option Value}{base:Heap}{A:Around}{outer:List Env}{s:Shared}{H:Hp}(e:Env0 P w K mg base A outer s H) :
  Env0 P w K mg base A.in1 outer s H:=⟨e.frames,e.mod,e.bs,e.bsz,e.funs,e.frf,e.hok,e.bare⟩
section
variable{X:Cx}{pins:List (Addr × Obj)}{σ:St}{H:Hp}{s s':Shared}
theorem Inv.env0(I:Inv X pins σ H s):Env0 X.prog X.w X.K X.mg X.base X.A X.stack s H :=
 ⟨I.ok.frames,I.ok.mod,I.bs,Yt I.ok.bsz I.sz,I.stack,I.stkFree,I.hok,I.bare⟩
theorem Inv.after{Q:VK}{u:Value}(I:Inv X pins σ H s)(h:CE X.stack X.prog X.w H s Q u s'):EP X pins σ Q u s':=by obtain⟨v,H',os,bare,un,hok,r,q⟩:=h;obtain⟨hh,g,d,t,os'⟩:=s';obtain rfl:os'=s.os:=os;exact⟨v,H',I.call (h':=hh) (g':=g) (d':=d) (t':=t) (ch:=[]) un hok bare (λb z=>absurd z (by simp)),r,q⟩
end
def Zw13(sp:Sp)(dvs:List V)(E:XK)(t:TA):TE:=λσ H Q=>t σ H λvs H1=>sp (vs++dvs) H1 Q E
def Zu13(C:Addr)(sp:Sp)(dvs:List V)(E:XK)(t:TA):TE:=λσ H Q=>t σ H λvs H1=>∀ x dx,H1 x=none->H1 dx=none->dx≠x ->
 sp (.ref x :: (vs++dvs)) (upd (upd H1 dx (.own x)) x (.ins C dx [])) (λv H2=>v=.non/\Q (.ref x) H2) E
def Binds(K:PySem.W.Frag)(fd:FuncData)(ps:List Str)(ds:List Value):Prop :=
 ∀(s:Shared) (us:List Value),K.In s.heap->(us++ds).length=ps.length->BindsTo s fd ⟨us,[]⟩ (ps.zip (us++ds))
theorem Binds.all{K:PySem.W.Frag}{fd:FuncData}{ps:List Str}(h:∀ us:List Value,us.length=ps.length->bindArgs fd ⟨us,[]⟩=pure (ps.zip us)):Binds K fd ps []:=λs us _ hl=>by rw[YG]at hl ⊢;exact .of_eq (h us hl)
def Zp7(CX:CXT)(X:Cx)(E:XK):Prop:=∀(pins:List (Addr × Obj)) (σ:St) (H:Hp) (s:Shared) (e:Value) (s':Shared),Inv X pins σ H s->CX X.stack H s E e s'->X.xe e s'
section
variable{X:Cx}{CX:CXT}{k:Nat}{f C:Addr}{fd:FuncData}{ps:List Str}{sp:Sp}{dvs:List V}{ds:List Value}{E:XK}{x:Str}{p pos:Pos}{e:Expr}{es:List Expr}{t:TA}
theorem ZC12{pins:List (Addr × Obj)}{σ:St}{H:Hp}{s:Shared}{Q:VK}{us:List Value}{vs:List V}(F:FnOk X.prog X.w X.K X.mg X.base CX k f fd ps sp)(hr:Room k X.A)(hb:Binds X.K fd ps ds)(hd:Vals dvs ds)(hx:Zp7 CX X E)
  (I:Inv X pins σ H s) (r:Vals vs us) (h:sp (vs++dvs) H Q E):wpAny (model X.prog X.w) X.A (call (.ref f) us) (EP X pins σ Q) X.xe s:=by
 have r2:Vals (vs++dvs) (us++ds):=r.append hd;have hl:(us++ds).length=ps.length:=by rw[<- r2.length];exact F.len _ _ _ _ h
 refine Y3o (Y1y (F.run X.A X.stack s H ⟨us,[]⟩ (us++ds) (vs++dvs) Q E hr I.env0 (hb s us I.kIn hl) r2 h) λr s' hq=>?_);cases r with
 | error e=>exact hx pins σ H s e s' I hq
 | ok fl =>
  cases fl with
  | ret u=>exact I.after hq
  | next=>exact False.elim hq
  | brk=>exact False.elim hq
  | cont=>exact False.elim hq
theorem Zz9(F:FnOk X.prog X.w X.K X.mg X.base CX k f fd ps sp)(hr:Room k X.A)(hg:Gl X x)(hm:X.mg x=some (.ref f))(hk:PySem.W.keepIn X.K (.ref f)=true)(hb:Binds X.K fd ps ds)(hd:Vals dvs ds)(hx:Zp7 CX X E)
  (ha:PA X (e :: es) t) (hdb:(x == ("__debug__":Str))=false:=by decide) (he:starEach (e :: es) X.env=(false,eval e X.env) :: starEach es X.env:=by rfl) (hpl:(backTo pos (starEach es X.env)).any (·.1)=false:=by rfl) :
  PE X (.Call (.Name x p) (e :: es) [] pos) (Zw13 sp dvs E t):=by intro pins s σ H Q I h;refine Y0f (ZG6 I hg hm ?_ hdb);refine PySem.W.callWith_K (h₀:=X.base) I.ok.mod.kin hk (thn (ha pos pins s σ H _ I h) λus s1 ⟨vs,H1,I1,r,q⟩=>⟨I1.kIn,?_⟩) he hpl;exact ZC12 F hr hb hd hx I1 r q
structure Mk (K:PySem.W.Frag) (C f:Addr):Prop where
 makes:PySem.W.makesIn K C=true
 init:PySem.W.findIn K (.ref C) "__init__"=some (some (.ref f))
 fn:PySem.W.isFn K (.ref f)=true
 kp:PySem.W.keepIn K (.ref C)=true
theorem Zs9{pins:List (Addr × Obj)}{σ:St}{H:Hp}{s:Shared}{Q:VK}{us:List Value}{vs:List V}(M:Mk X.K C f)(F:FnOk X.prog X.w X.K X.mg X.base CX k f fd ps sp)(hr:Room (k+1) X.A)(hb:Binds X.K fd ps ds)(hd:Vals dvs ds)
  (hx:Zp7 CX X E) (I:Inv X pins σ H s) (r:Vals vs us)
  (h:∀ x dx,H x=none->H dx=none->dx≠x->sp (.ref x :: (vs++dvs)) (upd (upd H dx (.own x)) x (.ins C dx [])) (λv H2=>v=.non/\Q (.ref x) H2) E) :
  wpAny (model X.prog X.w) X.A (call (.ref C) us) (EP X pins σ Q) X.xe s:=by
 have hq:=h (s.heap.objs.size+1) s.heap.objs.size (I.hok.fresh (Y0j _)) (I.hok.fresh (Yy8 _)) (Yr (Y0p _));have I2:=Inv.made (C:=C) I
 have r2:Vals (V.ref (s.heap.objs.size+1) :: (vs++dvs)) (Value.ref (s.heap.objs.size+1) :: (us++ds)):=.cons rfl (r.append hd);have hl:(Value.ref (s.heap.objs.size+1) :: us++ds).length=ps.length:=by have e:=r2.length;rw[F.len _ _ _ _ hq]at e;exact e.symm
 refine Y3o (ZQ9 (f:=f) I.kIn M.makes M.init (Y0U.mp M.fn) (Y1y (F.run _ X.stack _ _ ⟨Value.ref (s.heap.objs.size+1) :: us,[]⟩ (Value.ref (s.heap.objs.size+1) :: (us++ds)) _ _ E (hr.make C us [])
  (I2.env0.make C us []) (hb _ (Value.ref (s.heap.objs.size+1) :: us) I2.kIn hl) r2 hq) λr s' hq'=>?_))
 cases r with
 | error e=>exact hx pins σ _ _ e s' I2 hq'
 | ok fl =>
  cases fl with
  | ret u =>
   obtain⟨v,H',I3,rv,ev,q3⟩:=I2.after hq';subst ev;exact⟨rv,⟨V.ref (s.heap.objs.size+1),H',I3,rfl,q3⟩⟩
  | next=>exact False.elim hq'
  | brk=>exact False.elim hq'
  | cont=>exact False.elim hq'
theorem ZB3(M:Mk X.K C f)(F:FnOk X.prog X.w X.K X.mg X.base CX k f fd ps sp)(hr:Room (k+1) X.A)(hg:Gl X x)(hm:X.mg x=some (.ref C))(hb:Binds X.K fd ps ds)(hd:Vals dvs ds)(hx:Zp7 CX X E)
  (ha:PA X (e :: es) t) (hdb:(x == ("__debug__":Str))=false:=by decide) (he:starEach (e :: es) X.env=(false,eval e X.env) :: starEach es X.env:=by rfl) (hpl:(backTo pos (starEach es X.env)).any (·.1)=false:=by rfl) :
  PE X (.Call (.Name x p) (e :: es) [] pos) (Zu13 C sp dvs E t):=by intro pins s σ H Q I h;refine Y0f (ZG6 I hg hm ?_ hdb);refine PySem.W.callWith_K (h₀:=X.base) I.ok.mod.kin M.kp (thn (ha pos pins s σ H _ I h) λus s1 ⟨vs,H1,I1,r,q⟩=>⟨I1.kIn,?_⟩) he hpl;exact Zs9 M F hr hb hd hx I1 r q
end
section
variable{fd:FuncData}{ps ks:List Str}
structure KBinds (K:PySem.W.Frag) (fd:FuncData) (ps ks:List Str) (g:List Value->List Value->List Value) (gV:List V->List V->List V):Prop where
 to:∀(s:Shared) (us ws:List Value),K.In s.heap->(g us ws).length=ps.length->BindsTo s fd ⟨us,ks.zip ws⟩ (ps.zip (g us ws))
 rel:∀ {vs:List V} {us:List Value} {zs:List V} {ws:List Value},Vals vs us->Vals zs ws->Vals (gV vs zs) (g us ws)
end
structure FnScope (N P:List Str) (sc:Scope):Prop where
 kind:sc.kind=.function
 co:sc.isCoroutine=false
 gen:sc.isGenerator=false
 nd:N.Nodup
 pre:N.take P.length=P
 par:∀ x∈P,sc.names.lookup x=some .local\/sc.names.lookup x=some .cell
 nofree:∀ y∈sc.names,y.2≠.free
theorem Zg5{kindOf:Str->Option NameKind}{x:Str}:∀ {binds:List (Str × Value)} {m:Str->Option Value},(∀ v,(x,v)∉binds)->bindL kindOf binds m x=m x
 | [],_,_=>rfl
 | (n,v) :: r,m,h=>by
  unfold bindL;rw[Zg5 λw hw=>h w (Yg _ hw)];split
  ·have:x≠n:=by rintro rfl;exact h v Ye
   simp[this]
  ·rfl
theorem Zi5{kindOf:Str->Option NameKind}{x:Str}:∀ {binds:List (Str × Value)} {m:Str->Option Value},(∀ v,(x,v)∉binds)->bindC kindOf binds m x=m x
 | [],_,_=>rfl
 | (n,v) :: r,m,h=>by
  unfold bindC;rw[Zi5 λw hw=>h w (Yg _ hw)];split
  ·rfl
  ·have:x≠n:=by rintro rfl;exact h v Ye
   simp[this]
theorem Zh5{kindOf:Str->Option NameKind}{x:Str}{v:Value}:∀ {P:List Str} {vs:List Value} {i:Nat} {m:Str->Option Value},P.Nodup->P[i]?=some x->vs[i]?=some v->kindOf x=some .local ->
  bindL kindOf (P.zip vs) m x=some v
 | [],_,_,_,_,h,_,_=>by simp at h
 | _ :: _,[],_,_,_,_,h,_=>by simp at h
 | p :: P,w :: vs,0,m,nd,h1,h2,hk=>by
  simp at h1 h2;subst h1;subst h2;show bindL kindOf ((p,w) :: P.zip vs) m p=_
  unfold bindL;rw[Zg5 λv hv=>(Y0n.mp nd).1 (Y2T hv).1,if_pos hk];simp
 | p :: P,w :: vs,i+1,m,nd,h1,h2,hk=>by show bindL kindOf ((p,w) :: P.zip vs) m x=_;unfold bindL;exact Zh5 (i:=i) (Y0n.mp nd).2 (by simpa using h1) (by simpa using h2) hk
theorem Zj5{kindOf:Str->Option NameKind}{x:Str}{v:Value}:∀ {P:List Str} {vs:List Value} {i:Nat} {m:Str->Option Value},P.Nodup->P[i]?=some x->vs[i]?=some v->kindOf x≠some .local ->
  bindC kindOf (P.zip vs) m x=some v
 | [],_,_,_,_,h,_,_=>by simp at h
 | _ :: _,[],_,_,_,_,h,_=>by simp at h
 | p :: P,w :: vs,0,m,nd,h1,h2,hk=>by
  simp at h1 h2;subst h1;subst h2;show bindC kindOf ((p,w) :: P.zip vs) m p=_
  unfold bindC;rw[Zi5 λv hv=>(Y0n.mp nd).1 (Y2T hv).1,if_neg hk];simp
 | p :: P,w :: vs,i+1,m,nd,h1,h2,hk=>by show bindC kindOf ((p,w) :: P.zip vs) m x=_;unfold bindC;exact Zj5 (i:=i) (Y0n.mp nd).2 (by simpa using h1) (by simpa using h2) hk
def start(N:List Str)(vs:List V):St:=vs.map some++List.replicate (N.length - vs.length) none
def cxOf(CX:CXT)(P:Program)(w:World)(K:PySem.W.Frag)(mg:Str->Option Value)(base:Heap)(N:List Str)(qual:Str)(scope:Scope)(f:Addr)(cd:Value)(A:Around)(outer:List Env)(s:Shared)(H:Hp)(E:XK):Cx where
 prog:=P
 w:=w
 K:=K
 mg:=mg
 base:=base
 A:=A.deeper (envOfC qual scope s.heap.objs.size f cd)
 N:=N
 s₀:=s
 H₀:=H
 env:=envOfC qual scope s.heap.objs.size f cd
 outer:=outer
 stack:=envOfC qual scope s.heap.objs.size f cd :: outer
 ex:=[]
 calm:=true
 fn:=λ_=>true
 pn:=[]
 xe:=λe s'=>wpAny (model P w) (A.deeper (envOfC qual scope s.heap.objs.size f cd)) (leaving (envOfC qual scope s.heap.objs.size f cd) e) (λ_ s''=>CX outer H s E e s'') (λe' s''=>CX outer H s E e' s'') s'
theorem Zk7{sc:Scope}{n:Nat}{x:Str}(h:sc.names.lookup x=some .cell):∃ c,(cellsFrom n sc.names []).lookup x=some c:=by have q:=Y3q sc.names n [] (.inl h);exact Y1T.mp q
theorem Zz48{CX:CXT}{P:Program}{w:World}{K:PySem.W.Frag}{mg:Str->Option Value}{base:Heap}{N ps:List Str}{qual:Str}{scope:Scope}{f:Addr}{cd:Value}{A:Around}{outer:List Env}{s s1:Shared}{H:Hp}{E:XK}{us:List Value}{vs:List V}
  (S:FnScope N ps scope) (hd:A.handled=none) (e0:Env0 P w K mg base A outer s H) (hl:vs.length=ps.length) (r:Vals vs us)
  (x:InCallC s s.heap.objs.size (bindL (envOfC qual scope s.heap.objs.size f cd).kindOf (ps.zip us) λ_=>none) (cellsFrom (s.heap.objs.size+1) scope.names []) (bindC (envOfC qual scope s.heap.objs.size f cd).kindOf (ps.zip us) λ_=>none) s1) :
  Inv (cxOf CX P w K mg base N qual scope f cd A outer s H E) [] (start N vs) H s1:=by
 have hpl:ps.length<=N.length:=by have:=YV List.length S.pre;rw[Yz]at this;omega
 obtain⟨h1,tk,rfl,hk⟩:=x.done;have noA:∀ b:Addr,b∉(cxOf CX P w K mg base N qual scope f cd A outer s H E).ex:=λb z=>absurd (show b∈([]:List Addr) from z) (by simp)
 refine⟨⟨e0.mod,S.kind,rfl,rfl,Yy8 _,λy z c h1 h2=>?_,λy hy=>?_,λy c _ h=>?_,λ_=>hd,Around.frames_deeper e0.frames,.inr ⟨rfl,rfl⟩,λb z=>absurd z (noA b),e0.bs,e0.bsz,λb _ _=>noA b,λb z=>absurd z (noA b),e0.funs,e0.frf⟩,
  rfl,e0.bare,Un.kept hk,⟨_,x.toInCall.ns,λi y v h1 h2 h3=>?_⟩,λy c h=>⟨_,x.cell y c h⟩,e0.hok.fresh (Yy8 _),λy c h=>?_,λp hp=>absurd (show p∈([]:List (Addr × Obj)) from hp) (by simp),e0.hok.kept hk,?_⟩
 ·exact name_of_addr x.apart (Y0C h1) (Y0C h2)
 ·have hy:scope.names.lookup y=some .cell\/scope.names.lookup y=some .free:=hy;rcases hy with hy | hy
  ·exact Zk7 hy
  ·exact absurd rfl (S.nofree _ (Y0C hy))
 ·exact Yy15 (x.above y c (Y0C h))
 ·have hi:i<vs.length:=by
   unfold start at h2;by_cases hi:i<vs.length
   ·exact hi
   ·rw[Yq (by simpa using hi)]at h2;rw[Y1e]at h2;split at h2 <;> cases h2
  have ha:vs[i]?=some v:=by
   unfold start at h2;rw[Yp (by simpa using hi),Yu]at h2;cases e:vs[i]? with
   | none=>rw[e]at h2;cases h2
   | some a=>rw[e]at h2;cases h2;rfl
  obtain⟨u,hu,rv⟩:=r.get ha;have hp:ps[i]?=some y:=by rw[<- S.pre,List.getElem?_take_of_lt (by omega)];exact h1
  have ndP:ps.Nodup:=by rw[<- S.pre];exact S.nd.sublist (List.take_sublist _ _)
  refine⟨u,rv,?_⟩;rcases S.par y (Yy9 hp) with k | k
  ·exact .inl ⟨k,Zh5 ndP hp hu k⟩
  ·obtain⟨c,e⟩:=Zk7 (n:=s.heap.objs.size+1) k;refine .inr ⟨.inl k,c,e,?_⟩;have q:=x.cell y c e
   rw[Zj5 ndP hp hu (by show scope.names.lookup y≠_;rw[k];decide)]at q;exact q
 ·exact e0.hok.fresh (Yy15 (x.above y c (Y0C h)))
 ·unfold start;show _=N.length
  rw[Yy4,Yb,YI];omega
theorem Zo13{CX:CXT}{P:Program}{w:World}{K:PySem.W.Frag}{mg:Str->Option Value}{base:Heap}{k:Nat}{f:Addr}{name qual:Str}{params:Arguments}{body:List Stmt}{scope:Scope}{dV kV doc pm cdv ct oc:Value}{an od:Option Addr}
  {osl:Array (Option Value)} {N ps:List Str} {sp:Sp} (lk:K.lookup f=some ⟨oc,od,.func (PySem.W.fnOf name qual params body scope dV kV doc pm an cdv ct),osl⟩) (hcd:PySem.W.codeIn K cdv qual=true) (S:FnScope N ps scope)
  (len:∀ vs H Q E,sp vs H Q E->vs.length=ps.length)
  (hbody:∀(A:Around) (outer:List Env) (s:Shared) (H:Hp) (vs:List V) (Q:VK) (E:XK),Room k (A.deeper (envOfC qual scope s.heap.objs.size f cdv))->sp vs H Q E ->
   ∃ t,PSs (cxOf CX P w K mg base N qual scope f cdv A outer s H E) body t/\t { nx:=λ_ H'=>Q .non H',rt:=Q } (start N vs) H) :
  FnOk P w K mg base CX (k+1) f (PySem.W.fnOf name qual params body scope dV kV doc pm an cdv ct) ps sp:=by
 refine⟨len,λA outer s H args us vs Q E hr e0 hb r hsp=>?_⟩;have hl:=len _ _ _ _ hsp
 have KX:K.In s.heap:=e0.mod.kin.keeps λb o e=>(e0.bs b o e).1;have lim:s.heap.NoLimit:=e0.mod.nolimit.keeps λb o e=>(e0.bs b o e).1
 have hkind:∀ y∈ps.zip us,scope.names.lookup y.1=some .local\/(scope.names.lookup y.1=some .cell/\((cellsFrom (s.heap.objs.size+1) scope.names []).lookup y.1).isSome=true):=λ⟨n,v⟩ hy=>by
  rcases S.par n (Y2T hy).1 with q | q
  ·exact .inl q
  ·exact .inr ⟨q,Y3q _ _ _ (.inl q)⟩
 refine codeAny_call_function hr.depth (KX _ _ lk) rfl S.co S.gen rfl (PySem.W.codeRec_of KX hcd) (hb _ _ _ _ ?_);refine wpAny_newFunctionEnv_cells S.kind hkind λenv he s1 x=>?_;subst he;refine⟨lim.keeps x.toInCall.keep,codeAny_func ?_⟩;obtain⟨t,ht,hq⟩:=hbody A outer s H vs Q E (hr.deeper _) hsp;have I:Inv (cxOf CX P w K mg base N qual scope f cdv A outer s H E) [] (start N vs) H s1:=Zz48 S hr.hd e0 hl r x
 refine Y0J (ht [] s1 (start N vs) H _ I hq) (λfl s' hs=>?_) λe s' hs=>hs;have fin:∀ {σ':St} {H':Hp} {v:V} {u:Value},Inv (cxOf CX P w K mg base N qual scope f cdv A outer s H E) [] σ' H' s'->RelV v u->Q v H'->CE outer P w H s Q u s' :=
  λ{σ' H' v u} J rv q=>⟨v,H',J.os,J.bare,J.base,J.hok,rv,q⟩
 cases fl with
 | ret u =>
  obtain⟨v,σ',H',J,rv,q⟩:=hs;exact fin J rv q
 | next =>
  obtain⟨σ',H',J,q⟩:=hs;exact fin (v:=V.non) (u:=Value.none) J rfl q
 | brk =>
  obtain⟨_,_,_,q⟩:=hs;exact False.elim q
 | cont =>
  obtain⟨_,_,_,q⟩:=hs;exact False.elim q
section
variable{X:Cx}{x:Str}{p pos:Pos}{e:Expr}{es:List Expr}{t:TA}{id T:String}{r:List V->Hp->VK->Prop}
def tCB(r:List V->Hp->VK->Prop)(t:TA):TE:=λσ H Q=>t σ H λvs H1=>r vs H1 Q
theorem Zg (hc:ZX3 X (.builtin id) r) (hg:Gl X x) (hm:X.mg x=none) (hv:bootBuiltins x=some (.builtin id)) (ha:PA X (e :: es) t) (hn:x≠"__name__":=by decide) (hdb:(x == ("__debug__":Str))=false:=by decide)
  (he:starEach (e :: es) X.env=(false,eval e X.env) :: starEach es X.env:=by rfl) (hpl:(backTo pos (starEach es X.env)).any (·.1)=false:=by rfl):PE X (.Call (.Name x p) (e :: es) [] pos) (tCB r t):=by intro pins s σ H Q I h;refine Y0f (Zu2 I hg hm hv ?_ hn hdb);exact Y2x (thn (ha pos pins s σ H _ I h) λus s1 ⟨vs,H1,I1,r1,q1⟩=>hc pins s1 σ H1 vs us Q I1 r1 q1) he hpl
theorem Zr (hc:ZX3 X (.type T) r) (hg:Gl X x) (hm:X.mg x=none) (hv:bootBuiltins x=some (.type T)) (ha:PA X (e :: es) t) (hn:x≠"__name__":=by decide) (hdb:(x == ("__debug__":Str))=false:=by decide)
  (he:starEach (e :: es) X.env=(false,eval e X.env) :: starEach es X.env:=by rfl) (hpl:(backTo pos (starEach es X.env)).any (·.1)=false:=by rfl):PE X (.Call (.Name x p) (e :: es) [] pos) (tCB r t):=by intro pins s σ H Q I h;refine Y0f (Zu2 I hg hm hv ?_ hn hdb);exact Y0c (thn (ha pos pins s σ H _ I h) λus s1 ⟨vs,H1,I1,r1,q1⟩=>hc pins s1 σ H1 vs us Q I1 r1 q1) he hpl
end
end L2
namespace HT
open PySem PyProof.Rows
def lexLt:List Int->List Int->Bool
 | [],[]=>false
 | [],_ :: _=>true
 | _ :: _,[]=>false
 | x :: xs,y :: ys=>if x=y then lexLt xs ys else decide (x<y)
theorem lexLt_cons(x y:Int)(xs ys:List Int):lexLt (x :: xs) (y :: ys)=if x=y then lexLt xs ys else decide (x<y):=rfl
section
variable{prog:Program}{w:World}{A:Around}{E:Value->Shared->Prop}{s:Shared}
theorem cat_tup{t b:Addr}{vs ws:List Value}{Q:Value->Shared->Prop}(ht:IsTup s.heap t vs.toArray)(hb:IsTup s.heap b ws.toArray)(hv:vs≠[])
  (h1:ws=[]->Q (.ref t) s) (h2:ws≠[]->Q (.ref s.heap.objs.size) { s with heap:=s.heap.push { cls:=.type "tuple",data:=.seq (vs++ws).toArray } })
  (hsz:vs.length+ws.length<=sizeLine):wpAny (model prog w) A (binaryOp .Add (.ref t) (.ref b)) Q E s:=by
 obtain⟨⟨cls,dd,data,sl⟩,ho,hc,n,hd⟩:=id ht;obtain⟨⟨cls2,dd2,data2,sl2⟩,ho2,hc2,n2,hd2⟩:=id hb;simp only at hc hd hc2 hd2;subst hc hd hc2 hd2;have e:vs.toArray++ws.toArray=(vs++ws).toArray:=by simp
 by_cases hw:ws=[]
 ·exact concat_meets ⟨_,ho,rfl⟩ ⟨_,ho2,rfl⟩ Y3p seq_tuple_add Yy21 Yy20 (Y1S _ _)
   (tuple_addW1 t b vs.toArray ws.toArray n n2 dd dd2 sl sl2 (by simpa using hv) (by simp[hw])) ⟨ho,ho2,h1 hw⟩
 ·refine concat_meets ⟨_,ho,rfl⟩ ⟨_,ho2,rfl⟩ Y3p seq_tuple_add Yy21 Yy20 (Y1S _ _)
   (tuple_addW2 t b vs.toArray ws.toArray n n2 dd dd2 sl sl2 (by simpa using hv) (by simpa using hw) (by rw[Ya,Ya];exact hsz)) ⟨ho,ho2,?_⟩
  rw[e];exact h2 hw
def sIx(n d:Nat):Option Int->Nat
 | none=>d
 | some v=>if v<0 then (v+(n:Int)).toNat else min v.toNat n
theorem sIx_none(n d:Nat):sIx n d none=d:=rfl
end
end HT
namespace L2
open PySem PySem.Spec PyProof.Rows
abbrev TO:=St->Hp->(Option Int->Hp->Prop)->Prop
def PO(X:Cx)(e:Option Expr)(t:TO):Prop :=
 ∀(pins:List (Addr × Obj)) (s:Shared) (σ:St) (H:Hp) (Q:Option Int->Hp->Prop),Inv X pins σ H s->t σ H Q ->
  wpAny (model X.prog X.w) X.A (evalPart e X.env) (λu s'=>∃ o H',Inv X pins σ H' s'/\IsPart u o/\Q o H') X.xe s
def ZZ10:TO:=λ_ H Q=>Q none H
def Zq13(t:TE):TO:=λσ H Q=>t σ H λx H1=>∃ i,x=.int i/\Q (some i) H1
section
variable{X:Cx}{e:Expr}{te:TE}{lo hi:Option Expr}{tl th:TO}{pos p2:Pos}
theorem Zp2:PO X none ZZ10:=by intro pins s σ H Q I h;rw[evalPart_none];exact Yi ⟨none,H,I,.none,h⟩
theorem ZQ1(h:PE X e te):PO X (some e) (Zq13 te):=by intro pins s σ H Q I hw;rw[evalPart_some];refine thn (h pins s σ H _ I hw) λu s1 hz0=>?_;obtain⟨x,H1,I1,r1,q1⟩:=hz0;obtain⟨i,rfl,q⟩:=q1;obtain⟨t,rfl⟩:=r1;exact⟨some i,H1,I1,.int i t,q⟩
def SlR(X:Cx)(r:V->Option Int->Option Int->Hp->VK->Prop):Prop :=
 ∀(pins:List (Addr × Obj)) (s:Shared) (σ:St) (H:Hp) (x:V) (v vl vu:Value) (lo hi:Option Int) (sl:Addr) (Q:VK),Inv X pins σ H s->RelV x v->s.heap.IsSliceOf sl vl vu .none->IsPart vl lo->IsPart vu hi->r x lo hi H Q ->
  ∃ T id,typeLookup (.type T) "__getitem__"=pure (some (.builtin id))/\s.TypeIs v T/\wpAny (model X.prog X.w) X.A (getItem v (.ref sl)) (EP X pins σ Q) X.xe s
def tSl(r:V->Option Int->Option Int->Hp->VK->Prop)(te:TE)(tl th:TO):TE:=λσ H Q=>te σ H λx H1=>tl σ H1 λl H2=>th σ H2 λu H3=>r x l u H3 Q
theorem Zx1{r:V->Option Int->Option Int->Hp->VK->Prop}(hr:SlR X r)(he:PE X e te)(hl:PO X lo tl)(hu:PO X hi th):PE X (.Subscript e (.Slice lo hi none p2) pos) (tSl r te tl th):=by
 intro pins s σ H Q I h;refine Subscript_ (thn (he pins s σ H _ I h) λv s1 hz0=>?_);obtain⟨x,H1,I1,r1,q1⟩:=hz0;refine wpAny_Slice (thn (hl pins s1 σ H1 _ I1 q1) λvl s2 ⟨l,H2,I2,pl,q2⟩=>thn (hu pins s2 σ H2 _ I2 q2) λvu s3 hz0=>?_);obtain⟨u,H3,I3,pu,q3⟩:=hz0;rw[evalPart_none];refine Yi ?_;have I4:Inv X pins σ H3 { s3 with heap:=s3.heap.push { cls:=.type "slice",data:=.fields #[vl,vu,.none] } }:=I3.kept (t':=s3.toks) λb ob q=>Yy5 _ q
 obtain⟨T,id,hT,ht,hg⟩:=hr pins { s3 with heap:=s3.heap.push { cls:=.type "slice",data:=.fields #[vl,vu,.none] } } σ H3 x v vl vu l u s3.heap.objs.size Q I4 r1 (Heap.IsSliceOf.new ..) pl pu q3;show wpAny (model X.prog X.w) X.A (subscriptTail e (.Slice lo hi none p2) v (.ref s3.heap.objs.size)) (EP X pins σ Q) X.xe { s3 with heap:=s3.heap.push { cls:=.type "slice",data:=.fields #[vl,vu,.none] } }
 exact tail_any (ops:=[.ref s3.heap.objs.size,v]) ht hT hg (by with_unfolding_all rfl)
def cutV(xs:List V)(lo hi:Option Int):List V:=(xs.drop (HT.sIx xs.length 0 lo)).take (HT.sIx xs.length xs.length hi - HT.sIx xs.length 0 lo)
theorem Zh1(xs:List V)(lo hi:Option Int):(cutV xs lo hi).length<=xs.length:=by unfold cutV;rw[Yz,Y0h];omega
def Zi13(K:PySem.W.Frag):R2:=λx y H Q=>∃ a b xs ys,x=.ref a/\y=.ref b/\SqT K H a xs/\SqT K H b ys/\xs≠[]/\xs.length+ys.length<=sizeLine /\
 (ys=[]->Q (.ref a) H)/\(ys≠[]->∀ p,H p=none->Q (.ref p) (upd H p (.tup (xs++ys))))
theorem Vals.nil_iff{xs:List V}{us:List Value}(r:Vals xs us):us=[]↔xs=[]:=by
 cases r with
 | nil=>simp
 | cons _ _=>simp
theorem Yz11:OpR X (binaryOp .Add) (Zi13 X.K):=by intro pins s σ H x y v u Q I rx ry h;obtain⟨a,b,xs,ys,rfl,rfl,ha,hb,hx,hz,q1,q2⟩:=h;cases rx;cases ry;obtain⟨its,r1,p1,_⟩:=I.tuple ha;obtain⟨its2,r2,p2,_⟩:=I.tuple hb;refine HT.cat_tup p1 p2 (λz=>hx (r1.nil_iff.mp z)) (λz=>⟨.ref a,H,I,rfl,q1 (r2.nil_iff.mp z)⟩) (λz=>?_) (by rw[<- r1.length,<- r2.length];exact hz);refine⟨.ref s.heap.objs.size,_,I.laid (t':=s.toks) (o:=.tup (xs++ys)) (λb ob q=>Yy5 _ q) (Yy8 _) ?_,rfl,q2 (λw=>z (r2.nil_iff.mpr w)) _ (I.hok.fresh (Yy8 _))⟩;exact⟨by rw[Yy4];exact hz,_,r1.append r2,IsTup.new _ _⟩
end
def ixN(n:Nat)(i:Int):Option Nat:=if 0<=i then (if i<n then some i.toNat else none) else if -(n:Int)<=i then some (i+n).toNat else none
def atI{α:Type}(xs:List α)(i:Int):Option α:=(ixN xs.length i).bind λj=>xs[j]?
theorem ZL8{n:Nat}{i:Int}{j:Nat}(h:ixN n i=some j):seqIndex? i n=some j/\j<n/\-(n:Int)<=i/\i<n:=by
 unfold ixN at h;by_cases h0:0<=i
 ·rw[if_pos h0]at h;by_cases h1:i<n
  ·rw[if_pos h1]at h;have e:i.toNat=j:=Yh h
   exact⟨by rw[seqIndex_of h0 h1,e],by omega,by omega,h1⟩
  ·rw[if_neg h1]at h;cases h
 ·rw[if_neg h0]at h;by_cases h1:-(n:Int)<=i
  ·rw[if_pos h1]at h;have e:(i+n).toNat=j:=Yh h
   exact⟨by rw[seqIndex_neg (by omega) h1,e],by omega,h1,by omega⟩
  ·rw[if_neg h1]at h;cases h
theorem Zz89{α:Type}{xs:List α}{i:Int}{v:α}(h:atI xs i=some v):∃ j,seqIndex? i xs.length=some j/\xs[j]?=some v/\j<xs.length/\-(xs.length:Int)<=i/\i<xs.length:=by
 unfold atI at h;cases e:ixN xs.length i with
 | none=>rw[e]at h;cases h
 | some j =>
  rw[e]at h;obtain⟨h1,h2,h3,h4⟩:=ZL8 e;exact⟨j,h1,h,h2,h3,h4⟩
def Zk12(b:Expr):Prop:=∀ o i,subscripted b false o i=operate [o,i] (getItem o i)
def IxR(X:Cx)(r:R2):Prop :=
 ∀(value slice:Expr) (pins:List (Addr × Obj)) (s:Shared) (σ:St) (H:Hp) (x y:V) (v u:Value) (Q:VK),Inv X pins σ H s->RelV x v->RelV y u->r x y H Q ->
  subscripted slice false v u=operate [v,u] (getItem v u)->wpAny (model X.prog X.w) X.A (subscriptTail value slice v u) (EP X pins σ Q) X.xe s
def MtR(X:Cx)(id:String)(r:V->List V->Hp->VK->Prop):Prop :=
 ∀(pins:List (Addr × Obj)) (s:Shared) (σ:St) (H:Hp) (x:V) (xs:List V) (v:Value) (us:List Value) (Q:VK),Inv X pins σ H s->RelV x v->Vals xs us->r x xs H Q ->
  wpAny (model X.prog X.w) X.A (call (.builtin id) (v :: us)) (EP X pins σ Q) X.xe s
section
variable{X:Cx}{a b:Expr}{ta tb:TE}{pos:Pos}
theorem ZP{r:R2}(hr:IxR X r)(ha:PE X a ta)(hb:PE X b tb)(hs:Zk12 b):PE X (.Subscript a b pos) (tOp r ta tb):=by intro pins s σ H Q I h;exact Subscript_ (binT ha hb I h λv u s2 x y H2 I2 rx ry q=>hr a b pins s2 σ H2 x y v u Q I2 rx ry q (hs _ _))
def rIxL(K:PySem.W.Frag):R2:=λx y H Q=>∃ p xs i v,x=.ref p/\y=.int i/\SqL K H p xs/\atI xs i=some v/\Q v H
def rIxT(K:PySem.W.Frag):R2:=λx y H Q=>∃ p xs i v,x=.ref p/\y=.int i/\SqT K H p xs/\atI xs i=some v/\Q v H
theorem ZM11:IxR X (rIxL X.K):=by
 intro value slice pins s σ H x y v u Q I rx ry h hs;obtain⟨p,xs,i,z,rfl,rfl,hq,he,q⟩:=h;cases rx;obtain⟨t,rfl⟩:=ry;obtain⟨its,r,pl,hz⟩:=I.list hq;obtain⟨j,h1,h2,h3,h4,h5⟩:=Zz89 he;obtain⟨w,ew,rw'⟩:=r.get h2;have hl:=r.length
 have hn:=ZF6;have fin:EP X pins σ Q w s:=⟨z,H,I,rw',q⟩
 by_cases h0:0<=i
 ·have hj:i.toNat=j:=by rw[seqIndex_of h0 h5]at h1;exact Yh h1
  exact item_listR pl.isList h0 (by omega) (by rw[hj];simpa using ew) fin hs
 ·have hj:(i+(its.toArray.size:Int)).toNat=j:=by rw[seqIndex_neg (by omega) h4]at h1;rw[Ya,<- hl];exact Yh h1
  exact subscriptTail_builtinR (x:=w) pl.isList.typeIs slot_list_getitem.lookup
   (wpAny_getItem_list_neg (Q:=λr s'=>r=w/\EP X pins σ Q r s') pl.isList (by omega) (by rw[Ya] <;> omega) (by omega) (by rw[hj];simpa using ew) ⟨rfl,fin⟩) hs
theorem Zz313:IxR X (rIxT X.K):=by
 intro value slice pins s σ H x y v u Q I rx ry h hs;obtain⟨p,xs,i,z,rfl,rfl,hq,he,q⟩:=h;cases rx;obtain⟨t,rfl⟩:=ry;obtain⟨its,r,pl,hz⟩:=I.tuple hq;obtain⟨j,h1,h2,h3,h4,h5⟩:=Zz89 he;obtain⟨w,ew,rw'⟩:=r.get h2;have hl:=r.length
 have hn:=ZF6;have fin:EP X pins σ Q w s:=⟨z,H,I,rw',q⟩
 exact subscriptTail_builtinR (x:=w) pl.typeIs slot_tuple_getitem.lookup
  (getItem_tuple (j:=j) (Q:=λr s'=>r=w/\EP X pins σ Q r s') pl (by omega) (by omega) (by rw[Ya,<- hl];exact h1) (by simpa using ew) ⟨rfl,fin⟩) hs
theorem Yz6 (its:List Value) (n j:Nat) (u:Value):Obj.mapSeq (·.setIfInBounds j u) { cls:=.type "list",data:=.seq its.toArray n }={ cls:=.type "list",data:=.seq (its.set j u).toArray n }:=by simp[Obj.mapSeq]
theorem Inv.lst{pins:List (Addr × Obj)}{σ:St}{H:Hp}{s:Shared}{p:Addr}{xs:List V}(I:Inv X pins σ H s)(h:H p=some (.lst xs)) :
  ∃(its:List Value) (n:Nat),Vals xs its/\s.heap.get? p=some { cls:=.type "list",data:=.seq its.toArray n }/\xs.length<=sizeLine:=by obtain⟨z,its,n,r,e⟩:=I.hok p _ h;exact⟨its,n,r,e,z⟩
theorem Inv.lstUpd{pins:List (Addr × Obj)}{σ:St}{H:Hp}{s:Shared}{p:Addr}{xs ys:List V}{its its':List Value}{n n':Nat}{f:Obj->Obj}(I:Inv X pins σ H s)(h:H p=some (.lst xs))
  (ho:s.heap.get? p=some { cls:=.type "list",data:=.seq its.toArray n }) (hf:f { cls:=.type "list",data:=.seq its.toArray n }={ cls:=.type "list",data:=.seq its'.toArray n' }) (r:Vals ys its') (hz:ys.length<=sizeLine) (t:Nat) :
  Inv X pins σ (upd H p (.lst ys)) { s with heap:=s.heap.update p f,toks:=t }:=by
 have e:(s.heap.update p f).get? p=some { cls:=.type "list",data:=.seq its'.toArray n' }:=by rw[Yy03 f ho (by rw[hf] <;> rfl),hf]
 refine I.write (x:=p) (e:=p) (by rw[h];trivial) (.inl rfl) (λb u hb q=>(YM _ _ (YY hb)).trans q) ⟨_,e⟩ ?_;exact⟨hz,its',n',r,e⟩
def ZB13:V->V->V->Hp->(Hp->Prop)->Prop:=λo i v H Q=>∃ p xs k j,o=.ref p/\i=.int k/\H p=some (.lst xs)/\ixN xs.length k=some j/\Q (upd H p (.lst (xs.set j v)))
theorem Zm2:PSet X ZB13:=by
 intro pins s σ H o i v ov iv u Q I ro ri rv h;obtain⟨p,xs,k,j,rfl,rfl,hp,hj,q⟩:=h;cases ro;obtain⟨t,rfl⟩:=ri;obtain⟨its,n,r,ho,hz⟩:=I.lst hp;obtain⟨h1,h2,h3,h4⟩:=ZL8 hj;have hl:=r.length
 have hn:=ZF6;have I':Inv X pins σ (upd H p (.lst (xs.set j v))) { s with heap:=s.heap.update p (Obj.mapSeq (·.setIfInBounds j u)) } :=
  I.lstUpd hp ho (Yz6 its n j u) (r.set rv j) (by rw[Y0Z];exact hz) s.toks
 by_cases h0:0<=k
 ·have hk:k.toNat=j:=by rw[seqIndex_of h0 h4]at h1;exact Yh h1
  exact PySem.W.ki_setAt ho h0 (by omega) (by rw[Ya,<- hl];exact h4) (by rw[hk];exact⟨_,I',q⟩)
 ·have hk:(k+(its.toArray.size:Int)).toNat=j:=by rw[seqIndex_neg (by omega) h3]at h1;rw[Ya,<- hl];exact Yh h1
  exact PySem.W.ki_setBack ho (by omega) (by rw[Ya,<- hl];exact h3) (by omega) (by rw[hk];exact⟨_,I',q⟩)
theorem Zz44(lo hi:Option Int)(n:Nat):(sliceBounds lo hi none n).1=((HT.sIx n 0 lo:Nat):Int)/\(sliceBounds lo hi none n).2.1=((HT.sIx n n hi:Nat):Int)/\(sliceBounds lo hi none n).2.2=1:=by
 refine⟨?_,?_,rfl⟩
 ·cases lo with
  | none=>simp[sliceBounds,HT.sIx]
  | some i =>
   simp only [sliceBounds,HT.sIx,Option.getD_none,show(1:Int) > 0 by decide,Yy30];by_cases h:i<0
   ·simp only [h,Yy30] <;> omega
   ·simp only [h,if_false] <;> omega
 ·cases hi with
  | none=>simp[sliceBounds,HT.sIx]
  | some i =>
   simp only [sliceBounds,HT.sIx,Option.getD_none,show(1:Int) > 0 by decide,Yy30];by_cases h:i<0
   ·simp only [h,Yy30] <;> omega
   ·simp only [h,if_false] <;> omega
theorem Zv3(its:List Value)(lo hi:Option Int):slicePick its.toArray lo hi none=((its.drop (HT.sIx its.length 0 lo)).take (HT.sIx its.length its.length hi - HT.sIx its.length 0 lo)).toArray:=by obtain⟨h1,h2,h3⟩:=Zz44 lo hi its.toArray.size;unfold slicePick;rw[h1,h2,h3];simp only [sliceRange_one,pick_run,Ya] <;> rfl
def rSlL(K:PySem.W.Frag):V->Option Int->Option Int->Hp->VK->Prop:=λx lo hi H Q=>∃ a xs,x=.ref a/\SqL K H a xs/\∀ p,H p=none->Q (.ref p) (upd H p (.lst (cutV xs lo hi)))
theorem Zz511:SlR X (rSlL X.K):=by
 intro pins s σ H x v vl vu lo hi sl Q I rx hs pl pu h;obtain⟨a,xs,rfl,hx,q⟩:=h;cases rx;obtain⟨its,r,ht,hz⟩:=I.list hx;have hlen:=r.length
 refine⟨"list",_,slot_list_getitem.lookup,ht.isList.typeIs,?_⟩;refine wpAny_getItem_list_slice ht.isList hs pl pu .none (by simp) ?_ (by rw[Ya] <;> omega)
 rw[Zv3,<- hlen];refine⟨.ref s.heap.objs.size,_,I.laid (t':=s.toks) (o:=.lst (cutV xs lo hi)) (λb ob q=>Yy5 _ q) (Yy8 _) ?_,rfl,q _ (I.hok.fresh (Yy8 _))⟩;exact⟨Yt (Zh1 xs lo hi) hz,_,0,(r.drop (HT.sIx xs.length 0 lo)).take (HT.sIx xs.length xs.length hi - HT.sIx xs.length 0 lo),Ym _ rfl⟩
def ZY3:V->Bool
 | .non=>true
 | .bl _=>true
 | .int _=>true
 | .str _=>true
 | _=>false
def eqV:V->V->Bool
 | .non,.non=>true
 | .bl a,.bl b=>a == b
 | .bl a,.int b=>(if a then 1 else 0) == b
 | .int a,.bl b=>a == (if b then 1 else 0)
 | .int a,.int b=>a == b
 | .str a,.str b=>a == b
 | _,_=>false
theorem Zz012{A:Around}{s:Shared}{y x:V}{u v:Value}(ry:RelV y u)(rx:RelV x v)(fy:ZY3 y=true)(fx:ZY3 x=true):SeqAt.EqAt A s u v (eqV y x):=by
 cases y with
 | non =>
  cases ry;cases x with
  | non=>cases rx;exact SeqAt.EqAt.same _
  | bl b=>cases rx;exact SeqAt.EqAt.none_bool b
  | int b=>obtain⟨t,rfl⟩:=rx;exact SeqAt.EqAt.none_int b t
  | str b=>obtain⟨t,rfl⟩:=rx;exact SeqAt.EqAt.none_str b t
  | _=>exact absurd (show false=true from fx) Ys
 | bl a =>
  cases ry;cases x with
  | non=>cases rx;exact SeqAt.EqAt.bool_none a
  | bl b=>cases rx;exact SeqAt.EqAt.bool_bool a b
  | int b=>obtain⟨t,rfl⟩:=rx;exact SeqAt.EqAt.bool_int a b t
  | str b=>obtain⟨t,rfl⟩:=rx;exact SeqAt.EqAt.bool_str a b t
  | _=>exact absurd (show false=true from fx) Ys
 | int a =>
  obtain⟨t',rfl⟩:=ry;cases x with
  | non=>cases rx;exact SeqAt.EqAt.int_none a t'
  | bl b=>cases rx;exact SeqAt.EqAt.int_bool a t' b
  | int b=>obtain⟨t,rfl⟩:=rx;exact SeqAt.EqAt.int_int a t' b t
  | str b=>obtain⟨t,rfl⟩:=rx;exact SeqAt.EqAt.int_str a t' b t
  | _=>exact absurd (show false=true from fx) Ys
 | str a =>
  obtain⟨t',rfl⟩:=ry;cases x with
  | non=>cases rx;exact SeqAt.EqAt.str_none a t'
  | bl b=>cases rx;exact SeqAt.EqAt.str_bool a t' b
  | int b=>obtain⟨t,rfl⟩:=rx;exact SeqAt.EqAt.str_int a t' b t
  | str b=>obtain⟨t,rfl⟩:=rx;exact SeqAt.EqAt.str_str a t' b t
  | _=>exact absurd (show false=true from fx) Ys
 | _=>exact absurd (show false=true from fy) Ys
def eqU(x:V)(u:Value):Bool:=match u with
 | .none=>eqV .non x
 | .bool b=>eqV (.bl b) x
 | .int i _=>eqV (.int i) x
 | .str z _=>eqV (.str z) x
 | _=>false
theorem ZZ11{x y:V}{u:Value}(r:RelV y u)(f:ZY3 y=true):eqU x u=eqV y x:=by
 cases y with
 | non=>cases r;rfl
 | bl b=>cases r;rfl
 | int i=>obtain⟨t,rfl⟩:=r;rfl
 | str z=>obtain⟨t,rfl⟩:=r;rfl
 | _=>exact absurd (show false=true from f) Ys
theorem ZW3{x:V}:∀ {xs:List V} {us:List Value},Vals xs us->xs.all ZY3=true->us.any (eqU x)=xs.any λy=>eqV y x
 | _,_,.nil,_=>rfl
 | y :: xs,u :: us,.cons r t,f=>by rw[List.all_cons,Y0W]at f;rw[Yy26,Yy26,ZZ11 r f.1,ZW3 t f.2]
theorem Zz02{A:Around}{s:Shared}{x:V}{v:Value}(rx:RelV x v)(fx:ZY3 x=true):∀ {xs:List V} {us:List Value},Vals xs us->xs.all ZY3=true->∀ u∈us,SeqAt.EqAt A s u v (eqU x u)
 | _,_,.nil,_=>λu hu=>by cases hu
 | y :: xs,u :: us,.cons r t,f=>λu' hu=>by
  rw[List.all_cons,Y0W]at f;rcases Yf.mp hu with rfl | hu
  ·rw[ZZ11 r f.1];exact Zz012 r rx f.1 fx
  ·exact Zz02 rx fx t f.2 u' hu
def inV(x:V)(xs:List V):Bool:=xs.any λy=>eqV y x
def rIn(K:PySem.W.Frag)(neg:Bool):R2:=λx y H Q=>∃ p xs,y=.ref p/\(SqL K H p xs\/SqT K H p xs)/\ZY3 x=true/\xs.all ZY3=true/\Q (.bl (if neg then !inV x xs else inV x xs)) H
theorem ZJ7:OpR X (compareOp .In) (rIn X.K false):=by
 intro pins s σ H x y v u Q I rx ry h;obtain⟨p,xs,rfl,hq,fx,fs,q⟩:=h;cases ry;rcases hq with hq | hq
 ·obtain⟨its,r,pl,hz⟩:=I.list hq;refine SeqAt.in_listAt (eqU x) pl.isList (λw hw=>Zz02 rx fx r fs w (by simpa using hw)) ⟨.bl _,H,I,rfl,?_⟩;rw[show its.toArray.any (eqU x)=its.any (eqU x) by simp,ZW3 r fs];exact q
 ·obtain⟨its,r,pl,hz⟩:=I.tuple hq;refine SeqAt.in_tupleAt (eqU x) pl (λw hw=>Zz02 rx fx r fs w (by simpa using hw)) ⟨.bl _,H,I,rfl,?_⟩;rw[show its.toArray.any (eqU x)=its.any (eqU x) by simp,ZW3 r fs];exact q
theorem Zz94:OpR X (compareOp .NotIn) (rIn X.K true):=by
 intro pins s σ H x y v u Q I rx ry h;obtain⟨p,xs,rfl,hq,fx,fs,q⟩:=h;cases ry;rcases hq with hq | hq
 ·obtain⟨its,r,pl,hz⟩:=I.list hq;refine SeqAt.notIn_listAt (eqU x) pl.isList (λw hw=>Zz02 rx fx r fs w (by simpa using hw)) ⟨.bl _,H,I,rfl,?_⟩;rw[show its.toArray.any (eqU x)=its.any (eqU x) by simp,ZW3 r fs];exact q
 ·obtain⟨its,r,pl,hz⟩:=I.tuple hq;refine SeqAt.notIn_tupleAt (eqU x) pl (λw hw=>Zz02 rx fx r fs w (by simpa using hw)) ⟨.bl _,H,I,rfl,?_⟩;rw[show its.toArray.any (eqU x)=its.any (eqU x) by simp,ZW3 r fs];exact q
theorem Zp4:ZX3 X (.builtin "len") (λxs H Q=>∃ p ys,xs=[.ref p]/\(SqL X.K H p ys\/SqT X.K H p ys)/\Q (.int ys.length) H):=by
 intro pins s σ H xs us Q I r h;obtain⟨p,ys,rfl,hq,q⟩:=h;obtain⟨u,rfl,rx⟩:=ZZ3 r;cases rx;have hn:=ZF6
 rcases hq with hq | hq
 ·obtain⟨its,r',pl,hz⟩:=I.list hq;have hlen:=r'.length
  exact Calls.call_len_list pl.isList (by simp only [Ya] <;> omega) ⟨.int ys.length,H,I.tok _,⟨s.toks+1,by rw[Ya,hlen]⟩,q⟩
 ·obtain⟨its,r',pl,hz⟩:=I.tuple hq;have hlen:=r'.length
  exact len_tuple pl (by simp only [Ya] <;> omega) ⟨.int ys.length,H,I.tok _,⟨s.toks+1,by rw[Ya,hlen]⟩,q⟩
theorem Zo4:ZX3 X (.type "list") (λxs H Q=>∃ p ys,xs=[.ref p]/\(SqL X.K H p ys\/SqT X.K H p ys)/\∀ l,H l=none->Q (.ref l) (upd H l (.lst ys))):=by
 intro pins s σ H xs us Q I r h;obtain⟨p,ys,rfl,hq,q⟩:=h;obtain⟨u,rfl,rx⟩:=ZZ3 r;cases rx;have fin:∀(its:List Value),Vals ys its->ys.length<=sizeLine->∀(h':Heap) (c':Nat),(∀ b o',s.heap.get? b=some o'->h'.get? b=some o') ->
   h'.get? s.heap.objs.size=some { cls:=.type "list",dict:=none,data:=.seq its.toArray c',slots:=#[] }->EP X pins σ Q (.ref s.heap.objs.size) { s with heap:=h' }:=λits r' hz h' c' kp e =>
  ⟨.ref s.heap.objs.size,_,I.laid (t':=s.toks) kp (Yy8 _) (show ObjOk X.prog X.w _ h' _ (.lst ys) from⟨hz,its,c',r',e⟩),rfl,q _ (I.hok.fresh (Yy8 _))⟩
 rcases hq with hq | hq
 ·obtain⟨its,r',pl,hz⟩:=I.list hq;have hlen:=r'.length
  obtain⟨o,ho,hc,n,hd⟩:=pl.isList;exact call_list_seq p (.inl rfl) ho hc hd (λh' c' kp e=>fin its r' hz h' c' kp e) (by simp only [Ya] <;> omega)
 ·obtain⟨its,r',pl,hz⟩:=I.tuple hq;have hlen:=r'.length
  obtain⟨o,ho,hc,n,hd⟩:=pl;exact call_list_seq p (.inr rfl) ho hc hd (λh' c' kp e=>fin its r' hz h' c' kp e) (by simp only [Ya] <;> omega)
theorem ZS3:ZX3 X (.type "tuple") (λxs H Q=>∃ p ys,xs=[.ref p]/\((SqL X.K H p ys/\∀ l,H l=none->Q (.ref l) (upd H l (.tup ys)))\/(SqT X.K H p ys/\Q (.ref p) H))):=by
 intro pins s σ H xs us Q I r h;obtain⟨p,ys,rfl,h⟩:=h;obtain⟨u,rfl,rx⟩:=ZZ3 r;cases rx;rcases h with ⟨hq,q⟩ | ⟨hq,q⟩
 ·obtain⟨its,r',pl,hz⟩:=I.list hq;have hlen:=r'.length
  refine call_tuple_list pl.isList (λh' kp=>?_) (by simp only [Ya] <;> omega)
  have I1:Inv X pins σ H { s with heap:=h' }:=I.kept (t':=s.toks) kp;have I2:Inv X pins σ (upd H h'.objs.size (.tup ys)) { s with heap:=h'.push { cls:=.type "tuple",data:=.seq its.toArray } } :=
   I1.laid (t':=s.toks) (λb o e=>Yy5 _ e) (Yy8 _) (show ObjOk X.prog X.w _ _ _ (.tup ys) from⟨hz,its,r',IsTup.new _ _⟩)
  exact⟨.ref h'.objs.size,_,I2,rfl,q _ (I1.hok.fresh (Yy8 _))⟩
 ·obtain⟨its,r',pl,hz⟩:=I.tuple hq;exact call_tuple_same pl ⟨.ref p,H,I,rfl,q⟩
def tyV(K:PySem.W.Frag)(T:String)(x:V)(H:Hp):Prop:=match x with
 | .str _=>T="str"
 | .int _=>T="int"
 | .ref p=>(T="list"/\∃ xs,SqL K H p xs)\/(T="tuple"/\∃ o,K.lookup p=some o/\o.cls=.type "tuple"/\o.dict=none) \/
   (T="dict"/\((∃ kvs,H p=some (.dK kvs))\/∃ kvs,H p=some (.dT kvs)))\/(T="set"/\∃ S n,H p=some (.set S n))
 | _=>False
theorem ZT10{pins:List (Addr × Obj)}{σ:St}{H:Hp}{s:Shared}{T:String}{x:V}{v:Value}(I:Inv X pins σ H s)(r:RelV x v)(ty:tyV X.K T x H) :
  s.TypeIs v T/\∀ a,v=.ref a->∃ ob,s.heap.get? a=some ob/\ob.dict=none:=by
 cases x with
 | str z =>
  obtain⟨t,rfl⟩:=r;cases (show T="str" from ty);exact⟨typeIs_str s z t,λ_ e=>nomatch e⟩
 | int i =>
  obtain⟨t,rfl⟩:=r;cases (show T="int" from ty);exact⟨typeIs_int s i t,λ_ e=>nomatch e⟩
 | ref p =>
  cases r;rcases ty with ⟨rfl,xs,hq⟩ | ⟨rfl,o,hk,hc,hd⟩ | ⟨rfl,hk⟩ | ⟨rfl,S,n,hk⟩
  ·obtain⟨its,_,pl,_⟩:=I.list hq;refine⟨pl.isList.typeIs,λa e=>?_⟩;cases e;obtain⟨o,n,e,c,hd,_⟩:=pl;exact⟨o,e,hd⟩
  ·refine⟨⟨o,I.kIn p o hk,hc⟩,λa e=>?_⟩;cases e;exact⟨o,I.kIn _ o hk,hd⟩
  ·have z:∃ o,s.heap.get? p=some o/\o.ExactDict:=by
    rcases hk with ⟨kvs,hk⟩ | ⟨kvs,hk⟩
    ·obtain⟨_,_,_,_,o,_,_,e,ex,_⟩:=I.hok p _ hk;exact⟨o,e,ex⟩
    ·obtain⟨_,_,_,_,o,_,_,e,ex,_⟩:=I.hok p _ hk;exact⟨o,e,ex⟩
   obtain⟨o,e,ex⟩:=z;refine⟨⟨o,e,ex.1⟩,λa e2=>?_⟩;cases e2;exact⟨o,e,ex.2.1⟩
  ·obtain⟨o,_,_,_,e,ex,_⟩:=I.hok p _ hk;refine⟨⟨o,e,ex.1⟩,λa e2=>?_⟩;cases e2;exact⟨o,e,ex.2.1⟩
 | _=>exact False.elim ty
def tBM0(K:PySem.W.Frag)(T:String)(r:V->List V->Hp->VK->Prop)(to:TE):TE:=λσ H Q=>to σ H λx H1=>tyV K T x H1/\r x [] H1 Q
def tBM(K:PySem.W.Frag)(T:String)(r:V->List V->Hp->VK->Prop)(to:TE)(t:TA):TE:=λσ H Q=>to σ H λx H1=>tyV K T x H1/\t σ H1 λxs H2=>r x xs H2 Q
variable{o e:Expr}{es:List Expr}{to:TE}{t:TA}{name:Str}{apos cpos:Pos}{T id:String}{r:V->List V->Hp->VK->Prop}
theorem ZR12 (pa:PlainAttrs T) (slot:Slot T name id) (hty:typeOf (.builtin id)=pure (.type "method_descriptor")) (hm:MtR X id r) (ho:PE X o to)
  (hbase:attributeBase o name X.env (eval o X.env)=eval o X.env:=by rfl) (hline:(apos.endLine == cpos.line)=true:=by rfl):PE X (.Call (.Attribute o name apos) [] [] cpos) (tBM0 X.K T r to):=by intro pins s σ H Q I h;refine wpAny_Call_method0_late hbase hline (thn (ho pins s σ H _ I h) λv s1 hz0=>?_);obtain⟨x,H1,I1,r1,ty,q1⟩:=hz0;obtain⟨h1,h2⟩:=ZT10 I1 r1 ty;exact⟨T,id,pa,slot,hty,h1,h2,Calls.callWith_builtin rfl (PySem.evalArgs_none (hm pins s1 σ H1 x [] v [] Q I1 r1 .nil q1))⟩
theorem ZF13 (pa:PlainAttrs T) (slot:Slot T name id) (hty:typeOf (.builtin id)=pure (.type "method_descriptor")) (hm:MtR X id r) (ho:PE X o to) (ha:PA X (e :: es) t)
  (hbase:attributeBase o name X.env (eval o X.env)=eval o X.env:=by rfl)
  (hfew:((backTo cpos (starEach (e :: es) X.env)).all (λx=>!x.1) && (backToKw cpos (keywordEach [] X.env)).all (λx=>x.1.isSome)
   && decide ((e :: es).length+([]:List Keyword).length+(if ([]:List Keyword).isEmpty then 0 else 1)<30))=true:=by rfl)
  (hline:(apos.endLine == cpos.line)=true:=by rfl) (hs:starEach (e :: es) X.env=(false,eval e X.env) :: starEach es X.env:=by rfl) (hplain:(backTo cpos (starEach es X.env)).any (·.1)=false:=by rfl) :
  PE X (.Call (.Attribute o name apos) (e :: es) [] cpos) (tBM X.K T r to t):=by
 intro pins s σ H Q I h;refine wpAny_Call_method_late hbase hfew hline rfl (thn (ho pins s σ H _ I h) λv s1 hz0=>?_);obtain⟨x,H1,I1,r1,ty,q1⟩:=hz0;obtain⟨h1,h2⟩:=ZT10 I1 r1 ty;refine⟨T,id,pa,slot,hty,h1,h2,?_⟩;have hA:=ha cpos pins s1 σ H1 _ I1 q1
 rw[hs]at hA ⊢;refine Calls.callWith_builtin (by show(false || (backTo cpos (starEach es X.env)).any (·.1))=false;rw[hplain] <;> rfl) (Calls.evalArgs_plain ?_)
 exact thn hA λus s2 ⟨vs,H2,I2,r2,q2⟩=>hm pins s2 σ H2 x vs v us Q I2 r1 r2 q2
end
def MtM(X:Cx)(id:String)(r:V->List V->Hp->VK->Prop):Prop :=
 ∀(pins:List (Addr × Obj)) (s:Shared) (σ:St) (H:Hp) (x:V) (xs:List V) (v:Value) (us:List Value) (Q:VK),Inv X pins σ H s->RelV x v->Vals xs us->r x xs H Q ->
  wpAny (model X.prog X.w) X.A (call (.builtin id) (v :: us)) (EP X pins σ Q) X.xe s
theorem Vals.one{x:V}{us:List Value}(r:Vals [x] us):∃ u,us=[u]/\RelV x u:=by
 cases r with
 | cons a r=>cases r;exact⟨_,rfl,a⟩
theorem Vals.eraseIdx:∀ {xs:List V} {us:List Value} (i:Nat),Vals xs us->Vals (xs.eraseIdx i) (us.eraseIdx i)
 | _,_,_,.nil=>.nil
 | _,_,0,.cons _ t=>t
 | _,_,i+1,.cons r t=>.cons r (Vals.eraseIdx i t)
theorem Vals.rep{xs:List V}{us:List Value}(h:Vals xs us):∀ k:Nat,Vals (List.replicate k xs).flatten (List.replicate k us).flatten
 | 0=>.nil
 | k+1=>by rw[Y0D,Y0D,Y1t,Y1t];exact Vals.append h (Vals.rep h k)
theorem ZJ4{α:Type}:∀(l:List α) (i:Nat),(l.eraseIdx i).length<=l.length
 | [],_=>Yy8 _
 | _ :: _,0=>Y0j _
 | _ :: r,i+1=>Nat.succ_le_succ (ZJ4 r i)
theorem ZX4(its:List Value):∀(k:Nat) (acc:List Value),
  List.foldl (λx1 x2=>x1++x2) acc.toArray (List.replicate k its.toArray)=(acc++(List.replicate k its).flatten).toArray
 | 0,acc=>by simp
 | k+1,acc=>by
  have e:acc.toArray++its.toArray=(acc++its).toArray:=by simp
  have e2:(acc++its)++(List.replicate k its).flatten=acc++(List.replicate (k+1) its).flatten:=by rw[Y0D,Y1t,Y0a]
  rw[<- e2,<- ZX4 its k (acc++its),<- e,Y0D,Y2b]
section
variable{X:Cx}{pins:List (Addr × Obj)}{σ:St}{H:Hp}{s:Shared}{l:Addr}{xs ys:List V}
theorem Inv.lset{its its':List Value}{n:Nat}{f:Array Value->Array Value}{t':Nat}(I:Inv X pins σ H s)(hH:H l=some (.lst xs))
  (e:s.heap.get? l=some { cls:=.type "list",data:=.seq its.toArray n }) (hf:f its.toArray=its'.toArray) (hv:Vals ys its') (hz:ys.length<=sizeLine) :
  Inv X pins σ (upd H l (.lst ys)) { s with heap:=s.heap.update l (Obj.mapSeq f),toks:=t' }:=by have q:=PySem.IsL.update e f;rw[hf]at q;refine I.write (x:=l) (e:=l) (by rw[hH];exact trivial) (.inl rfl) (λb' u hb hu=>(YM s.heap (Obj.mapSeq f) (YY hb)).trans hu) ⟨_,q⟩ ?_;exact⟨hz,its',_,hv,q⟩
theorem Inv.lnew{its:List Value}{t':Nat}(I:Inv X pins σ H s)(hv:Vals ys its)(hz:ys.length<=sizeLine) :
  Inv X pins σ (upd H s.heap.objs.size (.lst ys)) { s with heap:=s.heap.push { cls:=.type "list",data:=.seq its.toArray },toks:=t' } :=
 I.laid (λ_ _ q=>Yy5 _ q) (Yy8 _) ⟨hz,its,0,hv,Ym _ rfl⟩
theorem Inv.fresh(I:Inv X pins σ H s):H s.heap.objs.size=none:=I.hok.fresh (Yy8 _)
theorem Inv.lstM (I:Inv X pins σ H s) (hH:H l=some (.lst xs)):xs.length<=sizeLine/\∃(its:List Value) (n:Nat),Vals xs its/\xs.length=its.length/\s.heap.get? l=some { cls:=.type "list",data:=.seq its.toArray n }:=by obtain⟨z,its,n,r,e⟩:=I.hok l _ hH;exact⟨z,its,n,r,r.length,e⟩
theorem Zs6{n:Nat}(h:n<=sizeLine):Builtin.List.listTooLong n=false:=by unfold Builtin.List.listTooLong;exact Yy09 (by omega)
end
section
variable{X:Cx}
def Zm11:V->List V->Hp->VK->Prop:=λx vs H Q=>∃ l xs y,x=.ref l/\vs=[y]/\H l=some (.lst xs)/\xs.length<sizeLine/\Q .non (upd H l (.lst (xs++[y])))
theorem ZT1:MtM X "list.append" Zm11:=by intro pins s σ H x vs v us Q I rx rv h;obtain⟨l,xs,y,rfl,rfl,hH,hz,q⟩:=h;cases rx;obtain⟨u,rfl,ru⟩:=rv.one;obtain⟨z,its,n,r,hl,e⟩:=I.lstM hH;refine Y2l F.slot_list_append ⟨_,e,rfl⟩ F.entry_list_append (F.args_list_append_2 _ _) (PySem.list_append l its.toArray n u (by rw[Ya];omega)) ⟨e,?_⟩;refine⟨.non,_,I.lset (its':=its++[u]) hH e (by simp) (r.append (.cons ru .nil)) ?_,rfl,q⟩;rw[Yy4,Yj];omega
def Zl11:V->List V->Hp->VK->Prop:=λx vs H Q=>∃ l b xs zs,x=.ref l/\vs=[.ref b]/\H l=some (.lst xs)/\H b=some (.lst zs)/\xs.length+zs.length<=sizeLine/\Q .non (upd H l (.lst (xs++zs)))
theorem ZF4:MtM X "list.extend" Zl11:=by
 intro pins s σ H x vs v us Q I rx rv h;obtain⟨l,b,xs,zs,rfl,rfl,hH,hB,hz,q⟩:=h;cases rx;obtain⟨u,rfl,ru⟩:=rv.one;cases ru;obtain⟨z,its,n,r,hl,e⟩:=I.lstM hH;obtain⟨z2,its2,n2,r2,hl2,e2⟩:=I.lstM hB;have hsz:its.toArray.size+its2.toArray.size<=sizeLine:=by rw[Ya,Ya];omega
 have hlong:¬ (!its.toArray.isEmpty && Builtin.List.listTooLong (its.toArray.size+its2.toArray.size))=true:=by rw[Zs6 hsz,Bool.and_false];exact Ys
 refine Y2l F.slot_list_extend ⟨_,e,rfl⟩ F.entry_list_extend (F.args_list_extend_2 _ _)
  (AutoSeq1.list_extend_list_list_0 l its.toArray n b its2.toArray n2 hlong (by rw[Ya];omega) (by omega)) ⟨e,e2,?_⟩
 refine⟨.non,_,I.lset (its':=its++its2) hH e (by simp) (r.append r2) ?_,rfl,q⟩;rw[Yy4];omega
def ZF12:V->List V->Hp->VK->Prop:=λx vs H Q=>∃ l xs i k y,x=.ref l/\vs=[.int i]/\H l=some (.lst xs)/\-(2 ^ 63)<=i/\i<2 ^ 63/\seqIndex? i xs.length=some k/\xs[k]?=some y/\Q y (upd H l (.lst (xs.eraseIdx k)))
theorem Zu6:MtM X "list.pop" ZF12:=by
 intro pins s σ H x vs v us Q I rx rv h;obtain⟨l,xs,i,k,y,rfl,rfl,hH,h1,h2,hk,hy,q⟩:=h;cases rx;obtain⟨u,rfl,ru⟩:=rv.one;obtain⟨t,rfl⟩:=ru;obtain⟨z,its,n,r,hl,e⟩:=I.lstM hH;obtain⟨w,hw,rw'⟩:=r.get hy;refine Y2l F.slot_list_pop ⟨_,e,rfl⟩ F.entry_list_pop (F.args_list_pop_2 _ _)
  (MeetsSeq.list_pop_at l its.toArray n i t k w (fitsIndex_both h1 h2) (by rw[Ya,<- hl];exact hk) (by rw[<- QP];exact hw) (by rw[Ya];omega)) ⟨e,?_⟩
 refine⟨y,_,I.lset (its':=its.eraseIdx k) hH e ?_ (r.eraseIdx k) ?_,rw',q⟩
 ·show its.toArray.eraseIdxIfInBounds k=(its.eraseIdx k).toArray;rw[List.eraseIdxIfInBounds_toArray]
 ·have:=ZJ4 xs k
  omega
def rCat:R2:=λx y H Q=>∃ l b xs zs,x=.ref l/\y=.ref b/\H l=some (.lst xs)/\H b=some (.lst zs)/\xs.length+zs.length<=sizeLine/\∀ p,H p=none->Q (.ref p) (upd H p (.lst (xs++zs)))
theorem Zp6:OpR X (binaryOp .Add) rCat:=by
 intro pins s σ H x y v u Q I rx ry h;obtain⟨l,b,xs,zs,rfl,rfl,hH,hB,hz,q⟩:=h;cases rx;cases ry;obtain⟨z,its,n,r,hl,e⟩:=I.lstM hH;obtain⟨z2,its2,n2,r2,hl2,e2⟩:=I.lstM hB;refine PySem.P.add_list e e2 ?_ (by rw[Ya,Ya];omega);have ea:its.toArray++its2.toArray=(its++its2).toArray:=by simp
 rw[ea];exact⟨.ref _,_,I.lnew (t':=s.toks) (r.append r2) (by rw[Yy4];omega),rfl,q _ I.fresh⟩
def rRep:R2:=λx y H Q=>∃ l k xs,x=.ref l/\y=.int k/\H l=some (.lst xs)/\-(2 ^ 63)<=k/\k<2 ^ 63/\xs.length * k.toNat<=sizeLine /\
 ∀ p,H p=none->Q (.ref p) (upd H p (.lst (List.replicate k.toNat xs).flatten))
theorem ZH11{α:Type}(xs:List α)(k:Nat):(List.replicate k xs).flatten.length=k * xs.length:=by
 induction k with
 | zero=>simp
 | succ k ih=>rw[Y0D,Y1t,Yy4,ih,Nat.succ_mul,Nat.add_comm]
theorem Zu11:OpR X (binaryOp .Mult) rRep:=by
 intro pins s σ H x y v u Q I rx ry h;obtain⟨l,k,xs,rfl,rfl,hH,h1,h2,hz,q⟩:=h;cases rx;obtain⟨t,rfl⟩:=ry;obtain⟨z,its,n,r,hl,e⟩:=I.lstM hH;have hlen:its.toArray.size * k.toNat<=sizeLine:=by rw[Ya,<- hl];exact hz
 have hcap:¬ its.toArray.size * k.toNat > (2 ^ 63 - 1) / 8:=by
  have:(sizeLine:Nat)<=(2 ^ 63 - 1) / 8:=by decide
  omega
 have hfit:¬ (!Builtin.List.listFitsIndex k)=true:=by rw[fitsIndex_both h1 h2];exact Ys
 have hlong:¬ Builtin.List.listTooLong (its.toArray.size * k.toNat)=true:=by rw[Zs6 hlen];exact Ys
 have hnew:List.foldl (λx1 x2=>x1++x2) #[] (List.replicate (if its.toArray.isEmpty=true then 0 else k.toNat) its.toArray)=(List.replicate k.toNat its).flatten.toArray:=by
  have f0:∀ m:Nat,List.foldl (λx1 x2=>x1++x2) #[] (List.replicate m its.toArray)=(List.replicate m its).flatten.toArray:=λm=>by
   have:=ZX4 its m []
   rw[Y0t]at this;exact this
  rw[f0];cases its with
  | nil=>simp
  | cons a r'=>rw[if_neg (by simp)]
 refine wpAny_binaryOp_repeat_ref (T:="list") (U:="int") (by decide) ⟨_,e,rfl⟩ (λs'=>typeIs_int s' k t) noFill_list_mul F.fills_int_mul F.slot_int_rmul repeat_list F.slot_int_index.lookup
  (Y2l F.slot_int_rmul (typeIs_int s k t) F.entry_int_rmul (F.args_int_rmul_2 _ _) (int___rmul___int_list k t l its.toArray n)
   ⟨e,rfl,⟨_,e,rfl⟩,Y2l F.slot_list_mul ⟨_,e,rfl⟩ F.entry_list_mul (F.args_list_mul_2 _ _) (AutoListH.list___mul___list_int_3 l its.toArray n k t hfit hcap hlong) ⟨e,?_⟩⟩)
 rw[hnew];exact⟨.ref _,_,I.lnew (t':=s.toks) (r.rep k.toNat) (by rw[ZH11,Y2I];exact hz),rfl,q _ I.fresh⟩
end
section
variable{κ:Type}[DecidableEq κ]
def valV(kvs:List (κ × V))(k:κ):Option V:=(kvs.find? λkv=>decide (kv.1=k)).map (·.2)
def putK(kvs:List (κ × V))(k:κ)(v:V):List (κ × V) :=
 if (kvs.any λkv=>decide (kv.1=k))=true then kvs.map (λkv=>if kv.1=k then (kv.1,v) else kv) else kvs++[(k,v)]
theorem Zz04{p:κ × V}{r:List (κ × V)}{k:κ}(e:p.1=k):valV (p :: r) k=some p.2:=by simp[valV,Y2c,e]
theorem Zz14{p:κ × V}{r:List (κ × V)}{k:κ}(e:¬ p.1=k):valV (p :: r) k=valV r k:=by simp[valV,Y2c,e]
theorem ZO5(k:κ):∀ kvs:List (κ × V),(kvs.any λkv=>decide (kv.1=k))=(valV kvs k).isSome
 | []=>rfl
 | p :: r=>by
  rw[Yy26];by_cases e:p.1=k
  ·simp only [Zz04 e,Yx e,Bool.true_or,Option.isSome_some]
  ·rw[Zz14 e,Yy09 e,Bool.false_or];exact ZO5 k r
theorem Zy5(kvs:List (κ × V))(k:κ)(v:V):(putK kvs k v).length<=kvs.length+1:=by
 unfold putK;split
 ·rw[Yb];omega
 ·rw[Yy4,YD,Y1m];omega
theorem Zy9{kvs:List (κ × V)}{k:κ}(v:V)(h:valV kvs k=none):putK kvs k v=kvs++[(k,v)]:=by unfold putK;rw[ZO5,h];exact if_neg (by decide)
theorem KV.val{kvs:List (κ × V)}{vs:List (κ × Value)}(r:KV kvs vs)(k:κ):RelO (valV kvs k) (valueAt vs k):=by
 unfold KV at r
 induction r with
 | nil=>exact True.intro
 | @cons p q ps qs h t ih =>
  obtain⟨h1,h2⟩:=h;by_cases e:p.1=k
  ·have e':q.1=k:=h1.symm.trans e;have b:valueAt (q :: qs) k=some q.2:=by simp[valueAt,Y2c,e']
   rw[Zz04 e,b];exact h2
  ·have e':¬ q.1=k:=λz=>e (h1.trans z);have b:valueAt (q :: qs) k=valueAt qs k:=by simp[valueAt,Y2c,e']
   rw[Zz14 e,b];exact ih
theorem KV.any{kvs:List (κ × V)}{vs:List (κ × Value)}(r:KV kvs vs)(k:κ):(kvs.any λkv=>decide (kv.1=k))=vs.any λkv=>decide (kv.1=k):=by
 unfold KV at r
 induction r with
 | nil=>rfl
 | cons h t ih=>rw[Yy26,Yy26,ih,h.1]
theorem KV.repl{kvs:List (κ × V)}{vs:List (κ × Value)}(r:KV kvs vs)(k:κ){y:V}{u:Value}(ry:RelV y u) :
  KV (kvs.map λkv=>if kv.1=k then (kv.1,y) else kv) (vs.map λkv=>if kv.1=k then (kv.1,u) else kv):=by
 unfold KV at r ⊢
 induction r with
 | nil=>exact .nil
 | @cons p q ps qs h t ih =>
  rw[Yy06,Yy06];refine .cons ?_ ih;obtain⟨h1,h2⟩:=h;by_cases e:p.1=k
  ·rw[if_pos e,if_pos (h1.symm.trans e)];exact⟨h1,ry⟩
  ·rw[if_neg e,if_neg (λz=>e (h1.trans z))];exact⟨h1,h2⟩
theorem KV.put{kvs:List (κ × V)}{vs:List (κ × Value)}(r:KV kvs vs)(k:κ){y:V}{u:Value}(ry:RelV y u):KV (putK kvs k y) (stored vs k u):=by
 unfold putK stored;rw[r.any k];by_cases e:(vs.any λkv=>decide (kv.1=k))=true
 ·rw[if_pos e,if_pos e];exact r.repl k ry
 ·rw[if_neg e,if_neg e];exact Paired.snoc r ⟨rfl,ry⟩
theorem KV.length{kvs:List (κ × V)}{vs:List (κ × Value)}(r:KV kvs vs):kvs.length=vs.length:=Paired.length r
end
theorem ZL13{P:Program}{w:World}{k:Key}{u:Value}(r:RelV (kV k) u):(Zf1 P w).is k u=true:=by
 cases k with
 | inl i=>obtain⟨t,e⟩:=(show ∃ t,u=Value.int i t from r);subst e;exact Zx5 P w i t
 | inr x=>obtain⟨t,e⟩:=(show ∃ t,u=Value.str x t from r);subst e;exact Zw5 P w x t
section
variable{P:Program}{w:World}{H:Hp}{h:Heap}{a:Addr}
theorem ZA13{u:HO}(ok:HOk P w H h)(e:Rd H a u):ObjOk P w H h a u:=e.ok ok
theorem ZP13{kvs:List (Key × V)}(ok:HOk P w H h)(e:Rd H a (.dK kvs)):kvs.length<=sizeLine/\(a == sysModules)=false/\∃ vs,KV kvs vs/\h.DictOf (Zf1 P w) a vs :=
 show ObjOk P w H h a (.dK kvs) from ZA13 ok e
theorem Zz813{kvs:List (Key × V)}(ok:HOk P w H h)(e:H a=some (.dK kvs)):kvs.length<=sizeLine/\(a == sysModules)=false/\∃ vs,KV kvs vs/\h.DictOf (Zf1 P w) a vs:=ZP13 ok (.inl e)
end
section
variable{X:Cx}{pins:List (Addr × Obj)}{σ:St}{H:Hp}{s:Shared}{a:Addr}
theorem Inv.big(I:Inv X pins σ H s):sysModules<s.heap.objs.size:=by have h:mainGlobals<s.heap.objs.size:=(I.mod.glob.keeps I.bk).lt;exact Nat.lt_trans (by decide) h
theorem Zz712{h':Heap}{t':Nat}{ob:HO}(I:Inv X pins σ H s)(mu:Mut (H a))(hs:Heap.SameBut a s.heap h')(he:∃ q,h'.get? a=some q)(new:ObjOk X.prog X.w (upd H a ob) h' a ob) :
  Inv X pins σ (upd H a ob) { s with heap:=h',toks:=t' } :=
 I.write (x:=a) (e:=a) mu (.inl rfl) (λb q hb z=>(hs.2 b hb).trans z) he new
theorem Zz913{P:Program}{w:World}{H':Hp}{h':Heap}{kvs:List (Key × V)}{vs:List (Key × Value)}(z:kvs.length<=sizeLine)(hd:(a == sysModules)=false)(rel:KV kvs vs)(dd:h'.DictOf (Zf1 P w) a vs) :
  ObjOk P w H' h' a (.dK kvs):=⟨z,hd,vs,rel,dd⟩
end
theorem Zi10 {P:Program} {w:World} {H:Hp} (h:Heap) (hb:sysModules<h.objs.size):ObjOk P w H (h.push { cls:=.type "dict",data:=.dict #[] }) h.objs.size (.dK []) :=
 ⟨Yl _,Yy17.mpr (YY (Yr hb)),[],.nil,Heap.DictOf.new h⟩
def Zw12:TE:=λ_ H Q=>∀ p,H p=none->Q (.ref p) (upd H p (.dK []))
section
variable{X:Cx}{pos:Pos}
theorem ZG9:PE X (.Dict [] [] pos) Zw12:=λpins s σ H Q I h =>
 wpAny_Dict_empty ⟨.ref s.heap.objs.size,_,I.laid (a:=s.heap.objs.size) (o:=.dK []) (t':=s.toks) (λ_ _ q=>Yy5 _ q) (Yy8 _) (Zi10 s.heap I.big),rfl,h _ (I.hok.fresh (Yy8 _))⟩
end
structure M1 (X:Cx) (o:Expr) (m:Str) (apos:Pos) (e:Expr) (cpos:Pos):Prop where
 base:attributeBase o m X.env (eval o X.env)=eval o X.env
 few:((backTo cpos (starEach [e] X.env)).all (λx=>!x.1) && (backToKw cpos (keywordEach [] X.env)).all (λx=>x.1.isSome)
  && decide (([e]:List Expr).length+([]:List Keyword).length+(if ([]:List Keyword).isEmpty then 0 else 1)<30))=true
 line:(apos.endLine == cpos.line)=true
 trees:backTo cpos (starEach [e] X.env)=[(false,eval e X.env)]
structure M2 (X:Cx) (o:Expr) (m:Str) (apos:Pos) (e f:Expr) (cpos:Pos):Prop where
 base:attributeBase o m X.env (eval o X.env)=eval o X.env
 few:((backTo cpos (starEach [e,f] X.env)).all (λx=>!x.1) && (backToKw cpos (keywordEach [] X.env)).all (λx=>x.1.isSome)
  && decide (([e,f]:List Expr).length+([]:List Keyword).length+(if ([]:List Keyword).isEmpty then 0 else 1)<30))=true
 line:(apos.endLine == cpos.line)=true
 trees:backTo cpos (starEach [e,f] X.env)=[(false,eval e X.env),(false,eval f X.env)]
end L2
namespace Att
open PySem PySem.W PySem.Calls PyProof.Rows
theorem ZG2{P:Params}{h:Heap}:∀(ns:List Int) (vs:List Value),WellAll P h vs (ns.map WData.int)->IntsAre vs ns:=by
 intro ns
 induction ns with
 | nil =>
  intro vs w;rw[List.map_nil]at w;cases w;exact .nil
 | cons n ns ih =>
  intro vs w;rw[Yy06]at w;cases w with
  | cons a b =>
   cases a;exact .cons _ _ (ih _ b)
theorem ZB7{l:OpenLaw}{n:Nat}(hn:l.most=some n){P:Params}{h:Heap}{args:List WData}{vals:List Value}
  (hpre:l.row.toRowW.claim.pre args=true) (hwl:WellAll P h vals args) :
  ∃ a vs ns,vals=[Value.ref a]/\args=[WData.list (ns.map WData.int)]/\h.get? a=some { cls:=.type "list",data:=.seq vs.toArray }/\IntsAre vs ns/\ns.length<=n:=by
 have hsh:WShape.hasAll [] args [.list .int]=true:=(pre_splitW hpre).1;have hc:l.pre.holds [] { args:=args }=true:=(pre_splitW hpre).2
 obtain⟨d,r,rfl,h1,h2⟩:=hasAllW_cons hsh;obtain rfl:=hasAllW_nil h2;obtain⟨xs,rfl,h3⟩:=hasW_list h1;obtain⟨ns,rfl⟩:=items_int h3;have hlen:ns.length<=n:=by
  unfold OpenLaw.pre at hc;have h4:(WTm.not (.lt (.lit (.int (n:Int))) (.len (.arg 0)))).holds [] { args:=[.list (ns.map .int)] }=true:=by have h4:=(holds_andW hc).1;rw[hn]at h4;exact h4
  have h5:=condW_of h4 (w_not (w_lt w_lit (w_len_list (w_arg rfl))));rw[Yb]at h5;refine Yy22 λq=>?_;have q':(n:Int)<((ns.length:Nat):Int):=by omega
  first
   | (rw[Yx q']at h5;exact absurd h5 (by decide))
   | (simp at h5;omega)
 cases hwl with
 | cons w1 w2 =>
  cases w2;cases w1 with
  | list ho hall=>exact⟨_,_,ns,rfl,rfl,ho,ZG2 ns _ hall,hlen⟩
theorem ZG7(l:OpenLaw)(args:List WData):l.row.toRowW.claim.post args (.bool true) args=true :=
 postW_of (r:=l.row.toRowW) (X:=(true == true))
  (show WShape.has [] (.bool true) .bool=true by first | rfl | decide | simp[WShape.has,WShape.arms,WShape.armsAll])
  (show(WTm.eq .res (.lit (.bool true))).value [] { args:=args,res:=some (.bool true),after:=args }=some (.bool (true == true)) from w_eq_bool (w_res rfl) w_lit) rfl
theorem attach_call{l:OpenLaw}{n:Nat}{q:Program}{loose:List Str}{XP:(Str->Option Value)->Heap->Prop}{YP:World->Heap->Prop}{d:DefRec}
  (hn:l.most=some n) (hdf:d.params.defaults=[])
  (call:∀(w:World) (s₀ s₁:Shared) (mg mb:Str->Option Value) (fa:Addr) (o:Obj) (pm cd doc:Value) (a:Addr) (vs:List Value) (ns:List Int),
   Ground q loose [] XP w s₀ mg mb s₁.heap->YP w s₁.heap ->
   s₁.heap.get? fa=some o->o.data=.func (docDef d.name d.params d.body d.scope pm cd doc)->s₁.heap.CodeRec cd d.name->mg d.name=some (.ref fa) ->
   s₁.heap.get? a=some { cls:=.type "list",data:=.seq vs.toArray }->IntsAre vs ns->ns.length<=n->s₁.gens=#[] ->
   codeAny (model l.prog w) callerA (.call (.ref fa) ⟨[.ref a],[]⟩) (λr s'=>r=.ok (.ret (.bool true))/\OldK s₁.heap s'.heap/\s'.os=s₁.os/\AllBare s'.gens) s₁) :
  WalkO q loose XP YP l.row.toRowW d [] (λf vs=>PySem.call f vs):=by intro w s₀ s₁ mg mb G Y fa o pm cd doc dV kV ho hd hcd hD hmg hg args vals as hpre hlay hrd hwl hlo;obtain rfl:dV=.none:=Dflts.none hD hdf;obtain rfl:kV=.none:=Dflts.noKw hD;obtain⟨a,vs,ns,rfl,rfl,hobj,hints,hlen⟩:=ZB7 hn hpre hwl;refine enter_call (Y1y (call w s₀ s₁ mg mb fa o pm cd doc a vs ns G Y ho (fd_plain hd) hcd hmg hobj hints hlen hg) λr s' hq=>?_);obtain⟨rfl,h2,h3,h4⟩:=hq;exact⟨.inl ⟨.bool true,.bool true,[],rfl,λ_=>rfl,.bool true,ZG7 l _,λ_=>⟨List.Pairwise.nil,λ_ hm=>(nomatch hm)⟩⟩,h2,h3,h4⟩
section
def ZK13(h:Heap)(L d:Addr):List (Addr × Obj):=(List.range h.objs.size).filterMap λa=>if a=L\/a=d then none else (h.get? a).map λo=>(a,o)
end
end Att
namespace L2
open PySem PySem.Spec PyProof.Rows
theorem Zs4:∀ {vs:List Value} {ns:List Int},IntsAre vs ns->Vals (ns.map V.int) vs
 | _,_,.nil=>.nil
 | _,_,.cons n t h=>.cons ⟨t,rfl⟩ (Zs4 h)
abbrev KOf{K:PySem.W.Frag}{h:Heap}(_:K.In h):PySem.W.Frag:=K
def ZP8(s:Stmt)(j:Nat):Stmt:=match s with
 | .ClassDef _ _ _ body _ _ _ _ _ _ _=>body.getD j (.Pass ⟨0,0,0,0⟩)
 | _=>.Pass ⟨0,0,0,0⟩
def Yz2(s:Stmt):Arguments:=match s with
 | .FunctionDef _ a _ _ _ _ _ _ _ _=>a
 | _=>{ posonlyargs:=[],args:=[],vararg:=none,kwonlyargs:=[],kw_defaults:=[],kwarg:=none,defaults:=[] }
def ZI1(s:Stmt):List Stmt:=match s with
 | .FunctionDef _ _ b _ _ _ _ _ _ _=>b
 | _=>[]
def Zz7(s:Stmt):Scope:=match s with
 | .FunctionDef _ _ _ _ _ _ sc _ _ _=>sc
 | _=>{ kind:=.function,names:=[],isGenerator:=false,isCoroutine:=false }
abbrev CX0:CXT:=λ_ _ _ _ _ _=>False
abbrev E0:XK:=λ_ _ _=>False
theorem Zs{X:Cx}:Zp7 CX0 X E0:=λ_ _ _ _ _ _ _ h=>h.elim
structure Fun (K:PySem.W.Frag) (x qual:Str) (st:Stmt) (f:Addr) (fd:FuncData):Prop where
 ex:∃(oc:Value) (od:Option Addr) (kV doc pm:Value) (an:Option Addr) (cdv ct:Value) (osl:Array (Option Value)),
  fd=PySem.W.fnOf x qual (Yz2 st) (ZI1 st) (Zz7 st) .none kV doc pm an cdv ct/\K.lookup f=some ⟨oc,od,.func fd,osl⟩/\PySem.W.codeIn K cdv qual=true
 kp:PySem.W.keepIn K (.ref f)=true
section
variable{P:Program}{w:World}{K:PySem.W.Frag}{mg:Str->Option Value}{base:Heap}
theorem Fun.ok{x qual:Str}{st:Stmt}{f:Addr}{fd:FuncData}{N ps:List Str}{k:Nat}{sp:Sp}(F:Fun K x qual st f fd)(S:FnScope N ps (Zz7 st))(len:∀ vs H Q E,sp vs H Q E->vs.length=ps.length)
  (hbody:∀(cdv:Value) (A:Around) (outer:List Env) (s:Shared) (H:Hp) (vs:List V) (Q:VK) (E:XK),Room k (A.deeper (envOfC qual (Zz7 st) s.heap.objs.size f cdv))->sp vs H Q E ->
   ∃ t,PSs (cxOf CX0 P w K mg base N qual (Zz7 st) f cdv A outer s H E).nox (ZI1 st) t/\t { nx:=λ_ H'=>Q .non H',rt:=Q } (start N vs) H):FnOk P w K mg base CX0 (k+1) f fd ps sp:=by obtain⟨oc,od,kV,doc,pm,an,cdv,ct,osl,rfl,lk,hcd⟩:=F.ex;refine Zo13 lk hcd S len λA outer s H vs Q E hr hsp=>?_;obtain⟨t,h,q⟩:=hbody cdv A outer s H vs Q E hr hsp;exact⟨t,h.nox,q⟩
theorem Fun.binds{x qual:Str}{st:Stmt}{f:Addr}{fd:FuncData}{ps:List Str}(F:Fun K x qual st f fd)
  (h:∀(kV doc pm:Value) (an:Option Addr) (cdv ct:Value) (us:List Value),us.length=ps.length->bindArgs (PySem.W.fnOf x qual (Yz2 st) (ZI1 st) (Zz7 st) .none kV doc pm an cdv ct) ⟨us,[]⟩=pure (ps.zip us)):Binds K fd ps []:=by obtain⟨oc,od,kV,doc,pm,an,cdv,ct,osl,rfl,lk,hcd⟩:=F.ex;exact .all (h kV doc pm an cdv ct)
theorem Zz910{x qual:Str}{st:Stmt}{f:Addr}{oc:Value}{od an:Option Addr}{osl:Array (Option Value)}{kV doc pm cdv ct:Value}(l:K.lookup f=some ⟨oc,od,.func (PySem.W.fnOf x qual (Yz2 st) (ZI1 st) (Zz7 st) .none kV doc pm an cdv ct),osl⟩)
  (c:PySem.W.codeIn K cdv qual=true) (k:PySem.W.keepIn K (.ref f)=true):Fun K x qual st f (PySem.W.fnOf x qual (Yz2 st) (ZI1 st) (Zz7 st) .none kV doc pm an cdv ct):=⟨⟨oc,od,kV,doc,pm,an,cdv,ct,osl,rfl,l,c⟩,k⟩
end
section
variable{X:Cx}
theorem pv (i:Nat) {x:Str} {pos:Pos} (hN:X.N[i]?=some x:=by rfl) (hv:Vis X.env.scope x:=by first | exact Or.inl rfl | exact Or.inr (Or.inl rfl) | exact Or.inr (Or.inr rfl)) (hd:(x == ("__debug__":Str))=false:=by decide)
  (hcd:(x == ("__classdict__":Str))=false:=by decide):PE X (.Name x pos) (tVar i):=ZO12 hN hv hd hcd
end
theorem iteF{A B:Prop}(h:B):if false=true then A else B:=by rw[if_neg Ys];exact h
theorem iteT{A B:Prop}(h:A):if true=true then A else B:=by rw[if_pos rfl];exact h
theorem ite2{c A B:Prop}[Decidable c](h1:c->A)(h2:¬ c->B):if c then A else B:=by
 by_cases h:c
 ·rw[if_pos h];exact h1 h
 ·rw[if_neg h];exact h2 h
def Same(H H':Hp):Prop:=∀ b o,H b=some o->H' b=some o
theorem Same.refl(H:Hp):Same H H:=λ_ _ h=>h
theorem Same.trans{H H1 H2:Hp}(a:Same H H1)(b:Same H1 H2):Same H H2:=λc o h=>b c o (a c o h)
theorem Same.free{H H':Hp}(e:Same H H'){l:Addr}(h:H' l=Option.none):H l=Option.none:=by
 cases q:H l with
 | none=>rfl
 | some o =>
  rw[e l o q]at h;cases h
theorem Same.seq{K:PySem.W.Frag}{H H':Hp}{a:Addr}{xs:List V}(e:Same H H')(h:SqL K H a xs):SqL K H' a xs:=by
 rcases h with (h | ⟨o,h⟩) | h
 ·exact .inl (.inl (e _ _ h))
 ·exact .inl (.inr ⟨o,e _ _ h⟩)
 ·exact .inr h
def PTs(X:Cx)(ifs:List Expr)(t:TT):Prop :=
 ∀(pins:List (Addr × Obj)) (s:Shared) (σ:St) (H:Hp) (Q:Bool->Hp->Prop),Inv X pins σ H s->t σ H Q ->
  wpAny (model X.prog X.w) X.A (forIn ifs true λc r=>if r=true then do let ok <- isTrue c X.env (eval c X.env);pure (ForInStep.yield ok) else pure (ForInStep.yield r)) (TP X pins σ Q) X.xe s
def tYes:TT:=λ_ H Q=>Q true H
theorem Zz91{X:Cx}:PTs X [] tYes:=λ_ _ _ H _ I h=>wpAny_tests_nil ⟨H,I,h⟩
theorem Zt1{X:Cx}{c:Expr}{t:TT}(hc:PT X c t):PTs X [c] t:=λpins s σ H Q I h=>wpAny_tests_one (hc pins s σ H Q I h)
theorem Zl4{prog:Program}{w:World}{A:Around}{s:Shared}{R:Result->Shared->Prop}{elt target iter:Expr}{ifs:List Expr}{scope:Scope}{pos:Pos}{it acc:Value}{env:Env}(J:Nat->Shared->Prop)
  (turn:∀ n s,J n s->wpAny (model prog w) A (pyNext it) (λr s1=>match r with
   | none=>R (.ok .next) s1
   | some v=>wpAny (model prog w) A (letOwnedTupleGo target it v) (λ_ s2=>wpAny (model prog w) A (assign target env v) (λ_ s3 =>
     wpAny (model prog w) A (forIn ifs true λc r=>if r=true then do let ok <- isTrue c env (eval c env);pure (ForInStep.yield ok) else pure (ForInStep.yield r)) (λok s4 =>
      if ok=true then wpAny (model prog w) A (eval elt env) (λx s5 =>
       wpAny (model prog w) A (call (.builtin "list.append") [acc,x]) (λ_ s6=>∃ m,m<n/\J m s6) (λ_ _=>False) s5) (λ_ _=>False) s4
      else ∃ m,m<n/\J m s4) (λ_ _=>False) s3) (λ_ _=>False) s2) (λ_ _=>False) s1) (λ_ _=>False) s)
  (n:Nat) (h:J n s):codeAny (model prog w) A (.compLoop (.ListComp elt [⟨target,iter,ifs,0⟩] scope pos) 0 it acc env) R s:=by
 refine codeAny_loop rfl J (λn s hI=>?_) n h;show wpAny _ A ((compTurn (.ListComp elt [⟨target,iter,ifs,0⟩] scope pos) 0 it acc env).onRaise (λx=>do noteFrame x env;theTreesLotGoes x)) _ _ s
 refine wpAny_noted ?_;rw[compTurn_list];refine Yy3 (Y2Z (Yy3 (Y0J (turn n s hI) (λr s1 h1=>?_) λ_ _ z=>z.elim)));cases r with
 | none=>exact Yi h1
 | some v =>
  refine Yy3 (Y0J h1 (λ_ s2 h2=>?_) λ_ _ z=>z.elim);refine Yy3 (Y0J h2 (λ_ s3 h3=>Yy3 (Y0J h3 (λok s4 h4=>?_) λ_ _ z=>z.elim)) λ_ _ z=>z.elim);cases ok with
  | false=>exact Yi ⟨rfl,h4⟩
  | true =>
   exact Yy3 (Yy3 (Y0J h4 (λx s5 h5=>Yy3 (Y0J h5 (λ_ s6 h6=>Yi (Yi ⟨rfl,h6⟩)) λ_ _ z=>z.elim)) λ_ _ z=>z.elim))
def Zc5(cells:List (Str × Addr)):List (Str × NameKind)->List (Str × Addr)->List (Str × Addr)
 | [],acc=>acc
 | (n,k) :: r,acc=>if k == .free then Zc5 cells r ((n,(cells.lookup n).getD 0) :: acc) else Zc5 cells r acc
theorem ZQ3{env:Env}:∀(names:List (Str × NameKind)) (acc:List (Str × Addr)),(∀ y∈names,y.2=.free->∃ c,env.cells.lookup y.1=some c) ->
  (forIn names acc λ(x:Str × NameKind) (cs:List (Str × Addr))=>(if (x.2 == .free)=true then do let a <- cellOf env x.1;pure (ForInStep.yield ((x.1,a) :: cs)) else pure (ForInStep.yield cs):Sem (ForInStep (List (Str × Addr)))))=pure (Zc5 env.cells names acc)
 | [],acc,_=>rfl
 | (n,k) :: r,acc,h=>by
  have ih:=λacc=>ZQ3 r acc λy hy=>h y (Yg _ hy);rw[List.forIn_cons];unfold Zc5;by_cases hk:(k == NameKind.free)=true
  ·obtain⟨c,hc⟩:=h (n,k) Ye (by simpa using hk);have e:cellOf env n=pure c:=by unfold cellOf;rw[show env.cells.lookup n=some c from hc]
   simp only [hk,Yy30,e,pure_bind];rw[ih,show env.cells.lookup n=some c from hc];rfl
  ·simp only [hk,Y2s,if_false,pure_bind];exact ih acc
theorem Zi7{env:Env}{scope:Scope}(h:∀ y∈scope.names,y.2=.free->∃ c,env.cells.lookup y.1=some c):closureFor scope env=pure (Zc5 env.cells scope.names []):=by have e:=ZQ3 scope.names [] h;unfold closureFor;simp only [bind_pure]at e ⊢;exact e
theorem Zh3{env:Env}:∀(names:List (Str × NameKind)) (acc:List (Str × Addr)),(∀ y∈names,y.2=.free->∃ c,env.cells.lookup y.1=some c)->(∀ x c,acc.lookup x=some c->env.cells.lookup x=some c) ->
  ∀ x c,(Zc5 env.cells names acc).lookup x=some c->env.cells.lookup x=some c
 | [],acc,_,ha,x,c,e=>ha x c e
 | (n,k) :: r,acc,h,ha,x,c,e=>by
  unfold Zc5 at e;by_cases hk:(k == NameKind.free)=true
  ·rw[if_pos hk]at e;obtain⟨d,hd⟩:=h (n,k) Ye (by simpa using hk);refine Zh3 r _ (λy hy=>h y (Yg _ hy)) (λy b q=>?_) x c e;rw[Y0L]at q;by_cases hy:(y == n)=true
   ·rw[hy]at q;have hy':y=n:=by simpa using hy
    have hd':env.cells.lookup n=some d:=hd;rw[hd']at q;have q':d=b:=Yh q
    rw[hy',hd',q']
   ·have hy':(y == n)=false:=by simpa using hy
    rw[hy']at q;exact ha y b q
  ·rw[if_neg hk]at e;exact Zh3 r acc (λy hy=>h y (Yg _ hy)) ha x c e
theorem Zi3{cells:List (Str × Addr)}:∀(names:List (Str × NameKind)) (acc:List (Str × Addr)) (x:Str),(acc.lookup x).isSome=true->((Zc5 cells names acc).lookup x).isSome=true
 | [],_,_,h=>h
 | (n,k) :: r,acc,x,h=>by
  unfold Zc5;by_cases hk:(k == NameKind.free)=true
  ·rw[if_pos hk];refine Zi3 r _ x ?_;rw[Y0L];by_cases hx:(x == n)=true
   ·rw[hx];rfl
   ·have hx':(x == n)=false:=by simpa using hx
    rw[hx'];exact h
  ·rw[if_neg hk];exact Zi3 r acc x h
theorem Zd2{cells:List (Str × Addr)}:∀(names:List (Str × NameKind)) (acc:List (Str × Addr)) (x:Str),(x,NameKind.free)∈names->((Zc5 cells names acc).lookup x).isSome=true
 | [],_,_,h=>nomatch h
 | (n,k) :: r,acc,x,h=>by
  unfold Zc5;rcases Yf.mp h with e | h
  ·cases e;rw[if_pos (by rfl)];refine Zi3 r _ _ ?_;rw[Y0L];simp
  ·by_cases hk:(k == NameKind.free)=true
   ·rw[if_pos hk];exact Zd2 r _ x h
   ·rw[if_neg hk];exact Zd2 r _ x h
theorem ZW{env:Env}:∀ {names:List (Str × NameKind)} {x:Str} {k:NameKind},(names.map λ(n,k)=>if (k == NameKind.free && env.scope.kind == .function && env.kindOf n == some .cell) then (n,NameKind.cell) else (n,k)).lookup x=some k ->
  (k=.cell\/k=.free)->(x,NameKind.free)∈names\/(x,NameKind.cell)∈names
 | [],_,_,h,_=>by simp at h
 | (n,q) :: r,x,k,h,hk=>by
  have h':List.lookup x ((if (q == NameKind.free && env.scope.kind == .function && env.kindOf n == some .cell)=true then (n,NameKind.cell) else (n,q)) :: r.map λ(n,k)=>if (k == NameKind.free && env.scope.kind == .function && env.kindOf n == some .cell) then (n,NameKind.cell) else (n,k))=some k:=h;by_cases hc:(q == NameKind.free && env.scope.kind == .function && env.kindOf n == some .cell)=true
  ·rw[if_pos hc,Y0L]at h';have hq:q=.free:=by simp only [Y0W,Y0U]at hc;exact hc.1.1
   by_cases hx:(x == n)=true
   ·have hx':x=n:=by simpa using hx
    subst hx';subst hq;exact .inl Ye
   ·have hx':(x == n)=false:=by simpa using hx
    rw[hx']at h';rcases ZW (env:=env) h' hk with z | z
    ·exact .inl (Yg _ z)
    ·exact .inr (Yg _ z)
  ·rw[if_neg hc,Y0L]at h';by_cases hx:(x == n)=true
   ·rw[hx]at h';have hx':x=n:=by simpa using hx
    subst hx';have e:q=k:=Yh h'
    subst e;rcases hk with rfl | rfl
    ·exact .inr Ye
    ·exact .inl Ye
   ·have hx':(x == n)=false:=by simpa using hx
    rw[hx']at h';rcases ZW (env:=env) h' hk with z | z
    ·exact .inl (Yg _ z)
    ·exact .inr (Yg _ z)
theorem ZJ1{env:Env}:∀ {names:List (Str × NameKind)} {x:Str},names.lookup x=some .free ->
  (names.map λ(n,k)=>if (k == NameKind.free && env.scope.kind == .function && env.kindOf n == some .cell) then (n,NameKind.cell) else (n,k)).lookup x=some .cell \/
  (names.map λ(n,k)=>if (k == NameKind.free && env.scope.kind == .function && env.kindOf n == some .cell) then (n,NameKind.cell) else (n,k)).lookup x=some .free
 | [],_,h=>by simp at h
 | (n,q) :: r,x,h=>by
  show List.lookup x ((if (q == NameKind.free && env.scope.kind == .function && env.kindOf n == some .cell)=true then (n,NameKind.cell) else (n,q)) :: _)=_\/List.lookup x ((if (q == NameKind.free && env.scope.kind == .function && env.kindOf n == some .cell)=true then (n,NameKind.cell) else (n,q)) :: _)=_;rw[Y0L]at h;by_cases hc:(q == NameKind.free && env.scope.kind == .function && env.kindOf n == some .cell)=true
  ·rw[if_pos hc,Y0L];by_cases hx:(x == n)=true
   ·rw[hx];exact .inl rfl
   ·have hx':(x == n)=false:=by simpa using hx
    rw[hx']at h ⊢;exact ZJ1 h
  ·rw[if_neg hc,Y0L];by_cases hx:(x == n)=true
   ·rw[hx]at h ⊢;exact .inr h
   ·have hx':(x == n)=false:=by simpa using hx
    rw[hx']at h ⊢;exact ZJ1 h
def cxC(X:Cx)(N':List Str)(scope:Scope)(C:Addr)(s:Shared)(H:Hp)(fp:List Addr):Cx where
 prog:=X.prog
 w:=X.w
 K:=X.K
 mg:=X.mg
 base:=X.base
 A:=X.A
 N:=N'
 s₀:=s
 H₀:=H
 env:=compEnvC scope (Zc5 X.env.cells scope.names []) C X.env
 outer:=X.stack
 stack:=X.stack
 ex:=fp
 fn:=λ_=>false
 calm:=X.calm
 pn:=[]
 xe:=λ_ _=>False
def σC(o:Nat)(fr:List Nat)(σ:St):St:=List.replicate o none++fr.map λj=>(σ[j]?).join
structure CompScope (sc0:Scope) (N N':List Str) (o:Nat) (fr:List Nat) (scope:Scope):Prop where
 kind:scope.kind=.function
 nocell:(scope.names.all λy=>y.2 != .cell)=true
 loc:(scope.names.all λy=>y.2 != .local || scope.names.lookup y.1 == some .local)=true
 free:(scope.names.all λy=>y.2 != .free || sc0.names.lookup y.1 == some .cell || sc0.names.lookup y.1 == some .free)=true
 len:N'.length=o+fr.length
 sees:((List.range fr.length).all λj=>match fr[j]? with
  | none=>false
  | some y=>match N[y]? with
   | none=>false
   | some x=>N'[o+j]? == some x && scope.names.lookup x == some .free)=true
def LcR(J:It)(g:TG)(tt:TT)(te:TE)(o:Nat)(fr:List Nat)(σ:St)(H1:Hp)(Q:VK):Prop:=∃ W:Nat->Nat->List V->Hp->Prop,(∃ m,W 0 m [] H1)/\∀ i m ys H,W i m ys H ->
 (J.stop i H/\ys.length<=sizeLine/\∀ p,H p=none->Q (.ref p) (upd H p (.lst ys))) \/
 (J.go i H/\ys.length<sizeLine/\∀ x H',J.yld i H x H'->g x (σC o fr σ) H' λσ2 H2=>tt σ2 H2 λb H3=>if b=true then te σ2 H3 λy H4=>∃ m',m'<m/\W (i+1) m' (ys++[y]) H4 else ∃ m',m'<m/\W (i+1) m' ys H3)
def tLc(wi:TI)(g:TG)(tt:TT)(te:TE)(o:Nat)(fr:List Nat):TE:=λσ H Q=>wi σ H λJ H1=>LcR J g tt te o fr σ H1 Q
def OwnG(o:Nat)(g:TG):Prop:=∀(x:V) (ow fr:St) (H:Hp) (Q:St->Hp->Prop),ow.length=o->g x (ow++fr) H Q->g x (ow++fr) H λσ2 H2=>(∃ ow',ow'.length=o/\σ2=ow'++fr)/\Q σ2 H2
theorem Zy{o i:Nat}(h:i<o):OwnG o (Zz810 i):=λx ow fr H Q hl q=>⟨⟨ow.set i (some x),by rw[Y0Z];exact hl,by rw[List.set_append_left _ _ (by lia)]⟩,q⟩
def Zr12(o:Nat)(g:TGs):Prop:=∀(xs:List V) (ow fr:St) (H:Hp) (Q:St->Hp->Prop),ow.length=o->g xs (ow++fr) H Q->g xs (ow++fr) H λσ2 H2=>(∃ ow',ow'.length=o/\σ2=ow'++fr)/\Q σ2 H2
theorem ZO2{o:Nat}:Zr12 o gNil:=λ_ ow _ _ _ hl ⟨e,q⟩=>⟨e,⟨ow,hl,rfl⟩,q⟩
theorem ZU{o i:Nat}{u:TGs}(h:i<o)(h2:Zr12 o u):Zr12 o (Zn13 (Zz810 i) u):=by
 rintro xs ow fr H Q hl ⟨v,r,rfl,q⟩;refine⟨v,r,rfl,?_⟩;have q':u r ((ow++fr).set i (some v)) H Q:=q
 show u r ((ow++fr).set i (some v)) H _;rw[List.set_append_left _ _ (by omega)]at q' ⊢;exact h2 r (ow.set i (some v)) fr H Q (by rw[Y0Z];exact hl) q'
theorem ZN2{K:PySem.W.Frag}{o n:Nat}{u:TGs}(h:Zr12 o u):OwnG o (gTup K n u):=by rintro x ow fr H Q hl ⟨a,xs,rfl,hs,hn,q⟩;exact⟨a,xs,rfl,hs,hn,h xs ow fr H Q hl q⟩
section
variable{X:Cx}{pins:List (Addr × Obj)}{σ:St}{H:Hp}{s:Shared}{N':List Str}{o:Nat}{fr:List Nat}{scope:Scope}{fp:List Addr}
abbrev Zj1 (us:List Value):Obj:={ cls:=.type "list",data:=.seq us.toArray us.length }
theorem CompScope.nocell'{sc0:Scope}{N:List Str}(S:CompScope sc0 N N' o fr scope):∀ y∈scope.names,y.2≠.cell:=λy hy e=>by have q:=Y0i.mp S.nocell y hy;rw[e]at q;exact absurd q (by decide)
theorem CompScope.loc'{sc0:Scope}{N:List Str}(S:CompScope sc0 N N' o fr scope):∀ y∈scope.names,y.2=.local->scope.names.lookup y.1=some .local:=λy hy e=>by have q:=Y0i.mp S.loc y hy;rw[e]at q;simpa using q
theorem CompScope.free'{sc0:Scope}{N:List Str}(S:CompScope sc0 N N' o fr scope)(hs:X.env.scope=sc0):∀ y∈scope.names,y.2=.free->X.env.kindOf y.1=some .cell\/X.env.kindOf y.1=some .free:=λy hy e=>by
 have q:=Y0i.mp S.free y hy;rw[e]at q;show X.env.scope.names.lookup y.1=_\/X.env.scope.names.lookup y.1=_
 rw[hs];simpa using q
theorem CompScope.sees'{sc0:Scope}{N:List Str}(S:CompScope sc0 N N' o fr scope):∀ j y,fr[j]?=some y->∃ x,N[y]?=some x/\N'[o+j]?=some x/\scope.names.lookup x=some .free:=λj y e=>by
 have hj:j<fr.length:=(Yy1.mp e).1;have q:=Y0i.mp S.sees j (YH.mpr hj)
 rw[e]at q;dsimp only at q;cases ex:N[y]? with
 | none=>rw[ex]at q;cases q
 | some x =>
  rw[ex]at q;dsimp only at q;rw[Y0W,Y0U,Y0U]at q;exact⟨x,rfl,q.1,q.2⟩
theorem CompScope.cells{sc0:Scope}{N0:List Str}(S:CompScope sc0 N0 N' o fr scope)(hs:X.env.scope=sc0)(I:Inv X pins σ H s):∀ y∈scope.names,y.2=.free->∃ c,X.env.cells.lookup y.1=some c:=λy hy e=>I.ok.has y.1 (S.free' hs y hy e)
theorem CompScope.sub{sc0:Scope}{N0:List Str}(S:CompScope sc0 N0 N' o fr scope)(hs:X.env.scope=sc0)(I:Inv X pins σ H s):∀ x c,(Zc5 X.env.cells scope.names []).lookup x=some c->X.env.cells.lookup x=some c :=
 Zh3 (env:=X.env) scope.names [] (S.cells hs I) (λ_ _ z=>nomatch z)
theorem Inv.block{sc0:Scope}{N0:List Str}(S:CompScope sc0 N0 N' o fr scope)(hs:X.env.scope=sc0)(hN:X.N=N0)(I:Inv X pins σ H s)(hf:∀ b∈fp,FpOk X pins H b)(hfl:∀ b∈fp,b<s.heap.objs.size){h1:Heap}{C D:Addr}{m:Str->Option Value}{us:List Value}{t:Nat}
  (hC:s.heap.objs.size<=C) (hD:s.heap.objs.size<=D) (hDC:D≠C)
  (old:∀ b ob,s.heap.get? b=some ob->h1.get? b=some ob) (hn:h1.Ns C m) (ha:h1.get? D=some (Zj1 us)):Inv (cxC X N' scope C s H fp) [(D,Zj1 us)] (σC o fr σ) H { s with heap:=h1,toks:=t }:=by
 have sub:=S.sub hs I;have frC:∀ b∈frs X.stack,b<s.heap.objs.size:=λb hb=>by obtain⟨_,ob,ho,_⟩:=I.stack.mem hb;exact Yn ho
 refine⟨⟨I.ok.mod,S.kind,I.ok.glob,I.ok.blt,hC,λx y c h1 h2=>I.ok.inj x y c (sub x c h1) (sub y c h2),λx hx=>?_,λx c hfx _=>(nomatch hfx),I.ok.hd,I.ok.frames,.inl rfl,λb hb=>?_,I.bs,Yt I.ok.bsz I.sz,λb ob e hb=>?_,λb hb hb'=>?_,I.stack,I.stkFree⟩,
  rfl,I.bare,Un.kept old,⟨m,hn,λi x v e1 e2 e3=>?_⟩,λx c e=>?_,I.hok.fresh hC,λx c e=>I.freeC x c (sub x c e),λp hp=>?_,I.hok.kept old,?_⟩
 ·have hx':(relabel scope X.env).names.lookup x=some .cell\/(relabel scope X.env).names.lookup x=some .free:=hx;have key:(x,NameKind.free)∈scope.names:=by
   rcases hx' with z | z
   ·rcases ZW (env:=X.env) z (.inl rfl) with q | q
    ·exact q
    ·exact absurd rfl (S.nocell' _ q)
   ·rcases ZW (env:=X.env) z (.inr rfl) with q | q
    ·exact q
    ·exact absurd rfl (S.nocell' _ q)
  exact Y1T.mp (Zd2 (cells:=X.env.cells) scope.names [] x key)
 ·obtain⟨f0,f1,f2,f3,f4,f5⟩:=hf b hb;exact⟨Yr (Yo (hfl b hb) hC),λx c e=>f4 x c (sub x c e)⟩
 ·obtain⟨f0,f1,f2,f3,f4,f5⟩:=hf b hb;rcases f3 with z | z
  ·exact I.ok.noex b ob e z
  ·exact absurd (Yo (Yn e) (Yt I.ok.bsz z)) (Y0q _)
 ·obtain⟨f0,f1,f2,f3,f4,f5⟩:=hf b hb;rcases Yf.mp (I.stkSub b hb') with z | z
  ·exact f1 z
  ·exact f2 z
 ·unfold σC at e2;by_cases hi:i<o
  ·rw[Yp (by rw[YI];exact hi),Y1e,if_pos hi]at e2;cases e2
  ·rw[Yq (by rw[YI];exact Nat.not_lt.mp hi),YI,Yu]at e2;cases hy:fr[i - o]? with
   | none=>rw[hy]at e2;cases e2
   | some y =>
    rw[hy]at e2;have e2':(σ[y]?).join=some v:=Yh e2
    have e3':σ[y]?=some (some v):=by
     cases q:σ[y]? with
     | none=>rw[q]at e2';cases e2'
     | some z=>rw[q]at e2';exact YV some e2'
    obtain⟨x',s2,s1,s3⟩:=S.sees' (i - o) y hy;rw[<- hN]at s2;rw[show o+(i - o)=i by grind]at s1;have ex:x=x':=by have e1':N'[i]?=some x:=e1;rw[e1']at s1;exact Yh s1
    subst ex;have hmem:=Y0C s3
    obtain⟨m0,_,hl⟩:=I.loc;have hk:=S.free' hs (x,.free) hmem rfl
    obtain⟨u,ru,lk⟩:=hl y x v s2 e3' (by rcases hk with z | z;exact .inr (.inl z);exact .inr (.inr z));refine⟨u,ru,.inr ⟨ZJ1 (env:=X.env) s3,?_⟩⟩;obtain⟨c',hc'⟩:=Y1T.mp (Zd2 (cells:=X.env.cells) scope.names [] x hmem);refine⟨c',hc',?_⟩;rcases lk with ⟨z,_⟩ | ⟨_,c,e,ob,ho,hd⟩
    ·rcases hk with z' | z'
     ·rw[z]at z';cases z'
     ·rw[z]at z';cases z'
    ·have ec:c=c':=by
      have:=sub x c' hc'
      rw[e]at this;exact Yh this
     subst ec;exact⟨ob,old _ _ ho,hd⟩
 ·obtain⟨v,ob,ho,hd⟩:=I.cell x c (sub x c e);exact⟨v,ob,old _ _ ho,hd⟩
 ·have e:p=(D,Zj1 us):=by simpa using (show p∈([]:List (Addr × Obj))++[(D,Zj1 us)] from hp)
  subst e;refine⟨ha,I.hok.fresh hD,hDC,λz=>absurd (Yo (frC D z) hD) (Y0q _),λv z=>nomatch z⟩
 ·show(σC o fr σ).length=N'.length;unfold σC;rw[Yy4,YI,Yb,S.len]
theorem Inv.unblock(I:Inv X pins σ H s)(hf:∀ b∈fp,FpOk X pins H b){C D:Addr}{us:List Value}{ys:List V}{σ':St}{H':Hp}{s':Shared}(hC:s.heap.objs.size<=C)(hD:s.heap.objs.size<=D)(hDC:D≠C)
  (I':Inv (cxC X N' scope C s H fp) [(D,Zj1 us)] σ' H' s') (r:Vals ys us) (hz:ys.length<=sizeLine):∃ oC m,s'.heap.get? C=some oC/\s'.heap.Ns C m/\Inv X (pins++[(C,oC)]) σ (upd H' D (.lst ys)) s':=by
 obtain⟨aD,nD,_,_,_⟩:=I'.pin (D,Zj1 us) (by simp);have aD:s'.heap.get? D=some (Zj1 us):=aD
 have nD:H' D=none:=nD;have un:Un (frs X.stack) fp H H' s.heap s'.heap:=I'.base
 have lt:∀ b u,H b=some u->b≠D:=λb u e=>Yr (Yo (I.hok.lt e) hD);have un2:Un (frs X.stack) fp H (upd H' D (.lst ys)) s.heap s'.heap:=by
  refine⟨un.keep,un.slot,λb ob e n hx=>?_,un.there,λb xs e=>?_,λb ob u e=>?_,λb ps e=>?_⟩
  ·rw[Zb (Yr (Yo (Yn e) hD))];exact un.free b ob e n hx
  ·rw[Zb (lt b _ e)];exact un.tups b xs e
  ·rw[Zb (lt b _ e)];exact un.frzs b ob u e
  ·obtain⟨more,q⟩:=un.tbls b ps e;exact⟨more,by rw[Zb (lt b _ e)];exact q⟩
 have hok:HOk X.prog X.w (upd H' D (.lst ys)) s'.heap:=λb u e=>by
  by_cases hb:b=D
  ·subst hb;rw[Zz1]at e;cases e;exact⟨hz,us,us.length,r,aD⟩
  ·rw[Zb hb]at e;exact(I'.hok b u e).stay (λc v _ q=>q) (λc q=>by rw[Zb (Zc q nD)];exact q) λc xs q=>by rw[Zb (Zc q nD)];exact q
 have os:s'.os=s.os:=I'.os;have J:Inv X pins σ (upd H' D (.lst ys)) s':=I.call' (ch:=fp) os un2 hok I'.bare λb hb=>by obtain⟨f0,f1,f2,f3,f4,f5⟩:=hf b hb;exact⟨f3,f1,f4,f5⟩
 obtain⟨m,hn,_⟩:=I'.loc;have hn:s'.heap.Ns C m:=hn
 obtain⟨oC,es,ep,hoC,hdC,_⟩:=id hn;refine⟨oC,m,hoC,hn,J.pins_of λp hp=>?_⟩;rcases Yy7.mp hp with z | z
 ·exact J.pin p (Yd _ z)
 ·have e:p=(C,oC):=by simpa using z
  subst e;have nC:H' C=none:=I'.free
  refine⟨hoC,by rw[Zb (YY hDC)];exact nC,Y0x (Yo I.lt hC),I.nofs hC,λv z=>?_⟩;have z':oC.data=.cell v:=z
  rw[hdC]at z';cases z'
end
section
variable{X:Cx}{N':List Str}{o:Nat}{fr:List Nat}{scope:Scope}{elt tg iter:Expr}{ifs:List Expr}{pos:Pos}{wi:TI}{g:TG}{tt:TT}{te:TE}
theorem ZI11(hc:X.calm=true){sc0:Scope}{N0:List Str}(S:CompScope sc0 N0 N' o fr scope)(hi:PI X tg iter wi)(ho:OwnG o g)
  (hg:∀(C:Addr) (s:Shared) (H:Hp) (fp:List Addr),PG (cxC X N' scope C s H fp) tg g)
  (ht:∀(C:Addr) (s:Shared) (H:Hp) (fp:List Addr),PTs (cxC X N' scope C s H fp) ifs tt)
  (he:∀(C:Addr) (s:Shared) (H:Hp) (fp:List Addr),PE (cxC X N' scope C s H fp) elt te)
  (hs:∀ x,foldedSetIterable iter X.env x=pure x) (hsc:X.env.scope=sc0) (hN0:X.N=N0) {pins:List (Addr × Obj)} {s:Shared} {σ:St} {H:Hp} {Qv:VK} (I:Inv X pins σ H s) (h:tLc wi g tt te o fr σ H Qv)
  {use:Option (Value->Sem Unit)} {Q:Value->Shared->Prop} {E:Value->Shared->Prop}
  (hE:∀ e s',X.xe e s'->E e s')
  (fin:∀(C oC D:_) (m:Str->Option Value) (H':Hp) (ys:List V) (s':Shared),Inv X (pins++[(C,oC)]) σ (upd H' D (.lst ys)) s'->Qv (.ref D) (upd H' D (.lst ys))->s'.heap.Ns C m->H' C=none->C≠D ->
   C≠X.env.locals->X.s₀.heap.objs.size<=C->(∀ x c,X.env.cells.lookup x=some c->c≠C)->(∀ p∈X.pn++pins,p.1≠C)->compPost (model X.prog X.w) X.A E use Q (.ref D) C (.ok .next) s') :
  wpAny (model X.prog X.w) X.A (comprehension (.ListComp elt [⟨tg,iter,ifs,0⟩] scope pos) scope X.env (firstIterPos [⟨tg,iter,ifs,0⟩] pos) (newList []) false (eval iter X.env) use) Q E s:=by
 refine wpAny_comprehension_free (use:=use) rfl hs (Zi7 (S.cells hsc I)) S.kind S.loc' (Y0J (hi pins s σ H _ I h) (λxv s1 h1=>Y0J h1 (λitv s2 h2=>?_) hE) hE);obtain⟨it,fp,tn,J,H2,rfl,I2,T,st2,f2,W,⟨m0,w0⟩,turn⟩:=h2;have hfl:∀ b∈fp,b<s2.heap.objs.size:=λb hb=>by obtain⟨ob,e,_⟩:=T.obj 0 _ st2 b hb;exact Yn e
 refine Y0v (wpAny_newFunctionEnv S.nocell' (by intro y hy;simp at hy) (λh1 hns1 hsb1=>?_) S.kind);dsimp only at hns1 hsb1 ⊢;generalize hH2:s2.heap.push { cls:=.type "list",dict:=none,data:=.seq ([]:List Value).toArray }=G at hns1 hsb1 ⊢;have hCe:G.objs.size=s2.heap.objs.size+1:=by rw[<- hH2,Y0T]
 have hC:s2.heap.objs.size<=G.objs.size:=by rw[hCe];exact Y0j _
 have hDC:s2.heap.objs.size≠G.objs.size:=by rw[hCe];exact Yr (Y0p _)
 have old:∀ b ob,s2.heap.get? b=some ob->h1.get? b=some ob:=λb ob e =>
  hsb1.extBut b ob (Yr (Yo (Yn e) hC)) (Yy5 _ (hH2 ▸ Yy5 _ e))
 have hacc:h1.get? s2.heap.objs.size=some (Zj1 []):=hsb1.extBut _ _ hDC (Yy5 _ (hH2 ▸ Ym _ rfl));have st1:tn 0 h1:=T.keep _ _ _ st2 λb _ ob e=>old b ob e
 have fpC:∀ {us:List Value} {H':Hp},(∀ b∈fp,H' b=none)->∀ b∈fp,FpOk (cxC X N' scope G.objs.size s2 H2 fp) [(s2.heap.objs.size,Zj1 us)] H' b:=λ{us H'} hn b hb=>by
  obtain⟨f0,f1,f3,f4,f5,f6⟩:=f2 b hb;refine⟨hn b hb,Yr (Yo (hfl b hb) hC),λz=>?_,.inl hb,λx c e=>f5 x c (S.sub hsc I2 x c e),λp hp=>?_⟩
  ·rcases Yf.mp (I2.stkSub b z) with q | q
   ·exact f1 q
   ·exact f3 q
  ·have e:p=(s2.heap.objs.size,Zj1 us):=by simpa using (show p∈([]:List (Addr × Obj))++[(s2.heap.objs.size,Zj1 us)] from hp)
   subst e;exact Y0x (hfl b hb)
 have loop:∀ s3:Shared,s3={ s2 with heap:=h1,toks:=s2.toks+([]:List (Str × Value)).length } ->
   codeAny (model X.prog X.w) X.A (.compLoop (.ListComp elt [⟨tg,iter,ifs,0⟩] scope pos) 0 (.ref it) (.ref s2.heap.objs.size) (compEnvC scope (Zc5 X.env.cells scope.names []) G.objs.size X.env))
    (compPost (model X.prog X.w) X.A E use Q (.ref s2.heap.objs.size) G.objs.size) s3:=by
  rintro s3 rfl;refine Zl4 (λn s'=>∃ i σ' H' ys us,Inv (cxC X N' scope G.objs.size s2 H2 fp) [(s2.heap.objs.size,Zj1 us)] σ' H' s'/\σ'=σC o fr σ/\Vals ys us/\tn i s'.heap/\(∀ b∈fp,H' b=none)/\W i n ys H') ?_ m0
   ⟨0,_,H2,[],[],I2.block S hsc hN0 f2 hfl hC (Yy8 _) hDC old hns1 hacc,rfl,.nil,st1,λb hb=>(f2 b hb).1,w0⟩
  rintro n s' ⟨i,σ',H',ys,us,I',rfl,rv,st',fr',w'⟩;rcases turn i n ys H' w' with ⟨stop,hz,q⟩ | ⟨go,hz,step⟩
  ·refine thn (T.done (cxC X N' scope G.objs.size s2 H2 fp) rfl rfl rfl hc i _ s' _ H' _ I' (fpC fr') st' stop) λr s4 ⟨hr,I4⟩=>?_;subst hr;obtain⟨oC,m,hoC,hn,J4⟩:=I2.unblock f2 hC (Yy8 _) hDC I4 rv hz;exact fin _ oC _ m H' ys s4 J4 (q _ (I4.pin (s2.heap.objs.size,Zj1 us) (by simp)).2.1) hn I4.free (YY hDC) (Y0x (Yo I2.lt hC)) (Yt I2.sz hC)
    (λx c e=>by obtain⟨v,z⟩:=I2.cell x c e;exact Yr (Yo z.lt hC)) λp hp=>Yr (Yo (Yn (I2.pin p hp).1) hC)
  ·refine thn (T.item (cxC X N' scope G.objs.size s2 H2 fp) rfl rfl rfl hc i _ s' _ H' _ I' (fpC fr') st' go) λr s4 hz0=>?_;obtain⟨u,hr,h4⟩:=hz0;subst hr;refine thn h4 λ_ s5 hz0=>?_;obtain⟨x,H5,I5,r5,y5,st5,fr5⟩:=hz0;have hst:=step x H5 y5
   have hst':=ho x (List.replicate o none) (fr.map λj=>(σ[j]?).join) H5 _ (YI ..) hst;have I5':=I5.pinned (fpC (us:=us) fr5) (T.obj _ _ st5)
   refine thn (hg _ _ _ _ _ s5 _ H5 x u _ I5' r5 hst') λ_ s6 hz0=>?_;obtain⟨σ6,H6,I6,⟨ow,hol,e6⟩,q6⟩:=hz0;subst e6;refine thn (ht _ _ _ _ _ s6 _ H6 _ I6 q6) λb s7 hz0=>?_;obtain⟨H7,I7,q7⟩:=hz0;have back:∀ {us':List Value} {σ8:St} {H8:Hp} {s8:Shared},Inv (cxC X N' scope G.objs.size s2 H2 fp) ([(s2.heap.objs.size,Zj1 us')]++Zz23 fp s5.heap) (ow++fr.map λj=>(σ[j]?).join) H8 s8 ->
     Inv (cxC X N' scope G.objs.size s2 H2 fp) [(s2.heap.objs.size,Zj1 us')] (σC o fr σ) H8 s8/\tn (i+1) s8.heap/\∀ b∈fp,H8 b=none:=λ{us' σ8 H8 s8} I8=>by
    refine⟨I8.unpinned.weak ?_ λj v e=>?_,T.keep _ _ _ st5 λb hb ob e=>(I8.pin (b,ob) (Yd _ (Yd _ (ZU1 hb e)))).1,λb hb=>?_⟩
    ·unfold σC;rw[Yy4,Yy4,YI,hol]
    ·unfold σC at e;by_cases hj:j<o
     ·rw[Yp (by rw[YI];exact hj),Y1e,if_pos hj]at e;cases e
     ·rw[Yq (by rw[YI];exact Nat.not_lt.mp hj),YI]at e;rw[Yq (by rw[hol];exact Nat.not_lt.mp hj),hol];exact e
    ·obtain⟨ob,e,_⟩:=T.obj _ _ st5 b hb;exact(I8.pin (b,ob) (Yd _ (Yd _ (ZU1 hb e)))).2.1
   cases b with
   | false =>
    rw[if_neg Ys]at q7 ⊢;obtain⟨m',hm,w7⟩:=q7;obtain⟨I8,st8,fr8⟩:=back (us':=us) (σ8:=[]) I7;exact⟨m',hm,i+1,_,H7,ys,us,I8,rfl,rv,st8,fr8,w7⟩
   | true =>
    rw[if_pos rfl]at q7 ⊢;refine thn (he _ _ _ _ _ s7 _ H7 _ I7 q7) λy s8 hz0=>?_;obtain⟨yv,H8,I8,r8,m',hm,w8⟩:=hz0;obtain⟨aD,nD,_,_,_⟩:=I8.pin (s2.heap.objs.size,Zj1 us) (by simp);have aD:s8.heap.get? s2.heap.objs.size=some (Zj1 us):=aD
    have nD:H8 s2.heap.objs.size=none:=nD;have hul:us.length<=sizeLine:=by rw[<- rv.length];exact Yy15 hz
    refine append_at (hsz:=by show us.toArray.size<=sizeLine;rw[Ya];exact hul) aD λh9 hs9 hD9=>?_;have hD9':h9.get? s2.heap.objs.size=some (Zj1 (us++[y])):=by
     rw[hD9];show some ({ cls:=.type "list",data:=.seq (us.toArray.push y) (us.length+1) }:Obj)=some { cls:=.type "list",data:=.seq (us++[y]).toArray (us++[y]).length }
     rw[Yy4,Yj,List.push_toArray]
    have I9:Inv (cxC X N' scope G.objs.size s2 H2 fp) (Zz23 fp s5.heap) (ow++fr.map λj=>(σ[j]?).join) H8 { s8 with heap:=h9 } :=
     (I8.pins_of (pins':=Zz23 fp s5.heap) λp hp=>I8.pin p (Yd _ (Yd _ hp))).turned (t':=s8.toks) (it:=s2.heap.objs.size) (λb ob hb e=>hs9.extBut b ob hb e) nD hDC (.inr (Yy8 _))
      (λx c e=>by obtain⟨v,z⟩:=I2.cell x c (S.sub hsc I2 x c e);exact Yr z.lt)
      λp hp=>by obtain⟨hb,_⟩:=ZD4 (show p∈Zz23 fp s5.heap from by simpa [cxC] using hp);exact Yr (hfl p.1 hb)
    have I9':Inv (cxC X N' scope G.objs.size s2 H2 fp) ([(s2.heap.objs.size,Zj1 (us++[y]))]++Zz23 fp s5.heap) (ow++fr.map λj=>(σ[j]?).join) H8 { s8 with heap:=h9 } :=
     I9.pins_of λp hp=>by
      rcases Yy7.mp hp with z | z
      ·have e:p=(s2.heap.objs.size,Zj1 (us++[y])):=by simpa using z
       subst e;refine⟨hD9',nD,hDC,λz=>?_,λv z=>nomatch z⟩;obtain⟨_,ob,hob,_⟩:=I2.stack.mem z;exact Y0q _ (Yn hob)
      ·exact I9.pin p (Yd _ z)
    obtain⟨I10,st10,fr10⟩:=back (us':=us++[y]) (σ8:=[]) I9';exact⟨m',hm,i+1,_,H8,ys++[yv],us++[y],I10,rfl,Vals.append rv (.cons r8 .nil),st10,fr10,w8⟩
 exact codeAny_compStart_list (loop _ rfl) (T.self _ 0 _ _ _ st1 (loop _ rfl))
theorem Zz84(hc:X.calm=true){sc0:Scope}{N0:List Str}(S:CompScope sc0 N0 N' o fr scope)(hi:PI X tg iter wi)(ho:OwnG o g)
  (hg:∀(C:Addr) (s:Shared) (H:Hp) (fp:List Addr),PG (cxC X N' scope C s H fp) tg g)
  (ht:∀(C:Addr) (s:Shared) (H:Hp) (fp:List Addr),PTs (cxC X N' scope C s H fp) ifs tt)
  (he:∀(C:Addr) (s:Shared) (H:Hp) (fp:List Addr),PE (cxC X N' scope C s H fp) elt te)
  (hs:∀ x,foldedSetIterable iter X.env x=pure x:=by intro _;rfl) (hsc:X.env.scope=sc0:=by rfl) (hN0:X.N=N0:=by rfl):PE X (.ListComp elt [⟨tg,iter,ifs,0⟩] scope pos) (tLc wi g tt te o fr):=by intro pins s σ H Q I h;rw[eval_ListComp];refine ZI11 hc S hi ho hg ht he hs hsc hN0 I h (use:=none) (λ_ _ z=>z) λC oC D m H' ys s' J q hn nC hCD hCL hCs hCc hCp=>?_;refine⟨m,hn,λh' hs'=>⟨.ref D,upd H' D (.lst ys),?_,rfl,q⟩⟩;refine J.unpinned.turned (t':=s'.toks) (it:=C) (λb ob hb e=>hs'.extBut b ob hb e) (by rw[Zb hCD];exact nC) hCL (.inr hCs) hCc hCp
theorem Zr7{i:Nat}{x:Str}{px:Pos}{spos:Pos}(hc:X.calm=true)(hN:X.N.Nodup)(hx:X.N[i]?=some x)(hl:X.env.kindOf x=some .local){sc0:Scope}{N0:List Str}(S:CompScope sc0 N0 N' o fr scope)(hi:PI X tg iter wi)(ho:OwnG o g)
  (hg:∀(C:Addr) (s:Shared) (H:Hp) (fp:List Addr),PG (cxC X N' scope C s H fp) tg g)
  (ht:∀(C:Addr) (s:Shared) (H:Hp) (fp:List Addr),PTs (cxC X N' scope C s H fp) ifs tt)
  (he:∀(C:Addr) (s:Shared) (H:Hp) (fp:List Addr),PE (cxC X N' scope C s H fp) elt te)
  (hs:∀ x,foldedSetIterable iter X.env x=pure x:=by intro _;rfl) (hsc:X.env.scope=sc0:=by rfl) (hN0:X.N=N0:=by rfl)
  (hsw:swapsWith (.ListComp elt [⟨tg,iter,ifs,0⟩] scope pos) (some (.Name x px)) spos.line X.env=pure true:=by rfl) :
  PS X (.Assign [.Name x px] (.ListComp elt [⟨tg,iter,ifs,0⟩] scope pos) spos) (tAsg (tLc wi g tt te o fr) (Zz810 i)):=by
 intro pins s σ H D I h;rw[exec_Assign_Name_used _ _ _ _ hsw];refine Yy3 (Y2Z (Yy3 ?_));show wpAny _ X.A (do let _ <- comprehension (.ListComp elt [⟨tg,iter,ifs,0⟩] scope pos) scope X.env (firstIterPos [⟨tg,iter,ifs,0⟩] pos) (newList []) false (eval iter X.env) (some (assign (.Name x px) X.env))) _ _ s
 refine Yy3 (Y0J (ZI11 (Q:=λ_ s'=>SP X pins D .next s') hc S hi ho hg ht he hs hsc hN0 I h (use:=some (assign (.Name x px) X.env)) (λ_ _ z=>z) λC oC Dd m H' ys s' J q hn nC hCD hCL hCs hCc hCp=>?_) (λ_ s' hq=>Yi (Yi hq)) λ_ _ e=>e);show wpAny _ X.A (assign (.Name x px) X.env (.ref Dd)) _ _ _
 refine wpAny_assign_Name (Zz24 J hN hx (.inl hl) (v:=.ref Dd) rfl (λs2 I2=>?_) (.inr hl));have g1:=(I2.pin (C,oC) (by simp)).1
 have g1:s2.heap.get? C=some oC:=g1;have n2:s2.heap.Ns C m:=by
  obtain⟨oc,es,ep,e,r⟩:=hn;have e0:=(J.pin (C,oC) (by simp)).1
  have e0:s'.heap.get? C=some oC:=e0;rw[e]at e0;cases e0;exact⟨_,es,ep,g1,r⟩
 refine⟨m,n2,λh' hs'=>⟨_,upd H' Dd (.lst ys),?_,q⟩⟩;exact I2.unpinned.turned (t':=s2.toks) (it:=C) (λb ob hb e=>hs'.extBut b ob hb e) (by rw[Zb hCD];exact nC) hCL (.inr hCs) hCc hCp
end
section
variable{X:Cx}
theorem Zb9{x y:V}{us:List Value}(r:Vals [x,y] us):∃ u v,us=[u,v]/\RelV x u/\RelV y v:=by
 cases r with
 | cons a r =>
  cases r with
  | cons b r=>cases r;exact⟨_,_,rfl,a,b⟩
theorem ZR:∀ {ns:List Int} {us:List Value},Vals (ns.map V.int) us->IntsAre us ns
 | [],_,.nil=>.nil
 | n :: ns,_,.cons r t=>by obtain⟨tk,rfl⟩:=r;exact .cons n tk (ZR t)
theorem Zd5:ZX3 X (.type "range") (λxs H Q=>∃ j:Int,xs=[.int j]/\∀ p,H p=none->Q (.ref p) (upd H p (.rng 0 j))):=by intro pins s σ H xs us Q I r h;obtain⟨j,rfl,q⟩:=h;obtain⟨u,rfl,t,rfl⟩:=ZZ3 r;refine call_range_1 ?_;exact⟨.ref s.heap.objs.size,_,I.laid (o:=.rng 0 j) (λb u e=>Yy5 _ e) (Yy8 _) ⟨_,_,_,Ym _ rfl⟩,rfl,q _ (I.hok.fresh (Yy8 _))⟩
def rngI(lo hi:Int):List Int:=(List.range (hi - lo).toNat).map λ(i:Nat)=>lo+(i:Int)
theorem ZK2(lo hi:Int):(rngI lo hi).length=(hi - lo).toNat:=by unfold rngI;rw[Yb,Y0k]
theorem ZN5{lo:Int}{n:Nat}:∀ {us:List Value},us.length=n->(∀(j:Nat) (v:Value),us[j]?=some v->∃ t,v=Value.int (lo+(j:Int)) t)->Vals (((List.range n).map λ(i:Nat)=>lo+(i:Int)).map V.int) us:=by
 induction n generalizing lo with
 | zero =>
  intro us h _;rw[YN.mp h];exact .nil
 | succ n ih =>
  intro us h hv;cases us with
  | nil=>cases h
  | cons u us =>
   rw[List.range_succ_eq_map,Yy06,Yy06];refine .cons ?_ ?_
   ·obtain⟨t,e⟩:=hv 0 u rfl;exact⟨t,e⟩
   ·have q:=ih (lo:=lo+1) (us:=us) (Yy13 h) λj v e=>by obtain⟨t,e'⟩:=hv (j+1) v (by simpa using e);refine⟨t,?_⟩;rw[e'];congr 1;lia
    have e:(List.range n).map (λ(i:Nat)=>lo+1+(i:Int))=((List.range n).map Nat.succ).map (λ(i:Nat)=>lo+(i:Int)):=by
     rw[Y1g];refine YR λi _=>?_;show lo+1+(i:Int)=lo+((i+1:Nat):Int)
     lia
    rw[e]at q;exact q
theorem ZT3 (hc:X.calm=true):ZX3 X (.type "list") (λxs H Q=>∃ p lo hi,xs=[.ref p]/\H p=some (.rng lo hi)/\(-(2 ^ 62)<=lo/\lo<2 ^ 62/\-(2 ^ 62)<=hi/\hi<2 ^ 62)/\(hi - lo).toNat<=16777216 /\
  ∀ l,H l=none->Q (.ref l) (upd H l (.lst ((rngI lo hi).map V.int)))):=by
 intro pins s σ H xs us Q I r h;obtain⟨p,lo,hi,rfl,hp,⟨b1,b2,b3,b4⟩,hz,q⟩:=h;obtain⟨u,rfl,ru⟩:=ZZ3 r;obtain rfl:u=Value.ref p:=ru;obtain⟨t,u,v,e⟩:=(show ObjOk X.prog X.w H s.heap p (.rng lo hi) from I.hok p _ hp);have hn:Builtin.Range.rangeSize lo hi 1=(((hi - lo).toNat:Nat):Int):=by rw[rangeSize_one];split <;> grind
 refine call_list_range (I.ok.hd hc) (t:=t) (u:=u) (v:=v) e (small_one b1 b2 b3 b4) hn hz λh' tk acc c' hk hS ha=>?_;have hl:acc.toList.length=(hi - lo).toNat:=by rw[YB];exact ha.1
 have rv:Vals ((rngI lo hi).map V.int) acc.toList:=ZN5 (lo:=lo) hl λj w ew=>by obtain⟨t,e⟩:=ha.2 j w (by simpa using ew);exact⟨t,by rw[e,Y1i]⟩
 refine⟨.ref s.heap.objs.size,_,I.laid (o:=.lst ((rngI lo hi).map V.int)) hk (Yy8 _) ⟨?_,acc.toList,c',rv,?_⟩,rfl,q _ (I.hok.fresh (Yy8 _))⟩
 ·rw[Yb,ZK2]
  have:sizeLine=16777216:=Y0r
  lia
 ·rw[hS]
def seen(ns:List Int):List Int:=firstMet (λi=>ns.getD i 0) ns.length
def Ite(K:PySem.W.Frag)(a:Addr):It :=
 ⟨λi H=>∃ xs x,SqL K H a xs/\xs[i]?=some x,λi H v H'=>∃ T x,H T=none/\v=.ref T/\H'=upd H T (.tup [.int i,x])/\∀ xs,SqL K H a xs->xs[i]?=some x,λi H=>∃ xs,SqL K H a xs/\xs.length<=i⟩
def Zm13(K:PySem.W.Frag)(ta:TA):TI:=λσ H R=>ta σ H λvs H1=>∃ a,vs=[.ref a]/\(∃ xs,SqL K H1 a xs)/\R (Ite K a) H1
theorem Zv7{P:Program}{w:World}{K:PySem.W.Frag}{elts:List Expr}{x1:Nat}{pos:Pos}(a e it:Addr)(hne:e≠it):Turn P w K (.Tuple elts x1 pos) (Ite K a) [e,it] e (λi h=>(∃ old,IsEnum h e it i old)/\h.IsListIter it a i) where
 mem:=by simp
 obj:=λi h st b hb=>by
  obtain⟨⟨old,he⟩,o,eo,c,d⟩:=st;rcases Yf.mp hb with z | hb
  ·subst z;exact⟨_,he,λv z=>by have z':Data.fields _=Data.cell v:=z;cases z'⟩
  ·have z:b=it:=by simpa using hb
   subst z;exact⟨o,eo,λv z=>by rw[d]at z;cases z⟩
 keep:=λi h h' st k=>by obtain⟨⟨old,he⟩,hit⟩:=st;exact⟨⟨old,k e (by simp) _ he⟩,hit.at λo x=>k it (by simp) o x⟩
 item:=by
  intro X hP hw hK hc i pins s σ H E I hf st hg;subst hP hw hK;obtain⟨xs,x,hq,hx⟩:=hg;obtain⟨⟨old,he⟩,hit⟩:=st;obtain⟨its,rv,p,hz⟩:=I.list hq;obtain⟨u,hu,ru⟩:=rv.get hx;obtain⟨f0,f1,f2,f3,f4,f5⟩:=hf e (by simp);obtain⟨g0,g1,g2,g3,g4,g5⟩:=hf it (by simp);have hT0:H s.heap.objs.size=none:=I.hok.fresh (Yy8 _)
  refine wpAny_pyNext_enum_item he hit p.isList (x:=u) (by simpa using hu) hne λh' ho hit' hT hsz hk=>?_;have ltT:∀ b ob,s.heap.get? b=some ob->b≠s.heap.objs.size:=λb ob z=>Yr (Yn z)
  have ltH:∀ b ob,H b=some ob->b≠s.heap.objs.size:=λb ob z=>Yr (I.hok.lt z);have nof:∀ b ob,H b=some ob->b≠e/\b≠it:=λb ob z=>⟨λq=>(by rw[q,f0]at z;cases z),λq=>(by rw[q,g0]at z;cases z)⟩
  have I1:Inv X pins σ (upd H s.heap.objs.size (.tup [.int i,x])) { s with heap:=h',toks:=s.toks+1 }:=by
   refine I.step (g':=s.gens) (d':=s.drawn) (ch:=[e,it]) (λb hb=>?_) (λb o _ _ hcx z _=>hk b o (λq=>hcx (by simp[q])) (λq=>hcx (by simp[q])) z) (λb o _ _ hcx z _=>⟨o.slots,hk b o (λq=>hcx (by simp[q])) (λq=>hcx (by simp[q])) z⟩)
    (λb o _ z n=>by rw[Zb (ltT b o z)];exact n) (λb o hcx z=>⟨o,hk b o (λq=>hcx (by simp[q])) (λq=>hcx (by simp[q])) z⟩) (λb ys z=>by rw[Zb (ltH b _ z)];exact z) (λb o v z=>by rw[Zb (ltH b _ z)];exact z)
    (λb ps z=>⟨#[],by rw[Zb (ltH b _ z),z];simp⟩) (λm hm=>?_) (λb v z=>?_) I.bare
   ·rcases Yf.mp hb with q | hb
    ·rw[q];exact⟨f3,f1,f4,f5⟩
    ·have q:b=it:=by simpa using hb
     rw[q];exact⟨g3,g1,g4,g5⟩
   ·obtain⟨o,es,ep,ho',r⟩:=hm;exact⟨o,es,ep,hk _ o (YY f1) (YY g1) ho',r⟩
   ·by_cases hb:b=s.heap.objs.size
    ·subst hb;rw[Zz1]at z;cases z;exact⟨by show 2<=sizeLine;decide,[.int i s.toks,u],.cons ⟨_,rfl⟩ (.cons ru .nil),⟨_,hT,rfl,_,rfl⟩⟩
    ·rw[Zb hb]at z;refine(I.hok b v z).stay (λc w' hc' q=>?_) (λc q=>by rw[Zb (ltH c _ q)];exact q) λc ys q=>by rw[Zb (ltH c _ q)];exact q
     rcases hc' with rfl | hc'
     ·exact hk c w' (nof c _ z).1 (nof c _ z).2 q
     ·exact hk c w' (nof c _ hc').1 (nof c _ hc').2 q
  refine⟨_,rfl,wpAny_letOwnedTupleGo_enum ho λh2 he2 hs2=>?_⟩;have fT:e≠s.heap.objs.size:=ltT e _ he
  have I2:Inv X pins σ (upd H s.heap.objs.size (.tup [.int i,x])) { s with heap:=h2,toks:=s.toks+1 }:=Inv.turned (s:={ s with heap:=h',toks:=s.toks+1 }) (h':=h2) (t':=s.toks+1) (it:=e) I1 (λb o hb z=>hs2.extBut b o hb z) (by rw[Zb fT];exact f0) f1 f3 f4 f5;refine⟨.ref s.heap.objs.size,_,I2,rfl,⟨_,x,hT0,rfl,rfl,λys hy=>by rw[I.list_inj hy hq];exact hx⟩,⟨⟨u,by simpa using he2⟩,hit'.at λo z=>hs2.extBut it o (YY hne) z⟩,λb hb=>?_⟩;rcases Yf.mp hb with q | hb
  ·rw[q,Zb fT];exact f0
  ·have q:b=it:=by simpa using hb
   obtain⟨o,eo,_⟩:=hit;rw[q,Zb (ltT it o eo)];exact g0
 done:=by
  intro X hP hw hK hc i pins s σ H E I hf st hg;subst hP hw hK;obtain⟨xs,hq,hx⟩:=hg;obtain⟨⟨old,he⟩,hit⟩:=st;obtain⟨its,rv,p,hz⟩:=I.list hq;obtain⟨g0,g1,g2,g3,g4,g5⟩:=hf it (by simp);have hl:=rv.length
  exact wpAny_pyNext_enum_end (I.ok.hd hc) he hit p.isList (by simp;lia) λh' eb=>⟨rfl,I.turned (t':=s.toks) (it:=it) (λb o hb z=>eb b o hb z) g0 g1 g3 g4 g5⟩
 self:=λ_ _ _ _ _ st h=>let ⟨⟨_,he⟩,_⟩:=st;wpAny_pyIter_enum he h
theorem Zp11 {elts:List Expr} {x1:Nat} {tpos:Pos} {a:Expr} {ta:TA} {p pos:Pos} (hg:Gl X "enumerate") (hm:X.mg "enumerate"=none) (ha:PA X [a] ta) (hs:starEach [a] X.env=[(false,eval a X.env)]:=by rfl) :
  PI X (.Tuple elts x1 tpos) (.Call (.Name "enumerate" p) [a] [] pos) (Zm13 X.K ta):=by
 intro pins s σ H R I h;refine Call_ (Zu2 I hg hm Boot.«enumerate» (Y0c (thn (ha pos pins s σ H _ I h) λus s1 hz0=>?_) hs rfl));obtain⟨vs,H1,I1,r1,q1⟩:=hz0;obtain⟨b,e,⟨xs,hq⟩,q⟩:=q1;subst e;obtain⟨u,rfl,ru⟩:=ZZ3 r1;obtain rfl:u=Value.ref b:=ru;obtain⟨its,rv,pl,hz⟩:=I1.list hq;refine call_enumerate_list pl.isList λh' he hit hsz hk=>?_;have I2:Inv X pins σ H1 { s1 with heap:=h' }:=I1.kept (t':=s1.toks) hk
 refine wpAny_pyIter_enum he ?_;have nn:∀ k,s1.heap.objs.size<=k->H1 k=none:=λk hk=>I1.hok.fresh hk
 refine⟨s1.heap.objs.size+1,[s1.heap.objs.size+1,s1.heap.objs.size],_,_,H1,rfl,I2,Zv7 b _ _ (Nat.succ_ne_self _),⟨⟨_,he⟩,hit⟩,λc hc=>?_,q⟩;have hle:s1.heap.objs.size<=c:=by
  rcases Yf.mp hc with q | hc
  ·rw[q];exact Y0j _
  ·have q:c=s1.heap.objs.size:=by simpa using hc
   rw[q];exact Yy8 _
 exact I1.fpOk hle (nn c hle)
theorem ZL11{k:Key}{y:V}{us:List Value}(r:Vals [kV k,y] us):∃ u v,us=[u,v]/\RelV (kV k) u/\RelV y v:=Zb9 r
def Zj11:V->List V->Hp->VK->Prop:=λx vs H Q=>∃ d kvs k y,x=.ref d/\vs=[kV k,y]/\H d=some (.dK kvs)/\kvs.length<sizeLine/\(∀ v,valV kvs k=some v->Q v H)/\(valV kvs k=none->Q y (upd H d (.dK (kvs++[(k,y)]))))
theorem ZJ3:MtM X "dict.setdefault" Zj11:=by
 intro pins s σ H x vs v us Q I rx rv h;obtain⟨d,kvs,k,y,rfl,rfl,hH,hz,h1,h2⟩:=h;cases rx;obtain⟨uk,uy,rfl,rk,ry⟩:=ZL11 rv;obtain⟨z,hd,ws,rel,dd⟩:=Zz813 I.hok hH;refine call_meetsIn Y2H dd.typeIs PySem.F.entry_dict_setdefault (PySem.F.args_dict_setdefault_3 _ _ _) (kt_meets_setdefault (Zf1 X.prog X.w) d (ZL13 rk) hd uy)
  ⟨ws,dd,by rw[<- rel.length];exact z,λv' hv'=>?_,λhn h' dd' hs=>?_⟩
 ·cases e:valV kvs k with
  | none =>
   have q:=rel.val k;rw[e,hv']at q;exact False.elim q
  | some w' =>
   have q:=rel.val k;rw[e,hv']at q;exact⟨w',H,I.tok _,q,h1 w' e⟩
 ·have e:valV kvs k=none:=by
   cases e:valV kvs k with
   | none=>rfl
   | some w' =>
    have q:=rel.val k;rw[e,hn]at q;exact False.elim q
  have he:∃ q,h'.get? d=some q:=let ⟨q,_,_,hq,_⟩:=dd';⟨q,hq⟩
  refine⟨y,_,Zz712 (ob:=.dK (putK kvs k y)) I (by rw[hH];exact True.intro) hs he (Zz913 ?_ hd (rel.put k ry) dd'),ry,?_⟩
  ·have:=Zy5 kvs k y;lia
  ·rw[Zy9 y e];exact h2 e
def ZE10(p d:Addr):HO:=.ext λh=>h.IsValuesView p d
def Zi11:V->List V->Hp->VK->Prop:=λx vs H Q=>∃ d kvs,x=.ref d/\vs=[]/\H d=some (.dK kvs)/\∀ p,H p=none->Q (.ref p) (upd H p (ZE10 p d))
theorem ZM7:MtM X "dict.values" Zi11:=by
 intro pins s σ H x vs v us Q I rx rv h;obtain⟨d,kvs,rfl,rfl,hH,q⟩:=h;cases rx;cases rv;obtain⟨z,hd,ws,rel,dd⟩:=Zz813 I.hok hH;refine call_meetsIn Y3a dd.typeIs PySem.F.entry_dict_values (PySem.F.args_dict_values_1 _) (meets_dict_values (Zf1 X.prog X.w) d hd) ⟨⟨ws,dd⟩,?_⟩;refine⟨.ref s.heap.objs.size,_,I.laid (o:=ZE10 s.heap.objs.size d) (λb u e=>Yy5 _ e) (Yy8 _) ?_,rfl,q _ (I.hok.fresh (Yy8 _))⟩;have e:=Ym s.heap (o:={ cls:=.type "dict_values",data:=.fields #[.ref d] }) rfl
 exact⟨⟨_,e,rfl,rfl⟩,⟨_,e⟩,λh1 h2 ⟨o,ho,r⟩ k=>⟨o,k o ho,r⟩⟩
theorem Ze8{P:Program}{w:World}{h:Heap}{d:Addr}{ws:List (Key × Value)}(dd:h.DictOf (Zf1 P w) d ws):∃ ep,h.DictAt (Zf1 P w) d ws ep:=by obtain⟨o,es,ep,r⟩:=dd;exact⟨ep,o,es,r⟩
theorem ZM5{κ:Type}:∀ {kvs:List (κ × V)} {ws:List (κ × Value)},KV kvs ws->Vals (kvs.map (·.2)) (ws.map (·.2))
 | _,_,.nil=>.nil
 | _,_,.cons r t=>.cons r.2 (ZM5 t)
theorem Zl3 (hc:X.calm=true):ZX3 X (.type "list") (λxs H Q=>∃ p d kvs,xs=[.ref p]/\H p=some (ZE10 p d)/\H d=some (.dK kvs)/\∀ l,H l=none->Q (.ref l) (upd H l (.lst (kvs.map (·.2))))):=by
 intro pins s σ H xs us Q I r h;obtain⟨p,d,kvs,rfl,hp,hd,q⟩:=h;obtain⟨u,rfl,ru⟩:=ZZ3 r;obtain rfl:u=Value.ref p:=ru;obtain⟨hv,_,_⟩:=(show ObjOk X.prog X.w H s.heap p (ZE10 p d) from I.hok p _ hp);obtain⟨z,hds,ws,rel,dd⟩:=Zz813 I.hok hd;obtain⟨ep,da⟩:=Ze8 dd;have hl:ws.length=kvs.length:=rel.length.symm
 refine PySem.W.kdl_call (PySem.W.kdl_values (knd:=Zf1 X.prog X.w) (kvs:=ws) (ep:=ep) (r:=p) (d:=d)) (I.ok.hd hc) ⟨hv,da⟩ (by lia) λh' tk acc c' hk hS ha=>?_;have ea:acc.toList=ws.map (·.2):=by
  refine Yy12 λi=>?_;cases e:acc.toList[i]? with
  | none =>
   have:ws.length<=i:=by
    have:=Yy32.mp e
    rw[YB,ha.1]at this;exact this
   rw[Yy32.mpr (by rw[Yb];exact this)]
  | some v =>
   obtain⟨k,ek⟩:=ha.2 i v (by simpa using e);rw[Yu,ek];rfl
 refine⟨.ref s.heap.objs.size,_,I.laid (o:=.lst (kvs.map (·.2))) hk (Yy8 _) ⟨by rw[Yb];exact z,acc.toList,c',?_,by rw[hS]⟩,rfl,q _ (I.hok.fresh (Yy8 _))⟩;rw[ea];exact ZM5 rel
end
inductive EqD (K:PySem.W.Frag) (H:Hp):Nat->V->V->Bool->Prop
 | flat {n:Nat} {x y:V} (fx:ZY3 x=true) (fy:ZY3 y=true):EqD K H n x y (eqV x y)
 | lsts {n:Nat} {a b:Addr} {xs ys:List V} {e:Nat->Bool} (ha:SqL K H a xs) (hb:SqL K H b ys) (hl:xs.length=ys.length) (h:∀ i x y,xs[i]?=some x->ys[i]?=some y->EqD K H n x y (e i)):EqD K H (n+1) (.ref a) (.ref b) ((List.range xs.length).all e)
 | lens {n:Nat} {a b:Addr} {xs ys:List V} (ha:SqL K H a xs) (hb:SqL K H b ys) (hl:xs.length≠ys.length):EqD K H (n+1) (.ref a) (.ref b) false
 | tups {n:Nat} {a b:Addr} {xs ys:List V} {e:Nat->Bool} (ha:SqT K H a xs) (hb:SqT K H b ys) (h:∀ i x y,xs[i]?=some x->ys[i]?=some y->EqD K H n x y (e i)) :
   EqD K H (n+1) (.ref a) (.ref b) ((List.range (min xs.length ys.length)).all e && xs.length == ys.length)
theorem Zf10{x:V}(h:ZY3 x=true):eqV x x=true:=by cases x <;> first | rfl | (simp[eqV];done) | exact absurd (show false=true from h) Ys
section
variable{X:Cx}{pins:List (Addr × Obj)}{σ:St}{H:Hp}{s:Shared}
theorem Vals.at{xs:List V}{us:List Value}{j:Nat}(r:Vals xs us)(h:j<us.length):∃ x,xs[j]?=some x/\RelV x us[j]:=by
 have hl:=r.length;have hx:xs[j]?=some (xs[j]'(by lia)):=Yy0 (by omega)
 obtain⟨u,e,ru⟩:=r.get hx;rw[Yy0 h]at e;cases e;exact⟨_,hx,ru⟩
theorem EqD.self{n:Nat}{x y:V}{b:Bool}(q:EqD X.K H n x y b)(I:Inv X pins σ H s):x=y->b=true:=by
 induction q with
 | flat fx fy=>intro e;subst e;exact Zf10 fx
 | @lsts n a b xs ys e ha hb hl h ih =>
  intro z;cases z;have e1:xs=ys:=I.list_inj ha hb
  subst e1;rw[Y0i];intro i hi;have hx:xs[i]?=some (xs[i]'(YH.mp hi)):=Yy0 _
  exact ih i _ _ hx hx rfl
 | @lens n a b xs ys ha hb hl =>
  intro z;cases z;exact absurd (YV List.length (I.list_inj ha hb)) hl
 | @tups n a b xs ys e ha hb h ih =>
  intro z;cases z;have e1:xs=ys:=I.tuple_inj ha hb
  subst e1;rw[Nat.min_self,Y0W,Y0i];refine⟨λi hi=>?_,by simp⟩;have hx:xs[i]?=some (xs[i]'(YH.mp hi)):=Yy0 _
  exact ih i _ _ hx hx rfl
theorem EqD.at{n:Nat}{x y:V}{b:Bool}(q:EqD X.K H n x y b)(I:Inv X pins σ H s):∀ {A:Around} {u v:Value},A.units+n<cLine->RelV x u->RelV y v->SeqAt.EqAt A s u v b:=by
 induction q with
 | flat fx fy=>intro A u v _ ru rv;exact Zz012 ru rv fx fy
 | @lsts n a b xs ys e ha hb hl h ih =>
  intro A u v hu ru rv;obtain rfl:u=Value.ref a:=ru;obtain rfl:v=Value.ref b:=rv;by_cases hab:a=b
  ·have z:=EqD.self (EqD.lsts ha hb hl h) I (YV V.ref hab);rw[z,hab];exact SeqAt.EqAt.same _
  obtain⟨us,rx,px,_⟩:=I.list ha;obtain⟨vs,ry,py,_⟩:=I.list hb;have l1:=rx.length
  have l2:=ry.length;have z:=SeqAt.RcAt.lists (A:=A) (s:=s) (e:=e) px.isList py.isList (by rw[Ya,Ya];lia) (by lia) λj h1 h2=>by obtain⟨x,ex,rx'⟩:=rx.at (j:=j) (by simpa using h1);obtain⟨y,ey,ry'⟩:=ry.at (j:=j) (by simpa using h2);exact ih j x y ex ey (A:=A.in1) (by show A.units+1+n<cLine;lia) (by simpa using rx') (by simpa using ry')
  rw[Ya,<- l1]at z;exact Y2Q hab z
 | @lens n a b xs ys ha hb hl =>
  intro A u v hu ru rv;obtain rfl:u=Value.ref a:=ru;obtain rfl:v=Value.ref b:=rv;obtain⟨us,rx,px,_⟩:=I.list ha;obtain⟨vs,ry,py,_⟩:=I.list hb;have l1:=rx.length
  have l2:=ry.length;have hab:a≠b:=λz=>by subst z;exact hl (YV List.length (I.list_inj ha hb))
  exact Y2Q hab (SeqAt.RcAt.lists_lengths px.isList py.isList (by rw[Ya,Ya];simp;lia) (by omega))
 | @tups n a b xs ys e ha hb h ih =>
  intro A u v hu ru rv;obtain rfl:u=Value.ref a:=ru;obtain rfl:v=Value.ref b:=rv;by_cases hab:a=b
  ·have z:=EqD.self (EqD.tups ha hb h) I (YV V.ref hab);rw[z,hab];exact SeqAt.EqAt.same _
  obtain⟨us,rx,px,_⟩:=I.tuple ha;obtain⟨vs,ry,py,_⟩:=I.tuple hb;have l1:=rx.length
  have l2:=ry.length;have z:=SeqAt.RcAt.tuples (A:=A) (s:=s) (e:=e) (show s.heap.IsTuple a us.toArray from px) (show s.heap.IsTuple b vs.toArray from py) (by omega) λj h1 h2=>by obtain⟨x,ex,rx'⟩:=rx.at (j:=j) (by simpa using h1);obtain⟨y,ey,ry'⟩:=ry.at (j:=j) (by simpa using h2);exact ih j x y ex ey (A:=A.in1) (by show A.units+1+n<cLine;omega) (by simpa using rx') (by simpa using ry')
  rw[Ya,Ya,<- l1,<- l2]at z;exact Y2Q hab z
end
section
variable{X:Cx}
def rEqD(K:PySem.W.Frag)(neg:Bool):R2:=λx y H Q=>∃ n b p q,x=.ref p/\y=.ref q/\n<=6/\EqD K H n x y b/\Q (.bl (if neg then !b else b)) H
theorem ZT12(hu:X.A.units+8<cLine):OpR X (compareOp .Eq) (rEqD X.K false):=by
 intro pins s σ H x y u v Q I ru rv h;obtain⟨n,b,p,q,rfl,rfl,hn,d,hq⟩:=h;obtain rfl:u=Value.ref p:=ru;obtain rfl:v=Value.ref q:=rv;have fin:EP X pins σ Q (.bool b) s:=⟨.bl b,H,I,rfl,hq⟩
 cases d with
 | flat fx fy=>exact absurd (show false=true from fx) Ys
 | @lsts n _ _ xs ys e ha hb hl h =>
  obtain⟨us,rx,px,_⟩:=I.list ha;obtain⟨vs,ry,py,_⟩:=I.list hb;have l1:=rx.length
  have l2:=ry.length;refine SeqAt.eq_listAt (e:=e) px.isList py.isList (by rw[Ya,Ya];lia) (by lia) (λj h1 h2=>?_) (by rw[Ya,<- l1];exact fin);obtain⟨x,ex,rx'⟩:=rx.at (j:=j) (by simpa using h1);obtain⟨y,ey,ry'⟩:=ry.at (j:=j) (by simpa using h2);exact(h j x y ex ey).at I (A:=X.A.in1) (by show X.A.units+1+n<cLine;lia) (by simpa using rx') (by simpa using ry')
 | @lens n _ _ xs ys ha hb hl =>
  obtain⟨us,rx,px,_⟩:=I.list ha;obtain⟨vs,ry,py,_⟩:=I.list hb;have l1:=rx.length
  have l2:=ry.length;exact SeqAt.eq_list_lengthsAt px.isList py.isList (by rw[Ya,Ya];simp;lia) (by omega) fin
 | @tups n _ _ xs ys e ha hb h =>
  obtain⟨us,rx,px,_⟩:=I.tuple ha;obtain⟨vs,ry,py,_⟩:=I.tuple hb;have l1:=rx.length
  have l2:=ry.length;refine SeqAt.eq_tupleAt (e:=e) (show s.heap.IsTuple p us.toArray from px) (show s.heap.IsTuple q vs.toArray from py) (by omega) (λj h1 h2=>?_) (by rw[Ya,Ya,<- l1,<- l2];exact fin);obtain⟨x,ex,rx'⟩:=rx.at (j:=j) (by simpa using h1);obtain⟨y,ey,ry'⟩:=ry.at (j:=j) (by simpa using h2);exact(h j x y ex ey).at I (A:=X.A.in1) (by show X.A.units+1+n<cLine;omega) (by simpa using rx') (by simpa using ry')
theorem ZS12(hu:X.A.units+8<cLine):OpR X (compareOp .NotEq) (rEqD X.K true):=by
 intro pins s σ H x y u v Q I ru rv h;obtain⟨n,b,p,q,rfl,rfl,hn,d,hq⟩:=h;obtain rfl:u=Value.ref p:=ru;obtain rfl:v=Value.ref q:=rv;have fin:EP X pins σ Q (.bool (!b)) s:=⟨.bl (!b),H,I,rfl,hq⟩
 cases d with
 | flat fx fy=>exact absurd (show false=true from fx) Ys
 | @lsts n _ _ xs ys e ha hb hl h =>
  obtain⟨us,rx,px,_⟩:=I.list ha;obtain⟨vs,ry,py,_⟩:=I.list hb;have l1:=rx.length
  have l2:=ry.length;refine SeqAt.RcNeAt.lists (e:=e) px.isList py.isList (by rw[Ya,Ya];omega) (by omega) (λj h1 h2=>?_) _ _ _ _ (by rw[Ya,<- l1];exact fin);obtain⟨x,ex,rx'⟩:=rx.at (j:=j) (by simpa using h1);obtain⟨y,ey,ry'⟩:=ry.at (j:=j) (by simpa using h2);exact(h j x y ex ey).at I (A:=X.A.in1) (by show X.A.units+1+n<cLine;omega) (by simpa using rx') (by simpa using ry')
 | @lens n _ _ xs ys ha hb hl =>
  obtain⟨us,rx,px,_⟩:=I.list ha;obtain⟨vs,ry,py,_⟩:=I.list hb;have l1:=rx.length
  have l2:=ry.length;exact SeqAt.RcNeAt.lists_lengths px.isList py.isList (by rw[Ya,Ya];simp;omega) (by omega) _ _ _ _ fin
 | @tups n _ _ xs ys e ha hb h =>
  obtain⟨us,rx,px,_⟩:=I.tuple ha;obtain⟨vs,ry,py,_⟩:=I.tuple hb;have l1:=rx.length
  have l2:=ry.length;refine SeqAt.RcNeAt.tuples (e:=e) (show s.heap.IsTuple p us.toArray from px) (show s.heap.IsTuple q vs.toArray from py) (by omega) (λj h1 h2=>?_) _ _ _ _ (by rw[Ya,Ya,<- l1,<- l2];exact fin);obtain⟨x,ex,rx'⟩:=rx.at (j:=j) (by simpa using h1);obtain⟨y,ey,ry'⟩:=ry.at (j:=j) (by simpa using h2);exact(h j x y ex ey).at I (A:=X.A.in1) (by show X.A.units+1+n<cLine;omega) (by simpa using rx') (by simpa using ry')
end
end L2
namespace My
open PySem L2
abbrev IL(ns:List Int):List V:=ns.map V.int
theorem Zz4(ns:List Int):(IL ns).length=ns.length:=Yb ..
theorem ZW1(a b:List Int):IL (a++b)=IL a++IL b:=YL ..
theorem ZV(a:List Int)(r:Int):IL (a++[r])=IL a++[.int r]:=YL ..
theorem ZQ8(a:List Int)(n:Nat):IL (a.take n)=(IL a).take n:=List.map_take ..
theorem ZS11(a:List Int)(n:Nat):IL (a.drop n)=(IL a).drop n:=List.map_drop ..
theorem Zz413(a:List Int)(n:Nat)(z:Int):IL (a.set n z)=(IL a).set n (.int z):=List.map_set ..
theorem ZR2{ns:List Int}{i:Nat}{z:Int}(h:ns[i]?=some z):(IL ns)[i]?=some (.int z):=by rw[Yu,h];rfl
theorem Zz71{ns:List Int}{i:Nat}{x:V}(h:(IL ns)[i]?=some x):∃ z,x=.int z/\ns[i]?=some z:=by
 rw[Yu]at h;cases e:ns[i]? with
 | none=>rw[e]at h;cases h
 | some z=>rw[e]at h;exact⟨z,(Yh h).symm,rfl⟩
theorem ZG{H H2:Hp}{a:Addr}{o:HO}(hn:H a=none)(s:Same H H2):Same H (upd H2 a o):=λb u e=>by rw[Zb (Zc e hn)];exact s b u e
theorem ZC{H H2:Hp}{p:Addr}{o:HO}(s:Same H H2)(hp:H2 p=none):Same H (upd H2 p o):=ZG (s.free hp) s
theorem Zz5{H:Hp}{p:Addr}{o:HO}(hp:H p=none):Same H (upd H p o):=ZC (Same.refl H) hp
theorem ZT{K:PySem.W.Frag}{H H':Hp}{a:Addr}{xs:List V}(e:Same H H')(h:SqT K H a xs):SqT K H' a xs:=by
 rcases h with (h | ⟨o,h⟩) | h
 ·exact .inl (.inl (e _ _ h))
 ·exact .inl (.inr ⟨o,e _ _ h⟩)
 ·exact .inr h
theorem ZN1{n:Nat}(h:n<=1000000):n<=sizeLine:=Yt h (by decide)
theorem Zm{n:Nat}(h:n<=1000000):n<sizeLine:=Y1P h (by decide)
theorem hu8{A:Around}{k:Nat}(hr:Room k A):A.units+8<cLine:=Y1P (Nat.add_le_add_left (by decide:8<=64) _) hr.units
theorem ZK{α:Type}{xs:List α}{i:Int}{n:Nat}{x:α}(hi:i=(n:Int))(h:xs[n]?=some x):atI xs i=some x:=by
 subst hi;have hn:n<xs.length:=(Yy1.mp h).1
 unfold atI ixN;rw[if_pos (Int.natCast_nonneg n),if_pos (by omega)];simpa using h
theorem itd{c A B:Prop}[Decidable c](hc:c)(h:A):if decide c=true then A else B:=by rw[if_pos (Yx hc)];exact h
theorem itdn{c A B:Prop}[Decidable c](hc:¬ c)(h:B):if decide c=true then A else B:=by rw[if_neg (by simp[hc])];exact h
theorem itn{c A B:Prop}[Decidable c](hc:c)(h:B):if (!decide c)=true then A else B:=by rw[if_neg (by simp[hc])];exact h
theorem itnn{c A B:Prop}[Decidable c](hc:¬ c)(h:A):if (!decide c)=true then A else B:=by rw[if_pos (by simp[hc])];exact h
theorem itd2{c A B:Prop}[Decidable c](h1:c->A)(h2:¬ c->B):if decide c=true then A else B:=by
 by_cases h:c
 ·exact itd h (h1 h)
 ·exact itdn h (h2 h)
theorem itn2{c A B:Prop}[Decidable c](h1:c->B)(h2:¬ c->A):if (!decide c)=true then A else B:=by
 by_cases h:c
 ·exact itn h (h1 h)
 ·exact itnn h (h2 h)
theorem itb{b:Bool}{A B:Prop}(h1:b=true->A)(h2:b=false->B):if b=true then A else B:=by
 cases b with
 | true=>exact iteT (h1 rfl)
 | false=>exact iteF (h2 rfl)
theorem itnb{b:Bool}{A B:Prop}(h1:b=true->B)(h2:b=false->A):if (!b)=true then A else B:=by
 cases b with
 | true=>exact iteF (h1 rfl)
 | false=>exact iteT (h2 rfl)
def SqK(k:Bool)(K:PySem.W.Frag)(H:Hp)(a:Addr)(xs:List V):Prop:=match k with
 | false=>SqL K H a xs
 | true=>SqT K H a xs
theorem SqK.same{k:Bool}{K:PySem.W.Frag}{H H':Hp}{a:Addr}{xs:List V}(e:Same H H')(h:SqK k K H a xs):SqK k K H' a xs:=by
 cases k with
 | false=>exact e.seq h
 | true=>exact ZT e h
theorem SqK.or{k:Bool}{K:PySem.W.Frag}{H:Hp}{a:Addr}{xs:List V}(h:SqK k K H a xs):SqL K H a xs\/SqT K H a xs:=by
 cases k with
 | false=>exact .inl h
 | true=>exact .inr h
def iSeq(K:PySem.W.Frag)(tl:TE):TI:=λσ H R=>tl σ H λx H1=>∃ a,x=.ref a/\(((∃ xs,SqL K H1 a xs)/\R (Itl K a) H1)\/((∃ xs,SqT K H1 a xs)/\R (Itt K a) H1))
theorem pi_seq{X:Cx}{tg:Expr}{l:Expr}{tl:TE}(hl:PE X l tl):PI X tg l (iSeq X.K tl):=by
 intro pins s σ H R I h;refine thn (hl pins s σ H _ I h) λv s1 hz0=>?_;obtain⟨x,H1,I1,r1,q1⟩:=hz0;obtain⟨a,e,q⟩:=q1;subst e;cases r1;rcases q with ⟨⟨xs,hq⟩,q⟩ | ⟨⟨xs,hq⟩,q⟩
 ·obtain⟨its,rv,p,hz⟩:=I1.list hq;refine Y2a p.isList ?_;refine⟨s1.heap.objs.size,[s1.heap.objs.size],_,_,H1,rfl,I1.kept (t':=s1.toks) λb o e=>Yy5 _ e,Zu4 a _,⟨_,Ym _ rfl,rfl,rfl⟩,λb hb=>?_,q⟩;have e:b=s1.heap.objs.size:=by simpa using hb
  subst e;exact I1.fpOk (Yy8 _) (I1.hok.fresh (Yy8 _))
 ·obtain⟨its,rv,p,hz⟩:=I1.tuple hq;refine wpAny_pyIter_tuple (show s1.heap.IsTuple a its.toArray from p) ?_;refine⟨s1.heap.objs.size,[s1.heap.objs.size],_,_,H1,rfl,I1.kept (t':=s1.toks) λb o e=>Yy5 _ e,Zs3 a _,⟨_,Ym _ rfl,rfl,rfl⟩,λb hb=>?_,q⟩;have e:b=s1.heap.objs.size:=by simpa using hb
  subst e;exact I1.fpOk (Yy8 _) (I1.hok.fresh (Yy8 _))
theorem ZV4{K:PySem.W.Frag}{k:Bool}{a:Addr}{xs:List V}{g:TG}{tb:TS}{D:Ends}{σ:St}{H:Hp}(Pv:Nat->St->Hp->Prop)(h0:Pv 0 σ H)(hl:∀ i σ H,i<=xs.length->Pv i σ H->SqK k K H a xs)
  (hs:∀ i x σ H,xs[i]?=some x->Pv i σ H->g x σ H λσ2 H2=>tb { D with nx:=Pv (i+1),ct:=Pv (i+1),bk:=D.nx } σ2 H2) (hd:∀ σ H,Pv xs.length σ H->D.nx σ H) :
  (((∃ xs,SqL K H a xs)/\∃ W:Nat->Nat->St->Hp->Prop,(∃ m,W 0 m σ H)/\∀ i m σ H,W i m σ H ->
   ((Itl K a).stop i H/\D.nx σ H)\/((Itl K a).go i H/\∃ N:St->Hp->Prop,(∀ σ' H',N σ' H'->∃ m',m'<m/\W (i+1) m' σ' H')/\∀ x H',(Itl K a).yld i H x H'->g x σ H' λσ2 H2=>tb { D with nx:=N,ct:=N,bk:=D.nx } σ2 H2)) \/
  ((∃ xs,SqT K H a xs)/\∃ W:Nat->Nat->St->Hp->Prop,(∃ m,W 0 m σ H)/\∀ i m σ H,W i m σ H ->
   ((Itt K a).stop i H/\D.nx σ H)\/((Itt K a).go i H/\∃ N:St->Hp->Prop,(∀ σ' H',N σ' H'->∃ m',m'<m/\W (i+1) m' σ' H')/\∀ x H',(Itt K a).yld i H x H'->g x σ H' λσ2 H2=>tb { D with nx:=N,ct:=N,bk:=D.nx } σ2 H2))):=by
 cases k with
 | false=>exact .inl ⟨⟨xs,hl 0 σ H (Yl _) h0⟩,Ze4 (K:=K) (a:=a) (xs:=xs) Pv h0 hl hs hd⟩
 | true=>exact .inr ⟨⟨xs,hl 0 σ H (Yl _) h0⟩,ZX8 (K:=K) (a:=a) (xs:=xs) Pv h0 hl hs hd⟩
def PairV(H:Hp)(v:V)(p:Int × Int):Prop:=∃ t,v=.ref t/\H t=some (.tup [.int p.1,.int p.2])
def PairsV(H:Hp)(xs:List V)(ps:List (Int × Int)):Prop:=xs.length=ps.length/\∀(i:Nat) (p:Int × Int),ps[i]?=some p->∃ v,xs[i]?=some v/\PairV H v p
theorem PairV.same{H H':Hp}{v:V}{p:Int × Int}(s:Same H H')(h:PairV H v p):PairV H' v p:=let ⟨t,e,q⟩:=h;⟨t,e,s _ _ q⟩
theorem PairsV.same{H H':Hp}{xs:List V}{ps:List (Int × Int)}(s:Same H H')(h:PairsV H xs ps):PairsV H' xs ps:=⟨h.1,λi p e=>let ⟨v,e1,q⟩:=h.2 i p e;⟨v,e1,q.same s⟩⟩
theorem PairsV.at{H:Hp}{xs:List V}{ps:List (Int × Int)}(h:PairsV H xs ps){i:Nat}{v:V}(e:xs[i]?=some v):∃ p,ps[i]?=some p/\PairV H v p:=by
 have hi:i<xs.length:=(Yy1.mp e).1;have hp:i<ps.length:=by rw[<- h.1];exact hi
 obtain⟨v',e1,q⟩:=h.2 i ps[i] (Yy0 hp);rw[e]at e1;cases e1;exact⟨_,Yy0 hp,q⟩
theorem PairsV.nil{H:Hp}:PairsV H [] []:=⟨rfl,λi p e=>by simp at e⟩
theorem PairsV.snoc{H:Hp}{xs:List V}{ps:List (Int × Int)}{v:V}{p:Int × Int}(h:PairsV H xs ps)(q:PairV H v p):PairsV H (xs++[v]) (ps++[p]):=by
 refine⟨by rw[Yy4,Yy4,h.1];rfl,λi p' e=>?_⟩;by_cases hi:i<ps.length
 ·rw[Yp hi]at e;rw[Yp (by rw[h.1];exact hi)];exact h.2 i p' e
 ·have hl:i=ps.length:=by
   have:=(Yy1.mp e).1
   rw[Yy4,Yj]at this;lia
  subst hl;rw[Yq (Yy8 _),Yy14]at e;rw[Yq (by rw[h.1];exact Yy8 _),h.1,Yy14];have e':p=p':=Yh e
  subst e';exact⟨v,rfl,q⟩
theorem PairsV.app{H:Hp}{xs ys:List V}{ps qs:List (Int × Int)}(h:PairsV H xs ps)(h2:PairsV H ys qs):PairsV H (xs++ys) (ps++qs):=by
 refine⟨by rw[Yy4,Yy4,h.1,h2.1],λi p e=>?_⟩;by_cases hi:i<ps.length
 ·rw[Yp hi]at e;rw[Yp (by rw[h.1];exact hi)];exact h.2 i p e
 ·rw[Yq (by lia)]at e;rw[Yq (by rw[h.1];omega),h.1];exact h2.2 _ p e
theorem ZE13:¬ (("places":Str)="ties"):=by decide +kernel
def wf (n:Int) (tl:Addr):List (Str × V):=putF "ties" (.ref tl) (putF "places" (.int n) [])
theorem Zk1 (n:Int) (tl:Addr):(wf n tl).lookup ("places":Str)=some (.int n):=by unfold wf;rw[Zg1,if_neg ZE13,Zg1,if_pos rfl]
theorem Zz31 (n:Int) (tl:Addr):(wf n tl).lookup ("ties":Str)=some (.ref tl):=by unfold wf;rw[Zg1,if_pos rfl]
def WebAt(C:Addr)(H:Hp)(w:Addr)(n:Int)(ps:List (Int × Int)):Prop:=∃ dx tl xs,H w=some (.ins C dx (wf n tl))/\H tl=some (.lst xs)/\PairsV H xs ps
theorem WebAt.same{C:Addr}{H H':Hp}{w:Addr}{n:Int}{ps:List (Int × Int)}(s:Same H H')(h:WebAt C H w n ps):WebAt C H' w n ps:=let ⟨dx,tl,xs,a,b,c⟩:=h;⟨dx,tl,xs,s _ _ a,s _ _ b,c.same s⟩
def Zv(n:Int)(ps:List (Int × Int)):Prop:=1<=n/\n<=14/\ps.length<=30/\∀ p∈ps,0<=p.1/\p.1<n/\0<=p.2/\p.2<n
def FX(K:PySem.W.Frag)(mg:Str->Option Value)(x qual:Str)(st:Stmt):Prop:=∃(f:Addr) (fd:FuncData),mg x=some (.ref f)/\Fun K x qual st f fd
theorem fx_mk{K:PySem.W.Frag}{h:Heap}{mg:Str->Option Value}{x:Str}{st:Stmt}{f:Addr}{oc:Value}{od an:Option Addr}{osl:Array (Option Value)}{kV doc pm cdv ct:Value}(X:K.In h)(G:h.Ns mainGlobals mg)
  (a:PySem.W.nsIn K mainGlobals x=some (some (.ref f))) (l:K.lookup f=some ⟨oc,od,.func (PySem.W.fnOf x x (Yz2 st) (ZI1 st) (Zz7 st) .none kV doc pm an cdv ct),osl⟩) (c:PySem.W.codeIn K cdv x=true) (k:PySem.W.keepIn K (.ref f)=true):FX K mg x x st :=
 ⟨f,_,Y2v X G a,Zz910 l c k⟩
def CXF (K:PySem.W.Frag) (mg:Str->Option Value) (x qual:Str) (st:Stmt) (fs:List Str):Prop:=∃(C f:Addr) (fd:FuncData),mg x=some (.ref C)/\Fun K "__init__" qual st f fd/\Cls K C/\Mk K C f/\∀ a∈fs,NoAttr K C a
theorem cx_mk{K:PySem.W.Frag}{h:Heap}{mg:Str->Option Value}{x qual:Str}{fs:List Str}{st:Stmt}{C f:Addr}{oc:Value}{od an:Option Addr}{osl:Array (Option Value)}{kV doc pm cdv ct:Value}(X:K.In h)(G:h.Ns mainGlobals mg)
  (aC:PySem.W.nsIn K mainGlobals x=some (some (.ref C))) (a:PySem.W.findIn K (.ref C) "__init__"=some (some (.ref f))) (i:PySem.W.isFn K (.ref f)=true)
  (l:K.lookup f=some ⟨oc,od,.func (PySem.W.fnOf "__init__" qual (Yz2 st) (ZI1 st) (Zz7 st) .none kV doc pm an cdv ct),osl⟩) (c:PySem.W.codeIn K cdv qual=true) (k:PySem.W.keepIn K (.ref f)=true)
  (pg:PySem.W.plainGet K C Str.empty=true) (hd:PySem.W.hasDictIn K C=true) (po:PySem.W.plainOver K C=true) (sa:PySem.W.findIn K (.ref C) "__setattr__"=some (some (.builtin "object.__setattr__"))) (mk:PySem.W.makesIn K C=true) (kc:PySem.W.keepIn K (.ref C)=true)
  (na:∀ a∈fs,PySem.W.findIn K (.ref C) a=some none):CXF K mg x qual st fs :=
 ⟨C,f,_,Y2v X G aC,Zz910 l c k,⟨pg,hd,po,sa⟩,⟨mk,a,i,kc⟩,na⟩
theorem const_mk{K:PySem.W.Frag}{h:Heap}{mg:Str->Option Value}{x:Str}{z:Int}{v:Value}(X:K.In h)(G:h.Ns mainGlobals mg)(a:PySem.W.nsIn K mainGlobals x=some (some v))(e:∃ tk,v=.int z tk):∃ tk,mg x=some (.int z tk):=by obtain⟨tk,rfl⟩:=e;exact⟨tk,Y2v X G a⟩
theorem nmY{i:Nat}{x:V}{σ:St}{H:Hp}{A B:St->Hp->Prop}(h:A (σ.set i (some x)) H):Zz810 i x σ H λσ2 H2=>tYes σ2 H2 λb H3=>if b=true then A σ2 H3 else B σ2 H3 :=
 (show if true=true then A (σ.set i (some x)) H else B (σ.set i (some x)) H from iteT h)
theorem nm{i:Nat}{x:V}{σ:St}{H:Hp}{Q:St->Hp->Prop}(h:Q (σ.set i (some x)) H):Zz810 i x σ H Q:=h
section
variable{K:PySem.W.Frag}{a:Addr}{xs:List V}{g:TG}{tt:TT}{te:TE}{o:Nat}{fr:List Nat}{σ:St}{H:Hp}{Q:VK}
abbrev ZJ5(Pv:Nat->List V->Hp->Prop)(g:TG)(tt:TT)(te:TE)(o:Nat)(fr:List Nat)(σ:St)(i:Nat)(x:V)(ys:List V)(H:Hp):Prop :=
 ∀ S:Nat->List V->Hp->Prop,(∀ ys H,Pv (i+1) ys H->S (i+1) ys H)->g x (σC o fr σ) H λσ2 H2=>tt σ2 H2 λb H3=>if b=true then te σ2 H3 λy H4=>S (i+1) (ys++[y]) H4 else S (i+1) ys H3
theorem ZH1(Pv:Nat->List V->Hp->Prop)(h0:Pv 0 [] H)(hz:xs.length<sizeLine)(hl:∀ i ys H,i<=xs.length->Pv i ys H->SqL K H a xs/\ys.length<=i)
  (hs:∀ i x ys H,xs[i]?=some x->Pv i ys H->ZJ5 Pv g tt te o fr σ i x ys H) (hd:∀ ys H,Pv xs.length ys H->∀ p,H p=none->Q (.ref p) (upd H p (.lst ys))):LcR (Itl K a) g tt te o fr σ H Q:=by
 refine⟨λi m ys H=>m=xs.length - i/\i<=xs.length/\Pv i ys H,⟨xs.length,by simp,Yl _,h0⟩,?_⟩;rintro i m ys H ⟨rfl,hi,p⟩;obtain⟨q,hy⟩:=hl i ys H hi p;by_cases hlt:i<xs.length
 ·refine .inr ⟨⟨xs,xs[i],q,by simp[hlt]⟩,by lia,λx H' ⟨e,y⟩=>?_⟩;subst e;have hx:=y xs q
  exact hs i x ys _ hx p (λj ys H=>∃ m',m'<xs.length - i/\m'=xs.length - j/\j<=xs.length/\Pv j ys H) λys H p'=>⟨xs.length - (i+1),by grind,rfl,hlt,p'⟩
 ·have e:i=xs.length:=by lia
  subst e;exact .inl ⟨⟨xs,q,Yy8 _⟩,by lia,hd ys H p⟩
theorem ZW9(Pv:Nat->List V->Hp->Prop)(h0:Pv 0 [] H)(hz:xs.length<sizeLine)(hl:∀ i ys H,i<=xs.length->Pv i ys H->SqT K H a xs/\ys.length<=i)
  (hs:∀ i x ys H,xs[i]?=some x->Pv i ys H->ZJ5 Pv g tt te o fr σ i x ys H) (hd:∀ ys H,Pv xs.length ys H->∀ p,H p=none->Q (.ref p) (upd H p (.lst ys))):LcR (Itt K a) g tt te o fr σ H Q:=by
 refine⟨λi m ys H=>m=xs.length - i/\i<=xs.length/\Pv i ys H,⟨xs.length,by simp,Yl _,h0⟩,?_⟩;rintro i m ys H ⟨rfl,hi,p⟩;obtain⟨q,hy⟩:=hl i ys H hi p;by_cases hlt:i<xs.length
 ·refine .inr ⟨⟨xs,xs[i],q,by simp[hlt]⟩,by omega,λx H' ⟨e,y⟩=>?_⟩;subst e;have hx:=y xs q
  exact hs i x ys _ hx p (λj ys H=>∃ m',m'<xs.length - i/\m'=xs.length - j/\j<=xs.length/\Pv j ys H) λys H p'=>⟨xs.length - (i+1),by omega,rfl,hlt,p'⟩
 ·have e:i=xs.length:=by omega
  subst e;exact .inl ⟨⟨xs,q,Yy8 _⟩,by omega,hd ys H p⟩
theorem ZW7{k:Bool}(Pv:Nat->List V->Hp->Prop)(h0:Pv 0 [] H)(hz:xs.length<sizeLine)(hl:∀ i ys H,i<=xs.length->Pv i ys H->SqK k K H a xs/\ys.length<=i)
  (hs:∀ i x ys H,xs[i]?=some x->Pv i ys H->ZJ5 Pv g tt te o fr σ i x ys H) (hd:∀ ys H,Pv xs.length ys H->∀ p,H p=none->Q (.ref p) (upd H p (.lst ys))) :
  ((∃ xs,SqL K H a xs)/\LcR (Itl K a) g tt te o fr σ H Q)\/((∃ xs,SqT K H a xs)/\LcR (Itt K a) g tt te o fr σ H Q):=by
 cases k with
 | false=>exact .inl ⟨⟨xs,(hl 0 [] H (Yl _) h0).1⟩,ZH1 Pv h0 hz hl hs hd⟩
 | true=>exact .inr ⟨⟨xs,(hl 0 [] H (Yl _) h0).1⟩,ZW9 Pv h0 hz hl hs hd⟩
theorem Zz83{lo:Int}{n:Nat}(Pv:Nat->List V->Hp->Prop)(h0:Pv 0 [] H)(hz:n<sizeLine)(hl:∀ i ys H,i<=n->Pv i ys H->ys.length<=i)
  (hs:∀ i ys H,i<n->Pv i ys H->ZJ5 Pv g tt te o fr σ i (.int (lo+i)) ys H) (hd:∀ ys H,Pv n ys H->∀ p,H p=none->Q (.ref p) (upd H p (.lst ys))):LcR (Itr lo n) g tt te o fr σ H Q:=by
 refine⟨λi m ys H=>m=n - i/\i<=n/\Pv i ys H,⟨n,by simp,Yl _,h0⟩,?_⟩;rintro i m ys H ⟨rfl,hi,p⟩;have hy:=hl i ys H hi p
 by_cases hlt:i<n
 ·refine .inr ⟨hlt,by lia,λx H' ⟨e,y⟩=>?_⟩;subst e;subst y;exact hs i ys _ hlt p (λj ys H=>∃ m',m'<n - i/\m'=n - j/\j<=n/\Pv j ys H) λys H p'=>⟨n - (i+1),by grind,rfl,hlt,p'⟩
 ·have e:i=n:=by lia
  subst e;exact .inl ⟨Yy8 _,by lia,hd ys H p⟩
end
theorem ZC1{α:Type}{l:List α}(h:l.Nodup){i j:Nat}{x:α}(a:l[i]?=some x)(b:l[j]?=some x):i=j:=by obtain⟨h1,e1⟩:=Yy1.mp a;obtain⟨h2,e2⟩:=Yy1.mp b;exact(List.getElem_inj h).mp (e1.trans e2.symm)
theorem ZO{α:Type}{l:List α}{i:Nat}{x d:α}(h:l[i]?=some x):l.getD i d=x:=by rw[Yy6,h];rfl
theorem ZG8{α:Type}{l:List α}{x:α}(h:l.Nodup)(hx:x∉l):(l++[x]).Nodup:=by rw[YQ];refine⟨h,by simp,λa ha b hb=>?_⟩;rw[Yy2]at hb;subst hb;rintro rfl;exact hx ha
theorem Zd3{K:PySem.W.Frag}{a:Addr}{xs:List V}{g:TG}{tb:TS}{D:Ends}{σ:St}{H:Hp}(Pv:Nat->St->Hp->Prop)(h0:Pv 0 σ H)(hl:∀ i σ H,i<=xs.length->Pv i σ H->SqL K H a xs)
  (hs:∀(i:Nat) x σ H (p:Addr),H p=none->xs[i]?=some x->Pv i σ H->g (.ref p) σ (upd H p (.tup [.int i,x])) λσ2 H2=>tb { D with nx:=Pv (i+1),ct:=Pv (i+1),bk:=D.nx } σ2 H2) (hd:∀ σ H,Pv xs.length σ H->D.nx σ H) :
  ∃ W:Nat->Nat->St->Hp->Prop,(∃ m,W 0 m σ H)/\∀ i m σ H,W i m σ H ->
   ((Ite K a).stop i H/\D.nx σ H)\/((Ite K a).go i H/\∃ N:St->Hp->Prop,(∀ σ' H',N σ' H'->∃ m',m'<m/\W (i+1) m' σ' H')/\∀ x H',(Ite K a).yld i H x H'->g x σ H' λσ2 H2=>tb { D with nx:=N,ct:=N,bk:=D.nx } σ2 H2):=by
 refine⟨λi m σ H=>m=xs.length - i/\i<=xs.length/\Pv i σ H,⟨xs.length,by simp,Yl _,h0⟩,?_⟩;rintro i m σ H ⟨rfl,hi,p⟩;have q:=hl i σ H hi p
 by_cases hlt:i<xs.length
 ·refine .inr ⟨⟨xs,xs[i],q,by simp[hlt]⟩,Pv (i+1),λσ' H' p'=>⟨xs.length - (i+1),by omega,rfl,hlt,p'⟩,λx H' ⟨T,y,hT,ex,eH,hy⟩=>?_⟩;subst ex eH;exact hs i y σ H T hT (hy xs q) p
 ·have e:i=xs.length:=by lia
  subst e;exact .inl ⟨⟨xs,q,Yy8 _⟩,hd σ H p⟩
end My
namespace L2
open PySem PySem.Spec PyProof.Rows
section
variable{X:Cx}{a o e:Expr}{es:List Expr}{ta to:TE}{t:TA}{pos:Pos}
theorem Ze(K:PySem.W.Frag)(h:X.K=K:=by rfl):IxR X (rIxL K):=h ▸ ZM11
theorem ZN(K:PySem.W.Frag)(h:X.K=K:=by rfl):IxR X (rIxT K):=h ▸ Zz313
theorem Zw1(K:PySem.W.Frag)(h:X.K=K:=by rfl):SlR X (rSlL K):=h ▸ Zz511
theorem Zz43(K:PySem.W.Frag)(h:X.K=K:=by rfl):OpR X (compareOp .In) (λx y H Q=>∃ p xs,y=.ref p/\(SqL K H p xs\/SqT K H p xs)/\ZY3 x=true/\xs.all ZY3=true/\Q (.bl (inV x xs)) H):=h ▸ ZJ7
theorem ZB1(K:PySem.W.Frag)(h:X.K=K:=by rfl):OpR X (compareOp .NotIn) (λx y H Q=>∃ p xs,y=.ref p/\(SqL K H p xs\/SqT K H p xs)/\ZY3 x=true/\xs.all ZY3=true/\Q (.bl (!inV x xs)) H):=h ▸ Zz94
theorem Zo6(K:PySem.W.Frag)(hu:X.A.units+8<cLine)(h:X.K=K:=by rfl):OpR X (compareOp .Eq) (rEqD K false):=h ▸ ZT12 hu
theorem ZF8(K:PySem.W.Frag)(hu:X.A.units+8<cLine)(h:X.K=K:=by rfl):OpR X (compareOp .NotEq) (rEqD K true):=h ▸ ZS12 hu
theorem ZK9(K:PySem.W.Frag)(h:X.K=K:=by rfl):OpR X (binaryOp .Add) (Zi13 K):=h ▸ Yz11
theorem Zk(K:PySem.W.Frag){f:Str}(he:PE X e ta)(hb:attributeBase e f X.env (eval e X.env)=eval e X.env)(h:X.K=K:=by rfl):PE X (.Attribute e f pos) (tFld K ta f):=h ▸ ZQ12 he hb
theorem Zo (K:PySem.W.Frag) (h:X.K=K:=by rfl):ZX3 X (.builtin "len") (λxs H Q=>∃ p ys,xs=[.ref p]/\(SqL K H p ys\/SqT K H p ys)/\Q (.int ys.length) H):=h ▸ Zp4
theorem Zi1 (K:PySem.W.Frag) (h:X.K=K:=by rfl):ZX3 X (.type "list") (λxs H Q=>∃ p ys,xs=[.ref p]/\(SqL K H p ys\/SqT K H p ys)/\∀ l,H l=none->Q (.ref l) (upd H l (.lst ys))):=h ▸ Zo4
theorem ZA (K:PySem.W.Frag) (h:X.K=K:=by rfl):ZX3 X (.type "tuple") (λxs H Q=>∃ p ys,xs=[.ref p]/\((SqL K H p ys/\∀ l,H l=none->Q (.ref l) (upd H l (.tup ys)))\/(SqT K H p ys/\Q (.ref p) H))):=h ▸ ZS3
theorem ZZ(K:PySem.W.Frag){tg:Expr}{l:Expr}{tl:TE}(hl:PE X l tl)(h:X.K=K:=by rfl):PI X tg l (Zl13 K tl):=h ▸ Zo11 hl
theorem Zi6(K:PySem.W.Frag){tg:Expr}{l:Expr}{tl:TE}(hl:PE X l tl)(h:X.K=K:=by rfl):PI X tg l (iTup K tl):=h ▸ ZK12 hl
theorem Zz32(K:PySem.W.Frag){tg:Expr}{l:Expr}{tl:TE}(hl:PE X l tl)(h:X.K=K:=by rfl):PI X tg l (My.iSeq K tl):=h ▸ My.pi_seq hl
theorem Zo1 (K:PySem.W.Frag) {elts:List Expr} {x1:Nat} {tpos:Pos} {a:Expr} {ta:TA} {p pos:Pos} (hg:Gl X "enumerate") (hm:X.mg "enumerate"=none) (ha:PA X [a] ta) (hs:starEach [a] X.env=[(false,eval a X.env)]:=by rfl) (h:X.K=K:=by rfl) :
  PI X (.Tuple elts x1 tpos) (.Call (.Name "enumerate" p) [a] [] pos) (Zm13 K ta):=h ▸ Zp11 hg hm ha hs
theorem Zu1(K:PySem.W.Frag){es:List Expr}{k:Nat}{t:TGs}{n:Nat}(hc:X.calm=true)(ht:PGs X es t)
  (hn:(assignEach es X.env).length=n:=by rfl) (hst:(assignEach es X.env).findIdx? (·.1)=none:=by rfl) (h:X.K=K:=by rfl):PG X (.Tuple es k pos) (gTup K n t):=h ▸ ZL12 hc ht hn hst
theorem Zz52 (K:PySem.W.Frag) {name:Str} {apos cpos:Pos} {T id:String} {r:V->List V->Hp->VK->Prop} (pa:PlainAttrs T) (slot:Slot T name id) (hty:typeOf (.builtin id)=pure (.type "method_descriptor")) (hm:MtR X id r) (ho:PE X o to) (ha:PA X (e :: es) t)
  (hbase:attributeBase o name X.env (eval o X.env)=eval o X.env:=by rfl)
  (hfew:((backTo cpos (starEach (e :: es) X.env)).all (λx=>!x.1) && (backToKw cpos (keywordEach [] X.env)).all (λx=>x.1.isSome)
   && decide ((e :: es).length+([]:List Keyword).length+(if ([]:List Keyword).isEmpty then 0 else 1)<30))=true:=by rfl)
  (hline:(apos.endLine == cpos.line)=true:=by rfl) (hs:starEach (e :: es) X.env=(false,eval e X.env) :: starEach es X.env:=by rfl) (hplain:(backTo cpos (starEach es X.env)).any (·.1)=false:=by rfl) (h:X.K=K:=by rfl) :
  PE X (.Call (.Attribute o name apos) (e :: es) [] cpos) (tBM K T r to t):=h ▸ ZF13 pa slot hty hm ho ha hbase hfew hline hs hplain
theorem Zr11 (K:PySem.W.Frag) {name:Str} {apos cpos:Pos} {T id:String} {r:V->List V->Hp->VK->Prop} (pa:PlainAttrs T) (slot:Slot T name id) (hty:typeOf (.builtin id)=pure (.type "method_descriptor")) (hm:MtR X id r) (ho:PE X o to)
  (hbase:attributeBase o name X.env (eval o X.env)=eval o X.env:=by rfl) (hline:(apos.endLine == cpos.line)=true:=by rfl) (h:X.K=K:=by rfl):PE X (.Call (.Attribute o name apos) [] [] cpos) (tBM0 K T r to):=h ▸ ZR12 pa slot hty hm ho hbase hline
end
end L2
namespace My
abbrev mk(m:List Int)(i:Nat):Int:=m.getD i 0
def pm(m:List Int)(a b:Nat):List Int :=
 if min (mk m a) (mk m b)<max (mk m a) (mk m b) then m.map (λk=>if k=max (mk m a) (mk m b) then min (mk m a) (mk m b) else k) else m
def lm(m:List Int)(a b:Nat):List Int :=
 if mk m a≠mk m b then m.map (λk=>if k=mk m b then mk m a else k) else m
def SameP(m l:List Int):Prop:=m.length=l.length/\∀ i j,i<m.length->j<m.length->(mk m i=mk m j↔mk l i=mk l j)
theorem ZP7(m:List Int)(f:Int->Int){i:Nat}(h:i<m.length):mk (m.map f) i=f (mk m i):=by simp[mk,Yy6,Yu,Yy0 h]
theorem ZR1(m:List Int)(a b:Nat):(pm m a b).length=m.length:=by unfold pm;split <;> simp
theorem Zz92(m:List Int)(a b:Nat):(lm m a b).length=m.length:=by unfold lm;split <;> simp
def Mrg(m:List Int)(a b i j:Nat):Prop:=mk m i=mk m j\/((mk m i=mk m a\/mk m i=mk m b)/\(mk m j=mk m a\/mk m j=mk m b))
theorem ZE9{x y p q:Int}:((if x=q then p else x)=(if y=q then p else y))↔(x=y\/((x=p\/x=q)/\(y=p\/y=q))):=by grind
theorem ZA8{x y p:Int}:x=y↔(x=y\/((x=p\/x=p)/\(y=p\/y=p))):=⟨.inl,λh=>h.elim id λh=>(h.1.elim id id).trans (h.2.elim id id).symm⟩
theorem ZJ12{m:List Int}{a b i j:Nat}(hi:i<m.length)(hj:j<m.length):mk (pm m a b) i=mk (pm m a b) j↔Mrg m a b i j:=by
 unfold pm Mrg;split
 ·rename_i h;rw[ZP7 _ _ hi,ZP7 _ _ hj];by_cases hpq:mk m a<mk m b
  ·rw[Y2d (Y1k hpq),Yy27 (Y1k hpq)];exact ZE9
  ·rw[Y2O (Y2N.mp hpq),Y2W (Y2N.mp hpq),Or.comm (a:=mk m i=mk m a),Or.comm (a:=mk m j=mk m a)];exact ZE9
 ·rename_i h;have hh:=Y2N.mp h
  rw[show mk m a=mk m b from Int.le_antisymm (Y1X (Int.le_max_left _ _) (Y1X hh (Int.min_le_right _ _))) (Y1X (Int.le_max_right _ _) (Y1X hh (Int.min_le_left _ _)))];exact ZA8
theorem ZE6{m:List Int}{a b i j:Nat}(hi:i<m.length)(hj:j<m.length):mk (lm m a b) i=mk (lm m a b) j↔Mrg m a b i j:=by
 unfold lm Mrg;split
 ·rename_i h;rw[ZP7 _ _ hi,ZP7 _ _ hj];exact ZE9
 ·rename_i h;rw[show mk m a=mk m b from Classical.not_not.mp h];exact ZA8
theorem SameP.step{m l:List Int}(s:SameP m l){a b:Nat}(ha:a<m.length)(hb:b<m.length):SameP (pm m a b) (lm l a b):=by obtain⟨hl,h⟩:=s;refine⟨by rw[ZR1,Zz92,hl],λi j hi hj=>?_⟩;rw[ZR1]at hi hj;rw[ZJ12 hi hj,ZE6 (by omega) (by omega)];unfold Mrg;rw[h i j hi hj,h i a hi ha,h i b hi hb,h j a hj ha,h j b hj hb]
def pms(n:Nat)(es:List (Nat × Nat)):List Int:=es.foldl (λm e=>pm m e.1 e.2) ((List.range n).map λ(i:Nat)=>(i:Int))
def lms(n:Nat)(es:List (Nat × Nat)):List Int:=es.foldl (λm e=>lm m e.1 e.2) ((List.range n).map λ(i:Nat)=>(i:Int))
theorem Zw(n:Nat)(es:List (Nat × Nat)):(pms n es).length=n:=by
 have:∀(es:List (Nat × Nat)) (m:List Int),(es.foldl (λm e=>pm m e.1 e.2) m).length=m.length:=by
  intro es
  induction es with
  | nil=>intro m;rfl
  | cons e es ih=>intro m;rw[Y2b,ih,ZR1]
 unfold pms;rw[this];simp
theorem ZD(n:Nat)(es:List (Nat × Nat)):(lms n es).length=n:=by
 have:∀(es:List (Nat × Nat)) (m:List Int),(es.foldl (λm e=>lm m e.1 e.2) m).length=m.length:=by
  intro es
  induction es with
  | nil=>intro m;rfl
  | cons e es ih=>intro m;rw[Y2b,ih,Zz92]
 unfold lms;rw[this];simp
theorem ZC9(n:Nat)(es:List (Nat × Nat))(e:Nat × Nat):pms n (es++[e])=pm (pms n es) e.1 e.2:=by unfold pms;rw[Y1Y];rfl
theorem Zq1(n:Nat)(es:List (Nat × Nat))(e:Nat × Nat):lms n (es++[e])=lm (lms n es) e.1 e.2:=by unfold lms;rw[Y1Y];rfl
theorem ZZ2{n:Nat}:∀ {es:List (Nat × Nat)},(∀ e∈es,e.1<n/\e.2<n)->SameP (pms n es) (lms n es):=by
 intro es;have key:∀(es:List (Nat × Nat)) (m l:List Int),SameP m l->m.length=n->(∀ e∈es,e.1<n/\e.2<n)->SameP (es.foldl (λm e=>pm m e.1 e.2) m) (es.foldl (λm e=>lm m e.1 e.2) l):=by
  intro es
  induction es with
  | nil=>intro m l s _ _;exact s
  | cons e es ih =>
   intro m l s hm he;have h1:=he e Ye
   exact ih _ _ (s.step (by omega) (by omega)) (by rw[ZR1];exact hm) λx hx=>he x (Yg _ hx)
 exact key es _ _ ⟨rfl,λi j _ _=>Iff.rfl⟩ (by simp)
def Zb4(g:List (Int × List Int))(place k:Int):List (Int × List Int) :=
 if k∈g.map (·.1) then g.map (λkv=>if kv.1=k then (kv.1,kv.2++[place]) else kv) else g++[(k,[place])]
def grpA(M:List Int):Nat->List (Int × List Int)
 | 0=>[]
 | i+1=>Zb4 (grpA M i) (i:Int) (mk M i)
def grp(M:List Int):List (Int × List Int):=grpA M M.length
theorem ZX1(g:List (Int × List Int))(p k:Int):(Zb4 g p k).map (·.1)=if k∈g.map (·.1) then g.map (·.1) else g.map (·.1)++[k]:=by
 unfold Zb4;split
 ·rw[Y1g];refine YR λkv _=>?_;show(if kv.1=k then (kv.1,kv.2++[p]) else kv).1=kv.1
  split <;> rfl
 ·simp
theorem Yz5{g:List (Int × List Int)}{p k:Int}(h:(g.map (·.1)).Nodup):((Zb4 g p k).map (·.1)).Nodup:=by
 rw[ZX1];split
 ·exact h
 ·rename_i hk;rw[YQ];refine⟨h,by simp,λa ha b hb=>?_⟩;rw[Yy2]at hb;subst hb;rintro rfl;exact hk ha
theorem Zw2(M:List Int):∀ i,((grpA M i).map (·.1)).Nodup
 | 0=>by simp[grpA]
 | i+1=>Yz5 (Zw2 M i)
theorem grpA_mem(M:List Int):∀ i kv,kv∈grpA M i->∀ z:Int,z∈kv.2↔(0<=z/\z<(i:Int)/\mk M z.toNat=kv.1)
 | 0,kv,h,z=>by simp[grpA]at h
 | i+1,kv,h,z=>by
  unfold grpA Zb4 at h;split at h
  ·rename_i hk;obtain⟨kv0,h0,e⟩:=YC.mp h;have ih:=grpA_mem M i kv0 h0 z
   by_cases hc:kv0.1=mk M i
   ·rw[if_pos hc]at e;subst e;rw[Yy7,ih,Yy2];constructor
    ·rintro(⟨a,b,c⟩ | rfl)
     ·exact⟨a,by lia,c⟩
     ·exact⟨by lia,by lia,by simpa using hc.symm⟩
    ·rintro⟨a,b,c⟩;by_cases hz:z<(i:Int)
     ·exact .inl ⟨a,hz,c⟩
     ·exact .inr (by lia)
   ·rw[if_neg hc]at e;subst e;rw[ih];constructor
    ·rintro⟨a,b,c⟩;exact⟨a,by omega,c⟩
    ·rintro⟨a,b,c⟩;refine⟨a,?_,c⟩;by_cases hz:z<(i:Int)
     ·exact hz
     ·have e:z.toNat=i:=by grind
      rw[e]at c;exact absurd c.symm hc
  ·rename_i hk;rcases Yy7.mp h with h0 | h0
   ·have ih:=grpA_mem M i kv h0 z;rw[ih];constructor
    ·rintro⟨a,b,c⟩;exact⟨a,by lia,c⟩
    ·rintro⟨a,b,c⟩;refine⟨a,?_,c⟩;by_cases hz:z<(i:Int)
     ·exact hz
     ·have e:z.toNat=i:=by grind
      rw[e]at c;exact absurd (YC.mpr ⟨kv,h0,c.symm⟩) hk
   ·rw[Yy2]at h0;subst h0;simp only [Yy2];constructor
    ·rintro rfl;exact⟨by lia,by lia,by simp⟩
    ·rintro⟨a,b,c⟩;by_cases hz:z<(i:Int)
     ·exfalso;have key:=grpA_key M i z.toNat (by lia)
      rw[c]at key;exact hk key
     ·lia
where
 grpA_key (M:List Int):∀ i j,j<i->mk M j∈(grpA M i).map (·.1)
  | 0,j,h=>absurd h (YW j)
  | i+1,j,h=>by
   show mk M j∈(Zb4 (grpA M i) (i:Int) (mk M i)).map (·.1);rw[ZX1];by_cases hj:j<i
   ·have:=grpA_key M i j hj
    split
    ·exact this
    ·exact Yc _ this
   ·have e:j=i:=by lia
    subst e;split
    ·assumption
    ·simp
theorem grpA_key{M:List Int}{i j:Nat}(h:j<i):mk M j∈(grpA M i).map (·.1):=grpA_mem.grpA_key M i j h
theorem ZE1(M:List Int):∀ i k,k∈(grpA M i).map (·.1)->∃ j,j<i/\mk M j=k
 | 0,k,h=>by simp[grpA]at h
 | i+1,k,h=>by
  have h:k∈(Zb4 (grpA M i) (i:Int) (mk M i)).map (·.1):=h;rw[ZX1]at h;have old:k∈(grpA M i).map (·.1)->∃ j,j<i+1/\mk M j=k:=λq=>by obtain⟨j,hj,e⟩:=ZE1 M i k q;exact⟨j,by lia,e⟩
  split at h
  ·exact old h
  ·rcases Yy7.mp h with q | q
   ·exact old q
   ·rw[Yy2]at q;exact⟨i,by lia,q.symm⟩
theorem ZS8{M:List Int}(hM:1<=M.length):(grp M).length=1↔∀ i j,i<M.length->j<M.length->mk M i=mk M j:=by
 unfold grp;constructor
 ·intro h i j hi hj;obtain⟨kv,e⟩:=List.length_eq_one_iff.mp h;have h1:=grpA_key (M:=M) hi
  have h2:=grpA_key (M:=M) hj;rw[e]at h1 h2;rw[List.map_singleton,Yy2]at h1 h2;rw[h1,h2]
 ·intro h;have nd:=Zw2 M M.length
  have h0:=grpA_key (M:=M) (i:=M.length) (j:=0) (by lia);generalize hg:(grpA M M.length)=g at *
  match g,hg with
  | [],_=>simp at h0
  | [kv],_=>rfl
  | a :: b :: r,hg =>
   exfalso;obtain⟨i,hi,e1⟩:=ZE1 M M.length a.1 (by rw[hg];simp)
   obtain⟨j,hj,e2⟩:=ZE1 M M.length b.1 (by rw[hg];simp);have e3:=h i j hi hj
   have:a.1=b.1:=by rw[<- e1,<- e2,e3]
   simp[this]at nd
theorem SameP.one{m l:List Int}(s:SameP m l):(∀ i j,i<m.length->j<m.length->mk m i=mk m j)↔(∀ i j,i<l.length->j<l.length->mk l i=mk l j):=by
 obtain⟨hl,h⟩:=s;rw[<- hl];constructor
 ·intro q i j hi hj;exact(h i j hi hj).mp (q i j hi hj)
 ·intro q i j hi hj;exact(h i j hi hj).mpr (q i j hi hj)
theorem Zc4{M:List Int}:∀ {i:Nat} {kv:Int × List Int},kv∈grpA M i->kv.2.length<=i
 | 0,kv,h=>by simp[grpA]at h
 | i+1,kv,h=>by
  unfold grpA Zb4 at h;split at h
  ·obtain⟨kv0,h0,e⟩:=YC.mp h;have ih:=Zc4 h0
   by_cases hc:kv0.1=mk M i
   ·rw[if_pos hc]at e;subst e;rw[Yy4,Yj];lia
   ·rw[if_neg hc]at e;subst e;lia
  ·rcases Yy7.mp h with h0 | h0
   ·have ih:=Zc4 h0;omega
   ·rw[Yy2]at h0;subst h0;simp
end My
namespace My
open PySem L2 PyProof.Rows
theorem ZL(z:Int)(l:List Int):inV (.int z) (IL l)=decide (z∈l):=by
 unfold inV;rw[List.any_map];rw[Y0o,Y1c,Yy00];constructor
 ·rintro⟨y,hy,e⟩;have e':y=z:=by simpa [eqV] using e
  rw[<- e'];exact hy
 ·intro h;exact⟨z,h,by simp[eqV]⟩
theorem Zz(l:List Int):(IL l).all ZY3=true:=by rw[List.all_map,Y0i];intro x _;rfl
theorem Zx{a b:Int}:decide (V.int a=V.int b)=decide (a=b):=by
 by_cases h:a=b
 ·subst h;simp
 ·have h':¬ V.int a=V.int b:=λz=>h (V.int.inj z);rw[Yy09 h,Yy09 h']
end My
namespace My
open PySem L2
def IsSet(m:Nat)(ns:List Int):Prop:=∀ i z,ns[i]?=some z->0<=z/\z<(m:Int)/\∀ y,i≠0->ns[i - 1]?=some y->y<z
def Zz6(ps:List (Int × Int))(ns:List Int):List (Nat × Nat):=ns.map λz=>((ps.getD z.toNat (0,0)).1.toNat,(ps.getD z.toNat (0,0)).2.toNat)
theorem ZD5{ps:List (Int × Int)}{ns:List Int}{i:Nat}{z:Int}(h:ns[i]?=some z):Zz6 ps (ns.take (i+1))=Zz6 ps (ns.take i)++[((ps.getD z.toNat (0,0)).1.toNat,(ps.getD z.toNat (0,0)).2.toNat)]:=by unfold Zz6;rw[YU,h];simp
theorem Zy1{m:List Int}{i:Nat}(h:i<m.length):m[i]?=some (mk m i):=by rw[Yy0 h];simp[mk,Yy6,Yy0 h]
theorem ZD7(n:Int):rngI 0 n=(List.range n.toNat).map λ(i:Nat)=>(i:Int):=by unfold rngI;rw[Y2M];refine YR λi _=>?_;lia
def gkv(g:List (Int × List Int))(as:List Addr):List (Key × V):=List.zipWith (λkv a=>((Sum.inl kv.1:Key),V.ref a)) g as
theorem ZR6{g:List (Int × List Int)}{as:List Addr}(h:as.length=g.length):(gkv g as).length=g.length:=by unfold gkv;rw[Y1a];grind
theorem ZV8:∀ {g:List (Int × List Int)} {as:List Addr},as.length=g.length->(gkv g as).map (·.2)=as.map V.ref
 | [],[],_=>rfl
 | [],_ :: _,h=>by simp at h
 | _ :: _,[],h=>by simp at h
 | kv :: g,a :: as,h=>by show V.ref a :: (gkv g as).map (·.2)=V.ref a :: as.map V.ref;rw[ZV8 (Yy13 h)]
theorem ZS6:∀ {g g':List (Int × List Int)} {as:List Addr},g.map (·.1)=g'.map (·.1)->gkv g as=gkv g' as
 | [],[],_,_=>rfl
 | [],_ :: _,_,h=>by simp at h
 | _ :: _,[],_,h=>by simp at h
 | kv :: g,kv' :: g',[],_=>rfl
 | kv :: g,kv' :: g',a :: as,h=>by
  rw[Yy06,Yy06,List.cons.injEq]at h;show((Sum.inl kv.1:Key),V.ref a) :: gkv g as=((Sum.inl kv'.1:Key),V.ref a) :: gkv g' as
  rw[h.1,ZS6 h.2]
theorem ZQ6:∀ {g:List (Int × List Int)} {as:List Addr} {kv:Int × List Int} {a:Addr},as.length=g.length->gkv (g++[kv]) (as++[a])=gkv g as++[((Sum.inl kv.1:Key),V.ref a)]
 | [],[],_,_,_=>rfl
 | [],_ :: _,_,_,h=>by simp at h
 | _ :: _,[],_,_,h=>by simp at h
 | x :: g,y :: as,kv,a,h=>by show _ :: gkv (g++[kv]) (as++[a])=_ :: (gkv g as++_);rw[ZQ6 (Yy13 h)]
theorem ZP6:∀ {g:List (Int × List Int)} {as:List Addr} {k:Int},as.length=g.length ->
  (valV (gkv g as) (Sum.inl k:Key)=none/\k∉g.map (·.1))\/∃(j:Nat) (kv:Int × List Int) (a:Addr),g[j]?=some kv/\as[j]?=some a/\kv.1=k/\valV (gkv g as) (Sum.inl k:Key)=some (.ref a)
 | [],[],k,_=>.inl ⟨rfl,by simp⟩
 | [],_ :: _,_,h=>by simp at h
 | _ :: _,[],_,h=>by simp at h
 | kv :: g,a :: as,k,h=>by
  by_cases e:kv.1=k
  ·refine .inr ⟨0,kv,a,rfl,rfl,e,?_⟩;show valV (((Sum.inl kv.1:Key),V.ref a) :: gkv g as) _=_
   rw[Zz04 (by rw[e])]
  ·have e':¬ ((Sum.inl kv.1:Key)=Sum.inl k):=λz=>e (Sum.inl.inj z);have ev:valV (gkv (kv :: g) (a :: as)) (Sum.inl k:Key)=valV (gkv g as) (Sum.inl k:Key):=Zz14 (p:=((Sum.inl kv.1:Key),V.ref a)) e'
   rcases ZP6 (g:=g) (as:=as) (k:=k) (Yy13 h) with ⟨h1,h2⟩ | ⟨j,kv',a',h1,h2,h3,h4⟩
   ·refine .inl ⟨by rw[ev];exact h1,?_⟩;rw[Yy06,Yf];rintro(z | z)
    ·exact e z.symm
    ·exact h2 z
   ·exact .inr ⟨j+1,kv',a',by simpa using h1,by simpa using h2,h3,by rw[ev];exact h4⟩
structure GrpAt (H0 H:Hp) (g:List (Int × List Int)) (as:List Addr):Prop where
 len:as.length=g.length
 nd:as.Nodup
 at_:∀(i:Nat) (kv:Int × List Int) (a:Addr),g[i]?=some kv->as[i]?=some a->H a=some (.lst (IL kv.2))
 new:∀ a∈as,H0 a=none
theorem GrpAt.same{H0 H H':Hp}{g:List (Int × List Int)}{as:List Addr}(s:Same H H')(h:GrpAt H0 H g as):GrpAt H0 H' g as:=⟨h.len,h.nd,λi kv a e1 e2=>s _ _ (h.at_ i kv a e1 e2),h.new⟩
theorem GrpAt.mem{H0 H:Hp}{g:List (Int × List Int)}{as:List Addr}(h:GrpAt H0 H g as){a:Addr}(ha:a∈as):∃ l,H a=some (.lst l):=by
 obtain⟨i,hi,e⟩:=Y2m ha;have hg:i<g.length:=by rw[<- h.len];exact hi
 exact⟨_,h.at_ i g[i] a (Yy0 hg) (by rw[Yy0 hi,e])⟩
theorem IsSet.all{m:Nat}{ns:List Int}(h:IsSet m ns):∀ z∈ns,0<=z/\z<(m:Int):=λz hz=>by obtain⟨i,hi,e⟩:=Y2m hz;obtain⟨a,b,_⟩:=h i z (by rw[Yy0 hi,e]);exact⟨a,b⟩
theorem IsSet.nil(m:Nat):IsSet m []:=λi z e=>by simp at e
theorem IsSet.up{m:Nat}{ns:List Int}(h:IsSet m ns):IsSet (m+1) ns:=λi z e=>by obtain⟨a,b,c⟩:=h i z e;exact⟨a,by omega,c⟩
theorem IsSet.snoc{m:Nat}{ns:List Int}(h:IsSet m ns):IsSet (m+1) (ns++[(m:Int)]):=λi z e=>by
 by_cases hi:i<ns.length
 ·rw[Yp hi]at e;obtain⟨a,b,c⟩:=h i z e;refine⟨a,by lia,λy h0 ey=>?_⟩;rw[Yp (by omega)]at ey;exact c y h0 ey
 ·have hl:i=ns.length:=by
   have:=(Yy1.mp e).1
   rw[Yy4,Yj]at this;lia
  subst hl;rw[Yq (Yy8 _),Yy14]at e;have e:(m:Int)=z:=Yh e
  subst e;refine⟨by lia,by lia,λy h0 ey=>?_⟩;rw[Yp (by omega)]at ey;exact(h _ y ey).2.1
theorem IsSet.len{m:Nat}:∀ {ns:List Int},IsSet m ns->ns.length<=m:=λ{ns} h=>by
 have key:∀(i:Nat) (z:Int),ns[i]?=some z->(i:Int)<=z:=by
  intro i
  induction i with
  | zero=>intro z e;exact(h 0 z e).1
  | succ i ih =>
   intro z e;have hi:i<ns.length:=by have:=(Yy1.mp e).1;lia
   have e2:ns[i]?=some ns[i]:=Yy0 hi
   have:=ih _ e2
   have:=(h (i+1) z e).2.2 ns[i] (by lia) (by rw[Y2q];exact e2)
   lia
 by_cases h0:ns.length=0
 ·lia
 ·have e:ns[ns.length - 1]?=some (ns[ns.length - 1]'(by lia)):=Yy0 _;have a:=key _ _ e
  have b:=(h _ _ e).2.1;lia
end My
namespace L2
open PySem PySem.Spec PyProof.Rows
section
variable{X:Cx}
def ZG12(K:PySem.W.Frag):V->List V->Hp->VK->Prop:=λx vs H Q=>∃(p:Addr) (ns:List Int) (z:Int) (j:Nat),x=.ref p/\vs=[.int z]/\SqL K H p (ns.map V.int)/\ns[j]?=some z/\(∀ i,i<j->ns[i]?≠some z)/\Q (.int j) H
theorem ZO7 (K:PySem.W.Frag) (h:X.K=K:=by rfl):MtM X "list.index" (ZG12 K):=by
 subst h;intro pins s σ H x vs v us Q I rx rv h;obtain⟨p,ns,z,j,rfl,rfl,hq,hj,hno,q⟩:=h;cases rx;obtain⟨u,rfl,t,rfl⟩:=rv.one;obtain⟨its,r,⟨o,n,e,hc,hd,hdat⟩,hz⟩:=I.list hq;have hl:its.length=ns.length:=by rw[<- r.length,Yb]
 have hjl:j<ns.length:=(Yy1.mp hj).1;have hsz:sizeLine=16777216:=Y0r
 rw[Yb]at hz;obtain⟨oc,od,odat,osl⟩:=o;have hc:oc=.type "list":=hc
 have hdat:odat=.seq its.toArray n:=hdat;subst hc hdat;have at_:∀(i:Nat) (hi:i<its.length),∃ tk,its[i]=.int (ns[i]'(by lia)) tk:=λi hi=>by
  obtain⟨x,ex,rx⟩:=r.at hi;rw[Yu,Yy0 (by omega)]at ex;have ex:V.int (ns[i]'(by omega))=x:=Yh ex
  subst ex;exact rx
 refine Y2l F.slot_list_index ⟨_,e,rfl⟩ F.entry_list_index (F.args_list_index_2 _ _) (SeqAt.list_indexAt p its.toArray n od osl (.int z t) (λy=>eqU (.int z) y) j (by rw[Ya];lia) (by lia) ?_ ?_) ⟨e,λy hy=>?_,?_⟩
 ·obtain⟨tk,e1⟩:=at_ j (by omega);have e2:ns[j]'(by lia)=z:=by rw[Yy0 hjl]at hj;exact Yh hj
  have e3:its.toArray[j]'(by rw[Ya];lia)=.int z tk:=by rw[<- e2];simpa using e1
  rw[e3];simp[eqU,eqV]
 ·intro m hm hmj;have hm':m<its.length:=by rw[Ya]at hm;exact hm
  obtain⟨tk,e1⟩:=at_ m hm';have e3:its.toArray[m]'hm=.int (ns[m]'(by omega)) tk:=by simpa using e1
  rw[e3];have hne:=hno m hmj
  rw[Yy0 (by omega)]at hne;have hne':ns[m]'(by omega)≠z:=λw=>hne (YV some w)
  simp[eqU,eqV,hne']
 ·refine Zz02 (x:=.int z) ⟨t,rfl⟩ rfl r ?_ y (by simpa using hy);rw[List.all_map,Y0i];intro _ _;rfl
 ·exact⟨.int j,H,I.tok _,⟨_,rfl⟩,q⟩
theorem Zq5{prog:Program}{w:World}{A:Around}{its:Array Value}{bs:List Bool}(h:∀(i:Nat) (v:Value),its[i]?=some v->∃ b,bs[i]?=some b/\v=.bool b):TruthOf prog w A (λi v=>its[i]?=some v) (λi=>bs.getD i false):=by
 intro i v s Q E hP hQ;obtain⟨b,eb,rfl⟩:=h i v hP;have hQ:Q (bs.getD i false) s:=hQ
 rw[Yy6,eb]at hQ;exact Y0m hQ
theorem ZC10(bs:List Bool):(List.range bs.length).any (λi=>bs.getD i false)=bs.any id:=by
 rw[Y0o,Y1c,Y1c];constructor
 ·rintro⟨i,hi,e⟩;have hi:=YH.mp hi
  rw[Yy6,Yy0 hi]at e;exact⟨_,Y0M hi,e⟩
 ·rintro⟨b,hb,e⟩;obtain⟨i,hi,ei⟩:=Y2m hb;refine⟨i,YH.mpr hi,?_⟩;rw[Yy6,Yy0 hi,ei];exact e
theorem Zx10{bs:List Bool}{its:List Value}(r:Vals (bs.map V.bl) its):∀(i:Nat) (v:Value),its.toArray[i]?=some v->∃ b,bs[i]?=some b/\v=.bool b:=λi v e=>by
 have e:its[i]?=some v:=by simpa using e
 have hi:i<its.length:=(Yy1.mp e).1;obtain⟨x,ex,rx⟩:=r.at hi;rw[Yu]at ex;cases eb:bs[i]? with
 | none=>rw[eb]at ex;cases ex
 | some b =>
  rw[eb]at ex;have ex:V.bl b=x:=Yh ex
  subst ex;rw[Yy0 hi]at e;have e:its[i]=v:=Yh e
  rw[e]at rx;exact⟨b,rfl,rx⟩
theorem Zi8 (K:PySem.W.Frag) (hc:X.calm=true) (h:X.K=K:=by rfl):ZX3 X (.builtin "any") (λxs H Q=>∃(p:Addr) (bs:List Bool),xs=[.ref p]/\SqL K H p (bs.map V.bl)/\Q (.bl (bs.any id)) H):=by
 subst h;intro pins s σ H xs us Q I r h;obtain⟨p,bs,rfl,hq,q⟩:=h;obtain⟨u,rfl,ru⟩:=ZZ3 r;obtain rfl:u=Value.ref p:=ru;obtain⟨its,rv,pl,hz⟩:=I.list hq;have hl:its.toArray.size=bs.length:=by rw[Ya,<- rv.length,Yb]
 have hne:p≠s.heap.objs.size:=Yr (let ⟨_,_,e,_⟩:=pl;Yn e);refine call_any_walk (Y2a pl.isList ⟨s.heap.objs.size,_,_,_,_,_,_,rfl,Walks.list (A:=X.A.in1) (I.ok.hd hc) s.heap.objs.size p hne its.toArray,⟨⟨_,Ym _ rfl,rfl,rfl⟩,pl.isList.push _⟩,Zq5 (Zx10 rv),λh' tk hk=>?_⟩);rw[hl,ZC10];refine⟨.bl (bs.any id),H,I.kept λb o e=>hk b o ?_ (Yy5 _ e),rfl,q⟩;intro z;rw[Yy2.mp z]at e;exact absurd (Yn e) (Y0q _)
end
end L2
namespace My
open PySem L2
section
variable{K:PySem.W.Frag}{H:Hp}{α:Type}[DecidableEq α]
def Bears(R:V->α->Prop)(xs:List V)(l:List α):Prop:=xs.length=l.length/\∀(i:Nat) (a:α),l[i]?=some a->∃ x,xs[i]?=some x/\R x a
theorem Bears.at{R:V->α->Prop}{xs:List V}{l:List α}(h:Bears R xs l){i:Nat}{x:V}(e:xs[i]?=some x):∃ a,l[i]?=some a/\R x a:=by
 have hi:i<xs.length:=(Yy1.mp e).1;have hl:i<l.length:=by rw[<- h.1];exact hi
 obtain⟨x',e1,q⟩:=h.2 i l[i] (Yy0 hl);rw[e]at e1;cases e1;exact⟨_,Yy0 hl,q⟩
theorem Zz99{l m:List α}(h:l.length=m.length):(List.range l.length).all (λi=>decide (l[i]?=m[i]?))=decide (l=m):=by
 rw[Y0o,Y0i,Yy00];constructor
 ·intro q;refine Yy12 λi=>?_;by_cases hi:i<l.length
  ·exact Yw (q i (YH.mpr hi))
  ·rw[YZ (by lia),YZ (by lia)]
 ·rintro rfl i _;simp
theorem Zd8{R:V->α->Prop}{n:Nat}{p q:Addr}{xs ys:List V}{l m:List α}(hp:SqL K H p xs)(hq:SqL K H q ys)(h1:Bears R xs l)(h2:Bears R ys m)(hR:∀ x y a b,R x a->R y b->EqD K H n x y (decide (a=b))):EqD K H (n+1) (.ref p) (.ref q) (decide (l=m)):=by
 by_cases hl:xs.length=ys.length
 ·have e:=Zz99 (l:=l) (m:=m) (by rw[<- h1.1,<- h2.1,hl]);rw[<- e,<- h1.1];refine EqD.lsts hp hq hl λi x y ex ey=>?_;obtain⟨a,ea,ra⟩:=h1.at ex;obtain⟨b,eb,rb⟩:=h2.at ey;rw[ea,eb,show decide (some a=some b)=decide (a=b) by simp];exact hR x y a b ra rb
 ·have e:decide (l=m)=false:=Yy09 λz=>hl (by rw[h1.1,h2.1,z]);rw[e];exact EqD.lens hp hq hl
theorem Ze10{R:V->α->Prop}{n:Nat}{p q:Addr}{xs ys:List V}{l m:List α}(hp:SqT K H p xs)(hq:SqT K H q ys)(h1:Bears R xs l)(h2:Bears R ys m)(hR:∀ x y a b,R x a->R y b->EqD K H n x y (decide (a=b))):EqD K H (n+1) (.ref p) (.ref q) (decide (l=m)):=by
 have key:=EqD.tups (e:=λi=>decide (l[i]?=m[i]?)) hp hq λi x y ex ey=>by obtain⟨a,ea,ra⟩:=h1.at ex;obtain⟨b,eb,rb⟩:=h2.at ey;rw[ea,eb,show decide (some a=some b)=decide (a=b) by simp];exact hR x y a b ra rb
 by_cases hl:xs.length=ys.length
 ·have e:=Zz99 (l:=l) (m:=m) (by rw[<- h1.1,<- h2.1,hl]);rw[<- hl,Nat.min_self,h1.1,e,show(l.length == l.length)=true by simp,Bool.and_true]at key;exact key
 ·have e:decide (l=m)=false:=Yy09 λz=>hl (by rw[h1.1,h2.1,z]);rw[show(xs.length == ys.length)=false by simpa using hl,Bool.and_false]at key;rw[e];exact key
theorem ZZ1(ns:List Int):Bears (λx (z:Int)=>x=.int z) (IL ns) ns:=⟨Zz4 ns,λi z e=>⟨_,ZR2 e,rfl⟩⟩
theorem ZZ8{n:Nat}{x y:V}{a b:Int}(hx:x=.int a)(hy:y=.int b):EqD K H n x y (decide (a=b)):=by
 subst hx hy;have e:decide (a=b)=eqV (.int a) (.int b):=by show decide (a=b)=(a == b);rw[Bool.beq_eq_decide_eq]
 rw[e];exact EqD.flat rfl rfl
theorem Zh4{p q:Addr}{ns ms:List Int}(hp:SqL K H p (IL ns))(hq:SqL K H q (IL ms)):EqD K H 1 (.ref p) (.ref q) (decide (ns=ms)) :=
 Zd8 hp hq (ZZ1 ns) (ZZ1 ms) λ_ _ _ _=>ZZ8
theorem Ze3{p q:Addr}{ns ms:List Int}(hp:SqT K H p (IL ns))(hq:SqT K H q (IL ms)):EqD K H 1 (.ref p) (.ref q) (decide (ns=ms)) :=
 Ze10 hp hq (ZZ1 ns) (ZZ1 ms) λ_ _ _ _=>ZZ8
def Zt7(H:Hp)(v:V)(l:List Int):Prop:=∃ a,v=.ref a/\H a=some (.lst (IL l))
end
end My
namespace My
def fstB(M:List Int)(p:Nat):Bool:=(List.range p).all λi=>decide (mk M i≠mk M p)
def posA(M:List Int)(k:Int)(i:Nat):List Int:=((List.range i).filter λj=>decide (mk M j=k)).map λ(j:Nat)=>(j:Int)
def fstA(M:List Int)(i:Nat):List Nat:=(List.range i).filter (fstB M)
theorem fstB_iff{M:List Int}{p:Nat}:fstB M p=true↔∀ i,i<p->mk M i≠mk M p:=by
 unfold fstB;rw[Y0i];constructor
 ·intro h i hi;exact Yw (h i (YH.mpr hi))
 ·intro h i hi;exact Yx (h i (YH.mp hi))
theorem Zz13(M:List Int)(k:Int)(i:Nat):posA M k (i+1)=posA M k i++(if mk M i=k then [(i:Int)] else []):=by
 unfold posA;rw[Y1l,Y0b,YL];congr 1;by_cases h:mk M i=k
 ·rw[if_pos h,YO,if_pos (by simpa using h)];rfl
 ·rw[if_neg h,YO,if_neg (by simpa using h)];rfl
theorem ZU4(M:List Int)(i:Nat):fstA M (i+1)=fstA M i++(if fstB M i=true then [i] else []):=by
 unfold fstA;rw[Y1l,Y0b];congr 1;by_cases h:fstB M i=true
 ·rw[if_pos h,YO,if_pos h];rfl
 ·rw[if_neg h,YO,if_neg h];rfl
theorem ZT8(M:List Int):∀ i,grpA M i=(fstA M i).map λp=>(mk M p,posA M (mk M p) i)
 | 0=>rfl
 | i+1=>by
  have ih:=ZT8 M i;show Zb4 (grpA M i) (i:Int) (mk M i)=_
  have hk:(mk M i∈(grpA M i).map (·.1))↔fstB M i≠true:=by
   constructor
   ·intro h q;obtain⟨j,hj,e⟩:=ZE1 M i _ h;exact fstB_iff.mp q j hj e
   ·intro h;by_cases q:∃ j,j<i/\mk M j=mk M i
    ·obtain⟨j,hj,e⟩:=q;rw[<- e];exact grpA_key hj
    ·exact absurd (fstB_iff.mpr λj hj e=>q ⟨j,hj,e⟩) h
  unfold Zb4;by_cases h:mk M i∈(grpA M i).map (·.1)
  ·have hf:=hk.mp h;rw[if_pos h,ZU4,if_neg hf,YG,ih,Y1g];refine YR λp _=>?_;show(if mk M p=mk M i then (mk M p,posA M (mk M p) i++[(i:Int)]) else (mk M p,posA M (mk M p) i))=(mk M p,posA M (mk M p) (i+1))
   rw[Zz13];by_cases e:mk M p=mk M i
   ·rw[if_pos e,if_pos e.symm]
   ·rw[if_neg e,if_neg (λz=>e z.symm),YG]
  ·have hf:fstB M i=true:=by
    cases q:fstB M i with
    | true=>rfl
    | false=>exact absurd (hk.mpr (by rw[q];exact Ys)) h
   rw[if_neg h,ZU4,if_pos hf,YL,ih];congr 1
   ·refine YR λp hp=>?_;have hpi:p<i:=YH.mp (Yk.mp hp).1
    rw[Zz13,if_neg (λz=>fstB_iff.mp hf p hpi z.symm),YG]
   ·show [(mk M i,[(i:Int)])]=[(mk M i,posA M (mk M i) (i+1))];rw[Zz13,if_pos rfl];have e0:posA M (mk M i) i=[]:=by unfold posA;rw[List.filter_eq_nil_iff.mpr λj hj=>by simpa using fstB_iff.mp hf j (YH.mp hj)];rfl
    rw[e0];rfl
end My
namespace My
open PySem L2
theorem Bears.snoc{α:Type}[DecidableEq α]{R:V->α->Prop}{xs:List V}{l:List α}{x:V}{a:α}(h:Bears R xs l)(hx:R x a):Bears R (xs++[x]) (l++[a]):=by
 refine⟨by rw[Yy4,Yy4,h.1];rfl,λi b e=>?_⟩;by_cases hi:i<l.length
 ·rw[Yp hi]at e;rw[Yp (by rw[h.1];exact hi)];exact h.2 i b e
 ·have hl:i=l.length:=by
   have:=(Yy1.mp e).1
   rw[Yy4,Yj]at this;lia
  subst hl;rw[Yq (Yy8 _),Yy14]at e;rw[Yq (by rw[h.1];exact Yy8 _),h.1,Yy14];have e':a=b:=Yh e
  subst e';exact⟨x,rfl,hx⟩
theorem Bears.imp{α:Type}[DecidableEq α]{R R':V->α->Prop}{xs:List V}{l:List α}(h:Bears R xs l)(f:∀ x a,R x a->R' x a):Bears R' xs l:=⟨h.1,λi a e=>let ⟨x,e1,r⟩:=h.2 i a e;⟨x,e1,f x a r⟩⟩
end My
namespace L2
open PySem PySem.Spec PyProof.Rows
structure Fly (h0:Heap) (H:Hp) (e C:Addr) (h:Heap):Prop where
 ex:∃ oe vs T oT ts a0,h.get? e=some oe/\oe.cls=.ref C/\oe.data=.fields vs/\vs[0]?=some a0/\vs[1]?=some (.ref T)/\T≠e/\h.get? T=some oT/\oT.data=.fields ts/\ts[3]?=some .none/\h0.get? T=none/\H T=none
 new:h0.get? e=none
 free:H e=none
section
variable{X:Cx}
abbrev grd(X:Cx)(h:Heap)(ns:List Addr):Heap:=PySem.W.hideAll h (frs X.stack++ns)
end
structure XCls (K:PySem.W.Frag) (C:Addr):Prop where
 ex:PySem.W.excIn K C [.type "ValueError",.type "Exception",.type "BaseException",.type "object"] "ValueError.__new__"=true
 ga:PySem.W.findIn K (.ref C) "__getattribute__"=some (some (.builtin "BaseException.__getattribute__"))
 gh:PySem.W.findIn K (.ref C) "__getattr__"=some none
 cl:PySem.W.findIn K (.ref C) "__class__"=some (some (.builtin "object.__class__"))
 ob:PySem.W.mroIn K C (.type "object")=some true
 bx:PySem.W.mroIn K C (.type "BaseException")=some true
end L2
namespace My
open PySem L2
theorem Zb13{H:Hp}{p1 p2:Addr}{l1 l2:List Int}{Q:VK}(h1:H p1=some (.lst (IL l1)))(h2:H p2=some (.lst (IL l2)))(hl:l1.length+l2.length<=1000000)(k:∀ r,H r=none->Q (.ref r) (upd H r (.lst (IL (l1++l2))))):rCat (.ref p1) (.ref p2) H Q:=by
 refine⟨p1,p2,_,_,rfl,rfl,h1,h2,?_,λr hr=>?_⟩
 ·rw[Zz4,Zz4];exact ZN1 hl
 ·have:=k r hr
  rw[ZW1]at this;exact this
def cutI(ns:List Int)(lo hi:Option Int):List Int:=(ns.drop (HT.sIx ns.length 0 lo)).take (HT.sIx ns.length ns.length hi - HT.sIx ns.length 0 lo)
theorem Zz65(ns:List Int)(lo hi:Option Int):cutV (IL ns) lo hi=IL (cutI ns lo hi):=by unfold cutV cutI;rw[ZQ8,ZS11,Zz4]
end My
namespace L2
open PySem PySem.Spec PyProof.Rows
theorem ZY:∀ {us:List Value} {ns:List Int},IntsAre us ns->Vals (ns.map V.int) us
 | [],[],_=>.nil
 | _ :: _,[],h=>by cases h
 | [],_ :: _,h=>by cases h
 | u :: us,n :: ns,h=>by
  cases h with
  | cons _ _ t=>exact .cons ⟨_,rfl⟩ (ZY t)
theorem Vals.rev:∀ {xs:List V} {us:List Value},Vals xs us->Vals xs.reverse us.reverse
 | _,_,.nil=>.nil
 | _,_,.cons r t=>by rw[Y2z,Y2z];exact(Vals.rev t).append (.cons r .nil)
section
variable{X:Cx}
theorem Zz21 (K:PySem.W.Frag) (hk:X.K=K:=by rfl):ZX3 X (.builtin "sorted") (λxs H Q=>∃(p:Addr) (ns:List Int),xs=[.ref p]/\SqL K H p (ns.map V.int)/\ns.length<64 /\
  ∀ ms:List Int,ms.Perm ns->ms.Pairwise (·<=·)->∀ l,H l=none->Q (.ref l) (upd H l (.lst (ms.map V.int)))):=by
 subst hk;intro pins s σ H xs us Q I r h;obtain⟨p,ns,rfl,hq,hn,q⟩:=h;obtain⟨u,rfl,ru⟩:=ZZ3 r;obtain rfl:u=Value.ref p:=ru;obtain⟨its,rv,pl,hz⟩:=I.list hq;have hi:=ZR rv
 have hl:its.length=ns.length:=by rw[<- rv.length,Yb]
 refine sorted_ints pl.isList hi (by lia) λout ms h1 h2 h3=>?_;obtain⟨e,he⟩:=sortedAll_at s.heap its out;have hml:ms.length=ns.length:=h2.length_eq
 refine⟨.ref (s.heap.objs.size+1),_,I.laid (t':=s.toks) (o:=.lst (ms.map V.int)) (λb o g=>sortedAll_old g) (Y0j _) ⟨?_,out.toList,e,ZY h1,?_⟩,rfl,q ms h2 h3 _ (I.hok.fresh (Y0j _))⟩
 ·rw[Yb,hml]
  have:sizeLine=16777216:=Y0r
  lia
 ·exact he
theorem Zz210:typeLookup (.type "list_reverseiterator") "__length_hint__"=pure (some (.builtin "list_reverseiterator.__length_hint__")):=by rw [Y1C,Y0Q];kernel_rfl
theorem ZK7:typeLookup (.type "list_reverseiterator") "__len__"=pure none:=by rw [Y1C,Y0Q];kernel_rfl
theorem ZS9 {prog:Program} {w:World} {A:Around} {E:Value->Shared->Prop} {s:Shared} {r:Addr} {Q:Bool->Shared->Prop} (hT:s.TypeIs (.ref r) "list_reverseiterator") (h:Q false s):wpAny (model prog w) A (Builtin.List.listLengthHint (.ref r)) Q E s:=by
 unfold Builtin.List.listLengthHint;refine Yy3 (wpAny_specialOf hT ZK7 ?_);show wpAny _ A (specialOf (Value.ref r) (Str.ofString "__length_hint__") >>= _) _ _ _
 refine Yy3 (wpAny_specialOf hT Zz210 ?_);generalize hid:("list_reverseiterator.__length_hint__":String)=id0
 wp_delta
 rw [show splitId id0=some ("list_reverseiterator","__length_hint__") from by subst hid;decide +kernel];subst hid;refine Yy3 (Y2j (T:="list_reverseiterator") (b:=true) hT (by rw [Y2F];kernel_rfl) ?_);exact Yi h
section
variable{prog:Program}{w:World}{A:Around}{E:Value->Shared->Prop}{s:Shared}{it a:Addr}{items:Array Value}
theorem ZC6{R:Result->Shared->Prop}(hh:A.handled=none)(hi:s.heap.IsRevIter it a ((items.size:Int) - 1))(hl:s.heap.IsList a items)(hne:a≠it){S:Addr}(h1:S≠it)(h2:S≠a){res:Value}{c0:Nat}
  (hS:s.heap.get? S=some { cls:=.type "list",data:=.seq #[] c0 }) (hz:items.size<=sizeLine)
  (k:∀ h' tk acc c,(∀ b o,b≠S->b≠it->s.heap.get? b=some o->h'.get? b=some o)->h'.get? S=some { cls:=.type "list",dict:=none,data:=.seq acc c,slots:=#[] }->ItemsOf (λi v=>items[items.size - 1 - i]?=some v) acc items.size->R (.ok (.ret res)) { s with heap:=h',toks:=tk }) :
  wpAny (model prog w) A.in1 (Builtin.List.listExtendWith (.ref S) (.ref it) res)
   (λfin s'=>match fin with | .done f=>R (.ok f) s' | .again c'=>c'.quiet=true/\codeAny (model prog w) A c' R s') (λe s'=>R (.error e) s') s:=by
 have W:=Walks.listRev (prog:=prog) (w:=w) (A:=A.in1) hh it a hne items;have hSf:S∉[it,a]:=by simp only [Yf,Y1F,or_false,not_or];exact⟨h1,h2⟩
 have st0:(0<=items.size/\s.heap.IsRevIter it a ((items.size:Int) - 1 - ((0:Nat):Int))/\s.heap.IsList a items):=⟨Yl _,by rw[show((items.size:Int) - 1 - ((0:Nat):Int))=(items.size:Int) - 1 by lia];exact hi,hl⟩;have hT:s.TypeIs (.ref it) "list_reverseiterator":=hi.typeIs
 have key:codeAny (model prog w) A (.builtin "list.extend.loop" ⟨[.ref S,.ref it,res],[]⟩) R s:=by
  refine codeAny_extend_loopS W.toS hz S hSf res items.size 0 _ #[] c0 rfl (Yl _) st0 hS (ItemsOf.nil _) λs' acc c hm hS' hacc=>?_;rw[Moved.eq_with hm];refine k s'.heap s'.toks acc c (λb o hb hbi e=>hm.heap b o (λhmem=>?_) e) hS' hacc;rcases Yf.mp hmem with e' | hmem
  ·exact hb e'
  ·exact hbi (Yy2.mp hmem)
 unfold Builtin.List.listExtendWith;refine Yy3 (Y2w (T:="list_reverseiterator") hT ?_);have e1:Builtin.List.listSameRef (.ref S) (.ref it)=false:=by simp[Builtin.List.listSameRef,h1]
 rw[if_neg (by rw[e1];decide)];refine Yy3 (wpAny_pyIter_revIter hi ?_);refine Yy3 (Y0e (ZS9 hT ?_));rw[if_neg (by decide)];exact Yi ⟨Y0Y Yy31 _,key⟩
theorem ZT9{Q:Value->Shared->Prop}(hh:A.handled=none)(hi:s.heap.IsRevIter it a ((items.size:Int) - 1))(hl:s.heap.IsList a items)(hne:a≠it)(hz:items.size<=sizeLine)
  (k:∀ h' tk acc c,(∀ b o,b≠it->s.heap.get? b=some o->h'.get? b=some o)->h'.get? s.heap.objs.size=some { cls:=.type "list",dict:=none,data:=.seq acc c,slots:=#[] }->ItemsOf (λi v=>items[items.size - 1 - i]?=some v) acc items.size ->
   Q (.ref s.heap.objs.size) { s with heap:=h',toks:=tk }):wpAny (model prog w) A (call (.type "list") [.ref it]) Q E s:=by
 obtain⟨oi,hoi,_⟩:=id hi;obtain⟨ol,hol,_⟩:=id hl;have n1:s.heap.objs.size≠it:=Y0x (Yn hoi)
 have n2:s.heap.objs.size≠a:=Y0x (Yn hol);refine callType_codes (Q₁:=λob s₁=>ob=.ref s.heap.objs.size/\s₁={ s with heap:=s.heap.push { cls:=.type "list",data:=.seq #[] } }) PySem.F.called_list (PySem.F.typeCall_list_1 _) PySem.F.entry_list_init (code_list_new _ ⟨rfl,rfl⟩) λob s₁ z=>?_;obtain⟨rfl,rfl⟩:=z;have hS0:(s.heap.push { cls:=.type "list",data:=.seq #[] }).get? s.heap.objs.size=some { cls:=.type "list",data:=.seq #[] }:=Ym _ rfl
 refine⟨⟨_,hS0,rfl⟩,PySem.F.args_list_init_2 _ _,?_⟩;show wpAny _ A.in1.in1 (do let old <- Builtin.List.listItems (.ref s.heap.objs.size);Builtin.List.listUpdate (.ref s.heap.objs.size) (λ_=>#[]);letGo old.toList.reverse;Builtin.List.listExtendWith (.ref s.heap.objs.size) (.ref it) .none) _ _ _
 refine Yy3 ?_;unfold Builtin.List.listItems;refine Yy3 (Y1o hS0 rfl (Yi ?_));refine Yy3 (Y2t (a:=s.heap.objs.size) hS0 rfl ?_);have hS2:=Yy03 (Obj.mapSeq (λ_=>(#[]:Array Value))) hS0 rfl
 have oth:∀ b o,b≠s.heap.objs.size->s.heap.get? b=some o->((s.heap.push { cls:=.type "list",data:=.seq #[] }).update s.heap.objs.size (Obj.mapSeq (λ_=>(#[]:Array Value)))).get? b=some o :=
  λb o hb e=>(YM _ _ (YY hb)).trans (Yy5 _ e)
 refine Yy3 (Y2p ?_);refine ZC6 (A:=A.in1) (items:=items) hh (hi.at λo e=>oth it o (YY n1) e) (hl.at λo e=>oth a o (YY n2) e) hne n1 n2 hS2 hz λh' tk acc c hk hS' hacc=>?_;exact⟨rfl,k h' tk acc c (λb o hb e=>hk b o (Yr (Yn e)) hb (oth b o (Yr (Yn e)) e)) hS' hacc⟩
end
end
section
variable{X:Cx}{p p2 pos pos2:Pos}{e:Expr}{t:TA}
def Zf9(K:PySem.W.Frag)(t:TA):TE:=λσ H Q=>t σ H λvs H1=>∃(a:Addr) (ys:List V),vs=[.ref a]/\SqL K H1 a ys/\∀ l,H1 l=none->Q (.ref l) (upd H1 l (.lst ys.reverse))
theorem ZC3 (K:PySem.W.Frag) (hc:X.calm=true) (g1:Gl X "list") (m1:X.mg "list"=none) (g2:Gl X "reversed") (m2:X.mg "reversed"=none) (ha:PA X [e] t) (hk:X.K=K:=by rfl)
  (he:starEach [e] X.env=[(false,eval e X.env)]:=by rfl)
  (he2:starEach [.Call (.Name "reversed" p2) [e] [] pos2] X.env=[(false,eval (.Call (.Name "reversed" p2) [e] [] pos2) X.env)]:=by rfl) :
  PE X (.Call (.Name "list" p) [.Call (.Name "reversed" p2) [e] [] pos2] [] pos) (Zf9 K t):=by
 subst hk;intro pins s σ H Q I h;refine Y0f (Zu2 I g1 m1 Boot.«list» ?_);refine Y0c ?_ (by rw[he2];rfl) rfl;rw[he2];show wpAny _ _ (spliced ((false,eval (.Call (.Name "reversed" p2) [e] [] pos2) X.env) :: backTo pos [])) _ _ s
 refine Y2X ?_;refine Y0f (Zu2 I g2 m2 Boot.«reversed» ?_);refine Y0c (thn (ha pos2 pins s σ H _ I h) λus s1 ⟨vs,H1,I1,r1,q1⟩=>?_) (by rw[he];rfl) rfl;obtain⟨a,ys,rfl,hq,q⟩:=q1;obtain⟨u,rfl,ru⟩:=ZZ3 r1;obtain rfl:u=Value.ref a:=ru;obtain⟨its,rv,pl,hz⟩:=I1.list hq;refine call_reversed_list pl.isList ?_;refine Y3f ?_;have el:its.toArray.size=ys.length:=by rw[Ya,<- rv.length]
 have hit:(s1.heap.push (revObj a ((its.toArray.size:Int) - 1))).IsRevIter s1.heap.objs.size a ((its.toArray.size:Int) - 1):=⟨_,Ym _ rfl,rfl,rfl⟩;have hne:a≠s1.heap.objs.size:=Yr (let ⟨_,_,e,_⟩:=pl;Yn e)
 refine ZT9 (I.ok.hd hc) hit (pl.isList.push _) hne (by rw[el];exact hz) λh' tk acc c hk hS ha'=>?_;have el2:its.length=ys.length:=rv.length.symm
 have ea:acc.toList=its.reverse:=by
  refine Yy12 λi=>?_;have h1:=ha'.1
  by_cases hi:i<its.length
  ·obtain⟨v,ev⟩:∃ v,acc[i]?=some v:=⟨_,YE (by rw[h1,Ya];exact hi)⟩;have h2:=ha'.2 i v ev
   rw[Y0X hi];have e3:acc.toList[i]?=some v:=by simpa using ev
   rw[e3];have e4:its[its.length - 1 - i]?=some v:=by simpa using h2
   rw[e4]
  ·rw[YZ (by rw[YB,h1,Ya];grind),YZ (by rw[YS];omega)]
 rw[size_push']at hS ⊢;refine⟨.ref (s1.heap.objs.size+1),_,I1.laid (o:=.lst ys.reverse) (h':=h') (t':=tk) (λb o e=>hk b o (Yr (Yn e)) (Yy5 _ e)) (Y0j _) ⟨?_,acc.toList,c,?_,?_⟩,rfl,q _ (I1.hok.fresh (Y0j _))⟩
 ·rw[YS];exact hz
 ·rw[ea];exact rv.rev
 ·rw[hS]
end
end L2
namespace My
open PySem L2
theorem isSet_iff{m:Nat}{ns:List Int}:IsSet m ns↔(∀ z∈ns,0<=z/\z<(m:Int))/\ns.Pairwise (· < ·):=by
 constructor
 ·intro h;refine⟨h.all,?_⟩;rw[Y0K];intro i j hi hj hij
  induction j with
  | zero=>exact absurd hij (YW i)
  | succ j ih =>
   have hj':j<ns.length:=by grind
   have key:=(h (j+1) ns[j+1] (Yy0 hj)).2.2 ns[j] (by lia) (by rw[Y2q];exact Yy0 hj');by_cases e:i=j
   ·subst e;exact key
   ·have:=ih hj' (by lia)
    lia
 ·rintro⟨ha,hp⟩ i z hz;obtain⟨hi,ei⟩:=Yy1.mp hz;have hm:=ha z (Yy9 hz)
  refine⟨hm.1,hm.2,λy h0 hy=>?_⟩;obtain⟨hi',ei'⟩:=Yy1.mp hy
  have:=Y0K.mp hp (i - 1) i hi' hi (by lia)
  rw[ei,ei']at this;exact this
theorem ZL1{ns:List Int}(h:ns.Pairwise (· < ·)):ns.Nodup:=h.imp λhab e=>by lia
theorem IsSet.nodup{m:Nat}{ns:List Int}(h:IsSet m ns):ns.Nodup:=ZL1 (isSet_iff.mp h).2
end My
namespace My
theorem Zl1{α:Type}{P:List α->Prop}(h0:P [])(h1:∀ l x,P l->P (l++[x])):∀ l,P l:=by
 intro l;rw[<- List.reverse_reverse l]
 induction l.reverse with
 | nil=>exact h0
 | cons x r ih =>
  rw[Y2z];exact h1 _ _ ih
inductive Conn (es:List (Nat × Nat)):Nat->Nat->Prop
 | refl (i:Nat):Conn es i i
 | edge {a b:Nat} (h:(a,b)∈es):Conn es a b
 | symm {i j:Nat}:Conn es i j->Conn es j i
 | trans {i j k:Nat}:Conn es i j->Conn es j k->Conn es i k
theorem Conn.mono{es fs:List (Nat × Nat)}(h:∀ e∈es,e∈fs){i j:Nat}(c:Conn es i j):Conn fs i j:=by
 induction c with
 | refl i=>exact .refl i
 | edge q=>exact .edge (h _ q)
 | symm _ ih=>exact .symm ih
 | trans _ _ i1 i2=>exact .trans i1 i2
theorem Zz53{n i:Nat}(h:i<n):mk ((List.range n).map λ(i:Nat)=>(i:Int)) i=(i:Int):=by rw[mk_map' h]
where
 mk_map' {n i:Nat} (h:i<n):mk ((List.range n).map λ(i:Nat)=>(i:Int)) i=(i:Int):=by simp[mk,Yy6,Yu,Y1L h]
def InN(n:Nat)(es:List (Nat × Nat)):Prop:=∀ e∈es,e.1<n/\e.2<n
theorem InN.snoc{n:Nat}{es:List (Nat × Nat)}{e:Nat × Nat}(h:InN n (es++[e])):InN n es/\e.1<n/\e.2<n:=⟨λx hx=>h x (Yc _ hx),h e (by simp)⟩
theorem ZU9{n:Nat}:∀ es:List (Nat × Nat),InN n es->∀ e∈es,mk (lms n es) e.1=mk (lms n es) e.2:=by
 refine Zl1 (λ_ e h=>by cases h) λes x ih hn e he=>?_;obtain⟨h1,h2,h3⟩:=hn.snoc;have hl:=ZD n es
 have hx:=hn e he;rw[Zq1];refine(ZE6 (by lia) (by lia)).mpr ?_;rcases Yy7.mp he with q | q
 ·exact .inl (ih h1 e q)
 ·rw[Yy2.mp q];exact .inr ⟨.inl rfl,.inr rfl⟩
theorem ZV9{n:Nat}:∀ es:List (Nat × Nat),InN n es->∀ i j,i<n->j<n->mk (lms n es) i=mk (lms n es) j->Conn es i j:=by
 refine Zl1 (λ_ i j hi hj h=>?_) λes x ih hn i j hi hj h=>?_
 ·have h:mk ((List.range n).map λ(i:Nat)=>(i:Int)) i=mk ((List.range n).map λ(i:Nat)=>(i:Int)) j:=h;rw[Zz53 hi,Zz53 hj]at h
  have:i=j:=by lia
  subst this;exact .refl i
 ·obtain⟨h1,h2,h3⟩:=hn.snoc;have hl:=ZD n es
  have up:∀ {i j:Nat},Conn es i j->Conn (es++[x]) i j:=λc=>c.mono λe he=>Yc _ he;have ex:Conn (es++[x]) x.1 x.2:=.edge (by simp)
  rw[Zq1]at h;rcases(ZE6 (by lia) (by lia)).mp h with q | ⟨q1,q2⟩
  ·exact up (ih h1 i j hi hj q)
  ·have ci:Conn (es++[x]) i x.1:=by
    rcases q1 with q | q
    ·exact up (ih h1 i _ hi h2 q)
    ·exact(up (ih h1 i _ hi h3 q)).trans ex.symm
   have cj:Conn (es++[x]) j x.1:=by
    rcases q2 with q | q
    ·exact up (ih h1 j _ hj h2 q)
    ·exact(up (ih h1 j _ hj h3 q)).trans ex.symm
   exact ci.trans cj.symm
theorem Zq10{n:Nat}{es:List (Nat × Nat)}(hn:InN n es){i j:Nat}(c:Conn es i j):i=j\/(i<n/\j<n/\mk (lms n es) i=mk (lms n es) j):=by
 induction c with
 | refl i=>exact .inl rfl
 | edge q=>exact .inr ⟨(hn _ q).1,(hn _ q).2,ZU9 es hn _ q⟩
 | symm _ ih =>
  rcases ih with e | ⟨a,b,c⟩
  ·exact .inl e.symm
  ·exact .inr ⟨b,a,c.symm⟩
 | trans _ _ i1 i2 =>
  rcases i1 with e | ⟨a,b,c⟩
  ·rw[e];exact i2
  ·rcases i2 with e | ⟨a',b',c'⟩
   ·rw[<- e];exact .inr ⟨a,b,c⟩
   ·exact .inr ⟨a,b',c.trans c'⟩
theorem ZS{n:Nat}{es:List (Nat × Nat)}(hn:InN n es){i j:Nat}(hi:i<n)(hj:j<n):mk (lms n es) i=mk (lms n es) j↔Conn es i j:=by
 constructor
 ·exact ZV9 es hn i j hi hj
 ·intro c;rcases Zq10 hn c with e | ⟨_,_,e⟩
  ·rw[e]
  ·exact e
theorem Zb1{n:Nat}{es:List (Nat × Nat)}(hn:InN n es){i j:Nat}(hi:i<n)(hj:j<n):mk (pms n es) i=mk (pms n es) j↔Conn es i j:=by
 rw[<- ZS hn hi hj];have s:=ZZ2 (n:=n) (es:=es) hn
 exact s.2 i j (by rw[Zw];exact hi) (by rw[Zw];exact hj)
def cnt(M:List Int):Nat:=(fstA M M.length).length
theorem Za8(M:List Int){i:Nat}:∃ p,p<=i/\mk M p=mk M i/\fstB M p=true:=by
 induction i using Nat.strongRecOn with
 | ind i ih =>
  by_cases h:fstB M i=true
  ·exact⟨i,Yy8 _,rfl,h⟩
  ·have:∃ j,j<i/\mk M j=mk M i:=by
    by_cases q:∃ j,j<i/\mk M j=mk M i
    ·exact q
    ·exact absurd (fstB_iff.mpr λj hj e=>q ⟨j,hj,e⟩) h
   obtain⟨j,hj,e⟩:=this;obtain⟨p,h1,h2,h3⟩:=ih j hj;exact⟨p,by lia,h2.trans e,h3⟩
theorem Zc7{p q:Nat->Bool}{x n:Nat}(hx:x<n)(hpx:p x=true)(h:∀ y,y<n->q y=(p y && !decide (y=x))):((List.range n).filter q).length+1=((List.range n).filter p).length:=by
 induction n with
 | zero=>exact absurd hx (YW x)
 | succ n ih =>
  rw[Y1l,Y0b,Y0b,Yy4,Yy4];by_cases e:x=n
  ·subst e;have e1:(List.range x).filter q=(List.range x).filter p:=Y1u λy hy=>by have hy:=YH.mp hy;rw[h y (by lia),show decide (y=x)=false from Yy09 (by lia)];simp
   have e2:q x=false:=by rw[h x (by lia)];simp
   rw[e1];simp[YO,e2,hpx]
  ·have hq:q n=p n:=by rw[h n (by lia),show decide (n=x)=false from Yy09 (λz=>e z.symm)];simp
   have:=ih (by lia) λy hy=>h y (by lia)
   simp only [YO,Y2V,hq];lia
theorem Zc3{M:List Int}{p q:Nat}(hp:fstB M p=true)(hq:fstB M q=true)(e:mk M p=mk M q):p=q:=by
 rcases Nat.lt_trichotomy p q with h | h | h
 ·exact absurd e (fstB_iff.mp hq p h)
 ·exact h
 ·exact absurd e.symm (fstB_iff.mp hp q h)
theorem Zf3{m:List Int}{a b:Nat}(ha:a<m.length)(hb:b<m.length)(hne:mk m a≠mk m b):cnt (lm m a b)+1=cnt m:=by
 obtain⟨A,hA1,hA2,hA3⟩:=Za8 m (i:=a);obtain⟨B,hB1,hB2,hB3⟩:=Za8 m (i:=b);have hAB:A≠B:=λe=>hne (by rw[<- hA2,<- hB2,e])
 unfold cnt fstA;rw[Zz92];refine Zc7 (x:=max A B) (by grind) ?_ λy hy=>?_
 ·rcases Nat.le_total A B with h | h
  ·rw[Nat.max_eq_right h];exact hB3
  ·rw[Nat.max_eq_left h];exact hA3
 ·rw[Y0o,Y0W,fstB_iff,fstB_iff];have key:∀ i,i<y->(mk (lm m a b) i=mk (lm m a b) y↔Mrg m a b i y):=λi hi=>ZE6 (by lia) hy
  have nmax:(!decide (y=max A B))=true↔y≠max A B:=by simp
  rw[nmax];constructor
  ·intro q;refine⟨λi hi e=>q i hi ((key i hi).mpr (.inl e)),λe=>?_⟩;rcases Nat.lt_or_gt_of_ne hAB with h | h
   ·have ey:y=B:=by lia
    subst ey;exact q A h ((key A h).mpr (.inr ⟨.inl hA2,.inr hB2⟩))
   ·have ey:y=A:=by grind
    subst ey;exact q B h ((key B h).mpr (.inr ⟨.inr hB2,.inl hA2⟩))
  ·rintro⟨q1,q2⟩ i hi e;rcases(key i hi).mp e with e | ⟨e1,e2⟩
   ·exact q1 i hi e
   ·have fy:fstB m y=true:=fstB_iff.mpr q1;rcases e2 with e2 | e2
    ·have ey:y=A:=Zc3 fy hA3 (e2.trans hA2.symm);rcases e1 with e1 | e1
     ·exact q1 i hi (e1.trans e2.symm)
     ·obtain⟨p,p1,p2,p3⟩:=Za8 m (i:=i)
      have:p=B:=Zc3 p3 hB3 (by rw[p2,e1,hB2])
      grind
    ·have ey:y=B:=Zc3 fy hB3 (e2.trans hB2.symm);rcases e1 with e1 | e1
     ·obtain⟨p,p1,p2,p3⟩:=Za8 m (i:=i)
      have:p=A:=Zc3 p3 hA3 (by rw[p2,e1,hA2])
      grind
     ·exact q1 i hi (e1.trans e2.symm)
theorem Zg3(n:Nat):cnt ((List.range n).map λ(i:Nat)=>(i:Int))=n:=by
 unfold cnt fstA;rw[Yb,Y0k];have e:(List.range n).filter (fstB ((List.range n).map λ(i:Nat)=>(i:Int)))=List.range n:=by
  refine Y2n.mpr λp hp=>fstB_iff.mpr λi hi e=>?_;have hp:=YH.mp hp
  rw[Zz53 (by lia),Zz53 hp]at e;lia
 rw[e,Y0k]
theorem Za12{M:List Int}(hM:1<=M.length):cnt M=1↔∀ i j,i<M.length->j<M.length->mk M i=mk M j:=by
 have e:cnt M=(grp M).length:=by unfold cnt grp;rw[ZT8,Yb]
 rw[e];exact ZS8 hM
end My
namespace My
open PySem L2
theorem Za11{i:Int}{n:Nat}(h0:0<=i)(h1:i<(n:Int)):seqIndex? i n=some i.toNat:=by have e:(if i<0 then i+(n:Int) else i)=i:=if_neg (by lia);unfold seqIndex?;simp only [e];rw[if_pos (by simp;lia)]
def Zi(n:Int)(ps:List (Int × Int))(ns:List Int):Prop:=IsSet ps.length ns/\(ns.length:Int)=n - 1/\∀ i j,i<n.toNat->j<n.toNat->Conn (Zz6 ps ns) i j
theorem ZJ{n:Int}{ps:List (Int × Int)}{ns:List Int}(g:Zv n ps)(h:∀ z∈ns,0<=z/\z<(ps.length:Int)):InN n.toNat (Zz6 ps ns):=λe he=>by
 obtain⟨z,hz,rfl⟩:=YC.mp he;obtain⟨z0,z1⟩:=h z hz;have hp:ps[z.toNat]?=some (ps[z.toNat]'(by lia)):=Yy0 _
 rw[ZO hp];obtain⟨b1,b2,b3,b4⟩:=g.2.2.2 _ (Yy9 hp);exact⟨by lia,by lia⟩
theorem ZH{ps:List (Int × Int)}{ns ms:List Int}(h:∀ z∈ns,z∈ms):∀ e∈Zz6 ps ns,e∈Zz6 ps ms:=λe he=>by obtain⟨z,hz,rfl⟩:=YC.mp he;exact YC.mpr ⟨z,h z hz,rfl⟩
theorem Zq6{n:Nat}{es:List (Nat × Nat)}(h:InN n es):(∀ i j,i<(lms n es).length->j<(lms n es).length->mk (lms n es) i=mk (lms n es) j)↔∀ i j,i<n->j<n->Conn es i j:=by
 rw[ZD];constructor
 ·intro q i j hi hj;exact(ZS h hi hj).mp (q i j hi hj)
 ·intro q i j hi hj;exact(ZS h hi hj).mpr (q i j hi hj)
theorem ZL6{n:Nat}{es:List (Nat × Nat)}(hn:1<=n)(h:InN n es):(grp (pms n es)).length=1↔∀ i j,i<n->j<n->Conn es i j:=by rw[ZS8 (by rw[Zw];exact hn),(ZZ2 h).one];exact Zq6 h
theorem Zz51{ps:List (Int × Int)}{ns ms:List Int}(h:∀ z,z∈ns↔z∈ms){i j:Nat}:Conn (Zz6 ps ns) i j↔Conn (Zz6 ps ms) i j :=
 ⟨λc=>c.mono (ZH λz hz=>(h z).mp hz),λc=>c.mono (ZH λz hz=>(h z).mpr hz)⟩
section
variable{K:PySem.W.Frag}{a:Addr}{xs:List V}{g:TG}{tt:TT}{te:TE}{o:Nat}{fr:List Nat}{σ:St}{H:Hp}{Q:VK}
theorem ZL3(Pv:Nat->List V->Hp->Prop)(h0:Pv 0 [] H)(hz:xs.length<sizeLine)(hl:∀ i ys H,i<=xs.length->Pv i ys H->SqL K H a xs/\ys.length<=i)
  (hs:∀(i:Nat) x ys H (p:Addr),H p=none->xs[i]?=some x->Pv i ys H->ZJ5 Pv g tt te o fr σ i (.ref p) ys (upd H p (.tup [.int i,x]))) (hd:∀ ys H,Pv xs.length ys H->∀ p,H p=none->Q (.ref p) (upd H p (.lst ys))):LcR (Ite K a) g tt te o fr σ H Q:=by
 refine⟨λi m ys H=>m=xs.length - i/\i<=xs.length/\Pv i ys H,⟨xs.length,by simp,Yl _,h0⟩,?_⟩;rintro i m ys H ⟨rfl,hi,p⟩;obtain⟨q,hy⟩:=hl i ys H hi p;by_cases hlt:i<xs.length
 ·refine .inr ⟨⟨xs,xs[i],q,by simp[hlt]⟩,by lia,λx H' ⟨T,y,hT,ex,eH,hyy⟩=>?_⟩;subst ex eH;exact hs i y ys H T hT (hyy xs q) p (λj ys H=>∃ m',m'<xs.length - i/\m'=xs.length - j/\j<=xs.length/\Pv j ys H) λys H p'=>⟨xs.length - (i+1),by grind,rfl,hlt,p'⟩
 ·have e:i=xs.length:=by lia
  subst e;exact .inl ⟨⟨xs,q,Yy8 _⟩,by lia,hd ys H p⟩
end
def unlike(M:List Int)(ps:List (Int × Int))(i:Nat):List Int:=((List.range i).filter λk=>decide (mk M (ps.getD k (0,0)).1.toNat≠mk M (ps.getD k (0,0)).2.toNat)).map λ(k:Nat)=>(k:Int)
theorem ZJ2(M:List Int)(ps:List (Int × Int))(i:Nat):unlike M ps (i+1)=unlike M ps i++(if mk M (ps.getD i (0,0)).1.toNat≠mk M (ps.getD i (0,0)).2.toNat then [(i:Int)] else []):=by
 unfold unlike;rw[Y1l,Y0b,YL];congr 1;by_cases h:mk M (ps.getD i (0,0)).1.toNat≠mk M (ps.getD i (0,0)).2.toNat
 ·rw[if_pos h,YO,if_pos (Yx h)];rfl
 ·rw[if_neg h,YO,if_neg (by simpa using h)];rfl
theorem ZQ5(M:List Int)(ps:List (Int × Int))(i:Nat):(unlike M ps i).length<=i:=by unfold unlike;rw[Yb];exact Yt (YF _ _) (by simp)
def wo(ns:List Int)(z:Int):List Int:=ns.filter λy=>decide (y≠z)
theorem wo_mem{ns:List Int}{z y:Int}:y∈wo ns z↔y∈ns/\y≠z:=by unfold wo;rw[Yk];simp
theorem ZL10(ns:List Int)(z:Int):(wo ns z).length<=ns.length:=YF _ _
theorem Zg2{ns:List Int}{i:Nat}{y z:Int}(h:ns[i]?=some y):wo (ns.take (i+1)) z=wo (ns.take i) z++(if y≠z then [y] else []):=by
 unfold wo;rw[YU,h,Y0b];congr 1;by_cases e:y≠z
 ·rw[if_pos e];show List.filter _ [y]=_;rw[YO,if_pos (Yx e)];rfl
 ·rw[if_neg e];show List.filter _ [y]=_;rw[YO,if_neg (by simpa using e)];rfl
theorem Zp5{n:Int}{ps:List (Int × Int)}{M L:List Int}(g:Zv n ps)(hM:M.length=n.toNat)(s:SameP M L):unlike M ps ps.length=unlike L ps ps.length:=by
 unfold unlike;congr 1;refine Y1u λk hk=>?_;have hk:=YH.mp hk
 have hp:ps[k]?=some ps[k]:=Yy0 hk;rw[ZO hp];obtain⟨b1,b2,b3,b4⟩:=g.2.2.2 _ (Yy9 hp)
 have:=s.2 ps[k].1.toNat ps[k].2.toNat (by grind) (by grind)
 rw[Y0o,Yy00,Yy00];exact not_congr this
def Zp3(n:Int)(ps:List (Int × Int))(ns:List Int)(z:Int)(l:List Int):List Int:=l.filter λy=>decide (z∈unlike (lms n.toNat (Zz6 ps (wo ns y))) ps ps.length)
theorem Zy3{n:Int}{ps:List (Int × Int)}{ns:List Int}{z:Int}{l:List Int}{i:Nat}{y:Int}(h:l[i]?=some y) :
  Zp3 n ps ns z (l.take (i+1))=Zp3 n ps ns z (l.take i)++(if z∈unlike (lms n.toNat (Zz6 ps (wo ns y))) ps ps.length then [y] else []):=by
 unfold Zp3;rw[YU,h,Y0b];congr 1;by_cases e:z∈unlike (lms n.toNat (Zz6 ps (wo ns y))) ps ps.length
 ·rw[if_pos e];show List.filter _ [y]=_;rw[YO,if_pos (Yx e)];rfl
 ·rw[if_neg e];show List.filter _ [y]=_;rw[YO,if_neg (by simpa using e)];rfl
theorem Yz1(n:Int)(ps:List (Int × Int))(ns:List Int)(z:Int)(l:List Int):(Zp3 n ps ns z l).length<=l.length:=YF _ _
theorem ZP5{M:List Int}{ps:List (Int × Int)}{z:Int}(h0:0<=z)(h1:z<(ps.length:Int)):z∈unlike M ps ps.length↔mk M (ps.getD z.toNat (0,0)).1.toNat≠mk M (ps.getD z.toNat (0,0)).2.toNat:=by
 unfold unlike;rw[YC];constructor
 ·rintro⟨k,hk,rfl⟩
  have:=Yw (Yk.mp hk).2
  rw[YA];exact this
 ·intro h;exact⟨z.toNat,Yk.mpr ⟨YH.mpr (by grind),Yx h⟩,by lia⟩
theorem Zz81{a b:List Int}(h:a.Perm b)(h1:a.Pairwise (·<=·))(h2:b.Pairwise (·<=·)):a=b:=by
 induction a generalizing b with
 | nil=>exact(List.Perm.nil_eq h)
 | cons x a ih =>
  cases b with
  | nil=>exact absurd h.length_eq (by simp)
  | cons y b =>
   obtain⟨hx,ha⟩:=YK.mp h1;obtain⟨hy,hb⟩:=YK.mp h2;have e:x=y:=by
    have m1:y∈x :: a:=h.mem_iff.mpr Ye;have m2:x∈y :: b:=h.mem_iff.mp Ye
    rcases Yf.mp m1 with e1 | e1
    ·exact e1.symm
    ·rcases Yf.mp m2 with e2 | e2
     ·exact e2
     ·have:=hx y e1;have:=hy x e2;lia
   subst e;rw[ih (List.Perm.cons_inv h) ha hb]
end My
namespace L2
open PySem PySem.Spec PyProof.Rows
section
variable{prog:Program}{w:World}{A:Around}{E:Value->Shared->Prop}{s:Shared}
theorem ZE5 {tp:Addr} {vs:List Value} {Q:List Value->Shared->Prop} {ot:Obj} {m:Nat} (ht:s.heap.get? tp=some ot) (hc:ot.cls=.type "tuple") (hd:ot.data=.seq vs.toArray m) (hz:vs.length<=sizeLine)
  (k:Q vs { s with heap:=(s.heap.push (seqObj "list" #[] 0)).update s.heap.objs.size (Obj.mapSeq (·++vs.toArray)) }):wpAny (model prog w) A (collect (.ref tp)) Q E s:=by
 have ht1:(s.heap.push (seqObj "list" #[] 0)).get? tp=some ot:=Yy5 _ ht;have hL1:(s.heap.push (seqObj "list" #[] 0)).get? s.heap.objs.size=some (seqObj "list" #[] 0):=Ym _ rfl
 unfold collect;refine Yy3 (Y2D (Y0d Y3g ?_));show wpAny _ _ (do again (.builtin "list.__iadd__" ⟨[<- newList [],.ref tp],[]⟩)) _ _ s
 refine Yy3 (Y1D (Yi ⟨Yy28 _ (by decide +kernel),Y0d entry_list_iadd' ?_⟩));show wpAny _ _ (Builtin.List.listExtendWith (.ref s.heap.objs.size) (.ref tp) (.ref s.heap.objs.size)) _ _ { s with heap:=s.heap.push (seqObj "list" #[] 0) }
 unfold Builtin.List.listExtendWith;refine Yy3 (Y2w (T:="tuple") ⟨ot,ht1,hc⟩ ?_);rw [if_pos (by rw [show(Value.type "tuple" == Value.type "tuple")=true from rfl];simp)];refine Yy3 (listItems_at ht1 hd ?_);refine Yy3 (listItems_at (xs:=#[]) (n:=0) hL1 rfl ?_);rw[if_neg (by simp)];refine Yy3 (Y1R (xs:=#[]) (n:=0) hL1 rfl ?_ (Yl _) (by show(#[]++vs.toArray).size<=sizeLine+1;simp only [Array.size_append,Ya,Y1m];lia));refine Yi ?_;refine Yy3 (Y3n (Yy37 hL1 _) ?_);show wpAny _ _ (pure ((#[]:Array Value)++vs.toArray).toList) Q E _
 rw[show((#[]:Array Value)++vs.toArray).toList=vs by simp];exact Yi k
theorem Zs5 {tp:Addr} {vs:List Value} {ns:List Int} {Q:Value->Shared->Prop} {ot:Obj} {m:Nat} (ht:s.heap.get? tp=some ot) (hc:ot.cls=.type "tuple") (hd:ot.data=.seq vs.toArray m) (hI:IntsAre vs ns) (h64:vs.length<64)
  (k:∀(out:Array Value) (ms:List Int),IntsAre out.toList ms->ms.Perm ns->ms.Pairwise (·<=·)->Q (.ref (s.heap.objs.size+1)) { s with heap:=sortedAll s.heap vs out }) :
  wpAny (model prog w) A (call (.builtin "sorted") [.ref tp]) Q E s:=by
 have hsl:sizeLine=16777216:=Y0r;have hsz:((s.heap.push (seqObj "list" #[] 0)).update s.heap.objs.size (Obj.mapSeq (·++vs.toArray))).objs.size=s.heap.objs.size+1:=by rw[Heap.size_update,size_push']
 have hoL:(((s.heap.push (seqObj "list" #[] 0)).update s.heap.objs.size (Obj.mapSeq (·++vs.toArray))).push (seqObj "list" vs.toArray 0)).get? (s.heap.objs.size+1)=some (seqObj "list" vs.toArray 0):=by rw[<- hsz];exact Ym _ rfl
 refine Calls.call_function_entry kind_sorted plain_sorted entry_sorted (args_sorted1 _) ?_;unfold Builtin.«sorted»;refine Yy3 (m:=checkCount "sorted" 1 1 _) (Yi ?_);refine Yy3 (ZE5 ht hc hd (by lia) ?_);refine Yy3 (Y1D ?_);show wpAny _ _ _ _ _ { s with heap:=((s.heap.push (seqObj "list" #[] 0)).update s.heap.objs.size (Obj.mapSeq (·++vs.toArray))).push (seqObj "list" vs.toArray 0) }
 rw[hsz];refine Yy3 (Y0e (Y0R slot_list_sort ⟨_,hoL,rfl⟩ entry_list_sort (list_sort_tree hoL hI h64 λout ms b1 b2 b3=>⟨_,rfl,?_⟩) (args_list_sort _)));exact Yi ⟨_,rfl,k out ms b1 b2 b3⟩
end
section
variable{X:Cx}
theorem ZM1 (K:PySem.W.Frag) (hk:X.K=K:=by rfl):ZX3 X (.builtin "sorted") (λxs H Q=>∃(p:Addr) (ns:List Int),xs=[.ref p]/\SqT K H p (ns.map V.int)/\ns.length<64 /\
  ∀ ms:List Int,ms.Perm ns->ms.Pairwise (·<=·)->∀ l,H l=none->Q (.ref l) (upd H l (.lst (ms.map V.int)))):=by
 subst hk;intro pins s σ H xs us Q I r h;obtain⟨p,ns,rfl,hq,hn,q⟩:=h;obtain⟨u,rfl,ru⟩:=ZZ3 r;obtain rfl:u=Value.ref p:=ru;obtain⟨its,rv,⟨ot,h1,h2,m,h3⟩,hz⟩:=I.tuple hq;have hi:=ZR rv
 have hl:its.length=ns.length:=by rw[<- rv.length,Yb]
 refine Zs5 h1 h2 h3 hi (by lia) λout ms b1 b2 b3=>?_;obtain⟨e,he⟩:=sortedAll_at s.heap its out;have hml:ms.length=ns.length:=b2.length_eq
 refine⟨.ref (s.heap.objs.size+1),_,I.laid (t':=s.toks) (o:=.lst (ms.map V.int)) (λb o g=>sortedAll_old g) (Y0j _) ⟨?_,out.toList,e,ZY b1,he⟩,rfl,q ms b2 b3 _ (I.hok.fresh (Y0j _))⟩;rw[Yb,hml]
 have:sizeLine=16777216:=Y0r
 lia
def ZH12(K:PySem.W.Frag):R2:=λx y H Q=>∃ a b xs ys,x=.ref a/\y=.ref b/\SqT K H a xs/\SqT K H b ys/\xs.length+ys.length<=sizeLine /\
 (xs=[]->Q (.ref b) H)/\(xs≠[]->ys=[]->Q (.ref a) H)/\(xs≠[]->ys≠[]->∀ p,H p=none->Q (.ref p) (upd H p (.tup (xs++ys))))
theorem ZP2(K:PySem.W.Frag)(hk:X.K=K:=by rfl):OpR X (binaryOp .Add) (ZH12 K):=by
 intro pins s σ H x y v u Q I rx ry h;obtain⟨a,b,xs,ys,e1,e2,ha,hb,hz,q0,q1,q2⟩:=id h;by_cases hx:xs=[]
 ·subst hk e1 e2;cases rx;cases ry;obtain⟨its,r1,p1,_⟩:=I.tuple ha;obtain⟨its2,r2,p2,_⟩:=I.tuple hb;have hi:its=[]:=r1.nil_iff.mpr hx
  obtain⟨⟨cls,dd,data,sl⟩,ho,hc,n,hd⟩:=id p1;obtain⟨⟨cls2,dd2,data2,sl2⟩,ho2,hc2,n2,hd2⟩:=id p2;simp only at hc hd hc2 hd2;subst hc hd hc2 hd2;exact concat_meets ⟨_,ho,rfl⟩ ⟨_,ho2,rfl⟩ Y3p seq_tuple_add Yy21 Yy20 (Y1S _ _)
   (tuple_addW0 a b its.toArray its2.toArray n n2 dd dd2 sl sl2 (by simp[hi])) ⟨ho,ho2,⟨.ref b,H,I,rfl,q0 hx⟩⟩
 ·exact ZK9 K hk pins s σ H x y v u Q I rx ry ⟨a,b,xs,ys,e1,e2,ha,hb,hx,hz,q1 hx,q2 hx⟩
end
end L2
namespace My
open PySem L2
theorem Zk13{m:List Int}{a b:Nat}(h:mk m a=mk m b):lm m a b=m:=by unfold lm;rw[if_neg (λz=>z h)]
theorem Zh7{m:List Int}{a b:Nat}(ha:a<m.length)(hb:b<m.length):cnt m<=cnt (lm m a b)+1:=by
 by_cases e:mk m a=mk m b
 ·rw[Zk13 e];lia
 ·have:=Zf3 ha hb e;lia
theorem Za5{n:Nat}:∀ es:List (Nat × Nat),InN n es->n<=cnt (lms n es)+es.length:=by
 refine Zl1 (λ_=>?_) λes x ih hn=>?_
 ·have:cnt (lms n [])=n:=Zg3 n
  lia
 ·obtain⟨h1,h2,h3⟩:=hn.snoc;have hl:=ZD n es
  have:=Zh7 (m:=lms n es) (a:=x.1) (b:=x.2) (by lia) (by lia)
  have:=ih h1
  rw[Zq1,Yy4,YD,Y1m];lia
theorem Zz95{M:List Int}(h:1<=M.length):1<=cnt M:=by unfold cnt fstA;refine Y1q (a:=0) (Yk.mpr ⟨YH.mpr (by lia),fstB_iff.mpr λi hi=>absurd hi (YW i)⟩)
theorem Zz11{n:Nat}{es:List (Nat × Nat)}(hn:1<=n)(h:InN n es):cnt (lms n es)=1↔∀ i j,i<n->j<n->Conn es i j:=by rw[Za12 (by rw[ZD];exact hn)];exact Zq6 h
theorem Zr4{ts:List Int}{o:Int}(hn:ts.Nodup)(ho:o∈ts):(wo ts o).length+1=ts.length:=by
 induction ts with
 | nil=>cases ho
 | cons x r ih =>
  obtain⟨h1,h2⟩:=Y0n.mp hn;unfold wo;rw[YO];by_cases e:x=o
  ·subst e;rw[if_neg (by simp)]
   have:r.filter (λy=>decide (y≠x))=r:=Y2n.mpr λy hy=>Yx λe=>h1 (e ▸ hy)
   rw[this];rfl
  ·rw[if_pos (Yx e)]
   have:=ih h2 ((Yf.mp ho).resolve_left λz=>e z.symm)
   unfold wo at this;rw[YD,YD];lia
def Zu(ps:List (Int × Int))(z:Int):Nat × Nat:=((ps.getD z.toNat (0,0)).1.toNat,(ps.getD z.toNat (0,0)).2.toNat)
theorem Zz41(ps:List (Int × Int))(ns:List Int)(z:Int):Zz6 ps (ns++[z])=Zz6 ps ns++[Zu ps z]:=by unfold Zz6 Zu;rw[YL];rfl
theorem Zs1{n:Int}{ps:List (Int × Int)}{z:Int}(g:Zv n ps)(z0:0<=z)(z1:z<(ps.length:Int)):(Zu ps z).1<n.toNat/\(Zu ps z).2<n.toNat:=by
 have:=ZJ (ns:=[z]) g (λy hy=>by rw[Yy2.mp hy];exact⟨z0,z1⟩)
 exact this (Zu ps z) (by unfold Zz6 Zu;simp)
theorem ZM10{n:Int}{ps:List (Int × Int)}{ts:List Int}{o:Int}(hT:Zi n ps ts):∀ y∈wo ts o,0<=y/\y<(ps.length:Int):=λy hy=>hT.1.all y (wo_mem.mp hy).1
theorem exch{n:Int}{ps:List (Int × Int)}{ts:List Int}{o z:Int}(g:Zv n ps)(hT:Zi n ps ts)(ho:o∈ts)(z0:0<=z)(z1:z<(ps.length:Int)) :
  (∀ i j,i<n.toNat->j<n.toNat->Conn (Zz6 ps (wo ts o++[z])) i j)↔¬ Conn (Zz6 ps (wo ts o)) (Zu ps z).1 (Zu ps z).2:=by
 have hn:1<=n.toNat:=by have:=g.1;lia
 have hw:=Zr4 hT.1.nodup ho;have hl:(ts.length:Int)=n - 1:=hT.2.1
 have i0:InN n.toNat (Zz6 ps (wo ts o)):=ZJ g (ZM10 hT);have hz:=Zs1 g z0 z1
 have ob:=hT.1.all o ho;have hoe:=Zs1 g ob.1 ob.2
 have i1:InN n.toNat (Zz6 ps (wo ts o)++[Zu ps z]):=λe he=>(Yy7.mp he).elim (i0 e) λq=>by rw[Yy2.mp q];exact hz
 have i2:InN n.toNat (Zz6 ps (wo ts o)++[Zu ps o]):=λe he=>(Yy7.mp he).elim (i0 e) λq=>by rw[Yy2.mp q];exact hoe
 have hL:=ZD n.toNat (Zz6 ps (wo ts o));have le:(Zz6 ps (wo ts o)).length=(wo ts o).length:=by unfold Zz6;rw[Yb]
 rw[Zz41];constructor
 ·intro hc c;have h1:cnt (lms n.toNat (Zz6 ps (wo ts o)++[Zu ps z]))=1:=(Zz11 hn i1).mpr hc
  rw[Zq1,Zk13 ((ZS i0 hz.1 hz.2).mpr c)]at h1
  have:=Za5 _ i0
  lia
 ·intro hc;have h2:cnt (lms n.toNat (Zz6 ps (wo ts o)++[Zu ps o]))=1:=by
   refine(Zz11 hn i2).mpr λi j hi hj=>?_;rw[<- Zz41];refine(Zz51 λy=>?_).mp (hT.2.2 i j hi hj);rw[Yy7,wo_mem,Yy2];constructor
   ·intro hy;by_cases e:y=o
    ·exact .inr e
    ·exact .inl ⟨hy,e⟩
   ·rintro(q | q)
    ·exact q.1
    ·rw[q];exact ho
  rw[Zq1]at h2;have h3:=Zh7 (m:=lms n.toNat (Zz6 ps (wo ts o))) (a:=(Zu ps o).1) (b:=(Zu ps o).2) (by lia) (by lia)
  have h4:=Zf3 (m:=lms n.toNat (Zz6 ps (wo ts o))) (a:=(Zu ps z).1) (b:=(Zu ps z).2) (by lia) (by lia) (λe=>hc ((ZS i0 hz.1 hz.2).mp e));have h5:=Zz95 (M:=lm (lms n.toNat (Zz6 ps (wo ts o))) (Zu ps z).1 (Zu ps z).2) (by rw[Zz92];lia)
  refine(Zz11 hn i1).mp ?_;rw[Zq1];lia
def cutT(n:Int)(ps:List (Int × Int))(ts:List Int)(o:Int):List Int:=unlike (lms n.toNat (Zz6 ps (wo ts o))) ps ps.length
theorem ZR5{M:List Int}{ps:List (Int × Int)}{i:Nat}{z:Int}(h:z∈unlike M ps i):0<=z/\z<(i:Int):=by
 unfold unlike at h;obtain⟨k,hk,rfl⟩:=YC.mp h
 have:=YH.mp (Yk.mp hk).1
 lia
theorem Zz01{n:Int}{ps:List (Int × Int)}{ts:List Int}{o z:Int}(g:Zv n ps)(hT:Zi n ps ts)(z0:0<=z)(z1:z<(ps.length:Int)):z∈cutT n ps ts o↔¬ Conn (Zz6 ps (wo ts o)) (Zu ps z).1 (Zu ps z).2:=by have hz:=Zs1 g z0 z1;unfold cutT;rw[ZP5 z0 z1];exact not_congr (ZS (ZJ g (ZM10 hT)) hz.1 hz.2)
def exg(n:Int)(ps:List (Int × Int))(ts:List Int)(o z:Int):Prop:=o∈ts/\z≠o/\z∈cutT n ps ts o
instance (n:Int) (ps:List (Int × Int)) (ts:List Int) (o z:Int):Decidable (exg n ps ts o z):=by unfold exg;infer_instance
theorem ZZ4{n:Int}{ps:List (Int × Int)}{ts:List Int}{o z:Int}(g:Zv n ps)(hT:Zi n ps ts) :
  exg n ps ts o z↔o∈ts/\z∉ts/\0<=z/\z<(ps.length:Int)/\∀ i j,i<n.toNat->j<n.toNat->Conn (Zz6 ps (wo ts o++[z])) i j:=by
 constructor
 ·rintro⟨h1,h2,h3⟩;obtain⟨z0,z1⟩:=ZR5 h3;have hc:=(Zz01 g hT z0 z1).mp h3
  refine⟨h1,λhz=>hc ?_,z0,z1,(exch g hT h1 z0 z1).mpr hc⟩;refine .edge ?_;exact YC.mpr ⟨z,wo_mem.mpr ⟨hz,h2⟩,rfl⟩
 ·rintro⟨h1,h2,z0,z1,hc⟩;exact⟨h1,λe=>h2 (e ▸ h1),(Zz01 g hT z0 z1).mpr ((exch g hT h1 z0 z1).mp hc)⟩
theorem PairsV.mut{H:Hp}{l:Addr}{ys zs xs:List V}{ps:List (Int × Int)}(hP:PairsV H xs ps)(hl:H l=some (.lst ys)):PairsV (upd H l (.lst zs)) xs ps:=by refine⟨hP.1,λj p e=>?_⟩;obtain⟨v,e1,tt,e2,e3⟩:=hP.2 j p e;exact⟨v,e1,tt,e2,by rw[Zb (Zs7 e3 hl (λz=>nomatch z))];exact e3⟩
end My
namespace L2
open PySem PySem.Spec PyProof.Rows
section
variable{X:Cx}
theorem Zx6{e:Addr->Bool}{n:Nat}{x:V}{w:Value}{pins:List (Addr × Obj)}{σ:St}{H:Hp}{s:Shared}(I:Inv X pins σ H s){A:Around}(hu:A.units+n<cLine)(rx:RelV x w):∀ {xs:List V} {us:List Value},Vals xs us->(∀ v∈xs,∃ a,v=.ref a/\EqD X.K H n v x (e a))->∀ u∈us,SeqAt.EqAt A s u w (match u with | .ref a=>e a | _=>false)
 | _,_,.nil,_=>λu hu=>by cases hu
 | y :: xs,u :: us,.cons r t,h=>λu' hu'=>by
  rcases Yf.mp hu' with rfl | hu'
  ·obtain⟨a,rfl,q⟩:=h y Ye;obtain rfl:u'=Value.ref a:=r;exact q.at I hu rfl rx
  ·exact Zx6 I hu rx t (λv hv=>h v (Yg _ hv)) u' hu'
end
end L2
namespace My
open PySem L2
theorem ZT2{n:Int}{ps:List (Int × Int)}{ts:List Int}{o y:Int}(g:Zv n ps)(hT:Zi n ps ts)(ho:o∈ts)(hy:y∈ts):y∈cutT n ps ts o↔y=o:=by
 have yb:=hT.1.all y hy;rw[Zz01 g hT yb.1 yb.2];constructor
 ·intro h;by_cases e:y=o
  ·exact e
  ·exact absurd (.edge (YC.mpr ⟨y,wo_mem.mpr ⟨hy,e⟩,rfl⟩)) h
 ·rintro rfl;refine(exch g hT hy yb.1 yb.2).mp λi j hi hj=>(Zz51 λz=>?_).mp (hT.2.2 i j hi hj);rw[Yy7,wo_mem,Yy2];constructor
  ·intro hz;by_cases e:z=y
   ·exact .inr e
   ·exact .inl ⟨hz,e⟩
  ·rintro(q | q)
   ·exact q.1
   ·rw[q];exact hy
theorem ringA_mem{n:Int}{ps:List (Int × Int)}{ts l:List Int}{z y:Int}:y∈Zp3 n ps ts z l↔y∈l/\z∈cutT n ps ts y:=by unfold Zp3;rw[Yk,Yy00];exact Iff.rfl
theorem Zg4{n:Int}{ps:List (Int × Int)}{ts ms:List Int}{o z:Int}(g:Zv n ps)(hT:Zi n ps ts)(hx:exg n ps ts o z)(hpm:ms.Perm (wo ts o++[z]))(hpw:ms.Pairwise (·<=·)):Zi n ps ms:=by
 obtain⟨ho,hz,z0,z1,hc⟩:=(ZZ4 g hT).mp hx;have nd:(wo ts o++[z]).Nodup:=ZG8 (hT.1.nodup.sublist List.filter_sublist) λh=>hz (wo_mem.mp h).1
 have ndm:ms.Nodup:=hpm.nodup_iff.mpr nd;have hl:=Zr4 hT.1.nodup ho
 have hl2:=hpm.length_eq;rw[Yy4,Yj]at hl2;refine⟨isSet_iff.mpr ⟨λy hy=>?_,(List.pairwise_and_iff.mpr ⟨hpw,ndm⟩).imp λ{x y} h=>by have:=h.1;have:=h.2;lia⟩,by rw[hl2,hl];exact hT.2.1,λi j hi hj=>(Zz51 λy=>hpm.mem_iff).mpr (hc i j hi hj)⟩;rcases Yy7.mp (hpm.mem_iff.mp hy) with h | h
 ·exact hT.1.all y (wo_mem.mp h).1
 ·rw[Yy2.mp h];exact⟨z0,z1⟩
section
variable{n:Int}{ps:List (Int × Int)}{ts ms:List Int}{o z:Int}(g:Zv n ps)(hT:Zi n ps ts)(hx:exg n ps ts o z)(hpm:ms.Perm (wo ts o++[z]))(hpw:ms.Pairwise (·<=·))
include g hT hx hpm hpw
theorem ZY4{y:Int}:y∈ms↔(y∈ts/\y≠o)\/y=z:=by rw[hpm.mem_iff,Yy7,wo_mem,Yy2]
end
def grd(n:Nat)(ps:List (Int × Int)):Nat->List Int
 | 0=>[]
 | k+1=>if mk (lms n (Zz6 ps (grd n ps k))) (Zu ps (k:Int)).1=mk (lms n (Zz6 ps (grd n ps k))) (Zu ps (k:Int)).2 then grd n ps k else grd n ps k++[(k:Int)]
theorem Zz12(n:Nat)(ps:List (Int × Int))(k:Nat):grd n ps (k+1)=if mk (lms n (Zz6 ps (grd n ps k))) (Zu ps (k:Int)).1=mk (lms n (Zz6 ps (grd n ps k))) (Zu ps (k:Int)).2 then grd n ps k else grd n ps k++[(k:Int)]:=rfl
theorem ZC5{n:Nat}{ps:List (Int × Int)}:∀ k,∀ z∈grd n ps k,0<=z/\z<(k:Int)
 | 0,z,h=>by cases h
 | k+1,z,h=>by
  rw[Zz12]at h;split at h
  ·have:=ZC5 k z h;lia
  ·rcases Yy7.mp h with h | h
   ·have:=ZC5 k z h;lia
   ·rw[Yy2.mp h];lia
theorem ZO3{n:Nat}{ps:List (Int × Int)}:∀ k,(grd n ps k).Pairwise (· < ·)
 | 0=>List.Pairwise.nil
 | k+1=>by
  rw[Zz12];split
  ·exact ZO3 k
  ·rw[Yy08];exact⟨ZO3 k,Y0A ..,λa ha b hb=>by rw[Yy2.mp hb];exact(ZC5 k a ha).2⟩
theorem ZN6{n:Nat}{ps:List (Int × Int)}{k:Nat}(hk:k<=ps.length):IsSet ps.length (grd n ps k):=isSet_iff.mpr ⟨λz hz=>by have:=ZC5 k z hz;lia,ZO3 k⟩
theorem Zz98{n:Int}{ps:List (Int × Int)}(g:Zv n ps){k:Nat}(hk:k<=ps.length):InN n.toNat (Zz6 ps (grd n.toNat ps k)):=ZJ g (ZN6 hk).all
theorem ZQ4{n:Nat}{ps:List (Int × Int)}{j:Nat}:∀ k,j<=k->∀ z,z∈grd n ps j↔z∈grd n ps k/\z<(j:Int)
 | 0,h,z=>by
  have:j=0:=by lia
  subst this;exact⟨λh=>(by cases h),λh=>h.1⟩
 | k+1,h,z=>by
  by_cases e:j=k+1
  ·subst e;exact⟨λh=>⟨h,(ZC5 _ z h).2⟩,λh=>h.1⟩
  ·have ih:=ZQ4 (n:=n) (ps:=ps) (j:=j) k (by lia) z;rw[Zz12,ih];split
   ·exact Iff.rfl
   ·rw[Yy7,Yy2];constructor
    ·rintro⟨h1,h2⟩;exact⟨.inl h1,h2⟩
    ·rintro⟨h1 | h1,h2⟩
     ·exact⟨h1,h2⟩
     ·lia
theorem ZU8{n:Int}{ps:List (Int × Int)}(g:Zv n ps){k j:Nat}(hk:k<=ps.length)(hj:j<k)(hn:(j:Int)∉grd n.toNat ps k):Conn (Zz6 ps (grd n.toNat ps j)) (Zu ps (j:Int)).1 (Zu ps (j:Int)).2:=by
 have he:=Zs1 (z:=(j:Int)) g (by lia) (by lia);have h1:(j:Int)∉grd n.toNat ps (j+1):=λh=>hn ((ZQ4 k hj _).mp h).1
 rw[Zz12]at h1;split at h1
 ·rename_i h;exact(ZS (Zz98 g (by lia)) he.1 he.2).mp h
 ·exact absurd (Yd _ (Yy2.mpr rfl)) h1
theorem ZS4{n:Int}{ps:List (Int × Int)}(g:Zv n ps):∀ k,k<=ps.length->cnt (lms n.toNat (Zz6 ps (grd n.toNat ps k)))+(grd n.toNat ps k).length=n.toNat
 | 0,_=>Zg3 n.toNat
 | k+1,hk=>by
  have ih:=ZS4 g k (by lia);have he:=Zs1 (z:=(k:Int)) g (by lia) (by lia)
  have hl:=ZD n.toNat (Zz6 ps (grd n.toNat ps k));rw[Zz12];split
  ·exact ih
  ·rename_i h;rw[Zz41,Zq1,Yy4,Yj]
   have:=Zf3 (m:=lms n.toNat (Zz6 ps (grd n.toNat ps k))) (by lia) (by lia) h
   grind
theorem ZO6{n:Int}{ps:List (Int × Int)}(g:Zv n ps){ts:List Int}(ht:∀ z∈ts,0<=z/\z<(ps.length:Int)){i j:Nat}(c:Conn (Zz6 ps ts) i j):Conn (Zz6 ps (grd n.toNat ps ps.length)) i j:=by
 induction c with
 | refl i=>exact .refl i
 | symm _ ih=>exact .symm ih
 | trans _ _ i1 i2=>exact .trans i1 i2
 | @edge a b h =>
  obtain⟨z,hz,e⟩:=YC.mp h;obtain⟨z0,z1⟩:=ht z hz;have ez:z=((z.toNat:Nat):Int):=by lia
  by_cases hm:z∈grd n.toNat ps ps.length
  ·exact .edge (YC.mpr ⟨z,hm,e⟩)
  ·rw[ez]at hm;have c:=ZU8 g (Yy8 _) (by lia) hm
   have c2:=c.mono (ZH λy hy=>((ZQ4 ps.length (by lia) y).mp hy).1);rw[<- ez]at c2;have ea:a=(Zu ps z).1:=(YV Prod.fst e).symm
   have eb:b=(Zu ps z).2:=(YV Prod.snd e).symm;rw[ea,eb];exact c2
theorem Zz710{n:Int}{ps:List (Int × Int)}(g:Zv n ps){ts:List Int}(hT:Zi n ps ts):Zi n ps (grd n.toNat ps ps.length):=by
 have hc:∀ i j,i<n.toNat->j<n.toNat->Conn (Zz6 ps (grd n.toNat ps ps.length)) i j:=λi j hi hj=>ZO6 g hT.1.all (hT.2.2 i j hi hj);have h1:=(Zz11 (by have:=g.1;lia) (Zz98 g (Yy8 _))).mpr hc
 have h2:=ZS4 g ps.length (Yy8 _);exact⟨ZN6 (Yy8 _),by have:=g.1;grind,hc⟩
theorem Zd4{n:Int}{ps:List (Int × Int)}(g:Zv n ps)(h:¬ ((grd n.toNat ps ps.length).length:Int)<n - 1):Zi n ps (grd n.toNat ps ps.length):=by
 have h2:=ZS4 g ps.length (Yy8 _);have h3:=Zz95 (M:=lms n.toNat (Zz6 ps (grd n.toNat ps ps.length))) (by rw[ZD];have:=g.1;grind)
 exact⟨ZN6 (Yy8 _),by have:=g.1;grind,(Zz11 (by have:=g.1;grind) (Zz98 g (Yy8 _))).mp (by lia)⟩
theorem Zz63:∀ {a b:List Int},a.length=b.length->HT.lexLt a b=true->∃(p:List Int) (x y:Int) (r s:List Int),a=p++x :: r/\b=p++y :: s/\x<y
 | [],[],_,h=>by cases h
 | [],_ :: _,e,_=>by simp at e
 | _ :: _,[],e,_=>by simp at e
 | x :: xs,y :: ys,e,h=>by
  rw[HT.lexLt_cons]at h;by_cases q:x=y
  ·subst q;rw[if_pos rfl]at h;obtain⟨p,u,v,r,s,e1,e2,e3⟩:=Zz63 (by simpa using e) h;exact⟨x :: p,u,v,r,s,by rw[e1];rfl,by rw[e2];rfl,e3⟩
  ·rw[if_neg q]at h;exact⟨[],x,y,xs,ys,rfl,rfl,Yw h⟩
theorem ZV1:∀ {a b:List Int},HT.lexLt a b=false->HT.lexLt b a=false->a=b
 | [],[],_,_=>rfl
 | [],_ :: _,h,_=>by cases h
 | _ :: _,[],_,h=>by cases h
 | x :: xs,y :: ys,h1,h2=>by
  rw[HT.lexLt_cons]at h1 h2;by_cases q:x=y
  ·subst q;rw[if_pos rfl]at h1 h2;rw[ZV1 h1 h2]
  ·rw[if_neg q]at h1;rw[if_neg (λe=>q e.symm)]at h2
   have:=of_decide_eq_false h1
   have:=of_decide_eq_false h2
   lia
theorem ZR4{n:Int}{ps:List (Int × Int)}(g:Zv n ps){ts:List Int}(hT:Zi n ps ts):HT.lexLt ts (grd n.toNat ps ps.length)=false:=by
 have hG:=Zz710 g hT;cases h:HT.lexLt ts (grd n.toNat ps ps.length) with
 | false=>rfl
 | true =>
  exfalso;obtain⟨p,x,y,r,s,e1,e2,hxy⟩:=Zz63 (by have:=hT.2.1;have:=hG.2.1;lia) h
  have hx:x∈ts:=by rw[e1];simp
  obtain⟨x0,x1⟩:=hT.1.all x hx;have at1:=(isSet_iff.mp hT.1).2
  have ag:=ZO3 (n:=n.toNat) (ps:=ps) ps.length;rw[e1,Yy08]at at1;rw[e2,Yy08]at ag;have px:∀ z∈p,z<x:=λz hz=>at1.2.2 z hz x Ye
  have ys:∀ z∈y :: s,x<z:=λz hz=>by
   rcases Yf.mp hz with e | hz
   ·rw[e];exact hxy
   ·have:=(YK.mp ag.2.1).1 z hz;lia
  have ex:x=((x.toNat:Nat):Int):=by lia
  have hn:((x.toNat:Nat):Int)∉grd n.toNat ps ps.length:=by
   rw[<- ex,e2,Yy7];rintro(h | h)
   ·have:=px x h;lia
   ·have:=ys x h;omega
  have c:=ZU8 g (Yy8 _) (by grind) hn;have c2:Conn (Zz6 ps (wo ts x)) (Zu ps x).1 (Zu ps x).2:=by
   rw[<- ex]at c;refine c.mono (ZH λz hz=>?_);obtain⟨h1,h2⟩:=(ZQ4 ps.length (by lia) z).mp hz;rw[<- ex]at h2;rw[e2,Yy7]at h1;rcases h1 with h1 | h1
   ·exact wo_mem.mpr ⟨by rw[e1];exact Yc _ h1,by lia⟩
   ·have:=ys z h1;lia
  exact(Zz01 g hT x0 x1).mp ((ZT2 g hT hx hx).mpr rfl) c2
theorem ZG4:∀ {a b c:List Int},HT.lexLt a b=true->HT.lexLt b c=true->HT.lexLt a c=true
 | [],[],_,h,_=>by cases h
 | [],_ :: _,[],_,h=>by cases h
 | [],_ :: _,_ :: _,_,_=>rfl
 | _ :: _,[],_,h,_=>by cases h
 | _ :: _,_ :: _,[],_,h=>by cases h
 | x :: xs,y :: ys,z :: zs,h1,h2=>by
  rw[HT.lexLt_cons]at h1 h2 ⊢;by_cases e1:x=y
  ·subst e1;rw[if_pos rfl]at h1;by_cases e2:x=z
   ·subst e2;rw[if_pos rfl]at h2 ⊢;exact ZG4 h1 h2
   ·rw[if_neg e2]at h2 ⊢;exact h2
  ·rw[if_neg e1]at h1;have h1:=Yw h1
   by_cases e2:y=z
   ·subst e2;rw[if_neg e1];exact Yx h1
   ·rw[if_neg e2]at h2;have h2:=Yw h2
    rw[if_neg (by lia)];exact Yx (by omega)
theorem Zs2:∀ a:List Int,HT.lexLt a a=false
 | []=>rfl
 | x :: xs=>by rw[HT.lexLt_cons,if_pos rfl];exact Zs2 xs
theorem best_le(bt:Nat->Nat->Bool):∀ j,argBest bt j<=j
 | 0=>Yy8 _
 | j+1=>by
  unfold argBest;split
  ·exact Yy8 _
  ·have:=best_le bt j;lia
def TupV(H:Hp)(v:V)(l:List Int):Prop:=∃ a,v=.ref a/\H a=some (.tup (IL l))
def nxt(s:List Int):Int:=match s.getLast? with | none=>0 | some x=>x+1
def ext1(m:Int)(s:List Int):List (List Int):=(List.range (m - nxt s).toNat).map λ(i:Nat)=>s++[nxt s+(i:Int)]
def cmb(m:Int):Nat->List (List Int)
 | 0=>[[]]
 | k+1=>(cmb m k).flatMap (ext1 m)
theorem ZL9(s:List Int)(x:Int):nxt (s++[x])=x+1:=by unfold nxt;rw[List.getLast?_append];rfl
theorem ext1_mem{m:Int}{s l:List Int}:l∈ext1 m s↔∃ t,nxt s<=t/\t<m/\l=s++[t]:=by
 unfold ext1;rw[YC];constructor
 ·rintro⟨i,hi,rfl⟩
  have:=YH.mp hi
  exact⟨_,by lia,by omega,rfl⟩
 ·rintro⟨t,h1,h2,rfl⟩;exact⟨(t - nxt s).toNat,YH.mpr (by lia),by rw[show nxt s+(((t - nxt s).toNat:Nat):Int)=t by lia]⟩
theorem asc_snoc{m:Nat}{s:List Int}{t:Int}:IsSet m (s++[t])↔IsSet m s/\nxt s<=t/\0<=t/\t<(m:Int):=by
 rw[isSet_iff,isSet_iff,Yy08];have last:(∀ a∈s,∀ b∈[t],a<b)/\s.Pairwise (· < ·)->nxt s<=t\/t<0:=by
  rintro⟨h,_⟩;unfold nxt;cases e:s.getLast? with
  | none=>by_cases h0:0<=t;exact .inl h0;exact .inr (by lia)
  | some x=>have:=h x (Y2f e) t (by simp);exact .inl (by show x+1<=t;lia)
 constructor
 ·rintro⟨h1,h2,_,h3⟩;have ht:=h1 t (by simp)
  refine⟨⟨λz hz=>h1 z (Yc _ hz),h2⟩,?_,ht⟩;rcases last ⟨h3,h2⟩ with h | h
  ·exact h
  ·omega
 ·rintro⟨⟨h1,h2⟩,h3,h4,h5⟩;refine⟨λz hz=>?_,h2,Y0A ..,λa ha b hb=>?_⟩
  ·rcases Yy7.mp hz with h | h
   ·exact h1 z h
   ·rw[Yy2.mp h];exact⟨h4,h5⟩
  ·rw[Yy2.mp hb];have key:∀ {s:List Int} {a:Int},s.Pairwise (· < ·)->a∈s->a<nxt s:=by
    refine λ{s}=>Zl1 (P:=λs=>∀ {a:Int},s.Pairwise (· < ·)->a∈s->a<nxt s) (λ{a} _ h=>by cases h) (λl x ih {a} hp h=>?_) s;rw[ZL9];rw[Yy08]at hp;rcases Yy7.mp h with h | h
    ·have:=hp.2.2 a h x (by simp);lia
    ·rw[Yy2.mp h];lia
   have:=key h2 ha
   lia
theorem cmb_mem{m:Nat}:∀ {k:Nat} {l:List Int},l∈cmb (m:Int) k↔l.length=k/\IsSet m l
 | 0,l=>by
  show l∈[[]]↔_;rw[Yy2];constructor
  ·rintro rfl;exact⟨rfl,λi z e=>by simp at e⟩
  ·rintro⟨h,_⟩;exact YN.mp h
 | k+1,l=>by
  show l∈(cmb (m:Int) k).flatMap (ext1 m)↔_;rw[List.mem_flatMap];constructor
  ·rintro⟨s,hs,hl⟩;obtain⟨t,h1,h2,rfl⟩:=ext1_mem.mp hl;obtain⟨e,hI⟩:=cmb_mem.mp hs;have n0:0<=nxt s:=by
    unfold nxt;cases q:s.getLast? with
    | none=>exact Y1j 0
    | some x=>have:=(hI.all x (Y2f q)).1;show 0<=x+1;lia
   exact⟨by rw[Yy4,e];rfl,asc_snoc.mpr ⟨hI,h1,by lia,h2⟩⟩
  ·rintro⟨e,hI⟩;have hne:l≠[]:=λz=>by rw[z]at e;simp at e
   obtain⟨s,t,rfl⟩:∃ s t,l=s++[t]:=⟨l.dropLast,l.getLast hne,(Y2L hne).symm⟩;obtain⟨h1,h2,h3,h4⟩:=asc_snoc.mp hI;exact⟨s,cmb_mem.mpr ⟨by rw[Yy4]at e;simpa using e,h1⟩,ext1_mem.mpr ⟨t,h2,h4,rfl⟩⟩
theorem Zd10{m:Nat}{s:List Int}(h:IsSet m s):(ext1 (m:Int) s).length<=m:=by
 unfold ext1;rw[Yb,Y0k];have n0:0<=nxt s:=by
  unfold nxt;cases q:s.getLast? with
  | none=>exact Y1j 0
  | some x=>have:=(h.all x (Y2f q)).1;show 0<=x+1;lia
 omega
theorem ZW6{m:Nat}:∀ L:List (List Int),(∀ s∈L,IsSet m s)->(L.flatMap (ext1 (m:Int))).length<=m * L.length
 | [],_=>Yl _
 | s :: L,h=>by
  have:=ZW6 L λx hx=>h x (Yg _ hx)
  have:=Zd10 (h s Ye)
  rw[List.flatMap_cons,Yy4,YD,Nat.mul_succ];lia
theorem ZV3:∀ {w t:List Int},t.Pairwise (· < ·)->w.Pairwise (· < ·)->(∀ z∈t,z∈w)->t.Sublist w
 | [],[],_,_,_=>List.Sublist.slnil
 | [],x :: t,_,_,h=>absurd (h x Ye) (by simp)
 | y :: w,[],_,_,_=>List.nil_sublist _
 | y :: w,x :: t,ht,hw,h=>by
  obtain⟨h1,h2⟩:=YK.mp ht;obtain⟨h3,h4⟩:=YK.mp hw;by_cases e:x=y
  ·subst e;refine List.Sublist.cons₂ _ (ZV3 h2 h4 λz hz=>?_);rcases Yf.mp (h z (Yg _ hz)) with q | q
   ·have:=h1 z hz;lia
   ·exact q
  ·have hx:x∈w:=(Yf.mp (h x Ye)).resolve_left e;refine List.Sublist.cons _ (ZV3 ht h4 λz hz=>?_);rcases Yf.mp (h z hz) with q | q
   ·have:=h3 x hx
    rcases Yf.mp hz with q2 | q2
    ·rw[q2];exact hx
    ·have:=h1 z q2;lia
   ·exact q
def pmf(M:List Int)(es:List (Nat × Nat)):List Int:=es.foldl (λm e=>pm m e.1 e.2) M
theorem ZD9(M:List Int)(es:List (Nat × Nat))(e:Nat × Nat):pmf M (es++[e])=pm (pmf M es) e.1 e.2:=by unfold pmf;rw[Y1Y];rfl
theorem Zh6(M:List Int):∀ es:List (Nat × Nat),(pmf M es).length=M.length:=by
 intro es;unfold pmf
 induction es generalizing M with
 | nil=>rfl
 | cons e l ih=>rw[Y2b,ih,ZR1]
theorem Zz97{xs:List V}{i:Int}(h0:0<=i):cutV xs none (some i)=xs.take i.toNat:=by
 have e:HT.sIx xs.length xs.length (some i)=min i.toNat xs.length:=by show(if i<0 then (i+(xs.length:Int)).toNat else min i.toNat xs.length)=_;rw[if_neg (by lia)]
 unfold cutV;rw[e,HT.sIx_none,List.drop_zero,Nat.sub_zero];by_cases h:i.toNat<=xs.length
 ·rw[Y1O h]
 ·rw[Y2J (by lia),Yy07 (Yy8 _),Yy07 (by omega)]
def rgL(m:Nat):List Int:=(List.range m).map λ(i:Nat)=>(i:Int)
theorem rgL_mem{m:Nat}{z:Int}:z∈rgL m↔0<=z/\z<(m:Int):=by
 unfold rgL;rw[YC];constructor
 ·rintro⟨i,hi,rfl⟩
  have:=YH.mp hi
  lia
 ·intro h;exact⟨z.toNat,YH.mpr (by lia),by lia⟩
theorem ZI(m:Nat):(rgL m).length=m:=by unfold rgL;simp
theorem Yz3(m:Nat):(rgL m).Pairwise (· < ·):=by unfold rgL;rw[Y0B];exact Y0V.imp λh=>by omega
theorem ZL2(m:Nat):IsSet m (rgL m):=isSet_iff.mpr ⟨λz hz=>rgL_mem.mp hz,Yz3 m⟩
theorem Zt9(m:Nat):rngI 0 (m:Int)=rgL m:=by unfold rngI rgL;rw[Y2M,YA];exact YR λi _=>by lia
def ZI2(n:Int)(ps:List (Int × Int)):Prop:=∀ i j,i<n.toNat->j<n.toNat->Conn (Zz6 ps (rgL ps.length)) i j
end My
namespace L2
open PySem PySem.Spec PyProof.Rows
section
variable{prog:Program}{w:World}{A:Around}{E:Value->Shared->Prop}{s:Shared}
theorem ZG5{r:Addr}{a b c:Int}{t u v:Tok}{n:Nat}{Q:List Value->Shared->Prop}(hh:A.handled=none)(hr:IsRange s.heap r a b c t u v)(hm:Builtin.Range.small a b c=true)(hn:Builtin.Range.rangeSize a b c=n)(hl:n<=2 ^ 24)
  (k:∀(h':Heap) (tk:Nat) (acc:Array Value),(∀ b o,s.heap.get? b=some o->h'.get? b=some o)->ItemsOf (λi v=>∃ t,v=.int (a+i * c) t) acc n->Q acc.toList { s with heap:=h',toks:=tk }):wpAny (model prog w) A (collect (.ref r)) Q E s:=by
 have hL1:(s.heap.push (seqObj "list" #[] 0)).get? s.heap.objs.size=some (seqObj "list" #[] 0):=Ym _ rfl;unfold collect;refine Yy3 (Y2D (Y0d Y3g ?_));show wpAny _ A.in1 (do again (.builtin "list.__iadd__" ⟨[<- newList [],.ref r],[]⟩)) _ _ s
 refine Yy3 (Y1D (Yi ⟨Yy28 _ (by decide +kernel),Y0d entry_list_iadd' ?_⟩));show wpAny _ A.in1 (Builtin.List.listExtendWith (.ref s.heap.objs.size) (.ref r) (.ref s.heap.objs.size)) _ _ { s with heap:=s.heap.push (seqObj "list" #[] 0) }
 refine Y0J (wpAny_extend_range (A:=A) (R:=λx s'=>∃(h':Heap) (tk:Nat) (acc:Array Value) (c':Nat),x=.ok (.ret (.ref s.heap.objs.size))/\s'={ s with heap:=h',toks:=tk }/\(∀ b o,s.heap.get? b=some o->h'.get? b=some o) /\
   h'.get? s.heap.objs.size=some { cls:=.type "list",dict:=none,data:=.seq acc c',slots:=#[] }/\ItemsOf (λi v=>∃ t,v=.int (a+i * c) t) acc n)
  (s:={ s with heap:=s.heap.push (seqObj "list" #[] 0) }) hh (Yy5 _ hr) hm hn hl _ _ 0 hL1 λh' tk acc c' k1 k2 k3=>⟨h',tk,acc,c',rfl,rfl,λb o e=>k1 b o (Yr (Yn e)) (Yy5 _ e),k2,k3⟩) (λfin s' z=>?_) (λe s' z=>?_)
 ·cases fin with
  | done f =>
   obtain⟨h',tk,acc,c',e,rfl,k1,k2,k3⟩:=z;cases e;refine Yy3 (Y3n k2 ?_);exact Yi (k h' tk acc k1 k3)
  | again c' =>
   refine⟨z.1,Y1y z.2 λx s2 z=>?_⟩;obtain⟨h',tk,acc,c',rfl,rfl,k1,k2,k3⟩:=z;refine Yy3 (Y3n k2 ?_);exact Yi (k h' tk acc k1 k3)
 ·obtain⟨h',tk,acc,c',e,_⟩:=z;cases e
theorem ZI3{r:Addr}{a b c:Int}{t u v:Tok}{n:Nat}(hm:Builtin.Range.small a b c=true)(hn:Builtin.Range.rangeSize a b c=n)(hl:n<=2 ^ 24) :
  Meets (Builtin.«tuple.__new__» ⟨[.type "tuple",.ref r],[]⟩) (λA R s=>A.handled=none/\IsRange s.heap r a b c t u v/\∀(h':Heap) (tk:Nat) (acc:Array Value),(∀ b o,s.heap.get? b=some o->h'.get? b=some o)->ItemsOf (λi v=>∃ t,v=.int (a+i * c) t) acc n ->
   R (.ok (.ret (.ref h'.objs.size))) { s with heap:=h'.push (seqObj "tuple" acc 0),toks:=tk }) :=
 .of_wp λprog w A R s h=>by
  obtain⟨hh,hr,h⟩:=h;have e1:=sub_tuple_self
  have e2:=init_tuple_lookup;have e3:=madeHere_tuple
  have hT:s.TypeIs (.ref r) "range":=⟨_,hr,rfl⟩;have hh1:A.in1.handled=none:=hh
  wp_walk using Y2w hT,ZG5 hh1 hr hm hn hl
  intro h' tk acc hk hacc;show wpAny _ _ (Builtin.Tuple.tupleExact acc.toList.toArray >>= ret) _ _ _
  unfold Builtin.Tuple.tupleExact;have e:acc.toList.toArray=acc:=by simp
  rw[e];refine Yy3 (Y0v ?_ (by show acc.size<=sizeLine;rw[hacc.1,Y0r];exact hl));exact Yi ⟨_,rfl,h h' tk acc hk hacc⟩
theorem ZB2{r:Addr}{a b c:Int}{t u v:Tok}{n:Nat}{Q:Value->Shared->Prop}(hh:A.handled=none)(hr:IsRange s.heap r a b c t u v)(hm:Builtin.Range.small a b c=true)(hn:Builtin.Range.rangeSize a b c=n)(hl:n<=2 ^ 24)
  (k:∀(h':Heap) (tk:Nat) (acc:Array Value),(∀ b o,s.heap.get? b=some o->h'.get? b=some o)->ItemsOf (λi v=>∃ t,v=.int (a+i * c) t) acc n->Q (.ref h'.objs.size) { s with heap:=h'.push (seqObj "tuple" acc 0),toks:=tk }):wpAny (model prog w) A (call (.type "tuple") [.ref r]) Q E s :=
 callType_new F.called_tuple (by decide) (F.typeCall_tuple_1 _) (F.newCall_tuple_1 _) (λo=>F.args_object_init_2 o _) F.entry_tuple_new (ZI3 (t:=t) (u:=u) (v:=v) hm hn hl)
  ⟨hh,hr,λh' tk acc hk hacc=>⟨⟨_,Ym _ rfl,rfl⟩,k h' tk acc hk hacc⟩⟩
end
section
variable{X:Cx}
theorem Zj3 (hc:X.calm=true):ZX3 X (.type "tuple") (λxs H Q=>∃ p lo hi,xs=[.ref p]/\H p=some (.rng lo hi)/\(-(2 ^ 62)<=lo/\lo<2 ^ 62/\-(2 ^ 62)<=hi/\hi<2 ^ 62)/\(hi - lo).toNat<=16777216 /\
  ∀ l,H l=none->Q (.ref l) (upd H l (.tup ((rngI lo hi).map V.int)))):=by
 intro pins s σ H xs us Q I r h;obtain⟨p,lo,hi,rfl,hp,⟨b1,b2,b3,b4⟩,hz,q⟩:=h;obtain⟨u,rfl,ru⟩:=ZZ3 r;obtain rfl:u=Value.ref p:=ru;obtain⟨t,u,v,e⟩:=(show ObjOk X.prog X.w H s.heap p (.rng lo hi) from I.hok p _ hp);have hn:Builtin.Range.rangeSize lo hi 1=(((hi - lo).toNat:Nat):Int):=by rw[rangeSize_one];split <;> grind
 refine ZB2 (I.ok.hd hc) (t:=t) (u:=u) (v:=v) e (small_one b1 b2 b3 b4) hn hz λh' tk acc hk ha=>?_;have hl:acc.toList.length=(hi - lo).toNat:=by rw[YB];exact ha.1
 have rv:Vals ((rngI lo hi).map V.int) acc.toList:=ZN5 (lo:=lo) hl λj w ew=>by obtain⟨t,e⟩:=ha.2 j w (by simpa using ew);exact⟨t,by rw[e,Y1i]⟩
 have I1:Inv X pins σ H { s with heap:=h',toks:=tk }:=I.kept (t':=tk) hk;have hz2:((rngI lo hi).map V.int).length<=sizeLine:=by
  rw[Yb,ZK2]
  have:sizeLine=16777216:=Y0r
  lia
 have I2:Inv X pins σ (upd H h'.objs.size (.tup ((rngI lo hi).map V.int))) { s with heap:=h'.push (seqObj "tuple" acc.toList.toArray 0),toks:=tk } :=
  I1.laid (t':=tk) (λb o e=>Yy5 _ e) (Yy8 _) (show ObjOk X.prog X.w _ _ _ (.tup ((rngI lo hi).map V.int)) from⟨hz2,acc.toList,rv,IsTup.new _ _⟩)
 have ea:acc.toList.toArray=acc:=by simp
 rw[ea]at I2;exact⟨.ref h'.objs.size,_,I2,rfl,q _ (I1.hok.fresh (Yy8 _))⟩
end
end L2
namespace My
open PySem L2
def gst(n:Nat)(ps:List (Int × Int))(G:List Int)(z:Int):List Int:=if mk (lms n (Zz6 ps G)) (Zu ps z).1=mk (lms n (Zz6 ps G)) (Zu ps z).2 then G else G++[z]
def grw(n:Nat)(ps:List (Int × Int))(zs:List Int):List Int:=zs.foldl (gst n ps) []
theorem Zr1(n:Nat)(ps:List (Int × Int))(zs:List Int)(z:Int):grw n ps (zs++[z])=gst n ps (grw n ps zs) z:=by unfold grw;rw[Y1Y];rfl
theorem ZP4(n:Nat)(ps:List (Int × Int))(zs:List Int):∀ ys,∃ us,grw n ps (zs++ys)=grw n ps zs++us/\us.Sublist ys:=by
 refine Zl1 ⟨[],by simp⟩ λys y ih=>?_;obtain⟨us,e,s⟩:=ih;rw[<- Y0a,Zr1,e];unfold gst;split
 ·exact⟨us,rfl,s.trans (List.sublist_append_left _ _)⟩
 ·exact⟨us++[y],by rw[Y0a],s.append (List.Sublist.refl _)⟩
theorem ZM4(n:Nat)(ps:List (Int × Int))(zs:List Int):(grw n ps zs).Sublist zs:=by obtain⟨us,e,s⟩:=ZP4 n ps [] zs;rw[Y0t]at e;rw[e];exact s
theorem ZN4(n:Nat)(ps:List (Int × Int)):∀ k,grw n ps ((List.range k).map λ(i:Nat)=>(i:Int))=grd n ps k
 | 0=>rfl
 | k+1=>by rw[Y1l,YL,List.map_singleton,Zr1,ZN4 n ps k,Zz12];rfl
theorem ZT11{n:Nat}{ps:List (Int × Int)}{zs:List Int}(h:∀ z∈zs,0<=z/\z<(ps.length:Int)):∀ z∈grw n ps zs,0<=z/\z<(ps.length:Int):=λz hz=>h z ((ZM4 n ps zs).subset hz)
theorem ZB5{n:Int}{ps:List (Int × Int)}(g:Zv n ps){zs:List Int}(h:∀ z∈zs,0<=z/\z<(ps.length:Int)):InN n.toNat (Zz6 ps (grw n.toNat ps zs)):=ZJ g (ZT11 h)
theorem ZO4{n:Int}{ps:List (Int × Int)}(g:Zv n ps):∀ zs:List Int,(∀ z∈zs,0<=z/\z<(ps.length:Int))->cnt (lms n.toNat (Zz6 ps (grw n.toNat ps zs)))+(grw n.toNat ps zs).length=n.toNat:=by
 refine Zl1 (λ_=>Zg3 n.toNat) λzs z ih h=>?_;have h1:∀ z∈zs,0<=z/\z<(ps.length:Int):=λy hy=>h y (Yc _ hy)
 have ih:=ih h1;obtain⟨z0,z1⟩:=h z (Yd _ (Yy2.mpr rfl));have he:=Zs1 (z:=z) g z0 z1
 have hl:=ZD n.toNat (Zz6 ps (grw n.toNat ps zs));rw[Zr1];unfold gst;split
 ·exact ih
 ·rename_i h;rw[Zz41,Zq1,Yy4,Yj]
  have:=Zf3 (m:=lms n.toNat (Zz6 ps (grw n.toNat ps zs))) (by lia) (by lia) h
  grind
theorem ZR8{n:Int}{ps:List (Int × Int)}(g:Zv n ps){zs:List Int}(h:∀ z∈zs,0<=z/\z<(ps.length:Int)):(grw n.toNat ps zs).length<=14:=by
 have:=ZO4 g zs h
 have:=g.2.1
 lia
theorem Zz610{n:Int}{ps:List (Int × Int)}(g:Zv n ps):∀ zs:List Int,(∀ z∈zs,0<=z/\z<(ps.length:Int))->∀ {i j:Nat},Conn (Zz6 ps zs) i j->Conn (Zz6 ps (grw n.toNat ps zs)) i j:=by
 refine Zl1 (λ_ _ _ c=>c) λzs z IH h i j c=>?_;have h1:∀ z∈zs,0<=z/\z<(ps.length:Int):=λy hy=>h y (Yc _ hy)
 obtain⟨z0,z1⟩:=h z (Yd _ (Yy2.mpr rfl));have he:=Zs1 (z:=z) g z0 z1
 have up:∀ {a b:Nat},Conn (Zz6 ps (grw n.toNat ps zs)) a b->Conn (Zz6 ps (grw n.toNat ps (zs++[z]))) a b:=λc=>by
  rw[Zr1];unfold gst;split
  ·exact c
  ·exact c.mono (ZH λy hy=>Yc _ hy)
 have own:Conn (Zz6 ps (grw n.toNat ps (zs++[z]))) (Zu ps z).1 (Zu ps z).2:=by
  rw[Zr1];unfold gst;split
  ·rename_i e;exact(ZS (ZB5 g h1) he.1 he.2).mp e
  ·rw[Zz41];exact .edge (Yd _ (Yy2.mpr rfl))
 induction c with
 | refl i=>exact .refl i
 | symm _ ih=>exact .symm ih
 | trans _ _ i1 i2=>exact .trans i1 i2
 | @edge a b e =>
  rw[Zz41]at e;rcases Yy7.mp e with e | e
  ·exact up (IH h1 (.edge e))
  ·have e:=Yy2.mp e;have ea:a=(Zu ps z).1:=YV Prod.fst e
   have eb:b=(Zu ps z).2:=YV Prod.snd e;rw[ea,eb];exact own
theorem ZY1{n:Int}{ps:List (Int × Int)}(g:Zv n ps):ZI2 n ps↔¬ ((grd n.toNat ps ps.length).length:Int)<n - 1:=by
 constructor
 ·intro h;have hc:∀ i j,i<n.toNat->j<n.toNat->Conn (Zz6 ps (grd n.toNat ps ps.length)) i j:=λi j hi hj=>ZO6 g (λz hz=>rgL_mem.mp hz) (h i j hi hj)
  have h1:=(Zz11 (by have:=g.1;lia) (Zz98 g (Yy8 _))).mpr hc;have h2:=ZS4 g ps.length (Yy8 _)
  have:=g.1
  grind
 ·intro h i j hi hj;exact((Zd4 g h).2.2 i j hi hj).mono (ZH λz hz=>rgL_mem.mpr (by have:=ZC5 ps.length z hz;lia))
end My
namespace PyProof.Rows
open PySem
abbrev dK:Keyed:=(Value.none,Value.none)
section
variable{O:KeyOrd}{key:Keyed->O.α}{kd:SortKind}
def RK(O:KeyOrd)(key:Keyed->O.α)(x y:Keyed):Prop:=O.kle (key x) (key y)
structure MI (O:KeyOrd) (key:Keyed->O.α) (la lb:List Keyed) (out:Array Keyed) (ia ib:Nat):Prop where
 so:out.toList.Pairwise (RK O key)
 oa:∀ x∈out.toList,∀ y∈la.drop ia,RK O key x y
 ob:∀ x∈out.toList,∀ y∈lb.drop ib,RK O key x y
 pm:(out.toList++la.drop ia++lb.drop ib).Perm (la++lb)
abbrev LoS:=Option (Array Keyed) × Array Keyed × Nat × Nat × Nat × Nat × Nat
structure MH (O:KeyOrd) (key:Keyed->O.α) (la lb:List Keyed) (out:Array Keyed) (na nb:Nat):Prop where
 so:out.toList.Pairwise λx y=>RK O key y x
 oa:∀ x∈la.take na,∀ y∈out.toList,RK O key x y
 ob:∀ x∈lb.take nb,∀ y∈out.toList,RK O key x y
 pm:(la.take na++lb.take nb++out.toList).Perm (la++lb)
abbrev HiS:=Option (Array Keyed) × Nat × Nat × Array Keyed × Nat × Nat × Nat
def offs:List (List Keyed)->Nat->List (Nat × Nat)
 | [],_=>[]
 | g :: gs,o=>(o,g.length) :: offs gs (o+g.length)
structure PI (O:KeyOrd) (key:Keyed->O.α) (kd:SortKind) (a₀:Array Keyed) (st:SortSt) (segs:List (List Keyed)) (rest:List Keyed):Prop where
 kind:kindOf st=kd
 fail:failedOf st=none
 perm:(arrOf st).Perm a₀
 arr:(arrOf st).toList=segs.flatten++rest
 srt:∀ g∈segs,1<=g.length/\g.Pairwise (RK O key)
 pend:(pendingOf st).toList.map (λp=>(p.1,p.2.1))=offs segs 0
end
end PyProof.Rows
namespace L2
open PySem PySem.Spec PyProof.Rows
section
def sameBut(a:Addr)(h h':Heap):Prop:=∀ b o,b≠a->h.get? b=some o->h'.get? b=some o
end
end L2
namespace My
open PySem L2
abbrev lexS(a b:List Int):Prop:=HT.lexLt a b=true
theorem ZI8:∀(p a b:List Int),HT.lexLt (p++a) (p++b)=HT.lexLt a b
 | [],a,b=>rfl
 | x :: p,a,b=>by rw[Y1I,Y1I,HT.lexLt_cons,if_pos rfl,ZI8 p]
theorem ZH8:∀ {s t:List Int} (a b:List Int),s.length=t.length->HT.lexLt s t=true->HT.lexLt (s++a) (t++b)=true
 | [],[],a,b,_,h=>by cases h
 | [],_ :: _,a,b,e,_=>by simp at e
 | _ :: _,[],a,b,e,_=>by simp at e
 | x :: s,y :: t,a,b,e,h=>by
  rw[HT.lexLt_cons]at h;rw[Y1I,Y1I,HT.lexLt_cons];split
  ·rename_i q;rw[if_pos q]at h;exact ZH8 a b (by simpa using e) h
  ·rename_i q;rw[if_neg q]at h;exact h
theorem Zm4(m:Int):∀ k,∀ l∈cmb m k,l.length=k
 | 0,l,h=>by rw[Yy2.mp h];rfl
 | k+1,l,h=>by obtain⟨s,hs,hl⟩:=List.mem_flatMap.mp h;obtain⟨t,_,_,rfl⟩:=ext1_mem.mp hl;rw[Yy4,Zm4 m k s hs];rfl
theorem Zz69(m:Int):∀ k,(cmb m k).Pairwise lexS
 | 0=>Y0A ..
 | k+1=>by
  show((cmb m k).flatMap (ext1 m)).Pairwise lexS;rw[List.pairwise_flatMap];refine⟨λs _=>?_,Y3d (λ{s t} hs ht hst=>?_) (Zz69 m k)⟩
  ·unfold ext1;rw[Y0B];refine Y0V.imp λ{i j} hij=>?_;show HT.lexLt _ _=true
   rw[ZI8,HT.lexLt_cons,if_neg (by lia)];exact Yx (by lia)
  ·intro x hx y hy;obtain⟨u,_,_,rfl⟩:=ext1_mem.mp hx;obtain⟨v,_,_,rfl⟩:=ext1_mem.mp hy;exact ZH8 _ _ (by rw[Zm4 m k s hs,Zm4 m k t ht]) hst
theorem Zi2{α:Type}[DecidableEq α]:∀ {l m:List α},l.Nodup->(∀ x∈l,x∈m)->l.length<=m.length
 | [],m,_,_=>Yl _
 | x :: l,m,h,hs=>by
  obtain⟨h1,h2⟩:=Y0n.mp h;have hx:=hs x Ye
  have:=Zi2 (l:=l) (m:=m.erase x) h2 λy hy=>(Y2g (λ(e:y=x)=>h1 (e ▸ hy))).mpr (hs y (Yg _ hy))
  rw[Y1V hx]at this
  have:=Y1q hx
  rw[YD];grind
end My
namespace L2
open PySem PySem.Spec PyProof.Rows
def ZT13(i j:Int):Prop:=(-(10 ^ 200)<i/\i<10 ^ 200)/\(-(10 ^ 200)<j/\j<10 ^ 200)
theorem ZU3{a:Int}(h1:-(10 ^ 200)<a)(h2:a<10 ^ 200):Builtin.Int.intBits a<=1000:=by
 have h:a.natAbs<10 ^ 200:=by omega
 exact PySem.intBits_le_iff.mpr (Nat.lt_trans h (by decide))
section
variable{X:Cx}
theorem ZH3:OpR X (binaryOp .Mult) (rI ZT13 λi j=>.int (i * j)):=opI λ_ _ _ _ _ _ _ hc q=>mul_int q (.of_bits (Yt (ZU3 hc.1.1 hc.1.2) (by decide)) (Yt (ZU3 hc.2.1 hc.2.2) (by decide)))
end
end L2
namespace My
open PySem L2
theorem Yz4{n:Int}{ps:List (Int × Int)}{T:List Int}{z:Int}(g:Zv n ps)(hT:Zi n ps T)(z0:0<=z)(z1:z<(ps.length:Int)):Conn (Zz6 ps (Zp3 n ps T z T)) (Zu ps z).1 (Zu ps z).2:=by
 have he:=Zs1 (z:=z) g z0 z1;have key:∀ D:List Int,(∀ o∈D,o∈T/\z∉cutT n ps T o)->Conn (Zz6 ps (T.filter λy=>decide (y∉D))) (Zu ps z).1 (Zu ps z).2:=by
  intro D
  induction D with
  | nil =>
   intro _;have e:(T.filter λy=>decide (y∉([]:List Int)))=T:=Y2n.mpr λy _=>by simp
   rw[e];exact hT.2.2 _ _ he.1 he.2
  | cons o D ih =>
   intro hD;have c:=ih λy hy=>hD y (Yg _ hy)
   obtain⟨hoT,hoc⟩:=hD o Ye;by_cases hoD:o∈D
   ·refine c.mono (ZH λy hy=>?_);obtain⟨h1,h2⟩:=Yk.mp hy;have h2:=Yw h2
    exact Yk.mpr ⟨h1,Yx λh=>(Yf.mp h).elim (λe=>h2 (e ▸ hoD)) h2⟩
   ·refine Yy λhno=>?_;have hsub:∀ y,y∈(T.filter λy=>decide (y∉o :: D))->y∈wo T o:=λy hy=>by
     obtain⟨h1,h2⟩:=Yk.mp hy;have h2:=Yw h2
     exact wo_mem.mpr ⟨h1,λe=>h2 (by rw[e];exact Ye)⟩
    have c2:Conn (Zz6 ps ((T.filter λy=>decide (y∉o :: D))++[o])) (Zu ps z).1 (Zu ps z).2:=(Zz51 λy=>by
     rw[Yy7,Yk,Yk,Yy2];simp only [Y0S,Yf,not_or];constructor
     ·rintro⟨h1,h2⟩;by_cases e:y=o
      ·exact .inr e
      ·exact .inl ⟨h1,e,h2⟩
     ·rintro(⟨h1,_,h2⟩ | e)
      ·exact⟨h1,h2⟩
      ·rw[e];exact⟨hoT,hoD⟩).mp c
    have hall:∀ y∈(T.filter λy=>decide (y∉o :: D)),0<=y/\y<(ps.length:Int):=λy hy=>hT.1.all y (Yk.mp hy).1;obtain⟨o0,o1⟩:=hT.1.all o hoT;have hin:InN n.toNat (Zz6 ps (T.filter λy=>decide (y∉o :: D))):=ZJ g hall
    have hin1:InN n.toNat (Zz6 ps ((T.filter λy=>decide (y∉o :: D))++[o])):=ZJ g λy hy=>by
     rcases Yy7.mp hy with h | h
     ·exact hall y h
     ·rw[Yy2.mp h];exact⟨o0,o1⟩
    have hoe:=Zs1 (z:=o) g o0 o1;have hl:=ZD n.toNat (Zz6 ps (T.filter λy=>decide (y∉o :: D)))
    have own:¬ Conn (Zz6 ps (wo T o)) (Zu ps o).1 (Zu ps o).2:=(Zz01 g hT o0 o1).mp ((ZT2 g hT hoT hoT).mpr rfl);have cw:Conn (Zz6 ps (wo T o)) (Zu ps z).1 (Zu ps z).2:=Yy λh=>hoc ((Zz01 g hT z0 z1).mpr h)
    have up:∀ {i j:Nat},i<n.toNat->j<n.toNat->mk (lms n.toNat (Zz6 ps (T.filter λy=>decide (y∉o :: D)))) i=mk (lms n.toNat (Zz6 ps (T.filter λy=>decide (y∉o :: D)))) j->Conn (Zz6 ps (wo T o)) i j:=λhi hj e=>((ZS hin hi hj).mp e).mono (ZH hsub);have m:=(ZS hin1 he.1 he.2).mpr c2
    rw[Zz41,Zq1,ZE6 (by lia) (by lia)]at m;rcases m with m | ⟨m1,m2⟩
    ·exact hno ((ZS hin he.1 he.2).mp m)
    ·rcases m1 with m1 | m1 <;> rcases m2 with m2 | m2
     ·exact hno ((ZS hin he.1 he.2).mp (m1.trans m2.symm))
     ·exact own (((up he.1 hoe.1 m1).symm.trans cw).trans (up he.2 hoe.2 m2))
     ·exact own (((up he.2 hoe.1 m2).symm.trans cw.symm).trans (up he.1 hoe.2 m1))
     ·exact hno ((ZS hin he.1 he.2).mp (m1.trans m2.symm))
 have c:=key (T.filter λy=>decide (z∉cutT n ps T y)) λo ho=>by obtain⟨h1,h2⟩:=Yk.mp ho;exact⟨h1,Yw h2⟩
 refine c.mono (ZH λy hy=>?_);obtain⟨h1,h2⟩:=Yk.mp hy;have h2:=Yw h2
 exact ringA_mem.mpr ⟨h1,Yy λh=>h2 (Yk.mpr ⟨h1,Yx h⟩)⟩
inductive WP (n:Int) (ps:List (Int × Int)) (W:List Int) (T0:List Int):List Int->List (Int × Int)->List Int->Prop
 | nil:WP n ps W T0 [] [] T0
 | skip {l:List Int} {ws:List (Int × Int)} {T:List Int} {z:Int}:WP n ps W T0 l ws T->z∈T->WP n ps W T0 (l++[z]) ws T
 | step {l:List Int} {ws:List (Int × Int)} {T T':List Int} {z o:Int}:WP n ps W T0 l ws T->z∉T->o∈Zp3 n ps T z T->o∉W->(∀ y∈Zp3 n ps T z T,y∉W->o<=y)->T'.Perm (wo T o++[z])->T'.Pairwise (·<=·)->WP n ps W T0 (l++[z]) (ws++[(o,z)]) T'
theorem Zo7{a b:List Int}(ha:a.Pairwise (· < ·))(hb:b.Pairwise (· < ·))(h:∀ z,z∈a↔z∈b):a=b :=
 (ZV3 ha hb λz hz=>(h z).mp hz).eq_of_length (Y2S (ZV3 ha hb λz hz=>(h z).mp hz).length_le (ZV3 hb ha λz hz=>(h z).mpr hz).length_le)
theorem Zz55{xs:List V}{i:Int}(h0:0<=i):cutV xs (some i) none=xs.drop i.toNat:=by
 have e:HT.sIx xs.length 0 (some i)=min i.toNat xs.length:=by show(if i<0 then (i+(xs.length:Int)).toNat else min i.toNat xs.length)=_;rw[if_neg (by lia)]
 unfold cutV;rw[e,HT.sIx_none,Yy07 (by rw[Y0h];exact Yy8 _)];by_cases h:i.toNat<=xs.length
 ·rw[Y1O h]
 ·rw[Y2J (by lia),Y0E (Yy8 _),Y0E (by omega)]
def cutz{α:Type}(l:List α)(z:Int):List α:=l.take z.toNat++l.drop (z.toNat+1)
theorem ZQ13{xs:List V}{z:Int}(h0:0<=z):cutV xs none (some z)++cutV xs (some (z+1)) none=cutz xs z:=by rw[Zz97 h0,Zz55 (by lia),show(z+1).toNat=z.toNat+1 by lia];rfl
theorem Zm10{α:Type}(l:List α)(z:Int):(cutz l z).length<=l.length:=by unfold cutz;rw[Yy4,Yz,Y0h];grind
def dn(lo hi i:Int):Int:=if i=hi then lo else if i<hi then i else i - 1
theorem Zb6(i:Nat):rgL (i+1)=rgL i++[(i:Int)]:=by unfold rgL;rw[Y1l,YL];rfl
end My
namespace L2
open PySem PySem.Spec PyProof.Rows
theorem ZE4{N a b:St->Hp->Prop}{r:VK}{σ:St}{H:Hp}(h:N σ H):Ends.nx { nx:=N,rt:=r,bk:=a,ct:=b } σ H:=h
end L2
namespace My
theorem len1{α:Type}{l:List α}(h:l.length=1):∃ a,l=[a]:=by
 cases l with
 | nil=>cases h
 | cons a l=>cases l with
  | nil=>exact⟨a,rfl⟩
  | cons b l=>simp at h
theorem len2{α:Type}{l:List α}(h:l.length=2):∃ a b,l=[a,b]:=by
 cases l with
 | nil=>cases h
 | cons a l =>
  obtain⟨b,rfl⟩:=len1 (Yy13 h);exact⟨a,b,rfl⟩
theorem len3{α:Type}{l:List α}(h:l.length=3):∃ a b c,l=[a,b,c]:=by
 cases l with
 | nil=>cases h
 | cons a l =>
  obtain⟨b,c,rfl⟩:=len2 (Yy13 h);exact⟨a,b,c,rfl⟩
theorem len4{α:Type}{l:List α}(h:l.length=4):∃ a b c d,l=[a,b,c,d]:=by
 cases l with
 | nil=>cases h
 | cons a l =>
  obtain⟨b,c,d,rfl⟩:=len3 (Yy13 h);exact⟨a,b,c,d,rfl⟩
end My
namespace My
open PySem L2
theorem ZX{l:List Int}{f:Int->Bool}{i:Nat}{y:Int}(h:l[i]?=some y):(l.take (i+1)).filter f=(l.take i).filter f++(if f y=true then [y] else []):=by
 rw[YU,h,Y0b];congr 1;by_cases e:f y=true
 ·rw[if_pos e];show List.filter _ [y]=_;rw[YO,if_pos e];rfl
 ·rw[if_neg e];show List.filter _ [y]=_;rw[YO,if_neg e];rfl
theorem Conn.lift{es fs:List (Nat × Nat)}(h:∀ e∈es,Conn fs e.1 e.2){i j:Nat}(c:Conn es i j):Conn fs i j:=by
 induction c with
 | refl i=>exact .refl i
 | edge e=>exact h _ e
 | symm _ ih=>exact ih.symm
 | trans _ _ ih1 ih2=>exact ih1.trans ih2
theorem ZD3{n:Int}{ps:List (Int × Int)}{T W:List Int}{z:Int}(g:Zv n ps)(hT:Zi n ps T)(hW:Zi n ps W)(hz:z∈T)(hzW:z∉W):∃ y,exg n ps T z y/\exg n ps W y z:=by
 obtain⟨z0,z1⟩:=hT.1.all z hz;refine Yy λhno=>?_;refine(Zz01 g hT z0 z1).mp ((ZT2 g hT hz hz).mpr rfl) ((Yz4 g hW z0 z1).lift λe he=>?_);unfold Zz6 at he;obtain⟨y,hy,rfl⟩:=YC.mp he;obtain⟨hyW,hyc⟩:=ringA_mem.mp hy;obtain⟨y0,y1⟩:=hW.1.all y hyW;have hyz:y≠z:=λe=>hzW (e ▸ hyW)
 have:=(Zz01 (o:=z) g hT y0 y1)
 exact Yy λh=>hno ⟨y,⟨hz,hyz,this.mpr h⟩,⟨hyW,YY hyz,hyc⟩⟩
theorem Zz26(l:List Int):∃ m:List Int,m.Perm l/\m.Pairwise (·<=·):=by
 induction l with
 | nil=>exact⟨[],.refl _,.nil⟩
 | cons x l ih =>
  obtain⟨m,h1,h2⟩:=ih;have key:∀ m:List Int,m.Pairwise (·<=·)->∃ k:List Int,k.Perm (x :: m)/\k.Pairwise (·<=·):=by
   intro m
   induction m with
   | nil=>intro _;exact⟨[x],.refl _,Y0A _ _⟩
   | cons y m ih2 =>
    intro hp;obtain⟨hy,hm⟩:=YK.mp hp;by_cases hxy:x<=y
    ·refine⟨x :: y :: m,.refl _,YK.mpr ⟨λz hz=>?_,hp⟩⟩;rcases Yf.mp hz with e | e
     ·rw[e];exact hxy
     ·exact Y1X hxy (hy z e)
    ·obtain⟨k,k1,k2⟩:=ih2 hm;refine⟨y :: k,(k1.cons y).trans (List.Perm.swap x y m),YK.mpr ⟨λz hz=>?_,k2⟩⟩;rcases Yf.mp (k1.mem_iff.mp hz) with e | e
     ·rw[e];lia
     ·exact hy z e
  obtain⟨k,k1,k2⟩:=key m h2;exact⟨k,k1.trans (h1.cons x),k2⟩
inductive Wk (n:Int) (ps:List (Int × Int)) (T0:List Int):List (Int × Int)->List Int->Prop
 | nil:Wk n ps T0 [] T0
 | step {ws:List (Int × Int)} {T T':List Int} {o z:Int}:Wk n ps T0 ws T->exg n ps T o z->T'.Perm (wo T o++[z])->T'.Pairwise (·<=·)->Wk n ps T0 (ws++[(o,z)]) T'
theorem Zt10{M N:List Int}(s:SameP M N):cnt M=cnt N:=by
 unfold cnt fstA;rw[<- s.1];refine YV List.length (Y1u λp hp=>?_);have hp:=YH.mp hp
 rw[Y0o,fstB_iff,fstB_iff];constructor
 ·intro h i hi e;exact h i hi ((s.2 i p (by lia) hp).mpr e)
 ·intro h i hi e;exact h i hi ((s.2 i p (by lia) hp).mp e)
theorem ZN3{n:Int}{ps:List (Int × Int)}{U:List Int}(g:Zv n ps)(hU:Zi n ps U):∀ V:List Int,V.Nodup->(∀ z∈V,z∈U)->grw n.toNat ps V=V:=by
 refine Zl1 (λ_ _=>rfl) λV z ih hn hs=>?_;have hn':=YQ.mp hn
 have hV:∀ y∈V,y∈U:=λy hy=>hs y (Yc _ hy);have hz:z∈U:=hs z (Yd _ (Yy2.mpr rfl))
 have hzV:z∉V:=λh=>hn'.2.2 z h z (Yy2.mpr rfl) rfl;obtain⟨z0,z1⟩:=hU.1.all z hz;have he:=Zs1 (z:=z) g z0 z1
 rw[Zr1,ih hn'.1 hV];unfold gst;rw[if_neg];intro e;have c:=(ZS (ZJ g λy hy=>hU.1.all y (hV y hy)) he.1 he.2).mp e
 exact(Zz01 g hU z0 z1).mp ((ZT2 g hU hz hz).mpr rfl) (c.mono (ZH λy hy=>wo_mem.mpr ⟨hV y hy,λe'=>hzV (by rw[<- e'];exact hy)⟩))
theorem Zz510{n:Int}{ps:List (Int × Int)}{as bs:List Int}{z:Int}(g:Zv n ps)(h:∀ y∈as,0<=y/\y<(ps.length:Int))(z0:0<=z)(z1:z<(ps.length:Int))(hz:z∉grw n.toNat ps (as++z :: bs)):Conn (Zz6 ps (grw n.toNat ps as)) (Zu ps z).1 (Zu ps z).2:=by
 obtain⟨us,e,_⟩:=ZP4 n.toNat ps (as++[z]) bs;rw[Y0a]at e;have e:grw n.toNat ps (as++z :: bs)=grw n.toNat ps (as++[z])++us:=e
 rw[e,Zr1]at hz;have he:=Zs1 (z:=z) g z0 z1
 refine(ZS (ZB5 g h) he.1 he.2).mp (Yy λhne=>hz ?_);unfold gst;rw[if_neg hne];exact Yc _ (Yd _ (Yy2.mpr rfl))
theorem Zz410{n:Nat}{ps:List (Int × Int)}{as bs:List Int}{y:Int}(h:y∈grw n ps as):y∈grw n ps (as++bs):=by obtain⟨us,e,_⟩:=ZP4 n ps as bs;rw[e];exact Yc _ h
def Fr(n:Nat)(ps:List (Int × Int))(l:List Int):Bool:=decide (grw n ps l=l)
def frs(n:Nat)(ps:List (Int × Int))(k:Nat):List (List Int):=(cmb (ps.length:Int) k).filter (Fr n ps)
theorem Za10{n:Int}{ps:List (Int × Int)}(g:Zv n ps){l:List Int}:l∈frs n.toNat ps (n - 1).toNat↔Zi n ps l:=by
 unfold frs;rw[Yk,cmb_mem];have g1:=g.1
 constructor
 ·rintro⟨⟨h1,h2⟩,h3⟩;have e:grw n.toNat ps l=l:=Yw h3
  have c:=ZO4 g l h2.all;rw[e]at c;exact⟨h2,by lia,(Zz11 (by grind) (ZJ g h2.all)).mp (by grind)⟩
 ·intro h;exact⟨⟨by have:=h.2.1;lia,h.1⟩,Yx (ZN3 g h l h.1.nodup λz hz=>hz)⟩
theorem ZV2{n:Int}{ps:List (Int × Int)}{T:List Int}(hT:Zi n ps T):T.Pairwise (· < ·):=(isSet_iff.mp hT.1).2
theorem srt_strict{a:List Int}(h:a.Pairwise (·<=·))(hn:a.Nodup):a.Pairwise (· < ·):=(h.and hn).imp λh=>by have:=h.1;have:=h.2;lia
theorem Zz88{n:Int}{ps:List (Int × Int)}(g:Zv n ps):∀ zs:List Int,(∀ z∈zs,0<=z/\z<(ps.length:Int))->(grw n.toNat ps zs).Nodup:=by
 refine Zl1 (λ_=>List.Pairwise.nil) λzs z ih hb=>?_;have hb':∀ y∈zs,0<=y/\y<(ps.length:Int):=λy hy=>hb y (Yc _ hy)
 obtain⟨z0,z1⟩:=hb z (Yd _ (Yy2.mpr rfl));have he:=Zs1 (z:=z) g z0 z1
 rw[Zr1];unfold gst;split
 ·exact ih hb'
 ·next hne =>
  refine YQ.mpr ⟨ih hb',by simp,λa ha b hbb e=>?_⟩;rw[Yy2.mp hbb]at e;subst e;refine hne ((ZS (ZB5 g hb') he.1 he.2).mpr (.edge ?_));exact YC.mpr ⟨a,ha,rfl⟩
theorem ZA5{n:Int}{ps:List (Int × Int)}{zs ms:List Int}(g:Zv n ps)(hb:∀ z∈zs,0<=z/\z<(ps.length:Int))(hl:¬ ((grw n.toNat ps zs).length:Int)<n - 1)(hpm:ms.Perm (grw n.toNat ps zs))(hpw:ms.Pairwise (·<=·)):Zi n ps ms:=by
 have g1:=g.1;have h2:=ZO4 g zs hb
 have h3:=Zz95 (M:=lms n.toNat (Zz6 ps (grw n.toNat ps zs))) (by rw[ZD];grind);have hcov:=(Zz11 (by grind) (ZB5 g hb)).mp (by grind)
 refine⟨isSet_iff.mpr ⟨λz hz=>hb z ((ZM4 _ _ _).subset (hpm.mem_iff.mp hz)),srt_strict hpw (hpm.nodup_iff.mpr (Zz88 g zs hb))⟩,by rw[hpm.length_eq];grind,λi j hi hj=>?_⟩;exact(Zz51 λy=>hpm.mem_iff).mpr (hcov i j hi hj)
theorem ZU11{n:Int}{ps:List (Int × Int)}{I os U:List Int}(g:Zv n ps)(hU:Zi n ps U)(hI:I.Nodup)(hIU:∀ z∈I,z∈U)(hUo:∀ z∈U,z∈I++os)(hb:∀ z∈I++os,0<=z/\z<(ps.length:Int)):(grw n.toNat ps (I++os)).take I.length=I/\¬ ((grw n.toNat ps (I++os)).length:Int)<n - 1:=by
 have g1:=g.1;obtain⟨us,e,_⟩:=ZP4 n.toNat ps I os;rw[ZN3 g hU I hI hIU]at e;refine⟨by rw[e,List.take_left],?_⟩;have hcov:∀ i j,i<n.toNat->j<n.toNat->Conn (Zz6 ps (grw n.toNat ps (I++os))) i j:=λi j hi hj=>Zz610 g _ hb ((hU.2.2 i j hi hj).mono (ZH hUo))
 have h1:=(Zz11 (by lia) (ZB5 g hb)).mpr hcov;have h2:=ZO4 g (I++os) hb
 grind
theorem Ze2{p r:List Int}{x:Int}(h:(p++x :: r).Pairwise (· < ·)):(∀ z∈p,z<x)/\∀ z∈x :: r,x<=z:=by
 have a:=Yy08.mp h;refine⟨λz hz=>a.2.2 z hz x Ye,λz hz=>?_⟩;rcases Yf.mp hz with h | h
 ·rw[h];exact Y1j _
 ·exact Y1k ((YK.mp a.2.1).1 z h)
theorem ZM6{n:Int}{ps:List (Int × Int)}{I os U F:List Int}(g:Zv n ps)(hU:Zi n ps U)(hIU:∀ z∈I,z∈U)(hUo:∀ z∈U,z∈I++os)(hb:∀ z∈I++os,0<=z/\z<(ps.length:Int))(ho:os.Pairwise (· < ·))(hF:Zi n ps F)(hf:F.Perm (grw n.toNat ps (I++os)))(hIF:∀ z∈I,z∈F):HT.lexLt U F=false:=by
 cases hlx:HT.lexLt U F with
 | false=>rfl
 | true =>
  exfalso;obtain⟨p,x,y,r,s,eU,ef,hxy⟩:=Zz63 (by have:=hF.2.1;have:=hU.2.1;lia) hlx
  have hxU:x∈U:=by rw[eU];exact Yd _ Ye
  obtain⟨x0,x1⟩:=hU.1.all x hxU;have aU:=Ze2 (eU ▸ ZV2 hU)
  have aF:=Ze2 (ef ▸ ZV2 hF);have hxF:x∉F:=λh=>by
   rw[ef]at h;rcases Yy7.mp h with h | h
   ·have:=aU.1 x h
    lia
   ·have:=aF.2 x h
    lia
  have hxI:x∉I:=λh=>hxF (hIF x h);have hxo:x∈os:=(Yy7.mp (hUo x hxU)).resolve_left hxI
  obtain⟨as,bs,eo⟩:=List.append_of_mem hxo;have ao:=Ze2 (eo ▸ ho)
  have hb':∀ z∈I++as,0<=z/\z<(ps.length:Int):=λz hz=>hb z ((Yy7.mp hz).elim (λh=>Yc _ h) λh=>Yd _ (by rw[eo];exact Yc _ h));have hxG:x∉grw n.toNat ps ((I++as)++x :: bs):=by rw[Y0a,<- eo];exact λh=>hxF (hf.mem_iff.mpr h)
  have c:=Zz510 g hb' x0 x1 hxG;refine(Zz01 g hU x0 x1).mp ((ZT2 g hU hxU hxU).mpr rfl) (c.mono (ZH λz hz=>?_));have hzF:z∈F:=hf.mem_iff.mpr (by
   have:=Zz410 (bs:=x :: bs) hz
   rw[Y0a,<- eo]at this;exact this)
  have hzx:z≠x:=λe=>hxF (e ▸ hzF);refine wo_mem.mpr ⟨?_,hzx⟩;rcases Yy7.mp ((ZM4 _ _ _).subset hz) with h | h
  ·exact hIU z h
  ·have h1:=ao.1 z h;rw[ef]at hzF;rcases Yy7.mp hzF with h | h
   ·rw[eU];exact Yc _ h
   ·have:=aF.2 z h
    lia
def With(n:Int)(ps:List (Int × Int))(I O U:List Int):Prop:=Zi n ps U/\(∀ z∈I,z∈U)/\∀ z∈O,z∉U
theorem With.sub{n:Int}{ps:List (Int × Int)}{I O U os:List Int}(h:With n ps I O U)(ho:∀ z,z∈os↔(0<=z/\z<(ps.length:Int))/\z∉O):∀ z∈U,z∈I++os:=λz hz=>Yd _ ((ho z).mpr ⟨h.1.1.all z hz,λh2=>h.2.2 z h2 hz⟩)
def TC(n:Int)(ps:List (Int × Int))(c:Nat):Prop:=∃ L:List (List Int),L.Nodup/\(∀ l,l∈L↔Zi n ps l)/\L.length=c
theorem TC.uniq{n:Int}{ps:List (Int × Int)}{c d:Nat}(h1:TC n ps c)(h2:TC n ps d):c=d:=by obtain⟨L,a1,a2,rfl⟩:=h1;obtain⟨M,b1,b2,rfl⟩:=h2;exact((Y0H a1 b1).mpr λl=>by rw[a2,b2]).length_eq
theorem set_snoc{m:Nat}{T:List Int}:IsSet (m+1) (T++[(m:Int)])↔IsSet m T:=by
 constructor
 ·intro h;have a:=isSet_iff.mp h
  have b:=Yy08.mp a.2;refine isSet_iff.mpr ⟨λz hz=>?_,b.1⟩;have c:=a.1 z (Yc _ hz)
  have d:=b.2.2 z hz m (Yy2.mpr rfl);omega
 ·exact λh=>h.snoc
theorem Zz86{m:Nat}{T:List Int}(h:IsSet (m+1) T):IsSet m T\/∃ T',T=T'++[(m:Int)]/\IsSet m T':=by
 have a:=isSet_iff.mp h;by_cases hm:(m:Int)∈T
 ·obtain⟨p,r,e⟩:=List.append_of_mem hm;have b:=Ze2 (e ▸ a.2)
  cases r with
  | nil=>exact .inr ⟨p,e,set_snoc.mp (e ▸ h)⟩
  | cons y r =>
   have h1:=a.1 y (by rw[e];simp);have h2:=(YK.mp (Yy08.mp (e ▸ a.2)).2.1).1 y Ye
   omega
 ·refine .inl (isSet_iff.mpr ⟨λz hz=>?_,a.2⟩);have h1:=a.1 z hz
  have h2:z≠(m:Int):=λe=>hm (e ▸ hz);lia
theorem Zz75{es:List (Nat × Nat)}{a b i j:Nat}(c:Conn (es++[(a,b)]) i j):Conn (es++[(b,a)]) i j:=c.lift λe he=>by
 rcases Yy7.mp he with q | q
 ·exact .edge (Yc _ q)
 ·rw[Yy2.mp q];exact .symm (.edge (by simp))
theorem Yz8{a b M N:Int}(a0:0<=a)(aM:a<M)(b0:0<=b)(bN:b<N):0<=a * b/\a * b<M * N:=⟨Int.mul_nonneg a0 b0,Int.lt_of_le_of_lt (Int.mul_le_mul_of_nonneg_left (Y1k bN) a0) (Int.mul_lt_mul_of_pos_right aM (by lia))⟩
end My
namespace L2
open PySem PySem.Spec PyProof.Rows
def Itz(K:PySem.W.Frag)(a b:Addr):It :=
 ⟨λi H=>∃ xs ys x y,SqL K H a xs/\SqL K H b ys/\xs[i]?=some x/\ys[i]?=some y,λi H v H'=>∃ T x y,H T=none/\v=.ref T/\H'=upd H T (.tup [x,y])/\(∀ xs,SqL K H a xs->xs[i]?=some x)/\∀ ys,SqL K H b ys->ys[i]?=some y,
  λi H=>∃ xs ys,SqL K H a xs/\SqL K H b ys/\(xs.length<=i\/ys.length<=i)⟩
theorem Zc9{P:Program}{w:World}{K:PySem.W.Frag}{elts:List Expr}{x1:Nat}{pos:Pos}(a b z TI TO i1 i2:Addr)(D:ZipApart z TI TO i1 i2 a b) :
  Turn P w K (.Tuple elts x1 pos) (Itz K a b) [z,TI,TO,i1,i2] z (λi h=>IsZip h z TI TO .none/\IsPair h TI (.ref i1) (.ref i2)/\(∃ c d,IsPair h TO c d)/\h.IsListIter i1 a i/\h.IsListIter i2 b i) where
 mem:=by simp
 obj:=λi h st c hc=>by
  obtain⟨hz,hTI,⟨u,v,hTO⟩,⟨o1,e1,_,d1⟩,⟨o2,e2,_,d2⟩⟩:=st;have hc':c=z\/c=TI\/c=TO\/c=i1\/c=i2:=by simpa using hc
  rcases hc' with rfl | rfl | rfl | rfl | rfl
  ·exact⟨_,hz,λv q=>by have q':Data.fields _=Data.cell v:=q;cases q'⟩
  ·exact⟨_,hTI,λv q=>by have q':Data.seq _ _=Data.cell v:=q;cases q'⟩
  ·exact⟨_,hTO,λv q=>by have q':Data.seq _ _=Data.cell v:=q;cases q'⟩
  ·exact⟨o1,e1,λv q=>by rw[d1]at q;cases q⟩
  ·exact⟨o2,e2,λv q=>by rw[d2]at q;cases q⟩
 keep:=λi h h' st k=>by obtain⟨hz,hTI,⟨u,v,hTO⟩,h1,h2⟩:=st;exact⟨k z (by simp) _ hz,k TI (by simp) _ hTI,⟨u,v,k TO (by simp) _ hTO⟩,h1.at λo e=>k i1 (by simp) o e,h2.at λo e=>k i2 (by simp) o e⟩
 item:=by
  intro X hP hw hK hc i pins s σ H E I hf st hg;subst hP hw hK;obtain⟨xs,ys,x,y,hq,hq2,hx,hy⟩:=hg;obtain⟨hz,hTI,⟨u0,v0,hTO⟩,h1,h2⟩:=st;obtain⟨its,rv,p,_⟩:=I.list hq;obtain⟨u,hu,ru⟩:=rv.get hx;obtain⟨its2,rv2,p2,_⟩:=I.list hq2;obtain⟨v,hv,rv'⟩:=rv2.get hy;have fz:=hf z (by simp)
  have fTO:=hf TO (by simp);have fi1:=hf i1 (by simp)
  have fi2:=hf i2 (by simp);have hT0:H s.heap.objs.size=none:=I.hok.fresh (Yy8 _)
  refine wpAny_pyNext_zip_item D hz hTI hTO h1 h2 p.isList p2.isList (x:=u) (y:=v) (by simpa using hu) (by simpa using hv) λh' a1 a2 a3 a4 a5 hsz hk=>?_;have ltT:∀ b ob,s.heap.get? b=some ob->b≠s.heap.objs.size:=λb ob z=>Yr (Yn z)
  have ltH:∀ b ob,H b=some ob->b≠s.heap.objs.size:=λb ob z=>Yr (I.hok.lt z);have nof:∀ c ob,H c=some ob->c≠z/\c≠TO/\c≠i1/\c≠i2:=λc ob q=>⟨λe=>(by rw[e,fz.1]at q;cases q),λe=>(by rw[e,fTO.1]at q;cases q),λe=>(by rw[e,fi1.1]at q;cases q),λe=>(by rw[e,fi2.1]at q;cases q)⟩
  have hkc:∀ c o,c∉[z,TO,i1,i2]->s.heap.get? c=some o->h'.get? c=some o:=λc o hcx q=>hk c o (λe=>hcx (by simp[e])) (λe=>hcx (by simp[e])) (λe=>hcx (by simp[e])) (λe=>hcx (by simp[e])) q;have I1:Inv X pins σ (upd H s.heap.objs.size (.tup [x,y])) { s with heap:=h' }:=by
   refine I.step (g':=s.gens) (d':=s.drawn) (t':=s.toks) (ch:=[z,TO,i1,i2]) (λc hb=>?_) (λc o _ _ hcx q _=>hkc c o hcx q) (λc o _ _ hcx q _=>⟨o.slots,hkc c o hcx q⟩)
    (λc o _ q n=>by rw[Zb (ltT c o q)];exact n) (λc o hcx q=>⟨o,hkc c o hcx q⟩) (λc ys q=>by rw[Zb (ltH c _ q)];exact q) (λc o v q=>by rw[Zb (ltH c _ q)];exact q)
    (λc ps q=>⟨#[],by rw[Zb (ltH c _ q),q];simp⟩) (λm hm=>?_) (λc v' q=>?_) I.bare
   ·have hc':c=z\/c=TO\/c=i1\/c=i2:=by simpa using hb
    rcases hc' with rfl | rfl | rfl | rfl
    ·exact⟨fz.2.2.2.1,fz.2.1,fz.2.2.2.2.1,fz.2.2.2.2.2⟩
    ·exact⟨fTO.2.2.2.1,fTO.2.1,fTO.2.2.2.2.1,fTO.2.2.2.2.2⟩
    ·exact⟨fi1.2.2.2.1,fi1.2.1,fi1.2.2.2.2.1,fi1.2.2.2.2.2⟩
    ·exact⟨fi2.2.2.2.1,fi2.2.1,fi2.2.2.2.2.1,fi2.2.2.2.2.2⟩
   ·obtain⟨o,es,ep,ho',r⟩:=hm;exact⟨o,es,ep,hk _ o (YY fz.2.1) (YY fTO.2.1) (YY fi1.2.1) (YY fi2.2.1) ho',r⟩
   ·by_cases hb:c=s.heap.objs.size
    ·subst hb;rw[Zz1]at q;cases q;exact⟨by show 2<=sizeLine;decide,[u,v],.cons ru (.cons rv' .nil),⟨_,a5,rfl,_,rfl⟩⟩
    ·rw[Zb hb]at q;refine(I.hok c v' q).stay (λe w' hc' q'=>?_) (λe q=>by rw[Zb (ltH e _ q)];exact q) λe ys q=>by rw[Zb (ltH e _ q)];exact q
     rcases hc' with rfl | hc'
     ·have:=nof e _ q
      exact hk e w' this.1 this.2.1 this.2.2.1 this.2.2.2 q'
     ·have:=nof e _ hc'
      exact hk e w' this.1 this.2.1 this.2.2.1 this.2.2.2 q'
  refine⟨_,rfl,wpAny_letOwnedTupleGo_zip a1 λh2 hz2 hs2=>?_⟩;have fT:z≠s.heap.objs.size:=ltT z _ hz
  have I2:Inv X pins σ (upd H s.heap.objs.size (.tup [x,y])) { s with heap:=h2 }:=Inv.turned (s:={ s with heap:=h' }) (h':=h2) (t':=s.toks) (it:=z) I1 (λb o hb q=>hs2.extBut b o hb q) (by rw[Zb fT];exact fz.1) fz.2.1 fz.2.2.2.1 fz.2.2.2.2.1 fz.2.2.2.2.2;refine⟨.ref s.heap.objs.size,_,I2,rfl,⟨_,x,y,hT0,rfl,rfl,λys hy'=>by rw[I.list_inj hy' hq];exact hx,λys hy'=>by rw[I.list_inj hy' hq2];exact hy⟩,
   ⟨hz2,hs2.extBut _ _ D.TIz (hkc _ _ (by have:=D.TIz;have:=D.TITO;have:=D.TIi1;have:=D.TIi2;simp;exact⟨D.TIz,D.TITO,D.TIi1,D.TIi2⟩) hTI),⟨u,v,hs2.extBut _ _ D.TOz a2⟩,a3.at λo q=>hs2.extBut i1 o D.i1z q,a4.at λo q=>hs2.extBut i2 o D.i2z q⟩,λc hc=>?_⟩
  have hc':c=z\/c=TI\/c=TO\/c=i1\/c=i2:=by simpa using hc
  have hn:=(hf c hc).1;rcases hc' with rfl | rfl | rfl | rfl | rfl
  ·rw[Zb fT];exact hn
  ·rw[Zb (ltT _ _ hTI)];exact hn
  ·rw[Zb (ltT _ _ hTO)];exact hn
  ·obtain⟨o,eo,_⟩:=h1;rw[Zb (ltT _ o eo)];exact hn
  ·obtain⟨o,eo,_⟩:=h2;rw[Zb (ltT _ o eo)];exact hn
 done:=by
  intro X hP hw hK hc i pins s σ H E I hf st hg;subst hP hw hK;obtain⟨xs,ys,hq,hq2,hend⟩:=hg;obtain⟨hz,hTI,⟨u0,v0,hTO⟩,h1,h2⟩:=st;obtain⟨its,rv,p,_⟩:=I.list hq;obtain⟨its2,rv2,p2,_⟩:=I.list hq2;have l1:=rv.length
  have l2:=rv2.length;have fz:=hf z (by simp)
  have fTO:=hf TO (by simp);have fi1:=hf i1 (by simp)
  have fi2:=hf i2 (by simp);refine wpAny_pyNext_zip_end (I.ok.hd hc) D hz hTI hTO h1 h2 p.isList p2.isList (by
   rcases hend with e | e
   ·exact .inl (by simp;lia)
   ·exact .inr (by simp;lia)) λh' hk=>⟨rfl,?_⟩
  have hkc:∀ c o,c∉[z,TO,i1,i2]->s.heap.get? c=some o->h'.get? c=some o:=λc o hcx q=>hk c o (λe=>hcx (by simp[e])) (λe=>hcx (by simp[e])) (λe=>hcx (by simp[e])) (λe=>hcx (by simp[e])) q;have nof:∀ c ob,H c=some ob->c≠z/\c≠TO/\c≠i1/\c≠i2:=λc ob q=>⟨λe=>(by rw[e,fz.1]at q;cases q),λe=>(by rw[e,fTO.1]at q;cases q),λe=>(by rw[e,fi1.1]at q;cases q),λe=>(by rw[e,fi2.1]at q;cases q)⟩
  refine I.step (g':=s.gens) (d':=s.drawn) (t':=s.toks) (ch:=[z,TO,i1,i2]) (λc hb=>?_) (λc o _ _ hcx q _=>hkc c o hcx q) (λc o _ _ hcx q _=>⟨o.slots,hkc c o hcx q⟩)
   (λc o _ q n=>n) (λc o hcx q=>⟨o,hkc c o hcx q⟩) (λc ys q=>q) (λc o v q=>q)
   (λc ps q=>⟨#[],by rw[q];simp⟩) (λm hm=>?_) (λc v' q=>?_) I.bare
  ·have hc':c=z\/c=TO\/c=i1\/c=i2:=by simpa using hb
   rcases hc' with rfl | rfl | rfl | rfl
   ·exact⟨fz.2.2.2.1,fz.2.1,fz.2.2.2.2.1,fz.2.2.2.2.2⟩
   ·exact⟨fTO.2.2.2.1,fTO.2.1,fTO.2.2.2.2.1,fTO.2.2.2.2.2⟩
   ·exact⟨fi1.2.2.2.1,fi1.2.1,fi1.2.2.2.2.1,fi1.2.2.2.2.2⟩
   ·exact⟨fi2.2.2.2.1,fi2.2.1,fi2.2.2.2.2.1,fi2.2.2.2.2.2⟩
  ·obtain⟨o,es,ep,ho',r⟩:=hm;exact⟨o,es,ep,hk _ o (YY fz.2.1) (YY fTO.2.1) (YY fi1.2.1) (YY fi2.2.1) ho',r⟩
  ·refine(I.hok c v' q).stay (λe w' hc' q'=>?_) (λe q=>q) λe ys q=>q;rcases hc' with rfl | hc'
   ·have:=nof e _ q
    exact hk e w' this.1 this.2.1 this.2.2.1 this.2.2.2 q'
   ·have:=nof e _ hc'
    exact hk e w' this.1 this.2.1 this.2.2.1 this.2.2.2 q'
 self:=λ_ _ _ _ _ st h=>wpAny_pyIter_zip st.1 h
def iZip(K:PySem.W.Frag)(ta:TA):TI:=λσ H R=>ta σ H λvs H1=>∃ a b,vs=[.ref a,.ref b]/\(∃ xs ys,SqL K H1 a xs/\SqL K H1 b ys)/\R (Itz K a b) H1
section
variable{X:Cx}
theorem Zn11 (K:PySem.W.Frag) {elts:List Expr} {x1:Nat} {tpos:Pos} {e f:Expr} {ta:TA} {p pos:Pos} (hg:Gl X "zip") (hm:X.mg "zip"=none) (ha:PA X [e,f] ta) (hs:starEach [e,f] X.env=(false,eval e X.env) :: starEach [f] X.env:=by rfl) (hpl:(backTo pos (starEach [f] X.env)).any (·.1)=false:=by rfl) (hk:X.K=K:=by rfl) :
  PI X (.Tuple elts x1 tpos) (.Call (.Name "zip" p) [e,f] [] pos) (iZip K ta):=by
 subst hk;intro pins s σ H R I h;refine Call_ (Zu2 I hg hm Boot.«zip» (Y0c (thn (ha pos pins s σ H _ I h) λus s1 hz0=>?_) hs hpl));obtain⟨vs,H1,I1,r1,q1⟩:=hz0;obtain⟨a,b,ev,⟨xs,ys,hq,hq2⟩,q⟩:=q1;subst ev;obtain⟨u,u',rfl,ru,ru'⟩:=Zt12 r1;obtain rfl:u=Value.ref a:=ru;obtain rfl:u'=Value.ref b:=ru';obtain⟨its,rv,pl,_⟩:=I1.list hq;obtain⟨its2,rv2,pl2,_⟩:=I1.list hq2;have lt1:a<s1.heap.objs.size:=let ⟨_,_,e,_⟩:=pl;Yn e
 have lt2:b<s1.heap.objs.size:=let ⟨_,_,e,_⟩:=pl2;Yn e
 have D:ZipApart (s1.heap.objs.size+4) (s1.heap.objs.size+2) (s1.heap.objs.size+3) s1.heap.objs.size (s1.heap.objs.size+1) a b:=by
  have key:∀ n x y:Nat,x<n->y<n->ZipApart (n+4) (n+2) (n+3) n (n+1) x y:=λn x y h1 h2=>by constructor <;> (intro q;have q':(_:Nat)=_:=q;lia)
  exact key _ _ _ lt1 lt2
 refine call_zip_2 pl.isList pl2.isList λh' hz hTI hTO hi1 hi2 hsz hk=>?_;refine wpAny_pyIter_zip (s:={ s1 with heap:=h' }) hz ?_;refine⟨s1.heap.objs.size+4,[s1.heap.objs.size+4,s1.heap.objs.size+2,s1.heap.objs.size+3,s1.heap.objs.size,s1.heap.objs.size+1],_,_,H1,rfl,I1.kept (t':=s1.toks) hk,Zc9 a b _ _ _ _ _ D,⟨hz,hTI,⟨_,_,hTO⟩,hi1,hi2⟩,λc hc=>?_,q⟩;have hle:s1.heap.objs.size<=c:=by
  have hc':c=s1.heap.objs.size+4\/c=s1.heap.objs.size+2\/c=s1.heap.objs.size+3\/c=s1.heap.objs.size\/c=s1.heap.objs.size+1:=by simpa using hc
  rcases hc' with e | e | e | e | e <;> rw[e] <;> first | exact Yy8 _ | exact Nat.le_add_right _ _
 exact I1.fpOk hle (I1.hok.fresh hle)
end
end L2
namespace My
open PySem L2
section
variable{K:PySem.W.Frag}{a b:Addr}{xs ys:List V}{g:TG}{tt:TT}{te:TE}{o:Nat}{fr:List Nat}{σ:St}{H:Hp}{Q:VK}
theorem ZY12(Pv:Nat->List V->Hp->Prop)(h0:Pv 0 [] H)(hxy:xs.length=ys.length)(hz:xs.length<sizeLine)(hl:∀ i zs H,i<=xs.length->Pv i zs H->SqL K H a xs/\SqL K H b ys/\zs.length<=i)
  (hs:∀(i:Nat) x y zs H (p:Addr),H p=none->xs[i]?=some x->ys[i]?=some y->Pv i zs H->ZJ5 Pv g tt te o fr σ i (.ref p) zs (upd H p (.tup [x,y]))) (hd:∀ zs H,Pv xs.length zs H->∀ p,H p=none->Q (.ref p) (upd H p (.lst zs))):LcR (Itz K a b) g tt te o fr σ H Q:=by
 refine⟨λi m zs H=>m=xs.length - i/\i<=xs.length/\Pv i zs H,⟨xs.length,by simp,Yl _,h0⟩,?_⟩;rintro i m zs H ⟨rfl,hi,p⟩;obtain⟨q,q2,hy⟩:=hl i zs H hi p;by_cases hlt:i<xs.length
 ·refine .inr ⟨⟨xs,ys,xs[i],ys[i]'(by lia),q,q2,by simp[hlt],Yy0 (by omega)⟩,by lia,λx H' ⟨T,u,v,hT,ex,eH,hu,hv⟩=>?_⟩;subst ex eH;exact hs i u v zs H T hT (hu xs q) (hv ys q2) p (λj zs H=>∃ m',m'<xs.length - i/\m'=xs.length - j/\j<=xs.length/\Pv j zs H) λzs H p'=>⟨xs.length - (i+1),by grind,rfl,hlt,p'⟩
 ·have e:i=xs.length:=by lia
  subst e;exact .inl ⟨⟨xs,ys,q,q2,.inl (Yy8 _)⟩,by lia,hd zs H p⟩
end
end My
namespace My
abbrev Mx:=Nat->Nat->Int
def sm:Nat->(Nat->Int)->Int
 | 0,_=>0
 | n+1,f=>sm n f+f n
theorem ZB{f g:Nat->Int}:∀ {n:Nat},(∀ i,i<n->f i=g i)->sm n f=sm n g
 | 0,_=>rfl
 | n+1,h=>by show sm n f+f n=sm n g+g n;rw[ZB λi hi=>h i (by lia),h n (by lia)]
theorem Zz34{f g:Nat->Int}:∀ {n:Nat},sm n (λi=>f i+g i)=sm n f+sm n g
 | 0=>rfl
 | n+1=>by show sm n (λi=>f i+g i)+(f n+g n)=sm n f+f n+(sm n g+g n);rw[Zz34];lia
theorem Zu5{c:Int}{f:Nat->Int}:∀ {n:Nat},sm n (λi=>c * f i)=c * sm n f
 | 0=>(Y0s c).symm
 | n+1=>by show sm n (λi=>c * f i)+c * f n=c * (sm n f+f n);rw[Zu5,Y1Q]
theorem sm_zero:∀ {n:Nat},sm n (λ_=>0)=0
 | 0=>rfl
 | n+1=>by show sm n (λ_=>0)+0=0;rw[sm_zero];rfl
theorem Zk2{f:Nat->Int}{n:Nat}(h:∀ i,i<n->f i=0):sm n f=0:=by rw[ZB h];exact sm_zero
theorem Zl2{f:Nat->Int}:∀ {n:Nat},sm (n+1) f=f 0+sm n (λi=>f (i+1))
 | 0=>by show 0+f 0=f 0+0;lia
 | n+1=>by show sm (n+1) f+f (n+1)=f 0+(sm n (λi=>f (i+1))+f (n+1));rw[Zl2];lia
theorem Zz36{f:Nat->Nat->Int}{m:Nat}:∀ {n:Nat},sm n (λi=>sm m (f i))=sm m (λj=>sm n (λi=>f i j))
 | 0=>sm_zero.symm
 | n+1=>by show sm n (λi=>sm m (f i))+sm m (f n)=sm m (λj=>sm n (λi=>f i j)+f n j);rw[Zz36,Zz34]
def sk(j k:Nat):Nat:=if k<j then k else k+1
def mn(A:Mx)(j:Nat):Mx:=λi k=>A (i+1) (sk j k)
def sg(j:Nat):Int:=if j % 2=0 then 1 else -1
theorem Zx4(j:Nat):sg (j+1)=- sg j:=by
 unfold sg;by_cases h:j % 2=0
 ·rw[if_pos h,if_neg (by omega)]
 ·rw[if_neg h,if_pos (by lia)];rfl
def det:Nat->Mx->Int
 | 0,_=>1
 | n+1,A=>sm (n+1) λj=>sg j * A 0 j * det n (mn A j)
theorem Zz46{j k n:Nat}(h:k<n):sk j k<n+1:=by unfold sk;split <;> lia
theorem Zl:∀ {n:Nat} {A B:Mx},(∀ i j,i<n->j<n->A i j=B i j)->det n A=det n B
 | 0,_,_,_=>rfl
 | n+1,A,B,h=>ZB λj hj=>by rw[h 0 j (by lia) hj,Zl (A:=mn A j) (B:=mn B j) λi k hi hk=>h (i+1) (sk j k) (by lia) (Zz46 hk)]
theorem Zy2:∀ {n:Nat} {A B C:Mx} {c:Int} {i:Nat},i<n->(∀ r j,r<n->j<n->r≠i->A r j=B r j/\A r j=C r j)->(∀ j,j<n->A i j=c * B i j+C i j)->det n A=c * det n B+det n C
 | 0,_,_,_,_,_,hi,_,_=>absurd hi (YW _)
 | n+1,A,B,C,c,i,hi,h1,h2=>by
  show sm (n+1) (λj=>sg j * A 0 j * det n (mn A j))=c * sm (n+1) (λj=>sg j * B 0 j * det n (mn B j))+sm (n+1) (λj=>sg j * C 0 j * det n (mn C j));rw[<- Zu5,<- Zz34];refine ZB λj hj=>?_;cases i with
  | zero =>
   have e1:det n (mn B j)=det n (mn A j):=Zl λr k hr hk=>(h1 (r+1) (sk j k) (by omega) (Zz46 hk) (by lia)).1.symm;have e2:det n (mn C j)=det n (mn A j):=Zl λr k hr hk=>(h1 (r+1) (sk j k) (by lia) (Zz46 hk) (by lia)).2.symm
   rw[e1,e2,h2 j hj];generalize det n (mn A j)=d;generalize sg j=s;rw[Y1Q,Yy36,<- Y0l s c,Y0P s c,Y0l c s,Y0l c]
  | succ i =>
   have e:=Zy2 (n:=n) (A:=mn A j) (B:=mn B j) (C:=mn C j) (c:=c) (i:=i) (by lia) (λr k hr hk hne=>h1 (r+1) (sk j k) (by lia) (Zz46 hk) (by lia)) (λk hk=>h2 (sk j k) (Zz46 hk));have e0:=h1 0 j (by lia) hj (by lia)
   rw[e,<- e0.1,<- e0.2];generalize det n (mn B j)=d;generalize det n (mn C j)=d';generalize sg j * A 0 j=s;rw[Y1Q,<- Y0l,<- Y0l,Y0P s c]
theorem ZH13{A:Mx}{j k i l:Nat}(h:j<=k):mn (mn A j) k i l=mn (mn A (k+1)) j i l:=by
 show A (i+1+1) (sk j (sk k l))=A (i+1+1) (sk (k+1) (sk j l));refine YV _ ?_;unfold sk;by_cases h1:l<j
 ·rw[if_pos (show l<k by lia),if_pos h1,if_pos (show l<k+1 by lia)]
 ·rw[if_neg h1];by_cases h2:l<k
  ·rw[if_pos h2,if_neg h1,if_pos (show l+1<k+1 by lia)]
  ·rw[if_neg h2,if_neg (show ¬ l+1<j by lia),if_neg (show ¬ l+1<k+1 by lia)]
theorem Zj4:∀ {n:Nat} {A:Mx} {i:Nat},i+1<n->(∀ j,j<n->A i j=A (i+1) j)->det n A=0
 | 0,_,_,hi,_=>absurd hi (YW _)
 | n+1,A,i+1,hi,h=>Zk2 λj hj=>by rw[Zj4 (A:=mn A j) (i:=i) (by lia) λk hk=>h (sk j k) (Zz46 hk),Y0s]
 | 1,_,0,hi,_=>absurd hi (by omega)
 | n+2,A,0,_,h=>by
  obtain⟨t,ht⟩:∃ t:Nat->Nat->Int,t=λj k=>sg j * A 0 j * (sg k * A 1 (sk j k) * det n (mn (mn A j) k)):=⟨_,rfl⟩;have e1:det (n+2) A=sm (n+2) λj=>sm (n+1) (t j):=ZB λj hj=>by rw[ht,Zu5];rfl
  have e2:∀ j k,j<=k->k<n+1->t (k+1) j=- t j k:=λj k hjk hk=>by
   rw[ht];show sg (k+1) * A 0 (k+1) * (sg j * A 1 (sk (k+1) j) * det n (mn (mn A (k+1)) j))=- (sg j * A 0 j * (sg k * A 1 (sk j k) * det n (mn (mn A j) k)))
   have f1:sk (k+1) j=j:=by unfold sk;rw[if_pos (by lia)]
   have f2:sk j k=k+1:=by unfold sk;rw[if_neg (by lia)]
   have f3:det n (mn (mn A (k+1)) j)=det n (mn (mn A j) k):=Zl λi l _ _=>(ZH13 hjk).symm;rw[f1,f2,f3,Zx4,<- h j (by lia),<- h (k+1) (by lia)];generalize det n (mn (mn A j) k)=d;generalize A 0 j=x;generalize A 0 (k+1)=y;generalize sg j=s;generalize sg k=u;simp only [Yy34,Int.neg_inj];simp only [Y0P,Y1Z,Y0l]
  have e3:sm (n+2) (λj=>sm (n+1) (t j))=sm (n+2) (λj=>sm (n+1) λk=>if k<j then t j k else 0)+sm (n+2) (λj=>sm (n+1) λk=>if k<j then 0 else t j k):=by rw[<- Zz34];refine ZB λj _=>?_;rw[<- Zz34];refine ZB λk _=>?_;split <;> lia
  have e4:sm (n+2) (λj=>sm (n+1) λk=>if k<j then t j k else 0)=sm (n+1) (λk=>sm (n+1) λj=>if k<=j then t (j+1) k else 0):=by
   rw[Zz36];refine ZB λk _=>?_;rw[Zl2,if_neg (by lia),Y1W];refine ZB λj _=>?_;by_cases c:k<=j
   ·rw[if_pos c,if_pos (by omega)]
   ·rw[if_neg c,if_neg (by lia)]
  have e5:sm (n+2) (λj=>sm (n+1) λk=>if k<j then 0 else t j k)=sm (n+1) (λj=>sm (n+1) λk=>if j<=k then t j k else 0):=by
   show sm (n+1) (λj=>sm (n+1) λk=>if k<j then 0 else t j k)+sm (n+1) (λk=>if k<n+1 then 0 else t (n+1) k)=_;rw[Zk2 (f:=λk=>if k<n+1 then 0 else t (n+1) k) λk hk=>if_pos hk,Y0z];refine ZB λj _=>ZB λk _=>?_;by_cases c:j<=k
   ·rw[if_pos c,if_neg (by lia)]
   ·rw[if_neg c,if_pos (by lia)]
  rw[e1,e3,e4,e5,<- Zz34];refine Zk2 λj hj=>?_;rw[<- Zz34];refine Zk2 λk hk=>?_;by_cases c:j<=k
  ·rw[if_pos c,if_pos c,e2 j k c hk];lia
  ·rw[if_neg c,if_neg c];rfl
def put2(A:Mx)(i:Nat)(x y:Nat->Int):Mx:=λr=>if r=i then x else if r=i+1 then y else A r
theorem Zl10{n:Nat}{A:Mx}{i:Nat}{x x' y:Nat->Int}(hi:i+1<n):det n (put2 A i (λj=>x j+x' j) y)=det n (put2 A i x y)+det n (put2 A i x' y):=by
 have:=Zy2 (n:=n) (A:=put2 A i (λj=>x j+x' j) y) (B:=put2 A i x y) (C:=put2 A i x' y) (c:=1) (i:=i) (by lia) (λr j _ _ hne=>by unfold put2;rw[if_neg hne,if_neg hne,if_neg hne];exact⟨rfl,rfl⟩) (λj _=>by unfold put2;rw[if_pos rfl,if_pos rfl,if_pos rfl,Y0w])
 rw[this,Y0w]
theorem Zz15{n:Nat}{A:Mx}{i:Nat}{x y y':Nat->Int}(hi:i+1<n):det n (put2 A i x (λj=>y j+y' j))=det n (put2 A i x y)+det n (put2 A i x y'):=by
 have ne:¬ i+1=i:=by lia
 have:=Zy2 (n:=n) (A:=put2 A i x (λj=>y j+y' j)) (B:=put2 A i x y) (C:=put2 A i x y') (c:=1) (i:=i+1) (by lia) (λr j _ _ hne=>by unfold put2;rw[if_neg hne,if_neg hne,if_neg hne];exact⟨rfl,rfl⟩) (λj _=>by unfold put2;rw[if_neg ne,if_neg ne,if_neg ne,if_pos rfl,if_pos rfl,if_pos rfl,Y0w])
 rw[this,Y0w]
theorem Zi4{n:Nat}{A:Mx}{i:Nat}{x:Nat->Int}(hi:i+1<n):det n (put2 A i x x)=0:=Zj4 hi λj _=>by unfold put2;rw[if_pos rfl,if_neg (by lia),if_pos rfl]
theorem Zk10{n:Nat}{A:Mx}{i:Nat}{x y:Nat->Int}(hi:i+1<n):det n (put2 A i y x)=- det n (put2 A i x y):=by have h:=Zi4 (A:=A) (x:=λj=>x j+y j) hi;rw[Zl10 hi,Zz15 hi,Zz15 hi,Zi4 hi,Zi4 hi]at h;lia
theorem Yz9{A:Mx}{i:Nat}:put2 A i (A i) (A (i+1))=A:=by
 funext r
 unfold put2;by_cases h:r=i
 ·rw[if_pos h,h]
 ·rw[if_neg h];by_cases h2:r=i+1
  ·rw[if_pos h2,h2]
  ·rw[if_neg h2]
theorem Zz07{n:Nat}{A:Mx}{i:Nat}(hi:i+1<n):det n (put2 A i (A (i+1)) (A i))=- det n A:=by
 have:=Zk10 (A:=A) (x:=A i) (y:=A (i+1)) hi
 rw[Yz9]at this;exact this
theorem Zb2{n:Nat}{a:Nat}:∀ {d:Nat} {A:Mx},a+d+1<n->(∀ j,j<n->A a j=A (a+d+1) j)->det n A=0
 | 0,A,hn,h=>Zj4 hn h
 | d+1,A,hn,h=>by
  have e:=Zz07 (n:=n) (A:=A) (i:=a+d+1) (by lia);have z:det n (put2 A (a+d+1) (A (a+d+1+1)) (A (a+d+1)))=0:=by refine Zb2 (a:=a) (d:=d) (by lia) λj hj=>?_;unfold put2;rw[if_neg (by lia),if_neg (by lia),if_pos rfl];exact h j hj
  lia
def rotN(k t i:Nat):Nat:=if i<k then i else if i=k then k+t else if i<=k+t then i - 1 else i
theorem ZC7(k i:Nat):rotN k 0 i=i:=by
 unfold rotN;by_cases h:i<k
 ·rw[if_pos h]
 ·rw[if_neg h];by_cases h2:i=k
  ·rw[if_pos h2,h2];rfl
  ·rw[if_neg h2,if_neg (by lia)]
theorem Zz27{n k:Nat}:∀ {t:Nat} {A:Mx},k+t<n->det n (λi=>A (rotN k t i))=sg t * det n A
 | 0,A,_=>by rw[show sg 0=1 from rfl,Y0w];exact Zl λi j _ _=>by rw[ZC7]
 | t+1,A,h=>by
  have e:=Zz27 (n:=n) (k:=k) (t:=t) (A:=put2 A (k+t) (A (k+t+1)) (A (k+t))) (by lia);rw[Zz07 (by lia)]at e;have f:det n (λi=>A (rotN k (t+1) i))=det n (λi=>put2 A (k+t) (A (k+t+1)) (A (k+t)) (rotN k t i)):=Zl λi j _ _=>by
   refine congrFun ?_ j;have r1:rotN k (t+1) i=if i<k then i else if i=k then k+(t+1) else if i<=k+(t+1) then i - 1 else i:=rfl
   have r2:rotN k t i=if i<k then i else if i=k then k+t else if i<=k+t then i - 1 else i:=rfl
   unfold put2;by_cases h1:i<k
   ·rw[if_pos h1]at r1 r2;rw[r1,r2,if_neg (by lia),if_neg (by lia)]
   ·rw[if_neg h1]at r1 r2;by_cases h2:i=k
    ·rw[if_pos h2]at r1 r2;rw[r1,r2,if_pos rfl];rfl
    ·rw[if_neg h2]at r1 r2;by_cases h3:i<=k+t
     ·rw[if_pos (by lia)]at r1;rw[if_pos h3]at r2;rw[r1,r2,if_neg (by lia),if_neg (by lia)]
     ·rw[if_neg h3]at r2;by_cases h4:i=k+t+1
      ·rw[if_pos (by lia)]at r1;rw[r1,r2,if_neg (by grind),if_pos h4];exact YV A (by lia)
      ·rw[if_neg (by lia)]at r1;rw[r1,r2,if_neg (by lia),if_neg h4]
  rw[f,e,Zx4,Int.mul_neg,Yy34]
theorem Zk4:∀ {n:Nat} {A:Mx},(∀ i,i<n+1->A i 0=0)->det (n+1) A=0
 | 0,A,h=>by show 0+sg 0 * A 0 0 * 1=0;rw[h 0 (by omega),Y0s];rfl
 | n+1,A,h=>Zk2 λj hj=>by
  cases j with
  | zero=>rw[h 0 (by lia),Y0s,Y2h]
  | succ j =>
   rw[Zk4 (A:=mn A (j+1)) λi hi=>?_,Y0s];show A (i+1) (sk (j+1) 0)=0
   rw[show sk (j+1) 0=0 from rfl];exact h (i+1) (by lia)
theorem Zg8{n:Nat}{A:Mx}(h:∀ i,i<n->A (i+1) 0=0):det (n+1) A=A 0 0 * det n (λi j=>A (i+1) (j+1)):=by
 show sm (n+1) (λj=>sg j * A 0 j * det n (mn A j))=_;rw[Zl2,Zk2 λj hj=>?_]
 ·rw[Y0z,show sg 0=1 from rfl,Y0w];refine YV (A 0 0 * ·) (Zl λi j _ _=>?_);rfl
 ·cases n with
  | zero=>exact absurd hj (YW _)
  | succ n =>
   rw[Zk4 (A:=mn A (j+1)) λi hi=>?_,Y0s];exact h i hi
theorem Zz17{n:Nat}{A:Mx}{i:Nat}(hi:i<n)(h:∀ j,j<n->A i j=0):det n A=0:=by
 have:=Zy2 (A:=A) (B:=A) (C:=A) (c:=1) hi (λr j _ _ _=>⟨rfl,rfl⟩) (λj hj=>by rw[h j hj];rfl)
 grind
theorem Zz05{c:Int}:∀ {n:Nat} {A:Mx},det n (λi j=>c * A i j)=c ^ n * det n A
 | 0,_=>by show(1:Int)=c ^ 0 * 1;rw[Y1J];rfl
 | n+1,A=>by
  show sm (n+1) (λj=>sg j * (c * A 0 j) * det n (mn (λi j=>c * A i j) j))=c ^ (n+1) * sm (n+1) (λj=>sg j * A 0 j * det n (mn A j));rw[<- Zu5];refine ZB λj _=>?_;have e:det n (mn (λi j=>c * A i j) j)=c ^ n * det n (mn A j):=Zz05 (A:=mn A j)
  rw[e,Y2i];generalize det n (mn A j)=d;generalize c ^ n=p;generalize sg j=s;generalize A 0 j=x;simp only [Y0P,Y1Z,Y0l]
def offN(R:Mx):Mx:=λi j=>R 0 0 * R (i+1) (j+1) - R (i+1) 0 * R 0 (j+1)
def offB(R:Mx)(k:Nat):Mx:=λr j=>if r=0 then R 0 j else if r<=k then R 0 0 * R r j - R r 0 * R 0 j else R r j
theorem Zz57{m:Nat}{R:Mx}:∀ {k:Nat},k<m+1->det (m+1) (offB R k)=R 0 0 ^ k * det (m+1) R
 | 0,_=>by
  rw[Y1J,Y0w];refine Zl λi j _ _=>?_;unfold offB;by_cases h:i=0
  ·rw[if_pos h,h]
  ·rw[if_neg h,if_neg (by lia)]
 | k+1,hk=>by
  have ih:=Zz57 (m:=m) (R:=R) (k:=k) (by lia);obtain⟨C,hC⟩:∃ C:Mx,C=λr j=>if r=k+1 then - R (k+1) 0 * R 0 j else offB R k r j:=⟨_,rfl⟩
  obtain⟨B,hB⟩:∃ B:Mx,B=λr j=>if r=k+1 then R 0 j else offB R k r j:=⟨_,rfl⟩
  obtain⟨Z,hZ⟩:∃ Z:Mx,Z=λr j=>if r=k+1 then 0 else offB R k r j:=⟨_,rfl⟩
  have hBz:det (m+1) B=0:=Zb2 (n:=m+1) (a:=0) (d:=k) (by lia) λj hj=>by
   rw[hB];show(if 0=k+1 then _ else offB R k 0 j)=if 0+k+1=k+1 then _ else _
   rw[if_neg (by lia),if_pos (by lia)];rfl
  have hZz:det (m+1) Z=0:=Zz17 (i:=k+1) hk λj hj=>by rw[hZ];exact if_pos rfl
  have hCz:det (m+1) C=0:=by
   have:=Zy2 (A:=C) (B:=B) (C:=Z) (c:=- R (k+1) 0) hk (λr j _ _ hne=>by
    rw[hC,hB,hZ];show(if r=k+1 then _ else offB R k r j)=(if r=k+1 then _ else offB R k r j)/\(if r=k+1 then _ else offB R k r j)=(if r=k+1 then _ else offB R k r j)
    rw[if_neg hne,if_neg hne,if_neg hne];exact⟨rfl,rfl⟩) (λj _=>by
    rw[hC,hB,hZ];show(if k+1=k+1 then _ else _)=_ * (if k+1=k+1 then _ else _)+(if k+1=k+1 then _ else _)
    rw[if_pos rfl,if_pos rfl,if_pos rfl,Y0z])
   rw[this,hBz,hZz,Y0s];rfl
  have:=Zy2 (A:=offB R (k+1)) (B:=offB R k) (C:=C) (c:=R 0 0) hk (λr j _ _ hne=>by
   have e1:offB R (k+1) r j=offB R k r j:=by
    unfold offB;by_cases h0:r=0
    ·rw[if_pos h0,if_pos h0]
    ·rw[if_neg h0,if_neg h0];by_cases h1:r<=k
     ·rw[if_pos h1,if_pos (by lia)]
     ·rw[if_neg h1,if_neg (by lia)]
   refine⟨e1,?_⟩;rw[hC,e1];show _=if r=k+1 then _ else _
   rw[if_neg hne]) (λj _=>by
   have e1:offB R (k+1) (k+1) j=R 0 0 * R (k+1) j - R (k+1) 0 * R 0 j:=by unfold offB;rw[if_neg (by lia),if_pos (by lia)]
   have e2:offB R k (k+1) j=R (k+1) j:=by unfold offB;rw[if_neg (by omega),if_neg (by lia)]
   rw[e1,e2,hC];show _=_+(if k+1=k+1 then - R (k+1) 0 * R 0 j else _)
   rw[if_pos rfl,Yy34]
   rfl)
  rw[this,hCz,ih,Y0z,Y2i];rw[<- Y0l,Y0P (R 0 0)]
theorem Zz412{m:Nat}{R:Mx}:R 0 0 * det m (offN R)=R 0 0 ^ m * det (m+1) R:=by
 rw[<- Zz57 (k:=m) (by lia),Zg8 λi hi=>?_]
 ·have e0:offB R m 0 0=R 0 0:=if_pos rfl;rw[e0];refine YV (R 0 0 * ·) (Zl λi j hi hj=>?_);unfold offB offN;rw[if_neg (by lia),if_pos (by lia)]
 ·unfold offB;rw[if_neg (by lia),if_pos (by lia),Y0P];lia
def ex(k:Nat)(r:Nat->Nat)(i:Nat):Nat:=if i<k then i else k+r (i - k)
def Bar(A:Mx)(k M:Nat)(R:Mx)(last:Int):Prop:=last≠0/\∀(m:Nat) (r c:Nat->Nat),(∀ i,i<m+1->r i<M/\c i<M) ->
 det (m+1) (λi j=>R (r i) (c j))=det (k+m+1) (λi j=>A (ex k r i) (ex k c j)) * last ^ m
theorem Zk8(A:Mx)(n:Nat):Bar A 0 n A 1:=⟨by decide,λm r c _=>by rw[Int.one_pow,Y1i,Y1f];refine Zl λi j _ _=>?_;unfold ex;rw[if_neg (YW _),if_neg (YW _),Y1f,Y1f,Nat.sub_zero,Nat.sub_zero]⟩
theorem ZB9{p:Int}(h:p≠0):∀ n:Nat,p ^ n≠0
 | 0=>by rw[Y1J];decide
 | n+1=>by rw[Y2i];exact Int.mul_ne_zero (ZB9 h n) h
def bef(r:Nat->Nat):Nat->Nat
 | 0=>0
 | i+1=>r i+1
theorem ZY11(k:Nat)(r:Nat->Nat)(i:Nat):ex k (bef r) i=ex (k+1) r i:=by
 unfold ex;by_cases h:i<k
 ·rw[if_pos h,if_pos (by lia)]
 ·rw[if_neg h];by_cases h2:i=k
  ·rw[if_pos (by lia),h2,Yy14];rfl
  ·rw[if_neg (by lia)];obtain⟨d,rfl⟩:∃ d,i=k+d+1:=⟨i - k - 1,by grind⟩;rw[show k+d+1 - k=d+1 by lia,show k+d+1 - (k+1)=d by lia];show k+(r d+1)=k+1+r d
   lia
theorem Zz79{A:Mx}{k M:Nat}{R:Mx}{last:Int}(h:Bar A k (M+1) R last)(hp:R 0 0≠0){m:Nat}{r c:Nat->Nat}(hb:∀ i,i<m+1->r i<M/\c i<M) :
  det (m+1) (λi j=>offN R (r i) (c j))=R 0 0 ^ m * (last ^ (m+1) * det (k+1+m+1) (λi j=>A (ex (k+1) r i) (ex (k+1) c j))):=by
 have e1:=Zz412 (m:=m+1) (R:=λi j=>R (bef r i) (bef c j));have e2:=h.2 (m+1) (bef r) (bef c) λi hi=>by
  cases i with
  | zero=>exact⟨Nat.succ_pos _,Nat.succ_pos _⟩
  | succ i=>have:=hb i (by lia);exact⟨Nat.succ_lt_succ this.1,Nat.succ_lt_succ this.2⟩
 have e3:det (m+1) (offN λi j=>R (bef r i) (bef c j))=det (m+1) (λi j=>offN R (r i) (c j)):=rfl;have e4:det (k+(m+1)+1) (λi j=>A (ex k (bef r) i) (ex k (bef c) j))=det (k+1+m+1) (λi j=>A (ex (k+1) r i) (ex (k+1) c j)):=by rw[show k+(m+1)+1=k+1+m+1 by lia];exact Zl λi j _ _=>by rw[ZY11,ZY11]
 rw[e3]at e1;rw[e4]at e2;have e5:R (bef r 0) (bef c 0)=R 0 0:=rfl
 rw[e5,e2]at e1;generalize det (m+1) (λi j=>offN R (r i) (c j))=x at *;generalize det (k+1+m+1) (λi j=>A (ex (k+1) r i) (ex (k+1) c j))=y at *;rw[Y2i]at e1;refine Yy35 hp ?_;rw[e1,Y0P y,Y0P (R 0 0 ^ m),Y0l]
theorem Zz47(A:Mx):det 1 A=A 0 0:=by show 0+sg 0 * A 0 0 * 1=A 0 0;rw[show sg 0=1 from rfl];lia
theorem Zf12{A:Mx}{k M:Nat}{R:Mx}{last:Int}(h:Bar A k (M+1) R last)(hp:R 0 0≠0){i j:Nat}(hi:i<M)(hj:j<M) :
  offN R i j=last * det (k+2) (λa b=>A (ex (k+1) (λ_=>i) a) (ex (k+1) (λ_=>j) b)):=by
 have:=Zz79 h hp (m:=0) (r:=λ_=>i) (c:=λ_=>j) λ_ _=>⟨hi,hj⟩
 rw[Zz47,Y1J,Y0w,Y2i,Y1J,Y0w]at this;exact this
theorem Zz10{A:Mx}{k M:Nat}{R R':Mx}{last:Int}(h:Bar A k (M+1) R last)(hp:R 0 0≠0)(hR:∀ i j,i<M->j<M->R' i j=(offN R i j).fdiv last):Bar A (k+1) M R' (R 0 0):=by
 refine⟨hp,λm r c hb=>?_⟩;have ex1:∀ i j,i<M->j<M->offN R i j=last * R' i j:=λi j hi hj=>by rw[hR i j hi hj,Zf12 h hp hi hj,Int.mul_fdiv_cancel_left _ h.1]
 have e1:=Zz79 h hp hb;have e2:det (m+1) (λi j=>offN R (r i) (c j))=last ^ (m+1) * det (m+1) (λi j=>R' (r i) (c j)):=by rw[<- Zz05];exact Zl λi j hi hj=>ex1 _ _ (hb i hi).1 (hb j hj).2
 rw[e2]at e1;refine Yy35 (ZB9 h.1 (m+1)) ?_;rw[e1];generalize det (k+1+m+1) (λi j=>A (ex (k+1) r i) (ex (k+1) c j))=y;rw[Y1Z,Y0P y]
theorem Ze12{A:Mx}{k M t:Nat}{R:Mx}{last:Int}(h:Bar A k M R last)(ht:t<M):Bar (λi=>A (rotN k t i)) k M (λi=>R (rotN 0 t i)) last:=by
 refine⟨h.1,λm r c hb=>?_⟩;have e:=h.2 m (λi=>rotN 0 t (r i)) c λi hi=>⟨by
  have:=(hb i hi).1
  unfold rotN;rw[if_neg (by lia)];split
  ·lia
  ·split <;> lia,(hb i hi).2⟩
 rw[e];refine YV (· * last ^ m) (Zl λi j _ _=>?_);refine YV (λa=>A a (ex k c j)) ?_;unfold ex;by_cases hi:i<k
 ·rw[if_pos hi,if_pos hi];unfold rotN;rw[if_pos hi]
 ·rw[if_neg hi,if_neg hi];show k+rotN 0 t (r (i - k))=rotN k t (k+r (i - k))
  generalize r (i - k)=a;have r1:rotN 0 t a=if a<0 then a else if a=0 then 0+t else if a<=0+t then a - 1 else a:=rfl
  have r2:rotN k t (k+a)=if k+a<k then k+a else if k+a=k then k+t else if k+a<=k+t then k+a - 1 else k+a:=rfl
  rw[if_neg (by lia)]at r1 r2;by_cases h1:a=0
  ·rw[if_pos h1]at r1;rw[if_pos (by lia)]at r2;rw[r1,r2];lia
  ·rw[if_neg h1]at r1;rw[if_neg (by lia)]at r2;by_cases h2:a<=t
   ·rw[if_pos (by lia)]at r1;rw[if_pos (by lia)]at r2;rw[r1,r2];lia
   ·rw[if_neg (by lia)]at r1;rw[if_neg (by lia)]at r2;rw[r1,r2]
theorem Zn12(k i:Nat):ex k (λi=>i) i=i:=by
 unfold ex;by_cases h:i<k
 ·rw[if_pos h]
 ·rw[if_neg h];show k+(i - k)=i
  grind
theorem ZA10{A:Mx}{k M:Nat}{R:Mx}{last:Int}(h:Bar A k (M+1) R last)(h0:∀ i,i<M+1->R i 0=0):det (k+M+1) A=0:=by
 have e:=h.2 M (λi=>i) (λi=>i) λi hi=>⟨hi,hi⟩;rw[Zk4 (A:=λi j=>R i j) h0]at e;have e2:det (k+M+1) (λi j=>A (ex k (λi=>i) i) (ex k (λi=>i) j))=det (k+M+1) A:=Zl λi j _ _=>by rw[Zn12,Zn12]
 rw[e2]at e;rcases Int.mul_eq_zero.mp e.symm with z | z
 ·exact z
 ·exact absurd z (ZB9 h.1 M)
theorem Zg12{A:Mx}{k:Nat}{R:Mx}{last:Int}(h:Bar A k 1 R last):R 0 0=det (k+1) A:=by
 have e:=h.2 0 (λi=>i) (λi=>i) λi hi=>⟨by lia,by omega⟩;rw[Zz47,Y1J,Y1i]at e;have e2:det (k+0+1) (λi j=>A (ex k (λi=>i) i) (ex k (λi=>i) j))=det (k+1) A:=Zl λi j _ _=>by rw[Zn12,Zn12]
 rw[e2]at e;exact e
end My
namespace L2
open PySem PySem.Spec PyProof.Rows
def ZS13(i j:Int):Prop:=i.natAbs<2 ^ 9000/\j.natAbs<2 ^ 9000
def ZU13(i j:Int):Prop:=j≠0/\j.natAbs<2 ^ 9000
theorem Zf5{a:Int}(h:a.natAbs<2 ^ 9000):Builtin.Int.intBits a<=9000:=PySem.intBits_le_iff.mpr h
section
variable{X:Cx}
theorem Zl6:OpR X (binaryOp .Mult) (rI ZS13 λi j=>.int (i * j)):=opI λ_ _ _ _ _ _ _ hc q=>mul_int q (.of_bits (Yt (Zf5 hc.1) (by decide)) (Yt (Zf5 hc.2) (by decide)))
theorem ZJ9:OpR X (binaryOp .FloorDiv) (rI ZU13 λi j=>.int (i.fdiv j)):=opI λ_ _ _ _ _ _ _ hc q=>floordiv_int hc.1 q (.inl (PyProof.noPylong_of_log2 ((Nat.log2_lt (by have:=hc.1;lia)).mpr hc.2)))
end
end L2
namespace My
def fnL(L:List (List Int)):Mx:=λi j=>(L.getD i []).getD j 0
theorem ZH2{L:List (List Int)}{l:List Int}{i j:Nat}{x:Int}(h:L[i]?=some l)(h2:l[j]?=some x):fnL L i j=x:=by
 have e:L.getD i []=l:=by rw[Yy6,h];rfl
 unfold fnL;rw[e,Yy6,h2];rfl
def bnd(B:Nat):Nat->Nat
 | 0=>1
 | n+1=>(n+1) * (B * bnd B n)
theorem Zz411{f:Nat->Int}{C:Nat}:∀ {n:Nat},(∀ i,i<n->(f i).natAbs<=C)->(sm n f).natAbs<=n * C
 | 0,_=>by show(0:Int).natAbs<=0 * C;rw[Nat.zero_mul];exact Yy8 0
 | n+1,h=>by
  have h1:=Zz411 (n:=n) λi hi=>h i (by lia);have h2:=h n (by lia)
  have h3:(sm n f+f n).natAbs<=(sm n f).natAbs+(f n).natAbs:=Int.natAbs_add_le ..;show(sm n f+f n).natAbs<=(n+1) * C
  rw[Nat.succ_mul];lia
theorem Zz39{B:Nat}:∀ {n:Nat} {A:Mx},(∀ i j,i<n->j<n->(A i j).natAbs<=B)->(det n A).natAbs<=bnd B n
 | 0,_,_=>Yy8 1
 | n+1,A,h=>by
  refine Zz411 λj hj=>?_;have e:(sg j).natAbs=1:=by unfold sg;split <;> rfl
  rw[Y3e,Y3e,e,Nat.one_mul];exact Yy18 (h 0 j (by lia) hj) (Zz39 λi k hi hk=>h (i+1) (sk j k) (by lia) (Zz46 hk))
theorem Zc12{b:Nat}:∀ {n:Nat},n<=16->bnd (2 ^ b) n<=2 ^ ((b+4) * n)
 | 0,_=>by show 1<=2 ^ ((b+4) * 0);rw[Nat.mul_zero];exact Yy8 1
 | n+1,h=>by
  have ih:=Zc12 (b:=b) (n:=n) (by lia);have e:2 ^ ((b+4) * (n+1))=16 * (2 ^ b * 2 ^ ((b+4) * n)):=by rw[Nat.mul_succ,Nat.pow_add,Nat.pow_add,Y2I (2 ^ ((b+4) * n)),Y2I (2 ^ b) (2 ^ 4),Nat.mul_assoc]
  rw[e];show(n+1) * (2 ^ b * bnd (2 ^ b) n)<=_
  exact Yy18 h (Yy18 (Yy8 _) ih)
theorem Zf8{n:Nat}{A:Mx}(hn:n<=16)(h:∀ i j,i<n->j<n->(A i j).natAbs<=2 ^ 400):(det n A).natAbs<2 ^ 9000:=by
 have h1:=Zz39 h;have h2:=Zc12 (b:=400) hn
 have h3:2 ^ ((400+4) * n)<=2 ^ (404 * 16):=Y2e (by decide) (Yy18 (Yy8 _) hn);have h4:2 ^ (404 * 16)<2 ^ 9000:=Nat.pow_lt_pow_right (by decide) (by decide)
 exact Y1P (Yt h1 (Yt h2 h3)) h4
theorem Zc13{A:Mx}{k M:Nat}{R:Mx}{last:Int}(h:Bar A k M R last){i j:Nat}(hi:i<M)(hj:j<M):R i j=det (k+1) (λa b=>A (ex k (λ_=>i) a) (ex k (λ_=>j) b)):=by
 have:=h.2 0 (λ_=>i) (λ_=>j) λ_ _=>⟨hi,hj⟩
 rw[Zz47,Y1J,Y1i]at this;exact this
theorem Zl8{A:Mx}{k M n:Nat}{R:Mx}{last:Int}(h:Bar A k M R last)(hn:k+M=n)(hn16:n<=16)(hA:∀ i j,i<n->j<n->(A i j).natAbs<=2 ^ 400){i j:Nat}(hi:i<M)(hj:j<M):(R i j).natAbs<2 ^ 9000:=by
 rw[Zc13 h hi hj];refine Zf8 (by lia) λa b ha hb=>hA _ _ ?_ ?_
 ·have e:ex k (λ_=>i) a=if a<k then a else k+i:=rfl
  rw[e];split <;> lia
 ·have e:ex k (λ_=>j) b=if b<k then b else k+j:=rfl
  rw[e];split <;> lia
theorem Ze11{L:List (List Int)}{l:List Int}{t:Nat}(h:L[t]?=some l)(i:Nat):(l :: L.eraseIdx t)[i]?=L[rotN 0 t i]?:=by
 have ht:=(Yy1.mp h).1;have r:rotN 0 t i=if i<0 then i else if i=0 then 0+t else if i<=0+t then i - 1 else i:=rfl
 rw[if_neg (by lia)]at r;cases i with
 | zero =>
  rw[if_pos rfl,Y1f]at r;rw[r,h];rfl
 | succ i =>
  rw[if_neg (by lia),Y1f]at r;rw[r,List.getElem?_cons_succ,Yy24];by_cases c:i+1<=t
  ·rw[if_pos c,if_pos (by lia)];rfl
  ·rw[if_neg c,if_neg (by lia)]
theorem Zf11{L:List (List Int)}{l:List Int}{t:Nat}(h:L[t]?=some l):fnL (l :: L.eraseIdx t)=λi=>fnL L (rotN 0 t i):=by
 funext i j
 show((l :: L.eraseIdx t).getD i []).getD j 0=(L.getD (rotN 0 t i) []).getD j 0;refine YV (λr:List Int=>r.getD j 0) ?_;rw[Yy6,Yy6,Ze11 h]
def tkn(y:Int)(p:List Int)(last:Int)(l:List Int):List Int:=List.zipWith (λown other=>(y * own - l.headD 0 * other).fdiv last) l.tail p
theorem Zr8{y last:Int}{p l:List Int}(h:l.length=p.length+1):(tkn y p last l).length=p.length:=by unfold tkn;rw[Y1a,List.length_tail];grind
theorem ZW10{y last:Int}{p:List Int}{L:List (List Int)}{M:Nat}(hp:p.length=M)(hL:L.length=M)(hl:∀ l∈L,l.length=M+1){i j:Nat}(hi:i<M)(hj:j<M) :
  fnL (L.map (tkn y p last)) i j=(offN (fnL ((y :: p) :: L)) i j).fdiv last:=by
 obtain⟨l,hli⟩:∃ l,L[i]?=some l:=⟨_,Yy0 (by lia)⟩;have hll:=hl l (Yy9 hli)
 obtain⟨x,l',rfl⟩:∃ x l',l=x :: l':=by
  cases l with
  | nil=>cases hll
  | cons x l'=>exact⟨x,l',rfl⟩
 have hl':l'.length=M:=by rw[YD]at hll;lia
 obtain⟨u,hu⟩:∃ u,l'[j]?=some u:=⟨_,Yy0 (by lia)⟩;obtain⟨v,hv⟩:∃ v,p[j]?=some v:=⟨_,Yy0 (by lia)⟩;have e1:fnL (L.map (tkn y p last)) i j=(y * u - x * v).fdiv last:=ZH2 (l:=tkn y p last (x :: l')) (by rw[Yu,hli];rfl) (by
  show(List.zipWith _ l' p)[j]?=_;rw[Y0I,hu,hv]
  rfl)
 have e2:fnL ((y :: p) :: L) 0 0=y:=rfl;have e3:fnL ((y :: p) :: L) (i+1) (j+1)=u:=ZH2 (l:=x :: l') hli hu
 have e4:fnL ((y :: p) :: L) (i+1) 0=x:=ZH2 (l:=x :: l') hli rfl;have e5:fnL ((y :: p) :: L) 0 (j+1)=v:=ZH2 (l:=y :: p) rfl hv
 rw[e1];unfold offN;rw[e2,e3,e4,e5]
end My
namespace My
open PySem L2
def RowV(K:PySem.W.Frag)(H:Hp)(v:V)(l:List Int):Prop:=∃(r:Addr) (k:Bool),v=.ref r/\SqK k K H r (IL l)
def LiV(d:Addr)(H:Hp)(v:V)(l:List Int):Prop:=∃ r,v=.ref r/\H r=some (.lst (IL l))/\r≠d
theorem LiV.same{d:Addr}{H H':Hp}{v:V}{l:List Int}(s:Same H H')(h:LiV d H v l):LiV d H' v l:=by obtain⟨r,e,h,n⟩:=h;exact⟨r,e,s _ _ h,n⟩
theorem LiV.mut{d:Addr}{H:Hp}{v:V}{l:List Int}{o:HO}(h:LiV d H v l):LiV d (upd H d o) v l:=by obtain⟨r,e,h,n⟩:=h;exact⟨r,e,by rw[Zb n];exact h,n⟩
theorem LiV.list{d:Addr}{H:Hp}{v:V}{l:List Int}(h:LiV d H v l):Zt7 H v l:=by obtain⟨r,e,h,_⟩:=h;exact⟨r,e,h⟩
theorem Bears.erase{α:Type}[DecidableEq α]{R:V->α->Prop}{xs:List V}{l:List α}(h:Bears R xs l)(t:Nat):Bears R (xs.eraseIdx t) (l.eraseIdx t):=by
 have hl:=h.1;refine⟨by rw[Y1H,Y1H,hl],λi a e=>?_⟩;rw[Yy24]at e;rw[Yy24];split at e
 ·next c=>rw[if_pos c];exact h.2 _ _ e
 ·next c=>rw[if_neg c];exact h.2 _ _ e
theorem Za7(x:Int)(l:List Int):cutV (IL (x :: l)) (some 1) none=IL l:=by rw[Zz55 (by decide)];rfl
theorem Yz13(t:Nat):sg t * sg t=1:=by unfold sg;split <;> rfl
end My
namespace My
theorem Zl9{f:Nat->Nat->Int}{n m:Nat}:sm n (λi=>sm m (λj=>f i j))=sm m (λj=>sm n (λi=>f i j)):=Zz36
theorem Zz29:∀ {n:Nat} {A:Mx},det (n+1) A=sm (n+1) λi=>sg i * A i 0 * det n (λr c=>A (sk i r) (c+1))
 | 0,A=>rfl
 | n+1,A=>by
  have e1:det (n+2) A=sg 0 * A 0 0 * det (n+1) (mn A 0)+sm (n+1) λj=>sg (j+1) * A 0 (j+1) * det (n+1) (mn A (j+1)):=Zl2;have e2:sm (n+2) (λi=>sg i * A i 0 * det (n+1) (λr c=>A (sk i r) (c+1)))=sg 0 * A 0 0 * det (n+1) (λr c=>A (sk 0 r) (c+1))+sm (n+1) λi=>sg (i+1) * A (i+1) 0 * det (n+1) (λr c=>A (sk (i+1) r) (c+1)):=Zl2
  rw[e1,e2];have e3:det (n+1) (mn A 0)=det (n+1) (λr c=>A (sk 0 r) (c+1)):=Zl λr c _ _=>rfl
  rw[e3];refine YV (λz:Int=>sg 0 * A 0 0 * det (n+1) (λr c=>A (sk 0 r) (c+1))+z) ?_;obtain⟨D,hD⟩:∃ D:Nat->Nat->Int,D=λi j=>det n (λr c=>A (sk i r+1) (sk (j+1) (c+1))):=⟨_,rfl⟩;have e4:∀ j,j<n+1->det (n+1) (mn A (j+1))=sm (n+1) λi=>sg i * A (i+1) 0 * D i j:=λj _=>by rw[Zz29,hD];rfl
  have e5:∀ i,i<n+1->det (n+1) (λr c=>A (sk (i+1) r) (c+1))=sm (n+1) λj=>sg j * A 0 (j+1) * D i j:=λi hi=>by
   show sm (n+1) (λj=>sg j * A (sk (i+1) 0) (j+1) * det n (mn (λr c=>A (sk (i+1) r) (c+1)) j))=_;refine ZB λj _=>?_;rw[hD];show sg j * A (sk (i+1) 0) (j+1) * det n (mn (λr c=>A (sk (i+1) r) (c+1)) j)=sg j * A 0 (j+1) * det n (λr c=>A (sk i r+1) (sk (j+1) (c+1)))
   rw[show sk (i+1) 0=0 from rfl];refine YV (sg j * A 0 (j+1) * ·) (Zl λr c _ _=>?_);show A (sk (i+1) (r+1)) (sk j c+1)=A (sk i r+1) (sk (j+1) (c+1))
   have f1:sk (i+1) (r+1)=sk i r+1:=by
    unfold sk;by_cases h:r<i
    ·rw[if_pos h,if_pos (by lia)]
    ·rw[if_neg h,if_neg (by lia)]
   have f2:sk j c+1=sk (j+1) (c+1):=by
    unfold sk;by_cases h:c<j
    ·rw[if_pos h,if_pos (by lia)]
    ·rw[if_neg h,if_neg (by lia)]
   rw[f1,f2]
  have e6:sm (n+1) (λj=>sg (j+1) * A 0 (j+1) * det (n+1) (mn A (j+1)))=sm (n+1) λj=>sm (n+1) λi=>sg (j+1) * A 0 (j+1) * (sg i * A (i+1) 0 * D i j):=ZB λj hj=>by rw[e4 j hj,Zu5]
  have e7:sm (n+1) (λi=>sg (i+1) * A (i+1) 0 * det (n+1) (λr c=>A (sk (i+1) r) (c+1)))=sm (n+1) λi=>sm (n+1) λj=>sg (i+1) * A (i+1) 0 * (sg j * A 0 (j+1) * D i j):=ZB λi hi=>by rw[e5 i hi,Zu5]
  rw[e6,e7,Zl9];refine ZB λi _=>ZB λj _=>?_;rw[Zx4,Zx4];generalize D i j=d;generalize A 0 (j+1)=x;generalize A (i+1) 0=y;generalize sg i=s;generalize sg j=u;simp only [Yy34,Int.neg_inj];simp only [Y0P,Y1Z,Y0l]
theorem det_T:∀ {n:Nat} {A:Mx},det n (λi j=>A j i)=det n A
 | 0,_=>rfl
 | n+1,A=>by
  rw[Zz29 (A:=A)];refine ZB λj _=>?_;show sg j * A j 0 * det n (λi k=>A (sk j k) (i+1))=sg j * A j 0 * det n (λr c=>A (sk j r) (c+1))
  rw[<- det_T (A:=λr c=>A (sk j r) (c+1))]
theorem Zz212{n a b:Nat}{A:Mx}(ha:a<n)(hb:b<n)(hne:a≠b)(h:∀ j,j<n->A a j=A b j):det n A=0:=by
 rcases Nat.lt_or_gt_of_ne hne with c | c
 ·obtain⟨d,rfl⟩:∃ d,b=a+d+1:=⟨b - a - 1,by grind⟩;exact Zb2 hb h
 ·obtain⟨d,rfl⟩:∃ d,a=b+d+1:=⟨a - b - 1,by grind⟩;exact Zb2 ha λj hj=>(h j hj).symm
def putr(A:Mx)(i:Nat)(x:Nat->Int):Mx:=λr=>if r=i then x else A r
theorem Zz37{n i:Nat}{A:Mx}{c:Int}{x y:Nat->Int}(hi:i<n):det n (putr A i (λj=>c * x j+y j))=c * det n (putr A i x)+det n (putr A i y) :=
 Zy2 hi (λr j _ _ hne=>by unfold putr;rw[if_neg hne,if_neg hne,if_neg hne];exact⟨rfl,rfl⟩) (λj _=>by unfold putr;rw[if_pos rfl,if_pos rfl,if_pos rfl])
theorem Ze6{A:Mx}{i:Nat}:putr A i (A i)=A:=by
 funext r
 unfold putr;by_cases h:r=i
 ·rw[if_pos h,h]
 ·rw[if_neg h]
theorem Zz77{n a b:Nat}{A:Mx}{c:Int}(ha:a<n)(hb:b<n)(hne:a≠b):det n (putr A a (λj=>A a j+c * A b j))=det n A:=by
 have e:(λj=>A a j+c * A b j)=λj=>c * A b j+A a j:=by funext j;lia
 rw[e,Zz37 ha,Ze6,Zz212 ha hb hne (A:=putr A a (A b)) λj _=>?_,Y0s,Y1W];unfold putr;rw[if_pos rfl,if_neg (YY hne)]
theorem ZE12(a i:Nat):rotN 0 a (i+1)=sk a i:=by
 have r:rotN 0 a (i+1)=if i+1<0 then i+1 else if i+1=0 then 0+a else if i+1<=0+a then i+1 - 1 else i+1:=rfl
 rw[if_neg (by lia),if_neg (by lia)]at r;rw[r];unfold sk;by_cases h:i<a
 ·rw[if_pos h,if_pos (by lia)];lia
 ·rw[if_neg h,if_neg (by lia)]
theorem Zu8{f:Nat->Int}{a:Nat}:∀ {n:Nat},a<n->(∀ j,j<n->j≠a->f j=0)->sm n f=f a
 | 0,h,_=>absurd h (YW _)
 | n+1,h,h0=>by
  show sm n f+f n=f a;by_cases c:a=n
  ·rw[Zk2 λi hi=>h0 i (by grind) (by lia),c,Y1W]
  ·rw[Zu8 (n:=n) (by lia) λj hj hne=>h0 j (by lia) hne,h0 n (by lia) (by lia),Y0z]
theorem Zj10{n a:Nat}{A:Mx}(ha:a<n+1):det (n+1) (putr A a (λj=>if j=a then 1 else 0))=det n (λi j=>A (sk a i) (sk a j)):=by
 have e:=Zz27 (n:=n+1) (k:=0) (t:=a) (A:=putr A a (λj=>if j=a then 1 else 0)) (by lia);have r0:rotN 0 a 0=a:=by show(if 0<0 then 0 else if 0=0 then 0+a else _)=a;rw[if_neg (by lia),if_pos rfl,Y1f]
 have top:det (n+1) (λi=>putr A a (λj=>if j=a then 1 else 0) (rotN 0 a i))=sg a * det n (λi j=>A (sk a i) (sk a j)):=by
  show sm (n+1) (λj=>sg j * putr A a (λj=>if j=a then 1 else 0) (rotN 0 a 0) j * det n (mn (λi=>putr A a (λj=>if j=a then 1 else 0) (rotN 0 a i)) j))=_;rw[Zu8 ha λj _ hne=>?_]
  ·rw[r0];have e1:putr A a (λj=>if j=a then 1 else 0) a a=1:=by unfold putr;rw[if_pos rfl,if_pos rfl]
   rw[e1,Y1i];refine YV (sg a * ·) (Zl λi j _ _=>?_);show putr A a (λj=>if j=a then 1 else 0) (rotN 0 a (i+1)) (sk a j)=A (sk a i) (sk a j)
   rw[ZE12];unfold putr;rw[if_neg (by unfold sk;split <;> lia)]
  ·rw[r0];have e1:putr A a (λj=>if j=a then 1 else 0) a j=0:=by unfold putr;rw[if_pos rfl,if_neg hne]
   rw[e1,Y0s,Y2h]
 rw[top]at e;have h:=YV (sg a * ·) e
 simp only [<- Y0l]at h;rw[show sg a * sg a=1 by unfold sg;split <;> rfl,Y0w,Y0w]at h
 exact h.symm
theorem Zz67{n a:Nat}{A:Mx}{w:Int}(ha:a<n+1):det (n+1) (λi j=>A i j+w * ((if i=a then 1 else 0) * (if j=a then 1 else 0)))=det (n+1) A+w * det n (λi j=>A (sk a i) (sk a j)):=by
 have e:det (n+1) (λi j=>A i j+w * ((if i=a then 1 else 0) * (if j=a then 1 else 0)))=det (n+1) (putr A a (λj=>w * (λj=>if j=a then 1 else 0) j+A a j)):=Zl λi j _ _=>by
  unfold putr;by_cases h:i=a
  ·subst h;rw[if_pos rfl,if_pos rfl,Y0w];show A i j+w * (if j=i then 1 else 0)=w * (if j=i then 1 else 0)+A i j
   exact Int.add_comm ..
  ·rw[if_neg h,if_neg h,Y2h,Y0s,Y0z]
 rw[e,Zz37 ha,Ze6,Zj10 ha];lia
def ind(u v i:Nat):Int:=(if i=u then 1 else 0) - (if i=v then 1 else 0)
def ZL5(A:Mx)(a b:Nat):Mx:=λi j=>(A i j+(if i=b then A a j else 0))+(if j=b then A i a+(if i=b then A a a else 0) else 0)
theorem Zz25{n a b:Nat}{A:Mx}(ha:a<n)(hb:b<n)(hne:a≠b):det n (ZL5 A a b)=det n A:=by
 have e1:det n A=det n (putr A b (λj=>A b j+1 * A a j)):=(Zz77 hb ha (YY hne)).symm;obtain⟨R,hR⟩:∃ R:Mx,R=putr A b (λj=>A b j+1 * A a j):=⟨_,rfl⟩;have e2:det n R=det n (putr (λi j=>R j i) b (λj=>(λi j=>R j i) b j+1 * (λi j=>R j i) a j)):=by rw[Zz77 (A:=λi j=>R j i) hb ha (YY hne)];exact det_T.symm
 rw[e1,<- hR,e2,<- det_T (A:=putr (λi j=>R j i) b (λj=>(λi j=>R j i) b j+1 * (λi j=>R j i) a j))];refine Zl λi j _ _=>?_;have rv:∀ r c,R r c=A r c+(if r=b then A a c else 0):=λr c=>by
  rw[hR];unfold putr;by_cases h:r=b
  ·rw[if_pos h,if_pos h,h];lia
  ·rw[if_neg h,if_neg h];lia
 unfold ZL5;show _=(putr (λi j=>R j i) b (λj=>R j b+1 * R j a)) j i
 unfold putr;by_cases h:j=b
 ·rw[if_pos h,if_pos h,rv,rv,h];by_cases h2:i=b
  ·rw[if_pos h2,if_pos h2];lia
  ·rw[if_neg h2,if_neg h2];lia
 ·rw[if_neg h,if_neg h];show _=R i j
  rw[rv];lia
theorem Zz312{n a b:Nat}{A:Mx}{w:Int}(ha:a<n+1)(hb:b<n+1)(hne:a≠b):det (n+1) (λi j=>A i j+w * (ind a b i * ind a b j))=det (n+1) A+w * det n (λi j=>ZL5 A a b (sk a i) (sk a j)):=by
 have e1:=Zz25 (A:=λi j=>A i j+w * (ind a b i * ind a b j)) ha hb hne;have e2:det (n+1) (ZL5 (λi j=>A i j+w * (ind a b i * ind a b j)) a b)=det (n+1) (λi j=>ZL5 A a b i j+w * ((if i=a then 1 else 0) * (if j=a then 1 else 0))):=Zl λi j _ _=>by
  have na:¬ a=b:=hne;have nb:¬ b=a:=YY hne
  unfold ZL5 ind;by_cases hi:i=b
  ·subst hi;by_cases hj:j=i
   ·subst hj;simp[na,nb];lia
   ·by_cases hj2:j=a
    ·subst hj2;simp[na,nb,hj];lia
    ·simp[na,nb,hj,hj2]
  ·by_cases hi2:i=a
   ·subst hi2;by_cases hj:j=b
    ·subst hj;simp[na,nb];lia
    ·by_cases hj2:j=i
     ·subst hj2;simp[na,nb]
     ·simp[na,nb,hj,hj2]
   ·by_cases hj:j=b
    ·subst hj;simp[na,nb,hi,hi2]
    ·by_cases hj2:j=a
     ·subst hj2;simp[na,nb,hi,hi2]
     ·simp[na,nb,hi,hi2,hj,hj2]
 rw[<- e1,e2,Zz67 ha,Zz25 ha hb hne]
end My
namespace My
open PySem L2
abbrev Ed:=Nat × Nat × Int
def lapE:List Ed->Mx
 | []=>λ_ _=>0
 | e :: E=>λi j=>e.2.2 * (ind e.1 e.2.1 i * ind e.1 e.2.1 j)+lapE E i j
theorem Zz93(E:List Ed)(e:Ed)(i j:Nat):lapE (E++[e]) i j=lapE E i j+e.2.2 * (ind e.1 e.2.1 i * ind e.1 e.2.1 j):=by
 induction E with
 | nil=>show _+0=0+_;lia
 | cons f E ih =>
  show _+lapE (E++[e]) i j=_+lapE E i j+_;rw[ih];lia
def edE(E:List Ed)(z:Int):Nat × Nat:=((E.getD z.toNat (0,0,0)).1,(E.getD z.toNat (0,0,0)).2.1)
def wtE(E:List Ed):List Int->Int
 | []=>1
 | z :: T=>(E.getD z.toNat (0,0,0)).2.2 * wtE E T
theorem ZK10(E:List Ed)(S T:List Int):wtE E (S++T)=wtE E S * wtE E T:=by
 induction S with
 | nil=>show _=1 * _;rw[Y0w];rfl
 | cons z S ih=>show _ * wtE E (S++T)=_ * _ * _;rw[ih,Y0l]
def IsT(k:Nat)(E:List Ed)(T:List Int):Prop:=IsSet E.length T/\T.length=k/\∀ i j,i<k+1->j<k+1->Conn (T.map (edE E)) i j
def TW(k:Nat)(E:List Ed)(s:Int):Prop:=∃ L:List (List Int),L.Nodup/\(∀ T,T∈L↔IsT k E T)/\(L.map (wtE E)).sum=s
theorem ZW8{E:List Ed}{e:Ed}{z:Int}(h0:0<=z)(h1:z<(E.length:Int)):(E++[e]).getD z.toNat (0,0,0)=E.getD z.toNat (0,0,0):=by rw[Yy6,Yy6,Yp (by lia)]
theorem ZT4(E:List Ed)(e:Ed):(E++[e]).getD (E.length:Int).toNat (0,0,0)=e:=by rw[Yy6,YA,Yq (Yy8 _),Yy14];rfl
theorem ZP9{E:List Ed}{e:Ed}{T:List Int}(h:IsSet E.length T):T.map (edE (E++[e]))=T.map (edE E):=YR λz hz=>by
 have:=h.all z hz
 unfold edE;rw[ZW8 this.1 this.2]
theorem Zs12{E:List Ed}{e:Ed}{T:List Int}(h:∀ z∈T,0<=z/\z<(E.length:Int)):wtE (E++[e]) T=wtE E T:=by
 induction T with
 | nil=>rfl
 | cons z T ih =>
  have hz:=h z Ye;show _ * wtE (E++[e]) T=_ * wtE E T
  rw[ZW8 hz.1 hz.2,ih λy hy=>h y (Yg _ hy)]
theorem Zz38{k:Nat}{E:List Ed}{e:Ed}{T:List Int}(h:IsSet E.length T):IsT k (E++[e]) T↔IsT k E T:=by
 have h2:IsSet (E++[e]).length T:=by rw[Yy4];exact h.up
 constructor
 ·rintro⟨_,a,b⟩;exact⟨h,a,by rw[ZP9 h]at b;exact b⟩
 ·rintro⟨_,a,b⟩;exact⟨h2,a,by rw[ZP9 h];exact b⟩
theorem Zy6{E:List Ed}{e:Ed}{T:List Int}(h:IsSet E.length T):(T++[(E.length:Int)]).map (edE (E++[e]))=T.map (edE E)++[(e.1,e.2.1)]:=by
 rw[YL,ZP9 h];show _++[edE (E++[e]) (E.length:Int)]=_
 unfold edE;rw[ZT4]
def sh(a x:Nat):Nat:=if x<a then x else x - 1
def dl(a b x:Nat):Nat:=if x=a then sh a b else sh a x
theorem ZA12(a y:Nat):sh a (sk a y)=y:=by
 unfold sk;by_cases h:y<a
 ·rw[if_pos h];unfold sh;rw[if_pos h]
 ·rw[if_neg h];unfold sh;rw[if_neg (by lia)];lia
theorem Zh13(a y:Nat):sk a y≠a:=by unfold sk;split <;> lia
theorem Zl12{a x:Nat}(h:x≠a):sk a (sh a x)=x:=by
 unfold sh;by_cases c:x<a
 ·rw[if_pos c];unfold sk;rw[if_pos c]
 ·rw[if_neg c];unfold sk;rw[if_neg (by lia)];lia
theorem Zo12(a b y:Nat):dl a b (sk a y)=y:=by unfold dl;rw[if_neg (Zh13 a y),ZA12]
theorem Zp9{a x y:Nat}(hx:x≠a)(hy:y≠a)(h:sh a x=sh a y):x=y:=by
 have:=YV (sk a) h
 rw[Zl12 hx,Zl12 hy]at this;exact this
theorem ZN13{a b x y:Nat}(hne:b≠a)(h:dl a b x=dl a b y):x=y\/(x=a/\y=b)\/(x=b/\y=a):=by
 unfold dl at h;by_cases hx:x=a
 ·rw[if_pos hx]at h;by_cases hy:y=a
  ·exact .inl (hx.trans hy.symm)
  ·rw[if_neg hy]at h;exact .inr (.inl ⟨hx,(Zp9 hne hy h).symm⟩)
 ·rw[if_neg hx]at h;by_cases hy:y=a
  ·rw[if_pos hy]at h;exact .inr (.inr ⟨Zp9 hx hne h,hy⟩)
  ·rw[if_neg hy]at h;exact .inl (Zp9 hx hy h)
theorem ZO13(a b:Nat)(hne:b≠a):dl a b a=dl a b b:=by unfold dl;rw[if_pos rfl,if_neg hne]
theorem Zv10{a b:Nat}{es:List (Nat × Nat)}{i j:Nat}(hne:b≠a)(c:Conn (es++[(a,b)]) i j):Conn (es.map λe=>(dl a b e.1,dl a b e.2)) (dl a b i) (dl a b j):=by
 induction c with
 | refl i=>exact .refl _
 | edge q =>
  rcases Yy7.mp q with q | q
  ·exact .edge (YC.mpr ⟨_,q,rfl⟩)
  ·have e:=Yy2.mp q;injection e with e1 e2
   rw[e1,e2,ZO13 a b hne];exact .refl _
 | symm _ ih=>exact .symm ih
 | trans _ _ a b=>exact .trans a b
theorem Zu10{a b:Nat}{es:List (Nat × Nat)}{u v:Nat}(hne:b≠a)(c:Conn (es.map λe=>(dl a b e.1,dl a b e.2)) u v):∀ i j,dl a b i=u->dl a b j=v->Conn (es++[(a,b)]) i j:=by
 have he:Conn (es++[(a,b)]) a b:=.edge (by simp);have same:∀ i j,dl a b i=dl a b j->Conn (es++[(a,b)]) i j:=λi j e=>by
  rcases ZN13 hne e with e | ⟨e1,e2⟩ | ⟨e1,e2⟩
  ·rw[e];exact .refl _
  ·rw[e1,e2];exact he
  ·rw[e1,e2];exact he.symm
 induction c with
 | refl u=>exact λi j e1 e2=>same i j (e1.trans e2.symm)
 | edge q =>
  intro i j e1 e2;obtain⟨⟨x,y⟩,hxy,e⟩:=YC.mp q;injection e with x1 x2
  exact(same i x (e1.trans x1.symm)).trans (.trans (.edge (Yc _ hxy)) (same y j (x2.trans e2.symm)))
 | symm _ ih=>exact λi j e1 e2=>(ih j i e2 e1).symm
 | @trans x y z _ _ ih1 ih2=>exact λi j e1 e2=>(ih1 i (sk a y) e1 (Zo12 a b y)).trans (ih2 (sk a y) j (Zo12 a b y) e2)
theorem Zp12{a b x k:Nat}(ha:a<k+1)(hb:b<k+2)(hne:b≠a)(hx:x<k+2):dl a b x<k+1:=by
 unfold dl sh;by_cases h:x=a
 ·rw[if_pos h];split <;> grind
 ·rw[if_neg h];split <;> grind
theorem cdl{a b k:Nat}{es:List (Nat × Nat)}(ha:a<k+1)(hb:b<k+2)(hne:b≠a):(∀ i j,i<k+2->j<k+2->Conn (es++[(a,b)]) i j)↔∀ i j,i<k+1->j<k+1->Conn (es.map λe=>(dl a b e.1,dl a b e.2)) i j:=by
 constructor
 ·intro c i j h1 h2
  have:=Zv10 hne (c (sk a i) (sk a j) (Zz46 h1) (Zz46 h2))
  rw[Zo12,Zo12]at this;exact this
 ·exact λc i j h1 h2=>Zu10 hne (c _ _ (Zp12 ha hb hne h1) (Zp12 ha hb hne h2)) i j rfl rfl
def drE(a b:Nat)(E:List Ed):List Ed:=E.map λe=>(dl a b e.1,dl a b e.2.1,e.2.2)
theorem Zz19{a b:Nat}{E:List Ed}{z:Int}(h0:0<=z)(h1:z<(E.length:Int)):(drE a b E).getD z.toNat (0,0,0)=(dl a b (E.getD z.toNat (0,0,0)).1,dl a b (E.getD z.toNat (0,0,0)).2.1,(E.getD z.toNat (0,0,0)).2.2):=by unfold drE;rw[Yy6,Yy6,Yu,Yy0 (by omega)];rfl
theorem Zz09{a b:Nat}{E:List Ed}{T:List Int}(h:IsSet E.length T):T.map (edE (drE a b E))=(T.map (edE E)).map λe=>(dl a b e.1,dl a b e.2):=by
 rw[Y1g];refine YR λz hz=>?_
 have:=h.all z hz
 unfold edE;rw[Zz19 this.1 this.2];rfl
theorem Zz713{a b:Nat}{E:List Ed}{T:List Int}(h:∀ z∈T,0<=z/\z<(E.length:Int)):wtE (drE a b E) T=wtE E T:=by
 induction T with
 | nil=>rfl
 | cons z T ih =>
  have hz:=h z Ye;show _ * wtE (drE a b E) T=_ * wtE E T
  rw[Zz19 hz.1 hz.2,ih λy hy=>h y (Yg _ hy)]
theorem ZN11{k a b:Nat}{E:List Ed}{e:Ed}{T:List Int}(ha:a<k+1)(hb:b<k+2)(hne:b≠a)(he:(e.1=a/\e.2.1=b)\/(e.1=b/\e.2.1=a))(h:IsSet E.length T):IsT (k+1) (E++[e]) (T++[(E.length:Int)])↔IsT k (drE a b E) T:=by
 have hl:(drE a b E).length=E.length:=Yb ..;have hc:(∀ i j,i<k+2->j<k+2->Conn ((T++[(E.length:Int)]).map (edE (E++[e]))) i j)↔∀ i j,i<k+2->j<k+2->Conn (T.map (edE E)++[(a,b)]) i j:=by
  rw[Zy6 h];rcases he with ⟨e1,e2⟩ | ⟨e1,e2⟩
  ·rw[e1,e2]
  ·rw[e1,e2];exact⟨λc i j x y=>Zz75 (c i j x y),λc i j x y=>Zz75 (c i j x y)⟩
 have h2:IsSet (E++[e]).length (T++[(E.length:Int)]):=by rw[Yy4];exact h.snoc
 constructor
 ·rintro⟨_,x,y⟩;refine⟨hl ▸ h,?_,?_⟩
  ·rw[Yy4,Yj]at x;lia
  ·rw[Zz09 h];exact(cdl ha hb hne).mp (hc.mp y)
 ·rintro⟨_,x,y⟩;rw[Zz09 h]at y;refine⟨h2,by rw[Yy4,Yj,x],hc.mpr ((cdl ha hb hne).mpr y)⟩
theorem ZZ9{k:Nat}{E:List Ed}{e:Ed}{T:List Int}(hE:∀ f∈E,f.1<k+1/\f.2.1<k+1)(he:e.1=e.2.1)(h:IsSet E.length T):¬ IsT k (E++[e]) (T++[(E.length:Int)]):=by
 rintro⟨_,x,y⟩;rw[Zy6 h]at y;have hcov:∀ i j,i<k+1->j<k+1->Conn (T.map (edE E)) i j:=λi j hi hj=>(y i j hi hj).lift λf hf=>by
  rcases Yy7.mp hf with q | q
  ·exact .edge q
  ·rw[Yy2.mp q,he];exact .refl _
 have hin:InN (k+1) (T.map (edE E)):=λf hf=>by
  obtain⟨z,hz,rfl⟩:=YC.mp hf
  have:=h.all z hz
  unfold edE;rw[Yy6,Yy0 (by lia)];exact hE _ (Y0M _)
 have h2:=(Zz11 (by lia) hin).mpr hcov;have h3:=Za5 _ hin
 rw[Yb]at h3;rw[Yy4,Yj]at x;lia
theorem ZV10{k:Nat}{E:List Ed}{e:Ed}{s:Int}(hE:∀ f∈E,f.1<k+1/\f.2.1<k+1)(he:e.1=e.2.1)(h:TW k E s):TW k (E++[e]) s:=by
 obtain⟨L,a1,a2,a3⟩:=h;refine⟨L,a1,λT=>?_,?_⟩
 ·rw[a2];constructor
  ·exact λh=>(Zz38 h.1).mpr h
  ·intro h;have hs:=h.1
   rw[Yy4]at hs;rcases Zz86 hs with c | ⟨T',c,c2⟩
   ·exact(Zz38 c).mp h
   ·exact absurd (c ▸ h) (ZZ9 hE he c2)
 ·rw[<- a3];refine YV List.sum (YR λT hT=>Zs12 ((a2 T).mp hT).1.all)
theorem Zz111(a b:List Int):(a++b).sum=a.sum+b.sum:=by
 induction a with
 | nil=>rw[Y0t,List.sum_nil,Y1W]
 | cons x a ih=>rw[Y1I,Yy23,Yy23,ih];lia
theorem Zy7(w:Int)(l:List (List Int))(f:List Int->Int):(l.map λT=>f T * w).sum=w * (l.map f).sum:=by
 induction l with
 | nil=>rw[List.map_nil,List.map_nil,List.sum_nil,Y0s]
 | cons x l ih=>rw[Yy06,Yy06,Yy23,Yy23,ih,Y1Q,Y0P]
theorem ZU10{k a b:Nat}{E:List Ed}{e:Ed}{s1 s2:Int}(ha:a<k+1)(hb:b<k+2)(hne:b≠a)(he:(e.1=a/\e.2.1=b)\/(e.1=b/\e.2.1=a))(h1:TW (k+1) E s1)(h2:TW k (drE a b E) s2):TW (k+1) (E++[e]) (s1+e.2.2 * s2):=by
 obtain⟨L,a1,a2,a3⟩:=h1;obtain⟨M,b1,b2,b3⟩:=h2;have hl:(drE a b E).length=E.length:=Yb ..
 refine⟨L++M.map (·++[(E.length:Int)]),YQ.mpr ⟨a1,?_,λx hx y hy c=>?_⟩,λT=>?_,?_⟩
 ·exact List.Pairwise.map _ (λx y h c=>h (List.append_cancel_right c)) b1
 ·obtain⟨z,hz,c2⟩:=YC.mp hy
  have:=((a2 x).mp hx).1.all (E.length:Int) (by rw[c,<- c2];simp)
  lia
 ·rw[Yy7,a2,YC];constructor
  ·rintro(h | ⟨T',hT,rfl⟩)
   ·exact(Zz38 h.1).mpr h
   ·have:=(b2 T').mp hT
    exact(ZN11 ha hb hne he (hl ▸ this.1)).mpr this
  ·intro h;have hs:=h.1
   rw[Yy4]at hs;rcases Zz86 hs with c | ⟨T',c,c2⟩
   ·exact .inl ((Zz38 c).mp h)
   ·exact .inr ⟨T',(b2 T').mpr ((ZN11 ha hb hne he c2).mp (c ▸ h)),c.symm⟩
 ·rw[YL,Zz111,Y1g];have e1:L.map (wtE (E++[e]))=L.map (wtE E):=YR λT hT=>Zs12 ((a2 T).mp hT).1.all
  have e2:M.map (wtE (E++[e]) ∘ (·++[(E.length:Int)]))=M.map λT=>wtE (drE a b E) T * e.2.2:=YR λT hT=>by
   have hs:IsSet E.length T:=hl ▸ ((b2 T).mp hT).1;show wtE (E++[e]) (T++[(E.length:Int)])=_
   rw[ZK10,Zs12 hs.all,Zz713 hs.all];show _ * (((E++[e]).getD (E.length:Int).toNat (0,0,0)).2.2 * 1)=_
   rw[ZT4,Y1i]
  rw[e1,e2,a3,Zy7,b3]
theorem ZR11{a b u v i:Nat}(hne:b≠a):ind (dl a b u) (dl a b v) i=ind u v (sk a i)+(if sk a i=b then ind u v a else 0):=by
 have key:∀ x:Nat,((if i=dl a b x then 1 else 0:Int))=(if sk a i=x then 1 else 0)+(if sk a i=b then (if a=x then 1 else 0) else 0):=λx=>by
  unfold dl;by_cases hx:x=a
  ·rw[if_pos hx,if_neg (show ¬ sk a i=x from hx ▸ Zh13 a i),Y1W];by_cases h:sk a i=b
   ·rw[if_pos h,if_pos hx.symm,if_pos];rw[<- h,ZA12]
   ·rw[if_neg h,if_neg];intro e;exact h (by rw[e,Zl12 hne])
  ·rw[if_neg hx];have e2:(if sk a i=b then (if a=x then 1 else 0:Int) else 0)=0:=by rw[if_neg (YY hx)];split <;> rfl
   rw[e2,Y0z];by_cases h:sk a i=x
   ·rw[if_pos h,if_pos];rw[<- h,ZA12]
   ·rw[if_neg h,if_neg];intro e;exact h (by rw[e,Zl12 hx])
 unfold ind;rw[key u,key v];by_cases h:sk a i=b
 ·rw[if_pos h,if_pos h,if_pos h];lia
 ·rw[if_neg h,if_neg h,if_neg h];lia
theorem ZK8{a b:Nat}(hne:b≠a)(i j:Nat):∀ E:List Ed,lapE (drE a b E) i j=ZL5 (lapE E) a b (sk a i) (sk a j)
 | []=>by
  show(0:Int)=_;unfold ZL5 lapE;by_cases h:sk a i=b
  ·by_cases h2:sk a j=b
   ·rw[if_pos h,if_pos h2];rfl
   ·rw[if_pos h,if_neg h2];rfl
  ·by_cases h2:sk a j=b
   ·rw[if_neg h,if_pos h2];rfl
   ·rw[if_neg h,if_neg h2];rfl
 | e :: E=>by
  have ih:=ZK8 hne i j E;show e.2.2 * (ind (dl a b e.1) (dl a b e.2.1) i * ind (dl a b e.1) (dl a b e.2.1) j)+lapE (drE a b E) i j=_
  rw[ih,ZR11 hne,ZR11 hne];unfold ZL5;show _=(e.2.2 * (ind e.1 e.2.1 (sk a i) * ind e.1 e.2.1 (sk a j))+lapE E (sk a i) (sk a j)+(if sk a i=b then e.2.2 * (ind e.1 e.2.1 a * ind e.1 e.2.1 (sk a j))+lapE E a (sk a j) else 0))+(if sk a j=b then (e.2.2 * (ind e.1 e.2.1 (sk a i) * ind e.1 e.2.1 a)+lapE E (sk a i) a)+(if sk a i=b then e.2.2 * (ind e.1 e.2.1 a * ind e.1 e.2.1 a)+lapE E a a else 0) else 0)
  generalize ind e.1 e.2.1 (sk a i)=x;generalize ind e.1 e.2.1 (sk a j)=y;generalize ind e.1 e.2.1 a=z;generalize e.2.2=w;by_cases h:sk a i=b
  ·by_cases h2:sk a j=b
   ·simp only [if_pos h,if_pos h2,Y1Q,Yy36];lia
   ·simp only [if_pos h,if_neg h2,Y1Q,Yy36,Y0z,Y0s];lia
  ·by_cases h2:sk a j=b
   ·simp only [if_neg h,if_pos h2,Y1Q,Yy36,Y0z,Y2h];lia
   ·simp only [if_neg h,if_neg h2,Y0z]
theorem ZK6(u v i:Nat):ind v u i=- ind u v i:=by unfold ind;lia
theorem Zz512{k a b:Nat}{E:List Ed}{e:Ed}(ha:a<k+1)(hb:b<k+2)(hne:b≠a)(he:(e.1=a/\e.2.1=b)\/(e.1=b/\e.2.1=a)):det (k+1) (lapE (E++[e]))=det (k+1) (lapE E)+e.2.2 * det k (lapE (drE a b E)):=by
 have e1:det (k+1) (lapE (E++[e]))=det (k+1) (λi j=>lapE E i j+e.2.2 * (ind a b i * ind a b j)):=Zl λi j _ _=>by
  rw[Zz93];rcases he with ⟨x,y⟩ | ⟨x,y⟩
  ·rw[x,y]
  ·rw[x,y,ZK6 a b i,ZK6 a b j,Int.neg_mul_neg]
 have e2:det k (lapE (drE a b E))=det k (λi j=>ZL5 (lapE E) a b (sk a i) (sk a j)):=Zl λi j _ _=>ZK8 hne i j E;rw[e1,e2];by_cases hk:b<k+1
 ·exact Zz312 ha hk (YY hne)
 ·have e3:det (k+1) (λi j=>lapE E i j+e.2.2 * (ind a b i * ind a b j))=det (k+1) (λi j=>lapE E i j+e.2.2 * ((if i=a then 1 else 0) * (if j=a then 1 else 0))):=Zl λi j hi hj=>by unfold ind;rw[if_neg (show ¬ i=b by lia),if_neg (show ¬ j=b by lia),Y2M,Y2M]
  have e4:det k (λi j=>ZL5 (lapE E) a b (sk a i) (sk a j))=det k (λi j=>lapE E (sk a i) (sk a j)):=Zl λi j hi hj=>by
   have h1:=Zz46 (j:=a) hi;have h2:=Zz46 (j:=a) hj
   unfold ZL5;rw[if_neg (show ¬ sk a i=b by lia),if_neg (show ¬ sk a j=b by lia),Y0z,Y0z]
  rw[e3,e4];exact Zz67 ha
theorem ZK4{E:List Ed}{e:Ed}(he:e.1=e.2.1):lapE (E++[e])=lapE E:=by
 funext i j
 rw[Zz93,he];unfold ind;rw[Int.sub_self,Y2h,Y0s,Y0z]
theorem ZD1:∀(m k:Nat) (E:List Ed),E.length=m->(∀ e∈E,e.1<k+1/\e.2.1<k+1)->TW k E (det k (lapE E))
 | 0,k,E,hm,_=>by
  obtain rfl:=YN.mp hm;cases k with
  | zero =>
   refine⟨[[]],by simp,λT=>?_,rfl⟩;rw[Yy2];constructor
   ·rintro rfl;exact⟨IsSet.nil _,rfl,λi j hi hj=>by
     have:i=j:=by lia
     rw[this];exact .refl j⟩
   ·intro h;exact YN.mp h.2.1
  | succ k =>
   refine⟨[],.nil,λT=>⟨λh=>(by cases h),λh=>?_⟩,?_⟩
   ·have h1:=h.1.len;have h2:=h.2.1
    rw[Y1m]at h1;lia
   ·exact(Zz17 (i:=0) (by lia) λj _=>rfl).symm
 | m+1,k,E,hm,hE=>by
  obtain⟨E',e,rfl⟩:∃ E' e,E=E'++[e]:=⟨E.dropLast,E.getLast (λh=>by rw[h]at hm;cases hm),(Y2L _).symm⟩;have hm':E'.length=m:=by rw[Yy4]at hm;simpa using hm
  have hE':∀ f∈E',f.1<k+1/\f.2.1<k+1:=λf hf=>hE f (Yc _ hf);have he:=hE e (by simp)
  have ih:=ZD1 m k E' hm' hE';by_cases hl:e.1=e.2.1
  ·rw[ZK4 hl];exact ZV10 hE' hl ih
  ·obtain⟨k',rfl⟩:∃ k',k=k'+1:=⟨k - 1,by lia⟩;obtain⟨a,b,ha,hb,hne,hab⟩:∃ a b,a<k'+1/\b<k'+2/\b≠a/\((e.1=a/\e.2.1=b)\/(e.1=b/\e.2.1=a)):=by
    by_cases c:e.1<k'+1
    ·exact⟨e.1,e.2.1,c,he.2,λh=>hl h.symm,.inl ⟨rfl,rfl⟩⟩
    ·exact⟨e.2.1,e.1,by lia,he.1,hl,.inr ⟨rfl,rfl⟩⟩
   have ih2:=ZD1 m k' (drE a b E') (by unfold drE;rw[Yb];exact hm') λf hf=>by
    obtain⟨g,hg,rfl⟩:=YC.mp hf
    have:=hE' g hg
    exact⟨Zp12 ha hb hne this.1,Zp12 ha hb hne this.2⟩
   rw[Zz512 ha hb hne hab];exact ZU10 ha hb hne hab ih ih2
def Zz42(ps:List (Int × Int))(ws:List Int):List Ed:=List.zipWith (λp w=>(p.1.toNat,p.2.toNat,w)) ps ws
theorem ZM8{n:Int}{ps:List (Int × Int)}{ws:List Int}{T:List Int}(h1:1<=n)(hw:ws.length=ps.length):IsT (n - 1).toNat (Zz42 ps ws) T↔Zi n ps T:=by
 have hl:(Zz42 ps ws).length=ps.length:=by unfold Zz42;rw[Y1a];grind
 have hm:IsSet ps.length T->T.map (edE (Zz42 ps ws))=Zz6 ps T:=λhs=>YR λz hz=>by
  have:=hs.all z hz
  unfold edE Zz42;rw[Yy6,Y0I,Yy0 (by lia),Yy0 (show z.toNat<ws.length by lia),Yy6,Yy0 (by omega)];rfl
 unfold IsT Zi;rw[hl];constructor
 ·rintro⟨a,b,c⟩;rw[hm a]at c;exact⟨a,by lia,λi j hi hj=>c i j (by lia) (by grind)⟩
 ·rintro⟨a,b,c⟩;rw[hm a];exact⟨a,by lia,λi j hi hj=>c i j (by lia) (by lia)⟩
theorem ZJ10{E:List Ed}(h:∀ e∈E,e.2.2=1):∀ {T:List Int},(∀ z∈T,0<=z/\z<(E.length:Int))->wtE E T=1
 | [],_=>rfl
 | z :: T,hb=>by
  have hz:=hb z Ye;show(E.getD z.toNat (0,0,0)).2.2 * wtE E T=1
  rw[ZJ10 h λy hy=>hb y (Yg _ hy),Y1i,Yy6,Yy0 (by lia)];exact h _ (Y0M _)
theorem Zg9{l:List (List Int)}{f:List Int->Int}(h:∀ T∈l,f T=1):(l.map f).sum=(l.length:Int):=by
 induction l with
 | nil=>rfl
 | cons x l ih =>
  rw[Yy06,Yy23,ih λT hT=>h T (Yg _ hT),h x Ye,YD];lia
theorem Zz112{n:Int}{ps:List (Int × Int)}(g:Zv n ps)(ws:List Int):∀ e∈Zz42 ps ws,e.1<(n - 1).toNat+1/\e.2.1<(n - 1).toNat+1:=λe he=>by
 unfold Zz42 at he;obtain⟨i,hi⟩:=YX he;rw[Y0I]at hi;have g1:=g.1
 cases h1:ps[i]? with
 | none=>rw[h1]at hi;cases hi
 | some p =>
  cases h2:ws[i]? with
  | none=>rw[h1,h2]at hi;cases hi
  | some w =>
   rw[h1,h2]at hi;obtain rfl:=Yh hi;obtain⟨a,b,c,d⟩:=g.2.2.2 p (Yy9 h1);exact⟨by show p.1.toNat<_;grind,by show p.2.toNat<_;lia⟩
theorem Ze9{n:Int}{ps:List (Int × Int)}(g:Zv n ps){L:List (List Int)}(hL:L.Nodup)(hm:∀ l,l∈L↔Zi n ps l):det (n - 1).toNat (lapE (Zz42 ps (List.replicate ps.length 1)))=(L.length:Int):=by
 have g1:=g.1;have hw:(List.replicate ps.length (1:Int)).length=ps.length:=YI
 obtain⟨M,a1,a2,a3⟩:=ZD1 _ (n - 1).toNat (Zz42 ps (List.replicate ps.length 1)) rfl (Zz112 g _);have hl:(Zz42 ps (List.replicate ps.length 1)).length=ps.length:=by unfold Zz42;rw[Y1a,hw];grind
 have w1:∀ e∈Zz42 ps (List.replicate ps.length (1:Int)),e.2.2=1:=λe he=>by
  unfold Zz42 at he;obtain⟨i,hi⟩:=YX he;rw[Y0I]at hi;cases h1:ps[i]? with
  | none=>rw[h1]at hi;cases hi
  | some p =>
   cases h2:(List.replicate ps.length (1:Int))[i]? with
   | none=>rw[h1,h2]at hi;cases hi
   | some w =>
    rw[h1,h2]at hi;obtain rfl:=Yh hi;exact Y1b (Yy9 h2)
 rw[<- a3,Zg9 λT hT=>ZJ10 w1 ((a2 T).mp hT).1.all];have hp:M.Perm L:=(Y0H a1 hL).mpr λl=>by rw[a2,hm,ZM8 g1 hw]
 rw[hp.length_eq]
end My
namespace L2
open PySem PySem.Spec PyProof.Rows
section
variable{X:Cx}
def ZC13(K:PySem.W.Frag):V->V->Hp->VK->Prop:=λx y H Q=>∃ p xs i v,x=.ref p/\y=.int i/\SqL K H p xs/\0<=i/\xs[i.toNat]?=some v/\Q v H
theorem Za2(K:PySem.W.Frag)(hk:X.K=K:=by rfl):PGet X (ZC13 K):=by
 subst hk;intro pins s σ H o i ov iv Q I ro ri h;obtain⟨p,xs,j,z,rfl,rfl,hq,h0,he,q⟩:=h;cases ro;obtain⟨t,rfl⟩:=ri;obtain⟨its,r,pl,hz⟩:=I.list hq;obtain⟨w,ew,rw'⟩:=r.get he;have hl:=r.length
 have hn:=ZF6;have hlt:=(Yy1.mp he).1
 exact wpAny_getItem_list pl.isList h0 (by lia) (by simpa using ew) ⟨z,H,I,rw',q⟩
end
end L2
namespace My
open PySem L2
theorem ZW11{K:PySem.W.Frag}{a b:Addr}{xs ys:List V}{g:TG}{tb:TS}{D:Ends}{σ:St}{H:Hp}(hxy:xs.length=ys.length)(Pv:Nat->St->Hp->Prop)(h0:Pv 0 σ H)(hl:∀ i σ H,i<=xs.length->Pv i σ H->SqL K H a xs/\SqL K H b ys)
  (hs:∀(i:Nat) x y σ H (p:Addr),H p=none->xs[i]?=some x->ys[i]?=some y->Pv i σ H->g (.ref p) σ (upd H p (.tup [x,y])) λσ2 H2=>tb { D with nx:=Pv (i+1),ct:=Pv (i+1),bk:=D.nx } σ2 H2) (hd:∀ σ H,Pv xs.length σ H->D.nx σ H) :
  ∃ W:Nat->Nat->St->Hp->Prop,(∃ m,W 0 m σ H)/\∀ i m σ H,W i m σ H ->
   ((Itz K a b).stop i H/\D.nx σ H)\/((Itz K a b).go i H/\∃ N:St->Hp->Prop,(∀ σ' H',N σ' H'->∃ m',m'<m/\W (i+1) m' σ' H')/\∀ x H',(Itz K a b).yld i H x H'->g x σ H' λσ2 H2=>tb { D with nx:=N,ct:=N,bk:=D.nx } σ2 H2):=by
 refine⟨λi m σ H=>m=xs.length - i/\i<=xs.length/\Pv i σ H,⟨xs.length,by simp,Yl _,h0⟩,?_⟩;rintro i m σ H ⟨rfl,hi,p⟩;obtain⟨q,q2⟩:=hl i σ H hi p;by_cases hlt:i<xs.length
 ·refine .inr ⟨⟨xs,ys,xs[i],ys[i]'(by lia),q,q2,by simp[hlt],Yy0 (by omega)⟩,Pv (i+1),λσ' H' p'=>⟨xs.length - (i+1),by grind,rfl,hlt,p'⟩,λx H' ⟨T,u,v,hT,ex,eH,hu,hv⟩=>?_⟩;subst ex eH;exact hs i u v σ H T hT (hu xs q) (hv ys q2) p
 ·have e:i=xs.length:=by lia
  subst e;exact .inl ⟨⟨xs,ys,q,q2,.inl (Yy8 _)⟩,hd σ H p⟩
structure TabAt (H0:Hp) (r:Addr) (n:Nat) (H:Hp) (ys:List V) (L:List (List Int)):Prop where
 tab:H r=some (.lst ys)
 rows:Bears (LiV r H) ys L
 len:L.length=n
 all:∀ l∈L,l.length=n
 nd:ys.Nodup
 new:∀ A,V.ref A∈ys->H0 A=none
theorem TabAt.same{H0 H H':Hp}{r:Addr}{n:Nat}{ys:List V}{L:List (List Int)}(s:Same H H')(h:TabAt H0 r n H ys L):TabAt H0 r n H' ys L:=⟨s _ _ h.tab,h.rows.imp λ_ _ q=>q.same s,h.len,h.all,h.nd,h.new⟩
theorem TabAt.at{H0 H:Hp}{r:Addr}{n:Nat}{ys:List V}{L:List (List Int)}(h:TabAt H0 r n H ys L){i:Nat}(hi:i<n):∃(A:Addr) (l:List Int),ys[i]?=some (.ref A)/\L[i]?=some l/\H A=some (.lst (IL l))/\l.length=n/\H0 A=none/\A≠r:=by have hl:=h.len;obtain⟨l,e⟩:∃ l,L[i]?=some l:=⟨_,Yy0 (by lia)⟩;obtain⟨v,e1,A,rfl,e2,e3⟩:=h.rows.2 i l e;exact⟨A,l,e1,e,e2,h.all l (Yy9 e),h.new A (Yy9 e1),e3⟩
theorem TabAt.put{H0 H:Hp}{r:Addr}{n:Nat}{ys:List V}{L:List (List Int)}(h:TabAt H0 r n H ys L){i:Nat}{A:Addr}{l l':List Int}(e1:ys[i]?=some (.ref A))(e2:L[i]?=some l)(e3:A≠r)(hl:l'.length=n):TabAt H0 r n (upd H A (.lst (IL l'))) ys (L.set i l'):=by
 have hi:=(Yy1.mp e2).1;have hil:=(Yy1.mp e1).1
 refine⟨by rw[Zb (YY e3)];exact h.tab,⟨by rw[Y0Z];exact h.rows.1,λj m em=>?_⟩,by rw[Y0Z];exact h.len,λm hm=>?_,h.nd,h.new⟩
 ·rw[Y1s]at em;by_cases c:i=j
  ·subst c;rw[if_pos rfl,if_pos hi]at em;obtain rfl:=Yh em;exact⟨_,e1,A,rfl,Zz1,e3⟩
  ·rw[if_neg c]at em;obtain⟨v,f1,B,rfl,f2,f3⟩:=h.rows.2 j m em;refine⟨_,f1,B,rfl,?_,f3⟩;rw[Zb]
   ·exact f2
   ·intro e;rw[e]at f1;exact c (ZC1 h.nd e1 f1)
 ·rcases List.mem_or_eq_of_mem_set hm with e | e
  ·exact h.all m e
  ·rw[e];exact hl
theorem ZX11{L:List (List Int)}{l:List Int}{i j:Nat}{x:Int}(hi:L[i]?=some l)(hj:j<l.length)(a b:Nat):fnL (L.set i (l.set j x)) a b=if a=i/\b=j then x else fnL L a b:=by
 have hil:=(Yy1.mp hi).1;unfold fnL;by_cases ha:a=i
 ·subst ha;have e1:(L.set a (l.set j x)).getD a []=l.set j x:=by rw[Yy6,Y1s,if_pos rfl,if_pos hil];rfl
  have e2:L.getD a []=l:=by rw[Yy6,hi];rfl
  rw[e1,e2];by_cases hb:b=j
  ·subst hb;rw[if_pos ⟨rfl,rfl⟩,Yy6,Y1s,if_pos rfl,if_pos hj];rfl
  ·rw[if_neg (λh=>hb h.2),Yy6,Y1s,if_neg (YY hb),<- Yy6]
 ·have e1:(L.set i (l.set j x)).getD a []=L.getD a []:=by rw[Yy6,Yy6,Y1s,if_neg (YY ha)]
  rw[e1,if_neg (λh=>ha h.1)]
theorem four{A:Mx}{u v:Nat}{w:Int}(hne:u≠v)(a b:Nat){B C D E:Mx}(h1:∀ a b,B a b=if a=u/\b=u then A u u+w else A a b)(h2:∀ a b,C a b=if a=v/\b=v then B v v+w else B a b)(h3:∀ a b,D a b=if a=u/\b=v then C u v - w else C a b)(h4:∀ a b,E a b=if a=v/\b=u then D v u - w else D a b):E a b=A a b+w * (ind u v a * ind u v b):=by
 have nv:¬ v=u:=YY hne;unfold ind;by_cases x1:a=u
 ·subst x1;by_cases y1:b=a
  ·subst y1;simp[h4,h3,h2,h1,hne,nv]
  ·by_cases y2:b=v
   ·subst y2;simp[h4,h3,h2,h1,hne,nv];lia
   ·simp[h4,h3,h2,h1,hne,nv,y1,y2]
 ·by_cases x2:a=v
  ·subst x2;by_cases y1:b=u
   ·subst y1;simp[h4,h3,h2,h1,hne,nv];omega
   ·by_cases y2:b=a
    ·subst y2;simp[h4,h3,h2,h1,hne,nv]
    ·simp[h4,h3,h2,h1,hne,nv,y1,y2]
  ·simp[h4,h3,h2,h1,hne,nv,x1,x2]
theorem Zh10{ps:List (Int × Int)}{ws:List Int}{i:Nat}{p:Int × Int}{w:Int}(hp:ps[i]?=some p)(hw:ws[i]?=some w):Zz42 (ps.take (i+1)) (ws.take (i+1))=Zz42 (ps.take i) (ws.take i)++[(p.1.toNat,p.2.toNat,w)]:=by
 have h1:=(Yy1.mp hp).1;have h2:=(Yy1.mp hw).1
 unfold Zz42;rw[YU,YU,hp,hw];rw[List.zipWith_append (by rw[Yz,Yz];grind)];rfl
theorem Conn.image{es fs:List (Nat × Nat)}{f:Nat->Nat}(h:∀ e∈es,Conn fs (f e.1) (f e.2)){i j:Nat}(c:Conn es i j):Conn fs (f i) (f j):=by
 induction c with
 | refl i=>exact .refl _
 | edge e=>exact h _ e
 | symm _ ih=>exact ih.symm
 | trans _ _ ih1 ih2=>exact ih1.trans ih2
theorem Zr10{n:Int}{ps:List (Int × Int)}{T:List Int}(g:Zv n ps)(h:IsSet ps.length T)(c:∀ i j,i<n.toNat->j<n.toNat->Conn (Zz6 ps T) i j):n - 1<=(T.length:Int):=by
 have g1:=g.1;have hin:=ZJ (ns:=T) g h.all
 have h2:=(Zz11 (by lia) hin).mpr c;have h3:=Za5 _ hin
 rw[show(Zz6 ps T).length=T.length from Yb ..]at h3;lia
end My
namespace L2
open PySem
def Ris(t:SetTable):Prop:=t.place.toList.Pairwise (· < ·)
theorem Zn5{xs:Array Nat}(h:xs.toList.Pairwise (· < ·)){i k a b:Nat}(hik:i<k)(ha:xs[i]?=some a)(hb:xs[k]?=some b):a<b:=by rw[<- QP]at ha hb;obtain⟨h1,e1⟩:=Yy1.mp ha;obtain⟨h2,e2⟩:=Yy1.mp hb;rw[<- e1,<- e2];exact Y0K.mp h i k h1 h2 hik
theorem Zm3{xs:Array Nat}{j:Nat}(h:xs.toList.Pairwise (· < ·)):∀(f lo hi:Nat),hi - lo<=f->lo<=hi->hi<=xs.size->(∀ i v,xs[i]?=some v->i<lo->v<j)->(∀ i v,xs[i]?=some v->hi<=i->j<=v) ->
  SetTable.below.go xs j f lo hi<=xs.size/\∀ i v,xs[i]?=some v->(i<SetTable.below.go xs j f lo hi↔v<j)
 | 0,lo,hi,hf,hl,hs,a,b=>by
  have e:lo=hi:=by grind
  unfold SetTable.below.go;refine⟨by lia,λi v hv=>⟨a i v hv,λhvj=>Y2K λhc=>?_⟩⟩
  have:=b i v hv (by lia)
  lia
 | f+1,lo,hi,hf,hl,hs,a,b=>by
  unfold SetTable.below.go;by_cases c:lo<hi
  ·rw[if_pos c];dsimp only;obtain⟨m,hm⟩:∃ m,xs[(lo+hi) / 2]?=some m:=⟨_,YE (by lia)⟩;have em:xs.getD ((lo+hi) / 2) j=m:=by rw[Yv,hm];rfl
   rw[em];by_cases d:m<j
   ·rw[if_pos d];refine Zm3 h f _ hi (by grind) (by lia) hs (λi v hv hi2=>?_) b;by_cases e:i=(lo+hi) / 2
    ·rw[e,hm]at hv;exact Yh hv ▸ d
    ·have:=Zn5 h (show i<(lo+hi) / 2 by lia) hv hm
     lia
   ·rw[if_neg d];refine Zm3 h f lo _ (by grind) (by lia) (by lia) a λi v hv hi2=>?_;by_cases e:i=(lo+hi) / 2
    ·rw[e,hm]at hv
     have:=Yh hv
     lia
    ·have:=Zn5 h (show(lo+hi) / 2<i by lia) hm hv
     lia
  ·rw[if_neg c];refine⟨by grind,λi v hv=>⟨a i v hv,λhvj=>Y2K λhc=>?_⟩⟩
   have:=b i v hv (by lia)
   lia
theorem ZF1{xs:Array Nat}(h:xs.toList.Pairwise (· < ·))(j:Nat):SetTable.below xs j<=xs.size/\∀ i v,xs[i]?=some v->(i<SetTable.below xs j↔v<j) :=
 Zm3 h xs.size 0 xs.size (by lia) (Yl _) (Yy8 _) (λi v _ h=>absurd h (YW _)) λi v hv hi=>by rw[Y1r hi]at hv;cases hv
theorem Zy10{xs:Array Nat}(h:xs.toList.Pairwise (· < ·)){i v:Nat}(hv:xs[i]?=some v):SetTable.below xs v=i:=by
 obtain⟨h1,h2⟩:=ZF1 h v;have a:¬ i<SetTable.below xs v:=λq=>by have:=(h2 i v hv).mp q;lia
 refine Y2S (by lia) (Yy22 λq=>?_);have hlt:=(Array.getElem?_eq_some_iff.mp hv).1
 obtain⟨u,hu⟩:∃ u,xs[SetTable.below xs v]?=some u:=⟨_,YE (by lia)⟩;have b:=Zn5 h q hu hv
 have:=(h2 _ u hu).mpr b
 lia
theorem Zn7{xs:Array Nat}(h:xs.toList.Pairwise (· < ·)){i v:Nat}(hv:xs[i]?=some v):SetTable.below xs (v+1)=i+1:=by
 obtain⟨h1,h2⟩:=ZF1 h (v+1);have a:=(h2 i v hv).mpr (Y0p v)
 refine Y2S (Yy22 λq=>?_) a;obtain⟨u,hu⟩:∃ u,xs[i+1]?=some u:=⟨_,YE (by lia)⟩;have b:=(h2 _ u hu).mp q
 have:=Zn5 h (Y0p i) hv hu
 lia
theorem Zm7{xs:Array Nat}(h:xs.toList.Pairwise (· < ·)):SetTable.below xs 0=0:=by obtain⟨h1,h2⟩:=ZF1 h 0;refine Nat.le_zero.mp (Yy22 λq=>?_);obtain⟨u,hu⟩:∃ u,xs[0]?=some u:=⟨_,YE (by lia)⟩;exact YW _ ((h2 _ u hu).mp q)
def ZH5(t:SetTable)(j:Nat):Prop:=t.place[SetTable.below t.place j]?≠some j
theorem Zg11{t:SetTable}{j:Nat}(h:Ris t)(hn:ZH5 t j):Ris (t.put j).1:=by
 obtain⟨h1,h2⟩:=ZF1 h j;have up:∀ i v,t.place[i]?=some v->SetTable.below t.place j<=i->j<v:=λi v hv hi=>by
  have a:¬ v<j:=λq=>by have:=(h2 i v hv).mpr q;lia
  have b:v≠j:=λe=>hn (by rw[e]at hv;rw[Zy10 h hv];exact hv);lia
 show(SetTable.insertAt t.place (SetTable.below t.place j) j).toList.Pairwise (· < ·);rw[SetTable.toList_insertAt];have dn:∀ x∈t.place.toList.take (SetTable.below t.place j),x<j:=λx hx=>by
  obtain⟨i,hi⟩:=YX hx;rw[Y1h]at hi;split at hi
  ·rename_i q;rw[QP]at hi;exact(h2 i x hi).mp q
  ·cases hi
 have ub:∀ x∈t.place.toList.drop (SetTable.below t.place j),j<x:=λx hx=>by obtain⟨i,hi⟩:=YX hx;rw[Y2r,QP]at hi;exact up _ x hi (Nat.le_add_right _ _)
 refine Yy08.mpr ⟨Y3w (List.take_sublist _ _) h,YK.mpr ⟨ub,Y3w (List.drop_sublist _ _) h⟩,λa ha b hb=>?_⟩;rcases Yf.mp hb with e | e
 ·rw[e];exact dn a ha
 ·exact Nat.lt_trans (dn a ha) (ub b e)
theorem Zu3{t:SetTable}{j:Nat}(h:t.slot j=.empty\/t.slot j=.dummy):ZH5 t j:=λe=>by
 have e2:t.slot j=.live (SetTable.below t.place j):=by unfold SetTable.slot;dsimp only;rw[if_pos (by rw[e];simp)]
 rw[e2]at h;rcases h with h | h <;> cases h
theorem Zo2{t:SetTable}{f:Nat->Int}{h:Int}:∀(n:Nat) (p:SetTable.Probe) (j:Nat) (d:Option Nat),(∀ e,p.dummy=some e->ZH5 t e)->SetTable.probe.go t f h n p=some (.empty j d)->ZH5 t j/\∀ e,d=some e->ZH5 t e
 | 0,p,j,d,_,h=>by cases h
 | n+1,p,j,d,hp,h=>by
  have adv:∀ q:SetTable.Probe,(t.advance q).dummy=q.dummy:=λq=>by unfold SetTable.advance;split <;> rfl
  unfold SetTable.probe.go at h;split at h
  ·rename_i hs;cases h;exact⟨Zu3 (.inl hs),hp⟩
  ·rename_i hs;exact Zo2 n _ j d (λe he=>by rw[adv]at he;cases he;exact Zu3 (.inr hs)) h
  ·split at h
   ·cases h
   ·exact Zo2 n _ j d (λe he=>hp e (by rw[adv]at he;exact he)) h
theorem Zb8{t:SetTable}{h:Int}{s:Nat}{b:Bool}(e:t.freeSlot h=some (s,b)):ZH5 t s:=by
 unfold SetTable.freeSlot at e;split at e
 ·rename_i j d hp;obtain⟨a1,a2⟩:=Zo2 _ _ j d (λe he=>by cases he) hp;have e1:=YV Prod.fst (Yh e)
  dsimp only at e1;rw[<- e1];cases d with
  | none=>exact a1
  | some x=>exact a2 x rfl
 ·cases e
theorem Zz82(t:SetTable)(n:Nat):Ris (t.standIn n):=by show(Array.range n).toList.Pairwise (· < ·);rw[Array.toList_range];exact Y0V
theorem Zh11{t:SetTable}(h:Ris t)(es:Array (Int × Value))(k:Int)(x:Value):Ris (layNew t es k x).2.1/\(layNew t es k x).2.1.led=t.led:=by
 unfold layNew;split
 ·rename_i s b e;dsimp only;unfold SetTable.orStandIn;split
  ·exact⟨Zg11 h (Zb8 e),rfl⟩
  ·exact⟨Zz82 _ _,rfl⟩
 ·exact⟨Zz82 _ _,rfl⟩
theorem ZE7{t:SetTable}(h:Ris t)(es:Array (Int × Value))(n:Nat):Ris (relayAll t es n).2.1/\(relayAll t es n).2.1.led=t.led:=by
 unfold relayAll;split
 ·rename_i t' order e;dsimp only;split
  ·unfold SetTable.relaid SetTable.laid at e;cases ho:SetTable.layClean (SetTable.sizeAbove n - 1) (es.map (·.1)) with
   | none=>rw[ho]at e;cases e
   | some owner =>
    rw[ho]at e;have e1:=YV Prod.fst (Yh e)
    dsimp only at e1;rw[<- e1];refine⟨?_,rfl⟩;show(List.map _ (List.filterMap _ _)).toArray.toList.Pairwise (· < ·)
    rw[List.toList_toArray,Y0B,List.pairwise_filterMap];refine Y0V.imp λ{a b} hab x hx y hy=>?_;have ex:x.1=a:=by
     cases q:owner.getD a none with
     | none=>rw[q]at hx;cases hx
     | some z=>rw[q]at hx;cases hx;rfl
    have ey:y.1=b:=by
     cases q:owner.getD b none with
     | none=>rw[q]at hy;cases hy
     | some z=>rw[q]at hy;cases hy;rfl
    rw[ex,ey];exact hab
  ·exact⟨Zz82 _ _,rfl⟩
 ·exact⟨Zz82 _ _,rfl⟩
end L2
namespace L2
open PySem PySem.Spec PyProof.Rows
def SetR(P:Program)(w:World)(h:Heap)(a:Addr)(led:Bool)(S:Int->Bool)(n:Nat):Prop :=
 ∃(o:Obj) (es:Array (Int × Value)) (ep:Nat) (t:SetTable),h.get? a=some o/\o.ExactSet/\o.data=.set es ep t/\ElemsOf (intKind P w) es.toList/\(∀ z,S z=true↔∃ y∈es.toList,(intKind P w).is z y.2=true)/\es.size<scanBound/\t.fits es.size=true/\es.size=n/\Ris t/\t.led=led
theorem SetR.at{P:Program}{w:World}{h h':Heap}{a:Addr}{led:Bool}{S:Int->Bool}{n:Nat}(q:SetR P w h a led S n)(k:∀ o,h.get? a=some o->h'.get? a=some o):SetR P w h' a led S n :=
 let ⟨o,es,ep,t,ho,r⟩:=q
 ⟨o,es,ep,t,k o ho,r⟩
section
variable{prog:Program}{w:World}{A:Around}{E:Value->Shared->Prop}{s:Shared}
theorem Zw3{h:Heap}{a:Addr}{o:Obj}{es:Array (Int × Value)}{ep:Nat}{t:SetTable}(ho:h.get? a=some o)(hx:o.ExactSet)(hd:o.data=.set es ep t)(fs:Array (Int × Value))(u:SetTable) :
  (h.update a (Obj.putSet fs u)).get? a=some { o with data:=.set fs (ep+1) u }/\({ o with data:=.set fs (ep+1) u }:Obj).ExactSet:=by have q:=Yy03 (Obj.putSet fs u) ho (by rw[putSet_of fs u hd];rfl);rw[putSet_of fs u hd]at q;exact⟨q,hx⟩
theorem ZD10{gv:Bool->Sem Unit}(hgv:∀(b:Bool) (s1:Shared) (R:Unit->Shared->Prop),R () s1->wpAny (model prog w) A (gv b) R E s1)
  {a:Addr} {o:Obj} {es fs:Array (Int × Value)} {ep:Nat} {t u:SetTable} (ho:s.heap.get? a=some o) (hx:o.ExactSet) (hd:o.data=.set es ep t)
  {S:Int->Bool} (he:ElemsOf (intKind prog w) fs.toList) (hm:∀ z,S z=true↔∃ y∈fs.toList,(intKind prog w).is z y.2=true) (hb:fs.size<scanBound) (hf:u.fits fs.size=true) (hr:Ris u) {dm:Bool} {R:Option Bool->Shared->Prop}
  (k:∀ h',Heap.SameBut a s.heap h'->SetR prog w h' a u.led S fs.size->R (some true) { s with heap:=h' }) :
  wpAny (model prog w) A (do
   storeSet a fs u
   if (!dm && u.tooFull)=true then do
    gv (relayAll u fs (SetTable.grown fs.size)).2.2
    storeSet a (relayAll u fs (SetTable.grown fs.size)).1 (relayAll u fs (SetTable.grown fs.size)).2.1
    pure (some true)
   else pure (some true)) R E s:=by
 obtain⟨h1,x1⟩:=Zw3 ho hx hd fs u;have b1:=Y0u s.heap a (Obj.putSet fs u)
 refine Yy3 (wpAny_storeSet_of ho hd ?_ (fits_of_scanBound hb));by_cases c:(!dm && u.tooFull)=true
 ·rw[if_pos c];have p:=relayAll_perm u fs (SetTable.grown fs.size)
  have f:=relayAll_fits u fs (SetTable.grown fs.size);obtain⟨r,l⟩:=ZE7 hr fs (SetTable.grown fs.size);generalize relayAll u fs (SetTable.grown fs.size)=Z at p f r l ⊢;obtain⟨gs,v,gave⟩:=Z;dsimp only at p f r l ⊢;have ez:gs.size=fs.size:=by rw[<- YB,p.length_eq,YB]
  obtain⟨h2,x2⟩:=Zw3 h1 x1 rfl gs v;refine Yy3 (hgv _ _ _ (Yy3 (wpAny_storeSet_of h1 rfl (Yi ?_) (fits_of_scanBound (by rw[ez];exact hb)))));exact k _ (b1.trans (Y0u _ a _)) ⟨_,gs,_,v,h2,x2,rfl,he.perm p,λz=>(hm z).trans ⟨λ⟨y,hy,q⟩=>⟨y,p.mem_iff.mpr hy,q⟩,λ⟨y,hy,q⟩=>⟨y,p.mem_iff.mp hy,q⟩⟩,by rw[ez];exact hb,f,ez,r,l⟩
 ·rw[if_neg c];exact Yi (k _ b1 ⟨_,fs,_,u,h1,x1,rfl,he,hm,hb,hf,rfl,hr,rfl⟩)
theorem Zj12{a:Addr}{S:Int->Bool}{n:Nat}{z:Int}{x:Value}{led:Bool}{R:Bool->Shared->Prop}(hz:(intKind prog w).is z x=true)(hsc:x.scannable=true)(hS:SetR prog w s.heap a led S n)(room:n+1<scanBound)
  (k:∀ h',Heap.SameBut a s.heap h'->SetR prog w h' a led (λy=>S y || decide (y=z)) (if S z then n else n+1)->R (!S z) { s with heap:=h' }) :
  wpAny (model prog w) A (setAddHashed a x ((intKind prog w).hash z)) R E s:=by
 obtain⟨o,es,ep,t,ho,hx,hd,he,hm,hb,hf,hn,hr,hl⟩:=hS;unfold setAddHashed setAddHashedIn;refine Y0e (Yy3 (Y1d ho hd hf ?_));dsimp only;rw[if_pos (byScan_of hsc hb he)];unfold setAddByScan;refine Yy3 (Yy3 (Y3m (Yy3 (wpAny_setScan_of hz ho hd hf he ?_))));cases hw:List.findIdx? (λy=>(intKind prog w).is z y.2) es.toList with
 | some j =>
  obtain⟨j1,j2,_⟩:=List.findIdx?_eq_some_iff_getElem.mp hw;have yes:S z=true:=(hm z).mpr ⟨es.toList[j],Y0M j1,j2⟩
  have fin:=k s.heap (Heap.SameBut.refl a s.heap) ⟨o,es,ep,t,ho,hx,hd,he,λy=>by rw[Y2Y,Y0S,<- hm y];exact⟨λq=>q.elim id λq=>q ▸ yes,.inl⟩,hb,hf,by rw[yes];exact hn,hr,hl⟩
  rw[yes]at fin;dsimp only;exact Yi (Yi fin)
 | none =>
  have no:S z=false:=Bool.eq_false_iff.mpr λq=>by
   obtain⟨y,hy,hp⟩:=(hm z).mp q
   have:=List.findIdx?_eq_none_iff.mp hw y hy
   rw[hp]at this;cases this
  dsimp only;have p:=layNew_perm t es ((intKind prog w).hash z) x
  have f:=layNew_fits t es ((intKind prog w).hash z) x;obtain⟨r,l⟩:=Zh11 hr es ((intKind prog w).hash z) x;generalize layNew t es ((intKind prog w).hash z) x=Z at p f r l ⊢;obtain⟨fs,u,dm,gave⟩:=Z;dsimp only at p f r l ⊢;rw[Y2B]at p;have ez:fs.size=n+1:=by rw[<- YB,p.length_eq,Yy4,YB,hn];rfl
  have gw:∀(b:Bool) {s1:Shared} {R':Unit->Shared->Prop},R' () s1->wpAny (model prog w) A (match b with | true=>rule "set.scan.the-table-gave-way" | false=>pure ()) R' E s1:=λb s1 R' q=>by
   cases b
   ·exact Yi q
   ·exact Y3m q
  have fin:∀ h',Heap.SameBut a s.heap h'->SetR prog w h' a led (λy=>S y || decide (y=z)) fs.size->R true { s with heap:=h' }:=λh' q1 q2=>by have q:=k h' q1;rw[no]at q;rw[ez]at q2;exact q q2
  have he1:=(he.push hz hsc).perm p;have hm1:∀ y,(S y || decide (y=z))=true↔∃ v∈fs.toList,(intKind prog w).is y v.2=true:=mem_push_iff hz hm p
  have hb1:fs.size<scanBound:=by lia
  refine Yy3 (gw _ ?_);have tail:∀ v:SetTable,v.fits fs.size=true->Ris v->v.led=led->wpAny (model prog w) A (do
    storeSet a fs v
    if (!dm && v.tooFull)=true then do
     (match (relayAll v fs (SetTable.grown fs.size)).2.2 with | true=>rule "set.scan.the-table-gave-way" | false=>pure ())
     storeSet a (relayAll v fs (SetTable.grown fs.size)).1 (relayAll v fs (SetTable.grown fs.size)).2.1
     pure (some true)
    else pure (some true)) (λy s1=>wpAny (model prog w) A (match y with | some added=>pure added | none=>setAddHashedIn a x ((intKind prog w).hash z) 99999) R E s1) E s:=λv a1 a2 a3 =>
   ZD10 (gv:=λb=>match b with | true=>rule "set.scan.the-table-gave-way" | false=>pure ()) (λb s1 R' q=>gw b q) ho hx hd he1 hm1 hb1 a1 a2 λh' q1 q2=>Yi (fin h' q1 (a3 ▸ q2))
  split
  ·refine Yy3 ?_;rw[hashByValue_scannable 8 hsc];refine Yi ?_;split
   ·exact tail u f r (l.trans hl)
   ·exact tail _ (SetTable.fits_plain_off f) r (l.trans hl)
  ·refine Yy3 (Yi ?_);rw[if_pos rfl];exact tail u f r (l.trans hl)
end
section
variable{prog:Program}{w:World}{A:Around}{R:Result->Shared->Prop}{I:Addr}{fp wr:List Addr}{G:Array GenState->Array GenState->Prop}{n:Nat}{P:Nat->Value->Prop}{St:Nat->Shared->Prop}
theorem ZD6(W:WalksS prog w A.in1 I fp wr G n P St)(b:Addr)(hbf:b∉fp){led:Bool}(val:Nat->Int)(hv:∀ i v,P i v->∃ t,v=.int (val i) t)(hn:n+1<scanBound) :
  ∀(k i:Nat) (s:Shared),n - i=k->i<=n->St i s->SetR prog w s.heap b led (λz=>(firstMet val i).any (· == z)) (firstMet val i).length ->
   (∀ s',Moved (b :: wr) G s s'->SetR prog w s'.heap b led (λz=>(firstMet val n).any (· == z)) (firstMet val n).length->R (.ok (.ret .none)) s') ->
   codeAny (model prog w) A (.builtin "set.update.loop" ⟨[.ref b,.ref I],[]⟩) R s
 | 0,i,s,hk,hi,st,hS,q=>by
  have e:i=n:=by grind
  subst e;refine Y0d F.entry_set_update_loop ?_;rw[Y0G Y2C _];show wpAny _ A.in1 (pyNext (.ref I) >>= _) _ _ s
  refine Yy3 (W.done s _ _ st λs1 m=>?_);show wpAny _ A.in1 (ret Value.none) _ _ s1
  exact Yi (q s1 (m.mono λc hc=>.tail _ hc) (hS.at λo ho=>m.heap b o (λhc=>hbf (W.sub _ hc)) ho))
 | k+1,i,s,hk,hi,st,hS,q=>by
  have hlt:i<n:=by grind
  refine Y0d F.entry_set_update_loop ?_;rw[Y0G Y2C _];show wpAny _ A.in1 (pyNext (.ref I) >>= _) _ _ s
  refine Yy3 (W.item i s _ _ hlt st λv s1 hP st1 m=>?_);obtain⟨t,rfl⟩:=hv i v hP;have hS1:=hS.at (h':=s1.heap) λo ho=>m.heap b o (λhc=>hbf (W.sub _ hc)) ho
  show wpAny _ A.in1 (holding [Value.int (val i) t] (setAdd b (.int (val i) t)) >>= _) _ _ s1;refine Yy3 (Y0e ?_);unfold setAdd;refine Y0e (Yy3 ((intKind prog w).pyHash (k:=val i) (intKind_is _ _ _ _) ?_));have fm:=firstMet_length_le val i
  refine Zj12 (s:={ s1 with toks:=s1.toks+1 }) (intKind_is _ _ _ _) rfl hS1 (by lia) λh2 sb hS2=>?_;have hS3:SetR prog w h2 b led (λz=>(firstMet val (i+1)).any (· == z)) (firstMet val (i+1)).length:=by
   have e1:(λz=>(firstMet val (i+1)).any (· == z))=λy=>((firstMet val i).any (· == y) || decide (y=val i)):=funext λy=>by rw[firstMet_succ,step_any]
   rw[e1,firstMet_succ,step_length];exact hS2
  have kept:∀ c o,c≠b->s1.heap.get? c=some o->h2.get? c=some o:=λc o hc e=>(sb.2 c hc).trans e;refine Yi ⟨Y0Y Y2C _,ZD6 W b hbf val hv hn k (i+1) _ (by grind) hlt (W.frame _ s1 _ _ st1 (Y0j _) λc hc o e=>kept c o (λe'=>hbf (e' ▸ hc)) e) hS3 λs2 m2 hS4=>?_⟩;exact q s2 (Moved.trans W.gtrans ((m.mono λc hc=>.tail _ hc).then_heap (Y0j _) λc o hc e=>kept c o (λe'=>hc (e' ▸ .head _)) e) m2) hS4
end
section
variable{prog:Program}{w:World}{A:Around}{E:Value->Shared->Prop}{s:Shared}
def ZP3 (w:World):Obj:={ cls:=.type "set",dict:=none,data:=.set #[] 0 (.fresh 0 0 (!w.params.followText "set-order")) }
theorem ZD11(a:Value){Q:Value->Shared->Prop}(k:Q (.ref s.heap.objs.size) { s with heap:=s.heap.push (ZP3 w) }) :
  codeAny (model prog w) A (.call (.builtin "set.__new__") ⟨[.type "set",a],[]⟩) (wants Q E) s:=by
 refine codeAny_of_tree ?_;show wpAny _ A.in1 (checkBuiltinCall "set.__new__" ⟨[.type "set",a],[]⟩ >>= λ_=>again (.builtin "set.__new__" ⟨[.type "set",a],[]⟩)) _ _ s
 refine Yy3 (Y1x (F.newCall_set_1 a) (Yi ⟨Y0Y F.plain_set_new _,Y0d F.entry_set_new ?_⟩));rw[Y0G F.plain_set_new _];have hsub:=sub_set_self
 unfold Builtin.«set.__new__» Builtin.Frozenset.newClass;obtain⟨hp,g,d,tk,os⟩:=s;dsimp only
 wp_walk
 refine Y1p (Yi ?_);simp only [newObj];refine Yy3 (wpAny_alloc (Yi (Yi k)))
theorem ZF7 {h:Heap} {a:Addr} (e:h.get? a=some (ZP3 w)):SetR prog w h a (!w.params.followText "set-order") (λz=>(firstMet (λ_=>0) 0).any (· == z)) 0:=by refine⟨_,#[],0,_,e,⟨rfl,rfl,rfl⟩,rfl,λy hy=>(by cases hy),λz=>⟨λq=>(by cases q),λ⟨y,hy,_⟩=>(by cases hy)⟩,by decide,by simp[SetTable.fits,SetTable.fresh,SetTable.fill],rfl,.nil,rfl⟩
theorem Zu9{l:Addr}{items:Array Value}{ns:List Int}{h0:Heap}{b:Addr}{Q:Value->Shared->Prop}(hh:A.handled=none)(hb0:h0.get? b=some (ZP3 w))(hl:h0.IsList l items)(hne:l≠b)(hi:IntsAre items.toList ns)(hn:items.size+1<scanBound)
  (k:∀ h' tk,SetR prog w h' b (!w.params.followText "set-order") (λz=>(firstMet (λi=>ns.getD i 0) items.size).any (· == z)) (firstMet (λi=>ns.getD i 0) items.size).length->(∀ c o,c≠b->h0.get? c=some o->h'.get? c=some o)->Q .none { s with heap:=h',toks:=tk }) :
  wpAny (model prog w) A.in1 (Builtin.«set.__init__» ⟨[.ref b,.ref l],[]⟩) (λfin s'=>match fin with | .done f=>wants Q E (.ok f) s' | .again c'=>c'.quiet=true/\codeAny (model prog w) A c' (wants Q E) s') (λe s'=>wants Q E (.error e) s') { s with heap:=h0 }:=by
 have hT:Shared.TypeIs { s with heap:=h0 } (.ref b) "set":=⟨_,hb0,rfl⟩;have hl0:=hl
 obtain⟨⟨ocls,odict,odata,oslots⟩,hol,hcl,nl,hdl⟩:=hl;simp only at hcl hdl;subst hcl hdl;have q1:=F.sub_list_set
 have q2:=F.sub_list_frozenset;have q3:(Value.type "list" == Value.type "dict")=false:=by decide
 unfold ZP3 at hb0;unfold Builtin.«set.__init__» noKeywords Builtin.Frozenset.updateFrom;generalize hPI:pyIter=PI
 wp_walk
 subst hPI;refine Y2a hl0 ?_;refine Yy3 (Y2D ?_);have ltl:l<h0.objs.size:=Yn hol
 have ltb:b<h0.objs.size:=Yn hb0;have bf:b∉[h0.objs.size,l]:=λq=>by
  rcases Yf.mp q with e | e
  ·exact Yr ltb e
  ·exact hne (Yy2.mp e).symm
 refine ZD6 ((Walks.list (A:=A.in1.in1) (by simp [hh]) _ l (Yr ltl) items).toS) b bf (led:=!w.params.followText "set-order") (λi=>ns.getD i 0) (λi v hv=>IntsAre.int_at hi i v (by rw [QP];exact hv)) hn (items.size - 0) 0 _ (by lia) (Yl _)
  ⟨⟨_,Ym _ rfl,rfl,rfl⟩,hl0.push _⟩ ?_ ?_
 ·exact ZF7 (Yy5 _ hb0)
 ·rintro⟨h',g',d',tk',os'⟩ m hS;have e1:g'=s.gens:=m.gens
  have e2:d'=s.drawn:=m.drawn;have e3:os'=s.os:=m.os
  subst e1 e2 e3;show wpAny _ _ _ _ _ _
  refine Yi ?_;show wpAny _ _ (ret Value.none) _ _ _
  refine Yi (k h' tk' hS λc o hc e=>m.heap c o (λq=>?_) (Yy5 _ e));rcases Yf.mp q with e' | e'
  ·exact hc e'
  ·exact Yr (Yn e) (Yy2.mp e')
set_option maxRecDepth 100000 in
set_option maxHeartbeats 3000000 in
theorem Zz711{l:Addr}{items:Array Value}{ns:List Int}{Q:Value->Shared->Prop}(hh:A.handled=none)(hl:s.heap.IsList l items)(hi:IntsAre items.toList ns)(hn:items.size+1<scanBound)
  (k:∀ h' tk,SetR prog w h' s.heap.objs.size (!w.params.followText "set-order") (λz=>(firstMet (λi=>ns.getD i 0) items.size).any (· == z)) (firstMet (λi=>ns.getD i 0) items.size).length->(∀ c o,s.heap.get? c=some o->h'.get? c=some o)->Q (.ref s.heap.objs.size) { s with heap:=h',toks:=tk }) :
  wpAny (model prog w) A (call (.type "set") [.ref l]) Q E s:=by
 obtain⟨c,tl,hmro⟩:=Y1B.mro;have a1:=Y1B.made
 have a2:=Y1B.sub;have a3:=Y1B.notType
 have a4:=Y1B.canCreate;have a5:=F.typeCall_set_1 (.ref l)
 refine Y3o (codeAny_of_tree ?_);show wpAny _ _ (callAny (.type "set") _) _ _ _
 refine Yi ⟨Yy28 _ (by decide +kernel),Y0d F.entry_type_call ?_⟩;rw [Around.under_plain (weight_type_call_type "set" [.ref l] []) rfl]
 repeat any_goals first | assumption | wp_step
 refine Y1y (ZD11 (.ref l) (E:=E) (Q:=λob s1=>ob=.ref s.heap.objs.size/\s1={ s with heap:=s.heap.push (ZP3 w) }) ⟨rfl,rfl⟩) λr s1 hr=>?_
 match r,hr with
 | .error e,hr=>exact hr
 | .ok (.ret ob),hr =>
  obtain⟨rfl,rfl⟩:=hr;have hb0:(s.heap.push (ZP3 w)).get? s.heap.objs.size=some (ZP3 w):=Ym _ rfl
  have hT:Shared.TypeIs { s with heap:=s.heap.push (ZP3 w) } (.ref s.heap.objs.size) "set":=⟨_,hb0,rfl⟩;have a6:=Y1B.init.lookup
  have a7:=Y1B.init.bind (.ref s.heap.objs.size)
  repeat any_goals first | assumption | wp_step
  have ltl:l<s.heap.objs.size:=let ⟨_,e,_⟩:=hl;Yn e
  refine Y1y (codeAny_call_builtin (R:=wants (λr s2=>r=.none/\Q (.ref s.heap.objs.size) s2) E) Y1B.init.plain F.entry_set_init (check_set_init_1 hT (Zu9 (A:=_) (s:=s) ?_ hb0 (hl.push _) (Yr ltl) hi hn λh' tk hS kp=>⟨rfl,k h' tk hS λc o e=>kp c o (Yr (Yn e)) (Yy5 _ e)⟩))) λr2 s2 hr2=>?_
  ·simp[hh]
  ·match r2,hr2 with
   | .error e,hr2=>exact hr2
   | .ok (.ret v),hr2 =>
    obtain⟨rfl,q⟩:=hr2
    repeat any_goals first | assumption | wp_step
end
theorem Zz56:Manifest.owners.lookup (String.ofList ['r','o','t','a','r','e','t','i','_','t','e','s'].reverse)=some Manifest.sig_set_iterator:=by kernel_rfl
theorem si_next:PySem.Slot "set_iterator" "__next__" "set_iterator.__next__" :=
 .of (owner:="set_iterator") (n:="__next__") (by rw [Y1C,Y0Q];kernel_rfl) (by decide +kernel) (by decide +kernel) (by decide +kernel)
  (by first | exact .inl (by decide +kernel) | exact .inr (by decide +kernel)) (by rw[Y2F];kernel_rfl)
theorem ZX2:entryFor table "set_iterator.__next__"=some Builtin.«set_iterator.__next__»:=entryFor_of_tree (by kernel_rfl)
theorem ZY2 (a:Value):argsOk "set_iterator.__next__" ⟨[a],[]⟩:=by unfold argsOk;rw [signature?_of (id:="set_iterator.__next__") (n:=['_','_','t','x','e','n','_','_']) (o:=['r','o','t','a','r','e','t','i','_','t','e','s']) (by kernel_rfl) Zz56];kernel_rfl
theorem Zw8:PySem.Slot "set_iterator" "__iter__" "set_iterator.__iter__" :=
 .of (owner:="set_iterator") (n:="__iter__") (by rw [Y1C,Y0Q];kernel_rfl) (by decide +kernel) (by decide +kernel) (by decide +kernel)
  (by first | exact .inl (by decide +kernel) | exact .inr (by decide +kernel)) (by rw[Y2F];kernel_rfl)
theorem Zo9 (a:Value):argsOk "set_iterator.__iter__" ⟨[a],[]⟩:=by unfold argsOk;rw [signature?_of (id:="set_iterator.__iter__") (n:=['_','_','r','e','t','i','_','_']) (o:=['r','o','t','a','r','e','t','i','_','t','e','s']) (by kernel_rfl) Zz56];kernel_rfl
theorem Zn9:entryFor table "set_iterator.__iter__"=some Builtin.«dict_keyiterator.__iter__» :=
 entryFor_alias (id':="dict_keyiterator.__iter__") (by kernel_rfl) (by first | rfl | decide +kernel | (unfold String.splitOn;simp +decide [String.splitOnAux])) (by decide +kernel) (by kernel_rfl)
theorem Zi9:Manifest.owners.lookup (String.ofList ['t','e','s'].reverse)=some Manifest.sig_set:=by kernel_rfl
theorem Zt8:PySem.Slot "set" "__iter__" "set.__iter__" :=
 .of (owner:="set") (n:="__iter__") (by rw [Y1C,Y0Q];kernel_rfl) (by decide +kernel) (by decide +kernel) (by decide +kernel)
  (by first | exact .inl (by decide +kernel) | exact .inr (by decide +kernel)) (by rw[Y2F];kernel_rfl)
theorem Zk9 (a:Value):argsOk "set.__iter__" ⟨[a],[]⟩:=by unfold argsOk;rw [signature?_of (id:="set.__iter__") (n:=['_','_','r','e','t','i','_','_']) (o:=['t','e','s']) (by kernel_rfl) Zi9];kernel_rfl
theorem Zj9:entryFor table "set.__iter__"=some Builtin.«frozenset.__iter__» :=
 entryFor_alias (id':="frozenset.__iter__") (by kernel_rfl) (by first | rfl | decide +kernel | (unfold String.splitOn;simp +decide [String.splitOnAux])) (by decide +kernel) (by kernel_rfl)
def IsSi (h:Heap) (I a:Addr) (f:Value) (i n ep:Nat):Prop:=∃ o,h.get? I=some o/\o.cls=.type "set_iterator"/\o.data=.fields #[f,rawInt (i:Int),.ref a,rawInt (n:Int),rawInt (ep:Int)]
theorem IsSi.ty {s:Shared} {I a:Addr} {f:Value} {i n ep:Nat} (x:IsSi s.heap I a f i n ep):s.TypeIs (.ref I) "set_iterator":=let ⟨o,p,q,_⟩:=x;⟨o,p,q⟩
theorem IsSi.keep{h h':Heap}{I a:Addr}{f:Value}{i n ep:Nat}(x:IsSi h I a f i n ep)(e:∀ o,h.get? I=some o->h'.get? I=some o):IsSi h' I a f i n ep:=let ⟨o,p,q⟩:=x;⟨o,e _ p,q⟩
def SetIs(h:Heap)(a:Addr)(es:Array (Int × Value))(ep:Nat)(t:SetTable):Prop:=∃ o,h.get? a=some o/\o.ExactSet/\o.data=.set es ep t
theorem SetIs.keep{h h':Heap}{a:Addr}{es:Array (Int × Value)}{ep:Nat}{t:SetTable}(x:SetIs h a es ep t)(e:∀ o,h.get? a=some o->h'.get? a=some o):SetIs h' a es ep t:=let ⟨o,p,q⟩:=x;⟨o,e _ p,q⟩
section
variable{prog:Program}{w:World}{A:Around}{E:Value->Shared->Prop}{s:Shared}
theorem Zj7{M:Model}{src:Source}{n:Nat}{Q:Nat->Shared->Prop}(hn:n≠0)(k:∀ i,i<n->∀ d,Q i { s with drawn:=d }):wpAny M A (choose src n) Q E s :=
 λΓ p _=>⟨hn,k _ (Nat.mod_lt _ (Nat.pos_of_ne_zero hn)) _⟩
theorem Zx2{α:Type}:∀ {l:List α} {i:Nat} {y:α},l[i]?=some y->(y :: l.eraseIdx i).Perm l
 | [],_,_,h=>by simp at h
 | x :: l,0,y,h=>by obtain rfl:x=y:=Yh h;exact .rfl
 | x :: l,i+1,y,h=>(List.Perm.swap x y (l.eraseIdx i)).trans ((Zx2 (l:=l) (i:=i) h).cons x)
theorem ZZ6{M:Model}{α:Type}:∀(n:Nat) (xs:List α) (s:Shared) (Q:List α->Shared->Prop),n=xs.length->(∀ ys d,ys.Perm xs->Q ys { s with drawn:=d })->wpAny M A (drawOrder n xs) Q E s
 | 0,xs,s,Q,h,k=>by have e:xs=[]:=YN.mp h.symm;subst e;exact Yi (k [] s.drawn .rfl)
 | n+1,[],s,Q,h,k=>by cases h
 | n+1,x :: xs,s,Q,h,k=>by show wpAny M A (choose .order (x :: xs).length >>= _) Q E s;refine Yy3 (Zj7 (by simp) λi hi d=>?_);obtain⟨y,hy⟩:∃ y,(x :: xs)[i]?=some y:=⟨_,Yy0 hi⟩;rw[hy];dsimp only;refine Yy3 (ZZ6 n ((x :: xs).eraseIdx i) _ _ (by rw[Y2U hi];lia) λys d' hp=>Yi (k (y :: ys) d' ?_));exact(hp.cons y).trans (Zx2 hy)
theorem ZB4{α:Type}{f:Nat->Nat}:∀(n k:Nat) (l:List α) (out:Array α),n=l.length->(pickOrder.go f n k l out).toList.Perm (out.toList++l)
 | 0,k,l,out,h=>by rw[YN.mp h.symm,YG];exact .rfl
 | n+1,k,l,out,h=>by have hi:f k % l.length<l.length:=Nat.mod_lt _ (by lia);obtain⟨y,hy⟩:∃ y,l[f k % l.length]?=some y:=⟨_,Yy0 hi⟩;unfold pickOrder.go;rw[hy];dsimp only;refine(ZB4 n (k+1) _ _ (by rw[Y2U hi];lia)).trans ?_;rw[Y2B,Y0a];refine List.Perm.append_left _ ?_;exact Zx2 hy
theorem Zv8{I a:Addr}{f:Value}{i n ep:Nat}{Q:Value->Shared->Prop}(hr:IsSi s.heap I a f i n ep)(h:Q (.ref I) s):wpAny (model prog w) A (pyIter (.ref I)) Q E s:=by
 refine wpAny_pyIter_slot hr.ty Zw8 (Y0R Zw8 hr.ty Zn9 ?_ (Zo9 _));show wpAny _ _ (ret (.ref I)) _ _ s
 exact Yi ⟨_,rfl,"set_iterator",_,hr.ty,si_next.lookup,h⟩
def ZI5(prog:Program)(w:World)(a:Addr)(es:Array (Int × Value))(ep:Nat)(t:SetTable)(ord:List Value)(sl:Nat->Nat):Prop :=
 ∀(A:Around) (E:Value->Shared->Prop) (s:Shared) (i:Nat) (Q:Option (Value × Nat)->Shared->Prop),SetIs s.heap a es ep t->i<=ord.length->Q ((ord[i]?).map λx=>(x,sl (i+1))) s->wpAny (model prog w) A (setNext a (sl i) i ep) Q E s
theorem Zz611{I a:Addr}{es:Array (Int × Value)}{ep:Nat}{t:SetTable}{ord:List Value}{sl:Nat->Nat}{i:Nat}{x:Value}{Q:Option Value->Shared->Prop}(hN:ZI5 prog w a es ep t ord sl)(hS:SetIs s.heap a es ep t)(hf:t.fits es.size=true)(hi:IsSi s.heap I a (rawInt (sl i:Nat)) i es.size ep)(hx:ord[i]?=some x)
  (k:∀ h',IsSi h' I a (rawInt (sl (i+1):Nat)) (i+1) es.size ep->Heap.SameBut I s.heap h'->Q (some x) { s with heap:=h' }):wpAny (model prog w) A (pyNext (.ref I)) Q E s:=by
 obtain⟨o,ho,hc,hd⟩:=id hi;obtain⟨oa,hoa,hxa,hda⟩:=id hS;unfold pyNext;refine Yy3 (Y2k (Y1w (name:=Str.ofString "__next__") hi.ty si_next (Y0R si_next hi.ty ZX2 ?_ (ZY2 _))));unfold Builtin.«set_iterator.__next__»;refine Yy3 (Y1x (a:=(Value.ref I,[])) rfl ?_);dsimp only;refine Yy3 (Y2E ho hd ?_);dsimp only [rawInt];refine Yy3 (Y1n hoa hda hf ?_);rw[if_neg (by simp)];rw[YA,YA,YA];refine Yy3 (hN _ _ s i _ hS (Yy15 (Yy1.mp hx).1) ?_);rw[hx];dsimp only [Option.map_some];refine Yy3 (Y1N ho hd (by simp) ?_);have ho2:=Yy03 (Obj.mapFields (λvs=>vs.setIfInBounds 0 (rawInt (sl (i+1):Nat)))) ho (Y1K (Y0g hd _))
 refine Yy3 (Y1N ho2 (Y0g hd _) (by simp) ?_);refine Yi ⟨x,rfl,Yi (k _ ⟨_,Yy03 _ ho2 (Y1K (Y0g (Y0g hd _) _)),?_,?_⟩ ((Y0u ..).trans (Y0u ..)))⟩
 ·rw[Y3b,Y3b];exact hc
 ·rw[Y0g (Y0g hd _)];simp;rfl
theorem Yz12{I a:Addr}{es:Array (Int × Value)}{ep:Nat}{t:SetTable}{ord:List Value}{sl:Nat->Nat}{Q:Option Value->Shared->Prop}(hh:A.handled=none)(hN:ZI5 prog w a es ep t ord sl)(hS:SetIs s.heap a es ep t)(hf:t.fits es.size=true)(hi:IsSi s.heap I a (rawInt (sl ord.length:Nat)) ord.length es.size ep)
  (k:∀ h',Heap.ExtBut I s.heap h'->Q none { s with heap:=h' }):wpAny (model prog w) A (pyNext (.ref I)) Q E s:=by
 obtain⟨o,ho,hc,hd⟩:=id hi;obtain⟨oa,hoa,hxa,hda⟩:=id hS;unfold pyNext;refine Yy3 (Y2k (Y1w (name:=Str.ofString "__next__") hi.ty si_next (Y0R si_next hi.ty ZX2 ?_ (ZY2 _))));unfold Builtin.«set_iterator.__next__»;refine Yy3 (Y1x (a:=(Value.ref I,[])) rfl ?_);dsimp only;refine Yy3 (Y2E ho hd ?_);dsimp only [rawInt];refine Yy3 (Y1n hoa hda hf ?_);rw[if_neg (by simp)];rw[YA,YA,YA];refine Yy3 (hN _ _ s ord.length _ hS (Yy8 _) ?_);rw[YZ (Yy8 _)];dsimp only [Option.map_none];refine Yy3 (Y1N ho hd (by simp) ?_);show wpAny _ _ (newExc (.type "StopIteration") [] >>= _) _ _ _
 refine Yy3 ?_;simp only [newExc,newTuple];refine Yy3 (Y0v ?_ (by size_fits));refine Yy3 (m:=firstArgMember _ _) (Y1x (a:=Value.none) (by first | rfl | (simp only [firstArgMember];rfl)) ?_)
 refine Y0v ?_ (by size_fits);simp only [raiseNew];refine Yy3 (wpAny_handled ?_);rw[show A.in1.handled=none from hh];refine Yy3 (Yi (wpAny_throw ?_));refine Yy3 (Y2j (T:="StopIteration") (b:=true) ⟨_,Ym _ rfl,rfl⟩ isSubtype_stop ?_);exact Yi (k _ ((((Y0u ..).extBut).push _).push _))
theorem Zm9{I a:Addr}{es:Array (Int × Value)}{ep:Nat}{t:SetTable}{ord:List Value}{sl:Nat->Nat}(hh:A.handled=none)(hN:ZI5 prog w a es ep t ord sl)(hf:t.fits es.size=true)(hne:a≠I) :
  Walks prog w A I [I,a] [I] ord.length (λi v=>ord[i]?=some v) (λi h=>i<=ord.length/\IsSi h I a (rawInt (sl i:Nat)) i es.size ep/\SetIs h a es ep t) where
 sub:=λb hb=>Yf.mpr (.inl (Yy2.mp hb))
 frame:=λ_ _ _ x hk=>⟨x.1,x.2.1.keep λo e=>hk I (by simp) o e,x.2.2.keep λo e=>hk a (by simp) o e⟩
 item:=λi s Q E hi ⟨_,x1,x2⟩ hQ=>by have hx:ord[i]?=some (ord[i]'hi):=Yy0 hi;exact Zz611 hN x2 hf x1 hx λh' y hs=>hQ _ h' s.toks hx ⟨hi,y,x2.keep λo e=>(hs.2 a hne).trans e⟩ λb o hb eo=>hs.extBut b o (λe=>hb (by simp[e])) eo
 done:=λs Q E ⟨_,x1,x2⟩ hQ=>Yz12 hh hN x2 hf x1 λh' he=>hQ h' s.toks λb o hb eo=>he b o (λe=>hb (by simp[e])) eo
 self:=λ_ _ _ _ x hQ=>Zv8 x.2.1 hQ
theorem ZM9 {a:Addr} {es:Array (Int × Value)} {ep:Nat} {t:SetTable} (hf:t.fits es.size=true) (hr:Ris t) (hb:w.params.followText "set-order"=false) (hl:t.led=true) (hd:(!t.plain && decide (es.size > 1))=false) :
  ZI5 prog w a es ep t (es.toList.map (·.2)) (λi=>if i=0 then 0 else (t.place.getD (i - 1) 0)+1):=by
 intro A E s i Q ⟨o,ho,hx,hda⟩ hi q;have hps:t.place.size=es.size:=by unfold SetTable.fits at hf;simp only [Y0W,Y0U]at hf;exact hf.1
 rw[Yb,YB]at hi;unfold setNext;refine Yy3 (Y1d ho hda hf ?_);dsimp only;refine Yy3 ?_;unfold setsByText;refine Yy3 (Y1p (Yi ?_));show wpAny _ _ (if (w.params.followText "set-order")=true then _ else _) _ _ _
 rw[if_neg (by rw[hb];decide)];show wpAny _ _ (if (!t.plain && decide (es.size > 1))=true then _ else _) _ _ _
 rw[if_neg (by rw[hd];decide)];refine Yy3 ?_;show wpAny _ _ (if (!t.led && !es.isEmpty)=true then _ else _) _ _ _
 rw[if_neg (by rw[hl];simp)];refine Yi ?_;have eb:SetTable.below t.place (if i=0 then 0 else (t.place.getD (i - 1) 0)+1)=i:=by
  by_cases c:i=0
  ·rw[if_pos c,c];exact Zm7 hr
  ·rw[if_neg c];obtain⟨v,hv⟩:∃ v,t.place[i - 1]?=some v:=⟨_,YE (by lia)⟩;have e:t.place.getD (i - 1) 0=v:=by rw[Yv,hv];rfl
   rw[e,Zn7 hr hv];lia
 rw[eb];refine Yi ?_;by_cases c:i<es.size
 ·obtain⟨v,hv⟩:∃ v,t.place[i]?=some v:=⟨_,YE (by lia)⟩;obtain⟨y,hy⟩:∃ y,es[i]?=some y:=⟨_,YE c⟩;have e:t.place.getD i 0=v:=by rw[Yv,hv];rfl
  rw[Yu,QP,hy]at q;rw[hv,hy];simp only [Y2R,Y2q,e,if_neg (Nat.succ_ne_zero i)]at q;exact q
 ·have e1:es[i]?=none:=Y1r (by lia);rw[Yu,QP,e1]at q;rw[e1];exact q
theorem ZL7 {a:Addr} {es:Array (Int × Value)} {ep:Nat} {t:SetTable} (hf:t.fits es.size=true) (hb:w.params.followText "set-order"=true) :
  ZI5 prog w a es ep t ((pickOrder (w.params.setOrder a ep) es).toList.map (·.2)) (λ_=>0):=by
 intro A E s i Q ⟨o,ho,hx,hda⟩ hi q;unfold setNext;refine Yy3 (Y1d ho hda hf ?_);dsimp only;refine Yy3 ?_;unfold setsByText;refine Yy3 (Y1p (Yi ?_));show wpAny _ _ (if (w.params.followText "set-order")=true then _ else _) _ _ _
 rw[if_pos hb,if_neg (by simp)];refine Yy3 ?_;unfold setWalk;refine Yy3 (Y1d ho hda hf ?_);dsimp only;refine Yy3 ?_;unfold setsByText;refine Yy3 (Y1p (Yi ?_));show wpAny _ _ (if (w.params.followText "set-order")=true then _ else _) _ _ _
 rw[if_pos hb];refine Yy3 (Y1p (Yi ?_));rw[Yu,QP,Option.map_map]at q;exact Yi q
def IsPl(h:Heap)(b:Addr)(pl:List Nat):Prop:=∃ o n,h.get? b=some o/\o.data=.seq (pl.map λ(i:Nat)=>rawInt (i:Int)).toArray n
theorem IsPl.keep{h h':Heap}{b:Addr}{pl:List Nat}(x:IsPl h b pl)(e:∀ o,h.get? b=some o->h'.get? b=some o):IsPl h' b pl:=let ⟨o,n,p,q⟩:=x;⟨o,n,e _ p,q⟩
theorem Zb11{I a b:Addr}{es:Array (Int × Value)}{ep:Nat}{t:SetTable}{pl:List Nat}{i j:Nat}{x:Int × Value}{Q:Option Value->Shared->Prop}(hS:SetIs s.heap a es ep t)(hf:t.fits es.size=true)(hi:IsSi s.heap I a (.ref b) i es.size ep)(hb:IsPl s.heap b pl)(hj:pl[i]?=some j)(hx:es[j]?=some x)
  (k:∀ h',IsSi h' I a (.ref b) (i+1) es.size ep->Heap.SameBut I s.heap h'->Q (some x.2) { s with heap:=h' }):wpAny (model prog w) A (pyNext (.ref I)) Q E s:=by
 obtain⟨o,ho,hc,hd⟩:=id hi;obtain⟨oa,hoa,hxa,hda⟩:=id hS;obtain⟨ob,nb,hob,hdb⟩:=hb;unfold pyNext;refine Yy3 (Y2k (Y1w (name:=Str.ofString "__next__") hi.ty si_next (Y0R si_next hi.ty ZX2 ?_ (ZY2 _))));unfold Builtin.«set_iterator.__next__»;refine Yy3 (Y1x (a:=(Value.ref I,[])) rfl ?_);dsimp only;refine Yy3 (Y2E ho hd ?_);dsimp only [rawInt];refine Yy3 (Y1n hoa hda hf ?_);rw[if_neg (by simp)];refine Yy3 (Y1o hob hdb ?_);dsimp only;have e:(pl.map λ(i:Nat)=>rawInt (i:Int)).toArray[(i:Int).toNat]?=some (.int (j:Int) 0):=by rw[YA,Y3v,Yu,hj];rfl
 rw[e];dsimp only;rw[YA,YA];refine Yy3 ?_;unfold setNextDrawn;refine Yy3 (Y1d hoa hda hf ?_);dsimp only;rw[if_neg (by simp),hx];refine Yi ?_;refine Yy3 (Y1N ho hd (by simp) ?_);refine Yi ⟨x.2,rfl,Yi (k _ ⟨_,Yy03 _ ho (Y1K (Y0g hd _)),?_,?_⟩ (Y0u ..))⟩
 ·rw[Y3b];exact hc
 ·rw[Y0g hd];simp;rfl
theorem ZB12{I a b:Addr}{es:Array (Int × Value)}{ep:Nat}{t:SetTable}{pl:List Nat}{Q:Option Value->Shared->Prop}(hh:A.handled=none)(hS:SetIs s.heap a es ep t)(hf:t.fits es.size=true)(hi:IsSi s.heap I a (.ref b) pl.length es.size ep)(hb:IsPl s.heap b pl)
  (k:∀ h',Heap.ExtBut I s.heap h'->Q none { s with heap:=h' }):wpAny (model prog w) A (pyNext (.ref I)) Q E s:=by
 obtain⟨o,ho,hc,hd⟩:=id hi;obtain⟨oa,hoa,hxa,hda⟩:=id hS;obtain⟨ob,nb,hob,hdb⟩:=hb;unfold pyNext;refine Yy3 (Y2k (Y1w (name:=Str.ofString "__next__") hi.ty si_next (Y0R si_next hi.ty ZX2 ?_ (ZY2 _))));unfold Builtin.«set_iterator.__next__»;refine Yy3 (Y1x (a:=(Value.ref I,[])) rfl ?_);dsimp only;refine Yy3 (Y2E ho hd ?_);dsimp only [rawInt];refine Yy3 (Y1n hoa hda hf ?_);rw[if_neg (by simp)];refine Yy3 (Y1o hob hdb ?_);dsimp only;have e:(pl.map λ(i:Nat)=>rawInt (i:Int)).toArray[(pl.length:Int).toNat]?=none:=by rw[YA,Y3v];exact YZ (by simp)
 rw[e];dsimp only;refine Yy3 (Y1N ho hd (by simp) ?_);have ho2:=Yy03 (Obj.mapFields (λvs=>vs.setIfInBounds 0 (rawInt 0))) ho (Y1K (Y0g hd _))
 refine Yy3 (Y1N ho2 (Y0g hd _) (by simp) ?_);show wpAny _ _ (newExc (.type "StopIteration") [] >>= _) _ _ _
 refine Yy3 ?_;simp only [newExc,newTuple];refine Yy3 (Y0v ?_ (by size_fits));refine Yy3 (m:=firstArgMember _ _) (Y1x (a:=Value.none) (by first | rfl | (simp only [firstArgMember];rfl)) ?_)
 refine Y0v ?_ (by size_fits);simp only [raiseNew];refine Yy3 (wpAny_handled ?_);rw[show A.in1.handled=none from hh];refine Yy3 (Yi (wpAny_throw ?_));refine Yy3 (Y2j (T:="StopIteration") (b:=true) ⟨_,Ym _ rfl,rfl⟩ isSubtype_stop ?_);exact Yi (k _ (((((Y0u ..).trans (Y0u ..)).extBut).push _).push _))
theorem Zr9{I a b:Addr}{es:Array (Int × Value)}{ep:Nat}{t:SetTable}{pl:List Nat}(hh:A.handled=none)(hp:pl.Perm (List.range es.size))(hf:t.fits es.size=true)(hne:a≠I)(hnb:b≠I) :
  Walks prog w A I [I,a,b] [I] pl.length (λi v=>(pl.filterMap λj=>(es[j]?).map (·.2))[i]?=some v) (λi h=>i<=pl.length/\IsSi h I a (.ref b) i es.size ep/\SetIs h a es ep t/\IsPl h b pl) where
 sub:=λc hc=>Yf.mpr (.inl (Yy2.mp hc))
 frame:=λ_ _ _ x hk=>⟨x.1,x.2.1.keep λo e=>hk I (by simp) o e,x.2.2.1.keep λo e=>hk a (by simp) o e,x.2.2.2.keep λo e=>hk b (by simp) o e⟩
 item:=λi s Q E hi ⟨_,x1,x2,x3⟩ hQ=>by
  have hj:pl[i]?=some (pl[i]'hi):=Yy0 hi;have hlt:=YH.mp (hp.mem_iff.mp (Yy9 hj))
  have hx:es[pl[i]'hi]?=some (es[pl[i]'hi]'hlt):=YE hlt;have fm:∀(l:List Nat),(∀ j∈l,j<es.size)->l.filterMap (λj=>(es[j]?).map (·.2))=l.map λj=>(es.getD j (0,.none)).2:=λl hl=>by
   induction l with
   | nil=>rfl
   | cons y l ih =>
    have hy:=hl y Ye;rw[Y1M,Yy06,ih λj h=>hl j (Yg _ h),YE hy,Yv,YE hy];rfl
  have hv:(pl.filterMap λj=>(es[j]?).map (·.2))[i]?=some (es[pl[i]'hi]'hlt).2:=by rw[fm pl λj hj=>YH.mp (hp.mem_iff.mp hj),Yu,hj,Y2R,Yv,hx];rfl
  exact Zb11 x2 hf x1 x3 hj hx λh' y hs=>hQ _ h' s.toks hv ⟨hi,y,x2.keep λo e=>(hs.2 a hne).trans e,x3.keep λo e=>(hs.2 b hnb).trans e⟩ λc o hc eo=>hs.extBut c o (λe=>hc (by simp[e])) eo
 done:=λs Q E ⟨_,x1,x2,x3⟩ hQ=>ZB12 hh x2 hf x1 x3 λh' he=>hQ h' s.toks λc o hc eo=>he c o (λe=>hc (by simp[e])) eo
 self:=λ_ _ _ _ x hQ=>Zv8 x.2.1 hQ
end
section
variable{prog:Program}{w:World}{A B:Around}{E:Value->Shared->Prop}{s:Shared}
theorem SetIs.ty {a:Addr} {es:Array (Int × Value)} {ep:Nat} {t:SetTable} (x:SetIs s.heap a es ep t):s.TypeIs (.ref a) "set":=let ⟨o,p,q,_⟩:=x;⟨o,p,q.1⟩
theorem Zq9 {a:Addr} {es:Array (Int × Value)} {ep:Nat} {t:SetTable} {Q:Value->Shared->Prop} (hh:A.handled=none) (hS:SetIs s.heap a es ep t) (hf:t.fits es.size=true) (hr:Ris t) (hl:t.led=!w.params.followText "set-order") (hz:es.size<=sizeLine)
  (k:∀(I:Addr) (h':Heap) d (ord:List Value) (fp:List Addr) (St:Nat->Heap->Prop),ord.Perm (es.toList.map (·.2))->Walks prog w A I fp [I] ord.length (λi v=>ord[i]?=some v) St->St 0 h'->(∀ b∈fp,b<h'.objs.size/\(b=a\/s.heap.objs.size<=b))->I∈fp->s.heap.objs.size<=I->(∀ c o,s.heap.get? c=some o->h'.get? c=some o)->Q (.ref I) { s with heap:=h',drawn:=d }) :
  wpAny (model prog w) B (pyIter (.ref a)) Q E s:=by
 obtain⟨o,ho,hx,hd⟩:=id hS;have lta:a<s.heap.objs.size:=Yn ho
 refine wpAny_pyIter_slot hS.ty Zt8 (Y0R Zt8 hS.ty Zj9 ?_ (Zk9 _));unfold Builtin.«frozenset.__iter__»;refine Yy3 (Y1x (a:=a) rfl ?_);refine Yy3 ?_;unfold Builtin.Frozenset.sizeOf;refine Yy3 (Y1n ho hd hf (Yi ?_));refine Yy3 ?_;unfold setDrawn;refine Yy3 (Y1d ho hd hf ?_);dsimp only;refine Yy3 ?_;unfold setsByText;refine Yy3 (Y1p (Yi (Yi ?_)));have num:∀(ord:List Value) (sl:Nat->Nat),sl 0=0->ZI5 prog w a es ep t ord sl->ord.Perm (es.toList.map (·.2))->wpAny (model prog w) B.in1 (pure (rawInt 0) >>= λfirst=>setEpoch a >>= λe=>newFields "set_iterator" [first,rawInt 0,.ref a,rawInt (es.size:Int),rawInt (e:Int)] >>= λit=>ret it)
   (λfin s'=>∃ v,fin=Fin.done (Flow.ret v)/\∃ T' r,s'.TypeIs v T'/\typeLookup (Value.type T') (Str.ofString "__next__")=pure (some r)/\Q v s') E s:=λord sl h0 hN hp=>by
  refine Yy3 (Yi (Yy3 (wpAny_setEpoch_of ho hd hf (Yy3 ?_))));unfold newFields;refine Y0v ?_ (by size_fits);have hI:IsSi (s.heap.push { cls:=.type "set_iterator",data:=.fields [rawInt 0,rawInt 0,.ref a,rawInt (es.size:Int),rawInt (ep:Int)].toArray }) s.heap.objs.size a (rawInt (sl 0:Nat)) 0 es.size ep:=⟨_,Ym _ rfl,rfl,by rw [h0];rfl⟩
  refine Yi ⟨_,rfl,"set_iterator",_,IsSi.ty (s:={ s with heap:=_ }) hI,si_next.lookup,?_⟩;have ne:a≠s.heap.objs.size:=Yr lta
  refine k _ _ s.drawn ord _ _ hp (Zm9 hh hN hf ne) ⟨Yl _,hI,hS.keep λo e=>Yy5 _ e⟩ (λb hb=>?_) (by simp) (Yy8 _) λc o e=>Yy5 _ e;rw[Y0T];rcases Yf.mp hb with e | e
  ·rw[e];exact⟨Y0p _,.inr (Yy8 _)⟩
  ·rw[Yy2.mp e];exact⟨Yy11 lta,.inl rfl⟩
 by_cases hb:w.params.followText "set-order"=true
 ·rw [if_neg (by show ¬ (!w.params.followText "set-order" && _)=true;rw [hb];simp)];refine num _ (λ_=>0) rfl (ZL7 hf hb) ?_
  have:=ZB4 (f:=w.params.setOrder a ep) es.size 0 es.toList #[] (by rw[YB])
  exact this.map _
 ·have hb':w.params.followText "set-order"=false:=by simpa using hb
  rw[hb']at hl;by_cases c:(!t.plain && decide (es.size > 1))=true
  ·rw [if_pos (by show(!w.params.followText "set-order" && (!t.plain && decide (es.size > 1)))=true;rw [hb',c];rfl)];refine Yy3 (ZZ6 es.size (List.range es.size) s _ (by rw[Y0k]) λpl d hp=>?_);have hpl:pl.length=es.size:=by rw[hp.length_eq,Y0k]
   refine Yy3 (wpAny_newTuple ?_ (by rw[Yb,hpl];exact hz));have hoS:∀(h:Heap) o,h.get? a=some o->(h.push { cls:=.type "tuple",data:=.seq (List.map (λi=>rawInt ((i:Nat):Int)) pl).toArray }).get? a=some o:=λh o e=>Yy5 _ e
   refine Yy3 (wpAny_setEpoch_of (hoS s.heap o ho) hd hf (Yy3 ?_));unfold newFields;refine Y0v ?_ (by size_fits);have ne:a≠s.heap.objs.size:=Yr lta
   generalize hh1:s.heap.push { cls:=.type "tuple",data:=.seq (List.map (λi=>rawInt ((i:Nat):Int)) pl).toArray }=h1;have s1:h1.objs.size=s.heap.objs.size+1:=by rw[<- hh1];exact Y0T ..
   have old1:∀ c o,s.heap.get? c=some o->h1.get? c=some o:=λc o e=>by rw[<- hh1];exact Yy5 _ e
   have hP1:IsPl h1 s.heap.objs.size pl:=by rw[<- hh1];exact⟨_,0,Ym _ rfl,rfl⟩
   have hI:IsSi (h1.push { cls:=.type "set_iterator",data:=.fields [Value.ref s.heap.objs.size,rawInt 0,.ref a,rawInt (es.size:Int),rawInt (ep:Int)].toArray }) h1.objs.size a (.ref s.heap.objs.size) 0 es.size ep:=⟨_,Ym _ rfl,rfl,rfl⟩;refine Yi ⟨_,rfl,"set_iterator",_,IsSi.ty (s:={ s with heap:=_,drawn:=d }) hI,si_next.lookup,?_⟩;have hord:(pl.filterMap λj=>(es[j]?).map (·.2)).Perm (es.toList.map (·.2)):=by refine(hp.filterMap _).trans ?_;rw[<- filterMap_getElem?_range es,List.map_filterMap]
   have hol:(pl.filterMap λj=>(es[j]?).map (·.2)).length=pl.length:=by rw[hord.length_eq,Yb,YB,hpl]
   have W:=Zr9 (prog:=prog) (w:=w) (A:=A) (I:=h1.objs.size) (a:=a) (b:=s.heap.objs.size) (es:=es) (ep:=ep) (t:=t) hh hp hf (by rw[s1];exact Yr (Yy11 lta)) (by rw[s1];exact Yr (Y0p _));rw[<- hol]at W;refine k _ _ d _ _ _ hord W ⟨Yl _,hI,hS.keep λo e=>Yy5 _ (old1 _ o e),hP1.keep λo e=>Yy5 _ e⟩ (λb hb=>?_) (by simp) (by rw[s1];exact Y0j _) λc o e=>Yy5 _ (old1 c o e);rw[Y0T,s1];rcases Yf.mp hb with e | e
   ·rw[e,s1];exact⟨Y0p _,.inr (Y0j _)⟩
   ·rcases Yf.mp e with e | e
    ·rw[e];exact⟨Yy11 (Yy11 lta),.inl rfl⟩
    ·rw[Yy2.mp e];exact⟨Yy11 (Y0p _),.inr (Yy8 _)⟩
  ·have c':(!t.plain && decide (es.size > 1))=false:=by simpa using c
   rw [if_neg (by show ¬ (!w.params.followText "set-order" && (!t.plain && decide (es.size > 1)))=true;rw [c'];simp)];exact num _ _ rfl (ZM9 hf hr hb' hl c') .rfl
end
theorem Zy12:typeLookup (.type "set") "__len__"=pure (some (.builtin "set.__len__")):=by rw [Y1C,Y0Q];kernel_rfl
section
variable{prog:Program}{w:World}{A:Around}{E:Value->Shared->Prop}{s:Shared}
theorem Zz311 {r:Addr} {Q:Bool->Shared->Prop} (hT:s.TypeIs (.ref r) "set") (h:Q false s):wpAny (model prog w) A (Builtin.List.listLengthHint (.ref r)) Q E s:=by
 unfold Builtin.List.listLengthHint;refine Yy3 (wpAny_specialOf hT Zy12 ?_);generalize hid:("set.__len__":String)=id0
 wp_delta
 rw [show splitId id0=some ("set","__len__") from by subst hid;decide +kernel];subst hid;refine Yy3 (Y2j (T:="set") (b:=true) hT sub_set_self ?_);show wpAny _ A (typeOf (Value.ref r) >>= _) _ _ _
 exact Yy3 (Y2w (T:="set") hT (Yi h))
theorem ZF5 {a:Addr} {es:Array (Int × Value)} {ep:Nat} {t:SetTable} {Q:List Value->Shared->Prop} (hh:A.handled=none) (hS:SetIs s.heap a es ep t) (hf:t.fits es.size=true) (hr:Ris t) (hl:t.led=!w.params.followText "set-order") (hz:es.size<=sizeLine)
  (k:∀(out:List Value) h' tk d,out.Perm (es.toList.map (·.2))->s.heap.objs.size<=h'.objs.size->(∀ c o,s.heap.get? c=some o->h'.get? c=some o)->Q out { s with heap:=h',toks:=tk,drawn:=d }):wpAny (model prog w) A (collect (.ref a)) Q E s:=by
 have hL1:(s.heap.push (seqObj "list" #[] 0)).get? s.heap.objs.size=some (seqObj "list" #[] 0):=Ym _ rfl;have hS1:SetIs (s.heap.push (seqObj "list" #[] 0)) a es ep t:=hS.keep λo e=>Yy5 _ e
 have lta:a<s.heap.objs.size:=let ⟨_,e,_⟩:=hS;Yn e
 unfold collect;refine Yy3 (Y2D (Y0d Y3g ?_));show wpAny _ _ (newList [] >>= λv=>again (.builtin "list.__iadd__" ⟨[v,.ref a],[]⟩)) _ _ s
 refine Yy3 (Y1D (Yi ⟨Yy28 _ (by decide +kernel),Y0d entry_list_iadd' ?_⟩));show wpAny _ _ (Builtin.List.listExtendWith (.ref s.heap.objs.size) (.ref a) (.ref s.heap.objs.size)) _ _ { s with heap:=s.heap.push (seqObj "list" #[] 0) }
 unfold Builtin.List.listExtendWith;refine Yy3 (Y2w (T:="set") (SetIs.ty (s:={ s with heap:=s.heap.push (seqObj "list" #[] 0) }) hS1) ?_);have e1:Builtin.List.listSameRef (.ref s.heap.objs.size) (.ref a)=false:=by show(s.heap.objs.size == a)=false;exact Y2P (Y0x lta)
 rw[if_neg (by rw[e1];decide)];refine Yy3 (Zq9 (A:=A.in1) (by simp[hh]) hS1 hf hr hl hz λI h' d ord fp St hord W st0 hfp hI hge kp=>?_);have hT':Shared.TypeIs { s with heap:=h',drawn:=d } (.ref a) "set":=SetIs.ty (s:={ s with heap:=h',drawn:=d }) (hS1.keep λo e=>kp a o e)
 refine Yy3 (Y0e (Zz311 hT' ?_));rw[if_pos (by decide +kernel)];have hL2:=kp _ _ hL1
 refine Yy3 (Y3m (Yy3 ?_));unfold Builtin.List.listTouch;refine Yy3 (Y1R (xs:=#[]) (n:=0) hL2 rfl ?_ (Yl _) (by show 1<=sizeLine+1;lia));have hL3:=Yy03 (Obj.mapSeq (·.push Value.none)) hL2 rfl
 refine Y1R (xs:=#[].push Value.none) (n:=1) hL3 rfl ?_ (by show 1<=sizeLine;decide) (by show 0<=sizeLine+1;lia);have hL4:=Yy03 (Obj.mapSeq Array.pop) hL3 rfl
 have old:∀ c o,c≠s.heap.objs.size->h'.get? c=some o->((h'.update s.heap.objs.size (Obj.mapSeq (·.push Value.none))).update s.heap.objs.size (Obj.mapSeq Array.pop)).get? c=some o:=λc o hc e=>by rw[YM _ _ (YY hc),YM _ _ (YY hc)];exact e
 generalize (h'.update s.heap.objs.size (Obj.mapSeq (·.push Value.none))).update s.heap.objs.size (Obj.mapSeq Array.pop)=h4 at *;have hSf:s.heap.objs.size∉fp:=λq=>by
  rcases(hfp _ q).2 with e | e
  ·exact Y0x lta e
  ·rw [show({ s with heap:=s.heap.push (seqObj "list" #[] 0) }:Shared).heap.objs.size=s.heap.objs.size+1 from Y0T ..] at e;exact Nat.not_succ_le_self _ e
 have lenO:ord.length=es.size:=by rw[hord.length_eq,Yb,YB]
 refine Yi ⟨Y0Y Yy31 _,codeAny_extend_loopS W.toS (by rw[lenO];exact hz) s.heap.objs.size hSf _ ord.length 0 _ #[] _ rfl (Yl _) (W.frame 0 _ _ st0 λb hb o e=>old b o (λq=>hSf (q ▸ hb)) e) hL4 (ItemsOf.nil _) λs2 acc c m hL5 hacc=>?_⟩;have eo:acc.toList=ord:=by
  refine Yy12 λi=>?_;rw[QP];by_cases hi:i<ord.length
  ·have q:acc[i]?=some (acc[i]'(by rw[hacc.1];exact hi)):=YE _;rw[q,hacc.2 i _ q]
  ·rw[YZ (by grind),Y1r (by rw[hacc.1];omega)]
 show wpAny _ A (load s.heap.objs.size >>= _) Q E s2;refine Yy3 (Y3n hL5 ?_);refine Yi ?_;rw[eo,Moved.eq_with m];refine k ord s2.heap s2.toks d hord (Yy15 (Yn hL5)) λc o e=>?_;have lt:=Yn e
 refine m.heap c o (λq=>?_) (old c o (Yr lt) (kp c o (Yy5 _ e)));rcases Yf.mp q with e' | e'
 ·exact Yr lt e'
 ·rw[Yy2.mp e']at lt
  have:=Yo lt (Yt (Y0j _) (Y0T .. ▸ hge))
  exact Y0q _ this
end
theorem ZM2{m:List Int}:∀ {l:List Int},m.Nodup->l.length=m.length->(∀ x∈m,x∈l)->l.Perm m:=by
 induction m with
 | nil=>intro l _ h _;rw[YN.mp h]
 | cons x m ih =>
  intro l hn hl hs;have hx:=hs x Ye
  have hn':=Y0n.mp hn;refine(List.perm_cons_erase hx).trans ((ih hn'.2 (by rw[Y1V hx,hl];rfl) λy hy=>?_).cons x);have ne:y≠x:=λe=>hn'.1 (by rw[<- e];exact hy)
  exact(Y2g ne).mpr (hs y (Yg _ hy))
theorem Zz58{us vs:List Value}(p:us.Perm vs):∀ {ns:List Int},IntsAre vs ns->∃ ms,IntsAre us ms/\ms.Perm ns:=by
 induction p with
 | nil=>intro ns h;exact⟨ns,h,.rfl⟩
 | cons x _ ih =>
  intro ns h;cases h with
  | cons n t h =>
   obtain⟨ms,h1,h2⟩:=ih h;exact⟨n :: ms,.cons n t h1,h2.cons n⟩
 | swap x y l =>
  intro ns h;cases h with
  | cons n t h =>
   cases h with
   | cons m u h=>exact⟨m :: n :: _,.cons m u (.cons n t h),.swap n m _⟩
 | trans _ _ ih1 ih2 =>
  intro ns h;obtain⟨ms,h1,h2⟩:=ih2 h;obtain⟨ls,h3,h4⟩:=ih1 h1;exact⟨ls,h3,h4.trans h2⟩
theorem Zz010{vs:List Value}{ns:List Int}(h:IntsAre vs ns):vs.length=ns.length:=by
 induction h with
 | nil=>rfl
 | cons n t _ ih=>rw[YD,YD,ih]
theorem ZO1(val:Nat->Int):∀ i,(firstMet val i).Nodup
 | 0=>.nil
 | i+1=>by
  rw[firstMet_succ];unfold step_dedup;split
  ·exact ZO1 val i
  ·rename_i h;refine YQ.mpr ⟨ZO1 val i,by simp,λa ha b hb e=>?_⟩;rw[Yy2.mp hb]at e;exact h (Y1c.mpr ⟨a,ha,by rw[e];simp⟩)
section
variable{prog:Program}{w:World}{A:Around}{E:Value->Shared->Prop}{s:Shared}
theorem Zv2:∀ {l:List (Int × Value)},ElemsOf (intKind prog w) l->∃ ms,IntsAre (l.map (·.2)) ms/\∀ z,z∈ms↔∃ y∈l,(intKind prog w).is z y.2=true
 | [],_=>⟨[],.nil,λz=>⟨λh=>(by cases h),λ⟨y,h,_⟩=>(by cases h)⟩⟩
 | y :: l,h=>by
  obtain⟨ms,h1,h2⟩:=Zv2 h.tail;obtain⟨⟨z,hz,_⟩,_⟩:=h.head;obtain⟨hy,v⟩:=y;obtain⟨u,rfl⟩:=Value.isInt_shape (show Value.isInt z v=true from hz);refine⟨z :: ms,.cons z u h1,λx=>?_⟩;rw[Yf,h2];constructor
  ·rintro(e | ⟨y,hy,q⟩)
   ·exact⟨_,Ye,e ▸ hz⟩
   ·exact⟨y,Yg _ hy,q⟩
  ·rintro⟨y,hy,q⟩;rcases Yf.mp hy with e | e
   ·rw[e]at q;exact .inl ((intKind prog w).inj _ _ _ q hz)
   ·exact .inr ⟨y,e,q⟩
theorem Zz16 {a:Addr} {led:Bool} {S:Int->Bool} {n:Nat} {Q:Value->Shared->Prop} (hh:A.handled=none) (hS:SetR prog w s.heap a (!w.params.followText "set-order") S n) (h64:n<64)
  (k:∀(ms:List Int) (out:List Value) r h' tk d c,IntsAre out ms->ms.Pairwise (·<=·)->ms.length=n->(∀ z,z∈ms↔S z=true)->s.heap.objs.size<=r->h'.get? r=some (seqObj "list" out.toArray c)->(∀ c o,s.heap.get? c=some o->h'.get? c=some o)->Q (.ref r) { s with heap:=h',toks:=tk,drawn:=d }) :
  wpAny (model prog w) A (call (.builtin "sorted") [.ref a]) Q E s:=by
 obtain⟨o,es,ep,t,ho,hx,hd,he,hm,hb,hf,hn,hr,hl⟩:=hS;obtain⟨ns,hI,hmem⟩:=Zv2 he;have hsl:sizeLine=16777216:=Y0r
 refine Calls.call_function_entry kind_sorted plain_sorted entry_sorted (args_sorted1 _) ?_;unfold Builtin.«sorted»;refine Yy3 (m:=checkCount "sorted" 1 1 _) (Yi ?_);refine Yy3 (ZF5 (A:=A.in1) (by simp[hh]) ⟨o,ho,hx,hd⟩ hf hr hl (by lia) λout h1 tk d hp hge kp=>?_);obtain⟨ls,hI2,hp2⟩:=Zz58 hp hI;have lo:=Zz010 hI2
 have ll:ls.length=n:=by rw[<- lo,hp.length_eq,Yb,YB,hn]
 refine Yy3 (Y1D ?_);have hL:(h1.push (seqObj "list" out.toArray 0)).get? h1.objs.size=some (seqObj "list" out.toArray 0):=Ym _ rfl
 refine Yy3 (Y0e (Y0R slot_list_sort ⟨_,hL,rfl⟩ entry_list_sort (list_sort_tree hL hI2 (by lia) λres ms b1 b2 b3=>⟨_,rfl,?_⟩) (args_list_sort _)));obtain⟨c,hc⟩:=sortedHeap_at (out:=res) hL;refine Yi ⟨_,rfl,k ms res.toList h1.objs.size _ tk d c b1 b3 (by rw[b2.length_eq,ll]) (λz=>by rw[b2.mem_iff,hp2.mem_iff,hmem,hm]) hge (by rw[Array.toArray_toList];exact hc) λb ob e=>?_⟩;have lt:=Yn (kp b ob e)
 rw[sortedHeap_old (Yr lt) (by rw[size_push'];exact Yy11 lt)];exact Yy5 _ (kp b ob e)
end
section
variable{X:Cx}{p p2 pos pos2:Pos}{e:Expr}{t:TA}
theorem Inv.drew{X:Cx}{pins:List (Addr × Obj)}{σ:St}{H:Hp}{s:Shared}(I:Inv X pins σ H s)(d:Drawn):Inv X pins σ H { s with drawn:=d } :=
 I.step (g':=s.gens) (d':=d) (t':=s.toks) (h':=s.heap) (ch:=[]) (λb hb=>(by cases hb)) (λb o _ _ _ q _=>q) (λb o _ _ _ q _=>⟨o.slots,q⟩) (λb o _ _ n=>n) (λb o _ q=>⟨o,q⟩) (λb xs q=>q) (λb o u q=>q) (λb ps q=>⟨#[],by rw[q];simp⟩) (λm hm=>hm) I.hok I.bare
def ZZ5(K:PySem.W.Frag)(t:TA):TE:=λσ H Q=>t σ H λvs H1=>∃(a:Addr) (ns:List Int),vs=[.ref a]/\SqL K H1 a (ns.map V.int)/\ns.length<64/\∀ ms:List Int,ms.Pairwise (· < ·)->(∀ z,z∈ms↔z∈ns)->∀ l,H1 l=none->Q (.ref l) (upd H1 l (.lst (ms.map V.int)))
theorem Zz74 (K:PySem.W.Frag) (hc:X.calm=true) (g1:Gl X "sorted") (m1:X.mg "sorted"=none) (g2:Gl X "set") (m2:X.mg "set"=none) (ha:PA X [e] t) (hk:X.K=K:=by rfl)
  (he:starEach [e] X.env=[(false,eval e X.env)]:=by rfl)
  (he2:starEach [.Call (.Name "set" p2) [e] [] pos2] X.env=[(false,eval (.Call (.Name "set" p2) [e] [] pos2) X.env)]:=by rfl) :
  PE X (.Call (.Name "sorted" p) [.Call (.Name "set" p2) [e] [] pos2] [] pos) (ZZ5 K t):=by
 subst hk;intro pins s σ H Q I h;refine Y0f (Zu2 I g1 m1 Boot.«sorted» ?_);refine Y2x ?_ (by rw[he2];rfl) rfl;rw[he2];show wpAny _ _ (spliced ((false,eval (.Call (.Name "set" p2) [e] [] pos2) X.env) :: backTo pos [])) _ _ s
 refine Y2X ?_;refine Y0f (Zu2 I g2 m2 Boot.«set» ?_);refine Y0c (thn (ha pos2 pins s σ H _ I h) λus s1 ⟨vs,H1,I1,r1,q1⟩=>?_) (by rw[he];rfl) rfl;obtain⟨a,ns,rfl,hq,hn,q⟩:=q1;obtain⟨u,rfl,ru⟩:=ZZ3 r1;obtain rfl:u=Value.ref a:=ru;obtain⟨its,rv,pl,hz⟩:=I1.list hq;have hi:=ZR rv
 have el:its.toArray.size=ns.length:=by rw[Ya,<- rv.length,Yb]
 have sb:scanBound=4096:=rfl;refine Zz711 (I.ok.hd hc) pl.isList (ns:=ns) (by simpa using hi) (by lia) λh2 tk hS kp=>?_;refine Y3f ?_;have fl:=firstMet_length_le (λi=>ns.getD i 0) its.toArray.size
 refine Zz16 (led:=true) (s:={ s1 with heap:=h2,toks:=tk }) (I.ok.hd hc) hS (by lia) λms out r h3 tk3 d c hI hs hl hmem hge hr kp3=>?_;have em:∀ z,z∈ms↔z∈ns:=λz=>by
  rw[hmem,firstMet_any,el];have e1:(List.range ns.length).map (λi=>ns.getD i 0)=ns:=by
   refine Yy12 λi=>?_;rw[Yu];by_cases c:i<ns.length
   ·rw[Y1L c,Yy0 c,Y2R,Yy6,Yy0 c];rfl
   ·rw[YZ (by rw[Y0k];lia),YZ (by omega)];rfl
  rw[e1];simp
 have hnd:ms.Nodup:=(ZM2 (ZO1 _ _) hl λx hx=>(hmem x).mpr (Y1c.mpr ⟨x,hx,by simp⟩)).nodup_iff.mpr (ZO1 _ _);have hlt:s1.heap.objs.size<=h2.objs.size:=let ⟨_,_,_,_,e,_⟩:=hS;Yy15 (Yn e)
 have hge2:s1.heap.objs.size<=r:=Yt hlt hge;have hml:ms.length<=ns.length:=by rw[hl,<- el];exact fl
 have I2:=(I1.laid (o:=.lst (ms.map V.int)) (h':=h3) (t':=tk3) (λb o e=>kp3 b o (kp b o e)) hge2 ⟨by rw[Yb];have:sizeLine=16777216:=Y0r;lia,out,c,ZY hI,hr⟩).drew d;exact⟨.ref r,_,I2,rfl,q ms (My.srt_strict hs hnd) em r (I1.hok.fresh hge2)⟩
end
end L2
namespace My
open PySem L2
theorem Ze7{A B:List (Nat × Nat)}{f g:Nat->Nat}{N k:Nat}(hf:∀ i j,i<N->j<N->(f i=f j↔Conn A i j))(hk:∀ i,i<N->f i<k)(hg:∀ a,a<k->g a<N/\f (g a)=a)(hA:InN N A)(hB:InN N B) :
  (∀ i j,i<N->j<N->Conn (A++B) i j)↔∀ a b,a<k->b<k->Conn (B.map λe=>(f e.1,f e.2)) a b:=by
 have gi:∀ i,i<N->Conn A (g (f i)) i:=λi hi=>by obtain⟨h1,h2⟩:=hg (f i) (hk i hi);exact(hf _ _ h1 hi).mp h2
 constructor
 ·intro c a b ha hb;obtain⟨a1,a2⟩:=hg a ha;obtain⟨b1,b2⟩:=hg b hb;have q:=(c (g a) (g b) a1 b1).image (f:=f) (fs:=B.map λe=>(f e.1,f e.2)) λe he=>by
   rcases Yy7.mp he with q | q
   ·obtain⟨e1,e2⟩:=hA e q;rw[(hf _ _ e1 e2).mpr (.edge q)];exact .refl _
   ·exact .edge (YC.mpr ⟨e,q,rfl⟩)
  rw[a2,b2]at q;exact q
 ·intro c i j hi hj;have up:∀ {i j:Nat},Conn A i j->Conn (A++B) i j:=λq=>q.mono λe he=>Yc _ he
  have q:=(c (f i) (f j) (hk i hi) (hk j hj)).image (f:=g) (fs:=A++B) λe he=>by obtain⟨d,hd,rfl⟩:=YC.mp he;obtain⟨d1,d2⟩:=hB d hd;exact(up (gi _ d1)).trans ((Conn.edge (Yd _ hd)).trans (up (gi _ d2)).symm)
  exact(up (gi i hi)).symm.trans (q.trans (up (gi j hj)))
def PC(n:Int)(ps:List (Int × Int))(I O:List Int)(c:Nat):Prop:=∃ L:List (List Int),L.Nodup/\(∀ l,l∈L↔Zi n ps l/\(∀ z∈I,z∈l)/\∀ z∈O,z∉l)/\L.length=c
theorem PC.uniq{n:Int}{ps:List (Int × Int)}{I O:List Int}{c d:Nat}(h1:PC n ps I O c)(h2:PC n ps I O d):c=d:=by
 obtain⟨L,a1,a2,a3⟩:=h1;obtain⟨M,b1,b2,b3⟩:=h2
 have:L.Perm M:=(Y0H a1 b1).mpr λl=>by rw[a2,b2]
 rw[<- a3,<- b3,this.length_eq]
def freT(m:Nat)(gone:List Int):List Int:=(rgL m).filter λz=>decide (z∉gone)
theorem freT_mem{m:Nat}{gone:List Int}{z:Int}:z∈freT m gone↔(0<=z/\z<(m:Int))/\z∉gone:=by unfold freT;rw[Yk,Yy00,rgL_mem]
theorem ZV6(m:Nat)(gone:List Int):(freT m gone).Pairwise (· < ·):=(isSet_iff.mp (ZL2 m)).2.filter _
def conW(f:Nat->Nat)(ps:List (Int × Int))(R:List Int):List (Int × Int):=R.map λz=>((f (Zu ps z).1:Int),(f (Zu ps z).2:Int))
def upR(R:List Int)(S:List Int):List Int:=S.map λt=>R.getD t.toNat 0
theorem ZN10{R S:List Int}(hR:R.Pairwise (· < ·))(hS:IsSet R.length S):(upR R S).Pairwise (· < ·):=by
 obtain⟨a1,a2⟩:=isSet_iff.mp hS;refine Y0B.mpr (a2.imp_of_mem λ{a b} ha hb hab=>?_);have h1:=a1 a ha
 have h2:=a1 b hb;rw[Yy6,Yy6,Yy0 (by lia),Yy0 (by lia)];exact Y0K.mp hR a.toNat b.toNat (by omega) (by omega) (by grind)
theorem Zr3{R S:List Int}(hS:IsSet R.length S){z:Int}(h:z∈upR R S):z∈R:=by
 obtain⟨t,ht,rfl⟩:=YC.mp h;have h1:=hS.all t ht
 rw[Yy6,Yy0 (by lia)];exact Y0M _
theorem Zs10{f:Nat->Nat}{ps:List (Int × Int)}{R S:List Int}(hS:IsSet R.length S):Zz6 (conW f ps R) S=(Zz6 ps (upR R S)).map λe=>(f e.1,f e.2):=by
 unfold Zz6 upR;rw[Y1g,Y1g];refine YR λt ht=>?_;have h1:=hS.all t ht
 have e:(conW f ps R).getD t.toNat (0,0)=((f (Zu ps (R.getD t.toNat 0)).1:Int),(f (Zu ps (R.getD t.toNat 0)).2:Int)):=by unfold conW;rw[Yy6,Yu,Yy6,Yy0 (by omega)];rfl
 rw[e];rfl
def Zm5(m:Nat)(I R S:List Int):List Int:=(rgL m).filter λz=>decide (z∈I\/z∈upR R S)
theorem Zn3(m:Nat)(I R S:List Int):(Zm5 m I R S).Pairwise (· < ·):=(isSet_iff.mp (ZL2 m)).2.filter _
theorem backT_mem{m:Nat}{I R S:List Int}{z:Int}:z∈Zm5 m I R S↔(0<=z/\z<(m:Int))/\(z∈I\/z∈upR R S):=by unfold Zm5;rw[Yk,Yy00,rgL_mem]
section
variable{n:Int}{ps:List (Int × Int)}{I O S:List Int}{f g:Nat->Nat}{k:Nat}
theorem ZC2(hI:IsSet ps.length I)(hS:IsSet (freT ps.length (I++O)).length S):(Zm5 ps.length I (freT ps.length (I++O)) S).Perm (I++upR (freT ps.length (I++O)) S):=by
 have ua:=ZN10 (ZV6 ps.length (I++O)) hS;refine(Y0H (ZL1 (Zn3 _ _ _ _)) (YQ.mpr ⟨hI.nodup,ZL1 ua,λa ha b hb e=>?_⟩)).mpr λz=>?_
 ·have:=(freT_mem.mp (Zr3 hS hb)).2
  exact this (Yc _ (e ▸ ha))
 ·rw[backT_mem,Yy7];refine⟨λh=>h.2,λh=>⟨?_,h⟩⟩;rcases h with q | q
  ·exact hI.all z q
  ·exact(freT_mem.mp (Zr3 hS q)).1
theorem Zf7(g0:Zv n ps)(hI:IsSet ps.length I)(hf:∀ i j,i<n.toNat->j<n.toNat->(f i=f j↔Conn (Zz6 ps I) i j))(hk:∀ i,i<n.toNat->f i<k)(hg:∀ a,a<k->g a<n.toNat/\f (g a)=a)(hS:IsSet (freT ps.length (I++O)).length S) :
  ((∀ i j,i<n.toNat->j<n.toNat->Conn (Zz6 ps (Zm5 ps.length I (freT ps.length (I++O)) S)) i j)↔∀ a b,a<k->b<k->Conn (Zz6 (conW f ps (freT ps.length (I++O))) S) a b):=by
 have hp:=ZC2 (O:=O) hI hS;have hA:=ZJ (ns:=I) g0 hI.all
 have hB:=ZJ (ns:=upR (freT ps.length (I++O)) S) g0 λz hz=>(freT_mem.mp (Zr3 hS hz)).1;have e:Zz6 ps (I++upR (freT ps.length (I++O)) S)=Zz6 ps I++Zz6 ps (upR (freT ps.length (I++O)) S):=by unfold Zz6;exact YL
 rw[Zs10 hS,<- Ze7 hf hk hg hA hB,<- e];exact⟨λc i j hi hj=>(Zz51 λz=>hp.mem_iff).mp (c i j hi hj),λc i j hi hj=>(Zz51 λz=>hp.mem_iff).mpr (c i j hi hj)⟩
theorem Zp13{T:List Int}(hI:IsSet ps.length I)(hT:IsSet ps.length T)(h1:∀ z∈I,z∈T)(h2:∀ z∈O,z∉T):∃ S,IsSet (freT ps.length (I++O)).length S/\T=Zm5 ps.length I (freT ps.length (I++O)) S:=by
 refine⟨(rgL (freT ps.length (I++O)).length).filter λt=>decide ((freT ps.length (I++O)).getD t.toNat 0∈T),isSet_iff.mpr ⟨λt ht=>rgL_mem.mp (Yk.mp ht).1,(isSet_iff.mp (ZL2 _)).2.filter _⟩,Zo7 (isSet_iff.mp hT).2 (Zn3 _ _ _ _) λz=>?_⟩;rw[backT_mem];constructor
 ·intro hz;refine⟨hT.all z hz,?_⟩;by_cases c:z∈I
  ·exact .inl c
  ·right;have hR:z∈freT ps.length (I++O):=freT_mem.mpr ⟨hT.all z hz,λq=>by
    rcases Yy7.mp q with q | q
    ·exact c q
    ·exact h2 z q hz⟩
   obtain⟨t,ht⟩:=YX hR;have e:(freT ps.length (I++O)).getD ((t:Int)).toNat 0=z:=by rw[YA];exact ZO ht
   refine YC.mpr ⟨(t:Int),Yk.mpr ⟨rgL_mem.mpr ⟨by lia,by have:=(Yy1.mp ht).1;omega⟩,Yx (by rw[e];exact hz)⟩,e⟩
 ·rintro⟨_,q | q⟩
  ·exact h1 z q
  ·obtain⟨t,ht,rfl⟩:=YC.mp q;exact Yw (Yk.mp ht).2
theorem Zm8{S':List Int}(hS:IsSet (freT ps.length (I++O)).length S)(hS':IsSet (freT ps.length (I++O)).length S')(e:Zm5 ps.length I (freT ps.length (I++O)) S=Zm5 ps.length I (freT ps.length (I++O)) S'):S=S':=by
 have key:∀ {A B:List Int},IsSet (freT ps.length (I++O)).length A->IsSet (freT ps.length (I++O)).length B->Zm5 ps.length I (freT ps.length (I++O)) A=Zm5 ps.length I (freT ps.length (I++O)) B->∀ t,t∈A->t∈B:=λ{A B} hA hB e t ht=>by
  have h1:=hA.all t ht;have hm:(freT ps.length (I++O)).getD t.toNat 0∈upR (freT ps.length (I++O)) A:=YC.mpr ⟨t,ht,rfl⟩
  have hR:=freT_mem.mp (Zr3 hA hm);have h2:(freT ps.length (I++O)).getD t.toNat 0∈Zm5 ps.length I (freT ps.length (I++O)) B:=e ▸ backT_mem.mpr ⟨hR.1,.inr hm⟩
  rcases(backT_mem.mp h2).2 with q | q
  ·exact absurd (Yc _ q) hR.2
  ·obtain⟨u,hu,e2⟩:=YC.mp q;have h3:=hB.all u hu
   rw[Yy6,Yy6,Yy0 (by lia),Yy0 (by lia)]at e2
   have:=ZC1 (ZL1 (ZV6 ps.length (I++O))) (i:=u.toNat) (j:=t.toNat) (Yy0 (by omega)) (by rw[Yy0 (by omega)];exact YV some e2.symm)
   have e3:u=t:=by lia
   exact e3 ▸ hu
 exact Zo7 (isSet_iff.mp hS).2 (isSet_iff.mp hS').2 λt=>⟨key hS hS' e t,key hS' hS e.symm t⟩
theorem Zz85(f:Nat->Nat)(ps:List (Int × Int))(R:List Int):(conW f ps R).length=R.length:=Yb ..
theorem ZG13(g0:Zv n ps)(hI:IsSet ps.length I)(hIO:∀ z∈I,z∉O)(hf:∀ i j,i<n.toNat->j<n.toNat->(f i=f j↔Conn (Zz6 ps I) i j))(hk:∀ i,i<n.toNat->f i<k)(hg:∀ a,a<k->g a<n.toNat/\f (g a)=a)(hn:(k:Int)+(I.length:Int)=n){c:Nat}(h:TC k (conW f ps (freT ps.length (I++O))) c):PC n ps I O c:=by
 obtain⟨L,h1,h2,h3⟩:=h;have hs:∀ l∈L,IsSet (freT ps.length (I++O)).length l:=λl hl=>Zz85 f ps _ ▸ ((h2 l).mp hl).1
 have len:∀ {S:List Int},IsSet (freT ps.length (I++O)).length S->(Zm5 ps.length I (freT ps.length (I++O)) S).length=I.length+S.length:=λ{S} hS=>by rw[(ZC2 hI hS).length_eq,Yy4];unfold upR;rw[Yb]
 have iff:∀ {S:List Int},IsSet (freT ps.length (I++O)).length S->(Zi n ps (Zm5 ps.length I (freT ps.length (I++O)) S)↔Zi k (conW f ps (freT ps.length (I++O))) S):=λ{S} hS=>by
  have l:=len hS;have q:=Zf7 (O:=O) g0 hI hf hk hg hS
  constructor
  ·rintro⟨a1,a2,a3⟩;exact⟨by rw[Zz85];exact hS,by lia,λa b ha hb=>q.mp a3 a b (by lia) (by lia)⟩
  ·rintro⟨a1,a2,a3⟩;exact⟨isSet_iff.mpr ⟨λz hz=>(backT_mem.mp hz).1,Zn3 _ _ _ _⟩,by lia,q.mpr λa b ha hb=>a3 a b (by lia) (by lia)⟩
 refine⟨L.map (Zm5 ps.length I (freT ps.length (I++O))),Y0B.mpr (h1.imp_of_mem λ{a b} ha hb hab e=>hab (Zm8 (hs a ha) (hs b hb) e)),λT=>?_,by rw[Yb,h3]⟩;rw[YC];constructor
 ·rintro⟨S,hS,rfl⟩;refine⟨(iff (hs S hS)).mpr ((h2 S).mp hS),λz hz=>backT_mem.mpr ⟨hI.all z hz,.inl hz⟩,λz hz q=>?_⟩;rcases(backT_mem.mp q).2 with q | q
  ·exact hIO z q hz
  ·exact(freT_mem.mp (Zr3 (hs S hS) q)).2 (Yd _ hz)
 ·rintro⟨hT,q1,q2⟩;obtain⟨S,hS,rfl⟩:=Zp13 hI hT.1 q1 q2;exact⟨S,(h2 S).mpr ((iff hS).mp hT),rfl⟩
theorem Zg7(g0:Zv n ps)(gone:List Int)(hk:∀ i,i<n.toNat->f i<k)(k1:1<=k)(kn:k<=n.toNat):Zv k (conW f ps (freT ps.length gone)):=by
 obtain⟨g1,g2,g3,g4⟩:=g0;refine⟨by lia,by lia,?_,λp hp=>?_⟩
 ·rw[Zz85]
  have:(freT ps.length gone).length<=(rgL ps.length).length:=YF ..
  have:=(ZL2 ps.length).len
  lia
 ·obtain⟨z,hz,rfl⟩:=YC.mp hp;have hz1:=(freT_mem.mp hz).1
  obtain⟨q,hq⟩:∃ q,ps[z.toNat]?=some q:=⟨_,Yy0 (by lia)⟩;obtain⟨e1,e2,e3,e4⟩:=g4 q (Yy9 hq);have ee:Zu ps z=(q.1.toNat,q.2.toNat):=by unfold Zu;rw[ZO hq]
  rw[ee];have a:=hk q.1.toNat (by grind)
  have b:=hk q.2.toNat (by grind);exact⟨by show(0:Int)<=(f q.1.toNat:Int);lia,by show(f q.1.toNat:Int)<(k:Int);grind,by show(0:Int)<=(f q.2.toNat:Int);lia,by show(f q.2.toNat:Int)<(k:Int);grind⟩
theorem Zs11(g0:Zv n ps)(hI:IsSet ps.length I)(hf:∀ i j,i<n.toNat->j<n.toNat->(f i=f j↔Conn (Zz6 ps I) i j))(hk:∀ i,i<n.toNat->f i<k)(hg:∀ a,a<k->g a<n.toNat/\f (g a)=a)(k1:1<=k)(kn:k<=n.toNat)(hn:n<(k:Int)+(I.length:Int)):PC n ps I O 0:=by
 refine⟨[],.nil,λT=>⟨λh=>(by cases h),λ⟨hT,q1,q2⟩=>?_⟩,rfl⟩;obtain⟨S,hS,rfl⟩:=Zp13 hI hT.1 q1 q2;have q:=(Zf7 (O:=O) g0 hI hf hk hg hS).mp hT.2.2
 have gg:=Zg7 (f:=f) g0 (I++O) hk k1 kn;have l:=Zr10 gg (by rw[Zz85];exact hS) λa b ha hb=>q a b (by grind) (by grind)
 have l2:=hT.2.1;rw[(ZC2 hI hS).length_eq,Yy4]at l2;unfold upR at l2;rw[Yb]at l2;omega
end
def nix:List Int->Int->Nat
 | [],_=>0
 | x :: l,z=>if x=z then 0 else nix l z+1
theorem Zr2:∀ {l:List Int} {z:Int},z∈l->l[nix l z]?=some z
 | x :: l,z,h=>by
  unfold nix;by_cases c:x=z
  ·rw[if_pos c,c];rfl
  ·rw[if_neg c];exact Zr2 ((Yf.mp h).resolve_left λe=>c e.symm)
theorem ZU12{l:List Int}{z:Int}(h:z∈l):nix l z<l.length:=(Yy1.mp (Zr2 h)).1
theorem ZC11{l:List Int}{z y:Int}(hz:z∈l)(hy:y∈l):nix l z=nix l y↔z=y:=by
 refine⟨λe=>?_,λe=>by rw[e]⟩;have h1:=Zr2 hz
 rw[e,Zr2 hy]at h1;exact(Yh h1).symm
theorem ZV12{l:List Int}(hn:l.Nodup){i:Nat}{z:Int}(h:l[i]?=some z):nix l z=i:=ZC1 hn (Zr2 (Yy9 h)) h
theorem ZF11{M:List Int}{i:Nat}(h:i<M.length):mk M i∈M:=by unfold mk;rw[Yy6,Yy0 h];exact Y0M h
section
variable{N:Nat}{es:List (Nat × Nat)}{F:List Int}
theorem ZO9(h:InN N es)(hF:F.Pairwise (· < ·))(hm:∀ z,z∈F↔z∈pms N es) :
  ∃ g:Nat->Nat,(∀ i j,i<N->j<N->(nix F (mk (pms N es) i)=nix F (mk (pms N es) j)↔Conn es i j))/\(∀ i,i<N->nix F (mk (pms N es) i)<F.length)/\∀ a,a<F.length->g a<N/\nix F (mk (pms N es) (g a))=a:=by
 have hl:=Zw N es;have inF:∀ i,i<N->mk (pms N es) i∈F:=λi hi=>(hm _).mpr (ZF11 (by lia))
 have ex:∀ a,∃ i,a<F.length->i<N/\nix F (mk (pms N es) i)=a:=λa=>by
  by_cases c:a<F.length
  ·have q:=(hm _).mp (Y0M c);obtain⟨i,hi⟩:=YX q;have hi2:=(Yy1.mp hi).1
   refine⟨i,λ_=>⟨by lia,?_⟩⟩;have e:mk (pms N es) i=F[a]:=by unfold mk;exact ZO hi
   rw[e];exact ZV12 (ZL1 hF) (Yy0 c)
  ·exact⟨0,λh=>absurd h c⟩
 refine⟨λa=>Classical.choose (ex a),λi j hi hj=>?_,λi hi=>ZU12 (inF i hi),λa ha=>Classical.choose_spec (ex a) ha⟩;rw[ZC11 (inF i hi) (inF j hj)];exact Zb1 h hi hj
theorem Zc10{M:List Int}:∀(i:Nat),∃ p,p<=i/\fstB M p=true/\mk M p=mk M i:=by
 intro i
 induction i using Nat.strongRecOn with
 | _ i ih =>
  by_cases c:fstB M i=true
  ·exact⟨i,Yy8 _,c,rfl⟩
  ·obtain⟨j,hj,e⟩:∃ j,j<i/\mk M j=mk M i:=Yy λno=>c (fstB_iff.mpr λj hj e=>no ⟨j,hj,e⟩);obtain⟨p,h1,h2,h3⟩:=ih j hj;exact⟨p,by lia,h2,h3.trans e⟩
theorem Zc8{M:List Int}(hF:F.Pairwise (· < ·))(hm:∀ z,z∈F↔z∈M):F.length=cnt M:=by
 have e:F.Perm ((fstA M M.length).map (mk M)):=by
  refine(Y0H (ZL1 hF) ?_).mpr λz=>?_
  ·refine Y0B.mpr ?_;unfold fstA;refine(Y0V.filter (fstB M)).imp_of_mem λ{a b} ha hb hab=>?_;exact fstB_iff.mp (Yk.mp hb).2 a hab
  ·rw[hm,YC];constructor
   ·intro hz;obtain⟨i,hi⟩:=YX hz;have hi2:=(Yy1.mp hi).1
    obtain⟨p,h1,h2,h3⟩:=Zc10 (M:=M) i;refine⟨p,Yk.mpr ⟨YH.mpr (by lia),h2⟩,h3.trans ?_⟩;unfold mk;exact ZO hi
   ·rintro⟨p,hp,rfl⟩;exact ZF11 (YH.mp (Yk.mp hp).1)
 rw[e.length_eq,Yb];rfl
theorem Zf4(h:InN N es)(hN:1<=N)(hF:F.Pairwise (· < ·))(hm:∀ z,z∈F↔z∈pms N es):1<=F.length/\F.length<=N/\N<=F.length+es.length:=by
 have e:=Zc8 hF hm;have hl:=Zw N es
 have e2:=Zt10 (ZZ2 (n:=N) (es:=es) h);have e3:=Za5 es h
 have e4:=Zz95 (M:=pms N es) (by lia);have e5:cnt (pms N es)<=N:=by unfold cnt fstA;refine Yt (YF ..) ?_;rw[Y0k];lia
 grind
end
theorem ZI7{n:Int}{ps:List (Int × Int)}{z:Int}{I O:List Int}(h1:z∈I)(h2:z∈O):PC n ps I O 0 :=
 ⟨[],.nil,λT=>⟨λh=>(by cases h),λ⟨_,q,r⟩=>absurd (q z h1) (r z h2)⟩,rfl⟩
def FD(A B:List Int)(t:Int):Prop:=t∈A/\t∉B/\∀ s,s<t->(s∈A↔s∈B)
theorem ZH4:∀ {A B:List Int},A.Pairwise (· < ·)->B.Pairwise (· < ·)->A.length=B.length->(HT.lexLt A B=true↔∃ t,FD A B t)
 | [],[],_,_,_=>⟨λh=>(by cases h),λ⟨t,h,_⟩=>(by cases h)⟩
 | x :: A,y :: B,hA,hB,hl=>by
  obtain⟨a1,a2⟩:=YK.mp hA;obtain⟨b1,b2⟩:=YK.mp hB;have hl':A.length=B.length:=Yy13 hl
  show(if x=y then HT.lexLt A B else decide (x<y))=true↔_;by_cases c:x=y
  ·subst c;rw[if_pos rfl,ZH4 a2 b2 hl'];constructor
   ·rintro⟨t,h1,h2,h3⟩;have tx:=a1 t h1
    refine⟨t,Yg _ h1,λq=>?_,λs hs=>?_⟩
    ·rcases Yf.mp q with e | e
     ·lia
     ·exact h2 e
    ·rw[Yf,Yf,h3 s hs]
   ·rintro⟨t,h1,h2,h3⟩;have tx:t≠x:=λe=>h2 (e ▸ Ye)
    have h1':=(Yf.mp h1).resolve_left tx;refine⟨t,h1',λq=>h2 (Yg _ q),λs hs=>?_⟩
    have:=h3 s hs
    rw[Yf,Yf]at this;by_cases e:s=x
    ·rw[e];exact⟨λq=>absurd (a1 x q) (Int.lt_irrefl x),λq=>absurd (b1 x q) (Int.lt_irrefl x)⟩
    ·exact⟨λq=>(this.mp (.inr q)).resolve_left e,λq=>(this.mpr (.inr q)).resolve_left e⟩
  ·rw[if_neg c,Yy00];constructor
   ·intro h;refine⟨x,Ye,λq=>?_,λs hs=>⟨λq=>?_,λq=>?_⟩⟩
    ·rcases Yf.mp q with e | e
     ·exact c e
     ·have:=b1 x e;lia
    ·rcases Yf.mp q with e | e
     ·lia
     ·have:=a1 s e;lia
    ·rcases Yf.mp q with e | e
     ·lia
     ·have:=b1 s e;lia
   ·rintro⟨t,h1,h2,h3⟩;have tx:x<=t:=by
     rcases Yf.mp h1 with e | e
     ·lia
     ·have:=a1 t e;lia
    refine Yy λhc=>?_;have hyx:y<x:=by lia
    have:=(h3 y (by grind)).mpr Ye
    rcases Yf.mp this with e | e
    ·lia
    ·have:=a1 y e;grind
theorem Zz06{α:Type}[DecidableEq α]:∀ {l m:List α},l.Nodup->(∀ x∈l,x∈m)->l.length<=m.length
 | [],_,_,_=>Yl _
 | x :: l,m,hn,hs=>by
  have hx:=hs x Ye;obtain⟨h1,h2⟩:=Y0n.mp hn
  have:=Zz06 (m:=m.erase x) h2 λy hy=>(Y2g λe=>h1 (by rw[<- e];exact hy)).mpr (hs y (Yg _ hy))
  rw[Y1V hx]at this
  have:=Y1q hx
  rw[YD];grind
theorem Zq12{s rest:TS}{D:Ends}{σ:L2.St}{H:Hp}(P:L2.St->Hp->Prop)(h1:∀ σ' H',P σ' H'->rest D σ' H')(h2:∀ K:L2.St->Hp->Prop,(∀ σ' H',P σ' H'->K σ' H')->s { D with nx:=K } σ H):tSeq s rest D σ H:=h2 _ h1
theorem Zb5{m:Nat}(hm:m<=30):∀ k,(cmb (m:Int) k).length<=30 ^ k
 | 0=>Yy8 1
 | k+1=>by
  have h1:=ZW6 (m:=m) (cmb (m:Int) k) λs hs=>(cmb_mem.mp hs).2;have h2:=Zb5 hm k
  have h3:m * (cmb (m:Int) k).length<=30 * 30 ^ k:=Yy18 hm h2;rw[Nat.pow_succ,Y2I];exact Yt h1 h3
theorem ZY5{n:Int}{ps:List (Int × Int)}{c:Nat}(g:Zv n ps)(h:TC n ps c):c<10 ^ 20:=by
 obtain⟨L,hn,hm,rfl⟩:=h;obtain⟨g1,g2,g3,_⟩:=g;refine Y1P (m:=30 ^ 13) (Yt (Zz06 (m:=cmb (ps.length:Int) (n - 1).toNat) hn λx hx=>cmb_mem.mpr ⟨?_,((hm x).mp hx).1⟩) (Yt (Zb5 (by lia) _) (Y2e (by decide) (by omega)))) (by decide)
 have:=((hm x).mp hx).2.1
 lia
theorem Zd11{n:Int}{ps:List (Int × Int)}(g:Zv n ps):∃ L:List (List Int),(∀ l,l∈L↔Zi n ps l)/\L.Pairwise lexS:=⟨frs n.toNat ps (n - 1).toNat,λ_=>Za10 g,(Zz69 _ _).filter _⟩
def edN(ps:List (Int × Int)):List (Nat × Nat):=ps.map λp=>(p.1.toNat,p.2.toNat)
theorem ZY6(ps:List (Int × Int)){e:Nat × Nat}:e∈Zz6 ps (rgL ps.length)↔e∈edN ps:=by
 unfold Zz6 edN;rw[YC,YC];constructor
 ·rintro⟨z,hz,rfl⟩;obtain⟨z0,z1⟩:=rgL_mem.mp hz;have hp:ps[z.toNat]?=some (ps[z.toNat]'(by lia)):=Yy0 (by omega)
  refine⟨_,Yy9 hp,?_⟩;rw[ZO hp]
 ·rintro⟨p,hp,rfl⟩;obtain⟨i,hi⟩:=YX hp
  have:=(Yy1.mp hi).1
  refine⟨(i:Int),rgL_mem.mpr (by lia),?_⟩;rw[YA,ZO hi]
theorem joined_ed{n:Int}{ps:List (Int × Int)}:ZI2 n ps↔∀ i j,i<n.toNat->j<n.toNat->Conn (edN ps) i j :=
 ⟨λh i j hi hj=>(h i j hi hj).mono λe he=>(ZY6 ps).mp he,λh i j hi hj=>(h i j hi hj).mono λe he=>(ZY6 ps).mpr he⟩
end My
namespace L2
open PySem PySem.Spec PyProof.Rows
structure CompScopeD (sc0:Scope) (N N':List Str) (o:Nat) (fr:List Nat) (scope:Scope) (xo:Str):Prop where
 kind:scope.kind=.function
 one:(scope.names.filter λy=>y.2 == .cell)=[(xo,.cell)]
 loc:(scope.names.all λy=>y.2 != .local || scope.names.lookup y.1 == some .local)=true
 free:(scope.names.all λy=>y.2 != .free || (y.1 != xo && (sc0.names.lookup y.1 == some .cell || sc0.names.lookup y.1 == some .free)))=true
 len:N'.length=o+fr.length
 sees:((List.range fr.length).all λj=>match fr[j]? with
  | none=>false
  | some y=>match N[y]? with
   | none=>false
   | some x=>N'[o+j]? == some x && scope.names.lookup x == some .free)=true
end L2
namespace My
open PySem L2
def ev(b:Int):List Int->Int
 | []=>0
 | d :: l=>d+b * ev b l
abbrev lnz(ls:List Int)(z:Int):Int:=ls.getD z.toNat 0
def lwS(ls:List Int)(x:Int):List Int:=(rgL ls.length).filter λz=>decide (lnz ls z<x)
def mA(N:Nat)(ps:List (Int × Int))(ls:List Int)(x:Int):List Int:=pms N (Zz6 ps (lwS ls x))
def lvl(ls:List Int)(x:Int)(i:Nat):List Int:=(rgL i).filter λz=>decide (lnz ls z=x)
def sumL(ls T:List Int):Int:=(T.map (lnz ls)).sum
section
variable{n:Int}{ps:List (Int × Int)}{T:List Int}(g:Zv n ps)
include g
theorem Zd9{W:List Int}(hT:Zi n ps T)(hW:Zi n ps W)(h:∀ z∈T,z∈W):T.Perm W:=by
 have:=ZM2 (l:=W) hT.1.nodup (by have:=hT.2.1;have:=hW.2.1;lia) h
 exact this.symm
end
end My
namespace HT
open PySem PyProof.Rows
section
def ltP(x y:Int × List Int):Bool:=decide (x.1<y.1) || (decide (x.1=y.1) && lexLt x.2 y.2)
end
end HT
namespace My
open PySem L2
def bkD(d:Int):Int:=if d % 2=0 then d+1 else d - 1
def dtU(ps:List (Int × Int))(p:Int):Nat->List Int
 | 0=>[]
 | i+1=>dtU ps p i++(if (ps.getD i (0,0)).1=p then [2 * (i:Int)] else [])++(if (ps.getD i (0,0)).2=p then [2 * (i:Int)+1] else [])
def dts(ps:List (Int × Int))(p:Int):List Int:=dtU ps p ps.length
def VT(n:Nat)(ps:List (Int × Int))(ts:List (List Int)):Prop:=ts.length=n/\∀(p:Nat) (row:List Int),ts[p]?=some row->row.Perm (dts ps (p:Int))
def bhR(row:List Int)(k:Nat):List (Int × Int):=(List.range k).map λi=>(bkD (row.getD i 0),row.getD ((i+1) % row.length) 0)
def bhL(ts:List (List Int)):List (Int × Int):=ts.flatMap λrow=>bhR row row.length
def Orb(B:List (Int × Int))(d:Int)(row:List Int):Prop:=row[0]?=some d/\row.Nodup/\(∀ i x y,row[i]?=some x->row[i+1]?=some y->(x,y)∈B)/\∀ x,row[row.length - 1]?=some x->(x,d)∈B
def Rds(B:List (Int × Int)):Nat->List (List Int)->Prop
 | 0,R=>R=[]
 | k+1,R=>∃ R',Rds B k R'/\(((k:Int)∈R'.flatten/\R=R')\/((k:Int)∉R'.flatten/\∃ row,Orb B k row/\R=R'++[row]))
structure JagAt (H0:Hp) (r:Addr) (H:Hp) (ys:List V) (L:List (List Int)):Prop where
 tab:H r=some (.lst ys)
 rows:Bears (LiV r H) ys L
 nd:ys.Nodup
 new:∀ A,V.ref A∈ys->H0 A=none
def RdW(ps:List (Int × Int))(ts:List (List Int))(R:List (List Int)):Prop:=(ps.length=0/\R=[[]])\/(0<ps.length/\Rds (bhL ts) (2 * ps.length) R)
def plR(row:List Int)(k:Int):List (Int × Int):=row.map λd=>(d,k)
def plL(ts:List (List Int)):Nat->List (Int × Int)
 | 0=>[]
 | i+1=>plL ts i++plR (ts.getD i []) i
def Flat(n:Int)(ps:List (Int × Int))(R:List (List Int)):Prop:=ZI2 n ps/\n - (ps.length:Int)+(R.length:Int)=2
def rnR(R:List (List Int))(d:Int):Int:=((plL R R.length).find? λp=>decide (p.1=d)).elim 0 (·.2)
def owT(R:List (List Int))(m:Nat):List (Int × Int):=(List.range m).map λ(k:Nat)=>(rnR R (2 * (k:Int)),rnR R (2 * (k:Int)+1))
section
variable{one d0 d1:Int}{other:Option Int}
def hdD(one:Int)(other:Option Int)(d0 d1 y:Int):Int:=if y=one then d0 else if some y=other then d1 else y
end
structure Back (n:Nat) (ps:List (Int × Int)) (ts R D:List (List Int)):Prop where
 flat:Flat n ps R
 few:R.length<=14
 rows:∀ l∈R,l.length<64
 good:Zv R.length (owT R ps.length)
 vt:VT R.length (owT R ps.length) R
 rds:RdW (owT R ps.length) R D
 flat2:Flat R.length (owT R ps.length) D
 len:D.length=n
 good2:Zv n (owT D ps.length)
 tc:∀ c,TC n ps c->TC n (owT D ps.length) c
 nd:D.flatten.Nodup
 all:∀ x:Int,0<=x->x<2 * (ps.length:Int)->x∈D.flatten
 small:D.flatten.length<=100
def Told(l:List Int):Prop:=∀ z∈l,-(10 ^ 60)<z/\z<(10:Int) ^ 60
abbrev Tr:=Int × List (Int × Int) × List Int
def OkT(T:Tr):Prop:=Zv T.1 T.2.1/\T.2.2.length=T.2.1.length/\Told T.2.2
def Zd13(C:Addr)(H:Hp)(v:V)(T:Tr):Prop:=∃ t w a,v=.ref t/\H t=some (.tup [.ref w,.ref a])/\WebAt C H w T.1 T.2.1/\H a=some (.lst (IL T.2.2))
def ZR13(H:Hp)(v:V)(T:Tr):Prop:=∃ p l b xs,v=.ref p/\H p=some (.tup [.int T.1,.ref l,.ref b])/\H l=some (.lst xs)/\PairsV H xs T.2.1/\H b=some (.lst (IL T.2.2))
def Zf13 (C:Addr) (H:Hp) (x d:Addr) (zs:List V):Prop:=∃ dx,H x=some (.ins C dx (putF "stages" (.ref d) []))/\H d=some (.lst zs)
structure DSt (CD C:Addr) (H:Hp) (x d pA:Addr) (zs ys:List V) (L M:List Tr):Prop where
 desk:Zf13 CD H x d zs
 st:Bears (Zd13 C H) zs L
 pst:H pA=some (.lst ys)
 past:Bears (ZR13 H) ys M
 okL:∀ T∈L,OkT T
 okM:∀ T∈M,OkT T
 posL:0<L.length
 posM:0<M.length
end My
namespace L2
open PySem PySem.Spec PyProof.Rows
section
variable{H:Hp}{e C:Addr}{fl:Value}{h0:Heap}
structure FlyM (h0:Heap) (H:Hp) (e C:Addr) (fl:Value) (h:Heap):Prop where
 ex:∃ oe vs T oT ts a0,h.get? e=some oe/\oe.cls=.ref C/\oe.data=.fields vs/\vs[0]?=some a0/\vs[1]?=some (.ref T)/\T≠e/\h.get? T=some oT/\oT.data=.fields ts/\ts[3]?=some fl/\h0.get? T=none/\H T=none
 new:h0.get? e=none
 free:H e=none
end
end L2
namespace My
open PySem PySem.W PyProof.Rows
def goT{α:Type}(c:Nat->Nat->Bool):KasT α->α
 | .ret a=>a
 | .ask i j k=>goT c (k (c i j))
theorem Zz22{α β:Type}{c:Nat->Nat->Bool}{f:α->KasT β}:∀ t:KasT α,goT c (t.bind f)=goT c (f (goT c t))
 | .ret _=>rfl
 | .ask i j k=>Zz22 (k (c i j))
section
variable{n:Nat}{key:Nat->Int}
def Ahd(key:Nat->Int)(i j:Nat):Prop:=key i<key j\/(key i=key j/\i<j)
theorem Ahd.trans{i j k:Nat}(h1:Ahd key i j)(h2:Ahd key j k):Ahd key i k:=by unfold Ahd at *;grind
structure Ord (n m:Nat) (p:Array Nat):Prop where
 perm:p.Perm (List.range n).toArray
 suf:∀ i,m<=i->i<n->p.getD i 0=i
theorem Ord.size{m:Nat}{p:Array Nat}(h:Ord n m p):p.size=n:=by rw[h.perm.size_eq];simp
theorem Zm12{p:Array Nat}{i:Nat}(h:i<p.size):p[i]?=some (p.getD i 0):=by rw[Yv,YE h];rfl
theorem Ord.inj{m:Nat}{p:Array Nat}(h:Ord n m p){i j:Nat}(hi:i<n)(hj:j<n)(e:p.getD i 0=p.getD j 0):i=j:=by
 have hn:p.toList.Nodup:=(Yy10.mp h.perm).nodup_iff.mpr List.nodup_range;have hs:=h.size
 have e1:=Zm12 (p:=p) (i:=i) (by lia);have e2:=Zm12 (p:=p) (i:=j) (by lia)
 rw[<- QP]at e1 e2;exact(Y2A (i:=i) (j:=j) (by rw[YB];omega) hn).mp (by rw[e1,e2,e])
theorem Ord.lt{m:Nat}{p:Array Nat}(h:Ord n m p)(hm:m<=n){i:Nat}(hi:i<m):p.getD i 0<m:=by
 by_cases hc:p.getD i 0<m
 ·exact hc
 ·have hs:=h.size;have hb:p.getD i 0<n:=by have e1:=Zm12 (p:=p) (i:=i) (by grind);rw[<- QP]at e1;exact YH.mp ((Yy10.mp h.perm).mem_iff.mp (Yy9 e1))
  have e:=h.inj (by lia) hb (h.suf _ (by omega) hb).symm;grind
theorem Ord.mono{m k:Nat}{p:Array Nat}(h:Ord n m p)(hk:m<=k):Ord n k p:=⟨h.perm,λi hi=>h.suf i (by lia)⟩
theorem ZD2{p:Array Nat}{i j k:Nat}(hj:j<=p.size):(kas_rev p i j).getD k 0=if i<=k/\k<j then p.getD (i+j - 1 - k) 0 else p.getD k 0:=by unfold kas_rev;rw[Yv,getElem?_mirror_all hj,apply_ite (λo:Option Nat=>o.getD 0),<- Yv,<- Yv]
theorem Ord.rev{m i j:Nat}{p:Array Nat}(h:Ord n m p)(hj:j<=m)(hm:m<=n):Ord n m (kas_rev p i j):=by have hs:=h.size;refine⟨(mirror_perm _ _ _ _).trans h.perm,λk hk hn=>?_⟩;rw[ZD2 (by lia),if_neg (by lia)];exact h.suf k hk hn
def Asc(key:Nat->Int)(m:Nat)(p:Array Nat):Prop:=∀ i j,i<j->j<m->Ahd key (p.getD i 0) (p.getD j 0)
theorem Asc.more{m:Nat}{p:Array Nat}(hm:1<=m)(h:Asc key m p)(h2:Ahd key (p.getD (m - 1) 0) (p.getD m 0)):Asc key (m+1) p:=λi j hij hj=>by
 by_cases e:j=m
 ·subst e;by_cases e2:i=j - 1
  ·rw[e2];exact h2
  ·exact(h i (j - 1) (by lia) (by omega)).trans h2
 ·exact h i j hij (by lia)
theorem ZB10:∀(f m:Nat) (p:Array Nat),m+f=n->1<=m->Ord n m p->Asc key m p->∃ k,goT (λi j=>decide (key i<key j)) (kas_asc p f m)=k/\m<=k/\k<=n/\Asc key k p/\(k<n->key (p.getD k 0)<key (p.getD (k - 1) 0))
 | 0,m,p,hf,h1,ho,ha=>⟨m,rfl,Yy8 _,by lia,ha,λh=>by lia⟩
 | f+1,m,p,hf,h1,ho,ha=>by
  show ∃ k,goT _ (if decide (key (p.getD m 0)<key (p.getD (m - 1) 0))=true then KasT.ret m else kas_asc p f (m+1))=k/\_;by_cases hc:key (p.getD m 0)<key (p.getD (m - 1) 0)
  ·rw[if_pos (Yx hc)];exact⟨m,rfl,Yy8 _,by lia,ha,λ_=>hc⟩
  ·rw[if_neg (λz=>hc (Yw z))];have e:=ho.suf m (Yy8 _) (by lia)
   have l:=ho.lt (by lia) (i:=m - 1) (by lia);obtain⟨k,e1,e2,e3,e4,e5⟩:=ZB10 f (m+1) p (by lia) (by lia) (ho.mono (by lia)) (ha.more h1 (by unfold Ahd;rw[e]at hc ⊢;lia));exact⟨k,e1,by lia,e3,e4,e5⟩
structure Dsc (key:Nat->Int) (m g:Nat) (p:Array Nat):Prop where
 le:g+1<=m
 old:∀ i j,i<j->j<m - (g+1)->Ahd key (p.getD j 0) (p.getD i 0)
 mid:∀ i j,i<m - (g+1)->m - (g+1)<=j->j<m->key (p.getD j 0)<key (p.getD i 0)
 own:∀ i j,m - (g+1)<=i->i<j->j<m->key (p.getD i 0)=key (p.getD j 0)/\p.getD i 0<p.getD j 0
def Fall(key:Nat->Int)(m:Nat)(p:Array Nat):Prop:=∀ i j,i<j->j<m->Ahd key (p.getD j 0) (p.getD i 0)
theorem Dsc.turn{m g:Nat}{p:Array Nat}(h:Dsc key m g p)(hs:m<=p.size):Fall key m (kas_rev p (m - (g+1)) m):=λi j hij hj=>by
 have hl:=h.le;rw[ZD2 hs,ZD2 hs];by_cases c1:m - (g+1)<=j
 ·rw[if_pos ⟨c1,hj⟩];by_cases c2:m - (g+1)<=i
  ·rw[if_pos ⟨c2,by lia⟩];exact .inr (h.own (m - (g+1)+m - 1 - j) (m - (g+1)+m - 1 - i) (by omega) (by omega) (by lia))
  ·rw[if_neg (by lia)];exact .inl (h.mid i _ (by lia) (by lia) (by lia))
 ·rw[if_neg (by lia),if_neg (by lia)];exact h.old i j hij (by lia)
theorem Dsc.last{m g:Nat}{p:Array Nat}(h:Dsc key m g p)(hs:m<=p.size):key ((kas_rev p (m - (g+1)) m).getD (m - 1) 0)=key (p.getD (m - 1) 0):=by
 have hl:=h.le;rw[ZD2 hs,if_pos (by grind)];by_cases e:g=0
 ·congr 2;grind
 ·exact(h.own (m - (g+1)+m - 1 - (m - 1)) (m - 1) (by omega) (by omega) (by lia)).1
theorem Dsc.fall{m:Nat}{p:Array Nat}(h:Dsc key m 0 p):Fall key m p:=λi j hij hj=>by
 have hl:=h.le;by_cases e:j<m - (0+1)
 ·exact h.old i j hij e
 ·exact .inl (h.mid i j (by grind) (by lia) hj)
theorem Fall.new{m:Nat}{p:Array Nat}(hm:1<=m)(h:Fall key m p)(hk:key (p.getD m 0)<key (p.getD (m - 1) 0)):Dsc key (m+1) 0 p:=by
 refine⟨by lia,λi j hij hj=>h i j hij (by lia),λi j hi h1 h2=>?_,λi j h1 h2 h3=>by grind⟩;have e:j=m:=by lia
 subst e;by_cases c:i=j - 1
 ·rw[c];exact hk
 ·have:=h i (j - 1) (by lia) (by omega)
  unfold Ahd at this;omega
theorem Fall.rev{m:Nat}{p:Array Nat}(h:Fall key m p)(hs:m<=p.size):Asc key m (kas_rev p 0 m):=λi j hij hj=>by rw[ZD2 hs,ZD2 hs,if_pos ⟨Yl _,by lia⟩,if_pos ⟨Yl _,hj⟩];exact h _ _ (by omega) (by omega)
theorem Asc.rev{m:Nat}{p:Array Nat}(h:Asc key m p)(hs:m<=p.size):Fall key m (kas_rev p 0 m):=λi j hij hj=>by rw[ZD2 hs,ZD2 hs,if_pos ⟨Yl _,hj⟩,if_pos ⟨Yl _,by omega⟩];exact h _ _ (by omega) (by omega)
theorem Zz35:∀(f m g:Nat) (p:Array Nat),m+f=n->Ord n m p->Dsc key m g p->∃ p' m' g',goT (λi j=>decide (key i<key j)) (kas_desc f p m g)=(p',m',g')/\m<=m'/\m'<=n/\Ord n m' p'/\Dsc key m' g' p'
 | 0,m,g,p,hf,ho,hd=>⟨p,m,g,rfl,Yy8 _,by omega,ho,hd⟩
 | f+1,m,g,p,hf,ho,hd=>by
  have hl:=hd.le;have hs:=ho.size
  have em:=ho.suf m (Yy8 _) (by lia);have ll:=ho.lt (by lia) (i:=m - 1) (by lia)
  show ∃ p' m' g',goT _ (if decide (key (p.getD m 0)<key (p.getD (m - 1) 0))=true then (if g > 0 then kas_desc f (kas_rev p (m - (g+1)) m) (m+1) 0 else kas_desc f p (m+1) 0) else KasT.ask (p.getD (m - 1) 0) (p.getD m 0) λd=>if d=true then .ret (p,m,g) else kas_desc f p (m+1) (g+1))=_/\_;by_cases hc:key (p.getD m 0)<key (p.getD (m - 1) 0)
  ·rw[if_pos (Yx hc)];by_cases hg:g > 0
   ·rw[if_pos hg];have hr:=ho.rev (i:=m - (g+1)) (Yy8 m) (by lia)
    have em2:=hr.suf m (Yy8 _) (by lia);obtain⟨p',m',g',e1,e2,e3,e4,e5⟩:=Zz35 f (m+1) 0 (kas_rev p (m - (g+1)) m) (by lia) (hr.mono (by lia)) ((hd.turn (by lia)).new (by lia) (by rw[hd.last (by omega),em2];rw[em]at hc;exact hc));exact⟨p',m',g',e1,by lia,e3,e4,e5⟩
   ·rw[if_neg hg];obtain rfl:g=0:=by lia
    obtain⟨p',m',g',e1,e2,e3,e4,e5⟩:=Zz35 f (m+1) 0 p (by omega) (ho.mono (by omega)) (hd.fall.new (by lia) hc);exact⟨p',m',g',e1,by lia,e3,e4,e5⟩
  ·rw[if_neg (λz=>hc (Yw z))];show ∃ p' m' g',goT _ (if decide (key (p.getD (m - 1) 0)<key (p.getD m 0))=true then KasT.ret (p,m,g) else kas_desc f p (m+1) (g+1))=_/\_
   by_cases hc2:key (p.getD (m - 1) 0)<key (p.getD m 0)
   ·rw[if_pos (Yx hc2)];exact⟨p,m,g,rfl,Yy8 _,by omega,ho,hd⟩
   ·rw[if_neg (λz=>hc2 (Yw z))];have ek:key (p.getD (m - 1) 0)=key (p.getD m 0):=by lia
    obtain⟨p',m',g',e1,e2,e3,e4,e5⟩:=Zz35 f (m+1) (g+1) p (by omega) (ho.mono (by omega)) ⟨by lia,λi j h1 h2=>hd.old i j h1 (by lia),λi j h1 h2 h3=>by
     by_cases c:j=m
     ·rw[c,<- ek];exact hd.mid i (m - 1) (by lia) (by grind) (by lia)
     ·exact hd.mid i j (by lia) (by lia) (by lia),λi j h1 h2 h3=>by
     by_cases c:j=m
     ·rw[c];by_cases c2:i=m - 1
      ·rw[c2,em];rw[em]at ek;exact⟨ek,ll⟩
      ·have:=hd.own i (m - 1) (by lia) (by lia) (by omega)
       rw[em];rw[em]at ek;exact⟨this.1.trans ek,by lia⟩
     ·exact hd.own i j (by lia) h2 (by omega)⟩
    exact⟨p',m',g',e1,by lia,e3,e4,e5⟩
theorem Zs8{m:Nat}{p:Array Nat}(hm:1<=m)(hn:m<=n)(ho:Ord n m p)(hf:Fall key m p):∃ k p',goT (λi j=>decide (key i<key j)) (kas_tail3 m n p)=(k,p')/\1<=k/\k<=n/\Ord n k p'/\Asc key k p':=by
 have hs:=ho.size;unfold kas_tail3;rw[Zz22];have hr:=ho.rev (i:=0) (Yy8 m) hn
 obtain⟨k,e1,e2,e3,e4,_⟩:=ZB10 (n - m) m (kas_rev p 0 m) (by grind) hm hr (hf.rev (by lia));rw[e1];exact⟨k,_,rfl,by lia,e3,hr.mono e2,e4⟩
theorem ZD8{m:Nat}{p:Array Nat}(hm:1<=m)(hn:m<n)(ho:Ord n m p)(hf:Fall key m p)(hk:key (p.getD m 0)<key (p.getD (m - 1) 0)):∃ k p',goT (λi j=>decide (key i<key j)) (kas_descPart m n p)=(k,p')/\1<=k/\k<=n/\Ord n k p'/\Asc key k p':=by
 unfold kas_descPart;rw[Zz22];obtain⟨p',m',g',e1,e2,e3,e4,e5⟩:=Zz35 (n - (m+1)) (m+1) 0 p (by grind) (ho.mono (by lia)) (hf.new hm hk);rw[e1];have hs:=e4.size
 show ∃ k q,goT _ (if g' > 0 then kas_tail3 m' n (kas_rev p' (m' - (g'+1)) m') else kas_tail3 m' n p')=_/\_;by_cases hg:g' > 0
 ·rw[if_pos hg];exact Zs8 (by lia) e3 (e4.rev (Yy8 _) e3) (e5.turn (by lia))
 ·rw[if_neg hg];obtain rfl:g'=0:=by lia
  exact Zs8 (by lia) e3 e4 e5.fall
theorem Zp10{p:Array Nat}(hn:1<=n)(ho:Ord n 1 p):∃ k p',goT (λi j=>decide (key i<key j)) (kas_count n p)=(k,p')/\1<=k/\k<=n/\Ord n k p'/\Asc key k p':=by
 unfold kas_count;rw[Zz22];obtain⟨k,e1,e2,e3,e4,e5⟩:=ZB10 (key:=key) (n - 1) 1 p (by lia) (Yy8 _) ho λi j h1 h2=>by lia
 rw[e1];have hs:=ho.size
 have hk:=ho.mono e2;by_cases c:k=n
 ·rw[if_pos (by rw[c];exact Y2G n)];exact⟨k,p,rfl,e2,e3,hk,e4⟩
 ·rw[if_neg (λz=>c (Y0U.mp z))];have hlt:k<n:=by lia
  have h5:=e5 hlt;by_cases c1:k > 1
  ·rw[if_pos c1];show ∃ k' p',goT _ (if decide (key (p.getD 0 0)<key (p.getD (k - 1) 0))=true then KasT.ret (k,p) else kas_descPart k n (kas_rev p 0 k))=_/\_
   by_cases c2:key (p.getD 0 0)<key (p.getD (k - 1) 0)
   ·rw[if_pos (Yx c2)];exact⟨k,p,rfl,e2,e3,hk,e4⟩
   ·rw[if_neg (λz=>c2 (Yw z))];have a0:=e4 0 (k - 1) (by lia) (by lia)
    have eq:key (p.getD 0 0)=key (p.getD (k - 1) 0):=by unfold Ahd at a0;grind
    have hr:=hk.rev (i:=0) (Yy8 k) (by lia);refine ZD8 e2 hlt hr (e4.rev (by lia)) ?_;rw[ZD2 (by omega),ZD2 (by omega),if_neg (by lia),if_pos (by lia),show 0+k - 1 - (k - 1)=0 by lia,eq];exact h5
  ·rw[if_neg c1];obtain rfl:k=1:=by lia
   exact ZD8 (Yy8 _) hlt hk (λi j h1 h2=>by lia) h5
theorem Zz64{p:Array Nat}{k:Nat}(hk:Asc key k p):∀(f l r:Nat),r - l<=f->l<=r->r<=k->(∀ i,i<l->¬ key (p.getD k 0)<key (p.getD i 0))->(∀ i,r<=i->i<k->key (p.getD k 0)<key (p.getD i 0))->∃ l',goT (λi j=>decide (key i<key j)) (kas_place p k f l r)=l'/\l'<=k/\(∀ i,i<l'->¬ key (p.getD k 0)<key (p.getD i 0))/\(∀ i,l'<=i->i<k->key (p.getD k 0)<key (p.getD i 0))
 | 0,l,r,hf,h1,h2,ha,hb=>⟨l,rfl,by lia,ha,λi hi=>hb i (by grind)⟩
 | f+1,l,r,hf,h1,h2,ha,hb=>by
  have mono:∀ i j,i<=j->j<k->key (p.getD i 0)<=key (p.getD j 0):=λi j hij hj=>by
   by_cases e:i=j
   ·rw[e];exact Y1j _
   ·have:=hk i j (by lia) hj
    unfold Ahd at this;lia
  unfold kas_place;by_cases c:l >= r
  ·rw[if_pos c];exact⟨l,rfl,by lia,ha,λi hi=>hb i (by lia)⟩
  ·rw[if_neg c];show ∃ l',goT _ (if decide (key (p.getD k 0)<key (p.getD ((l+r) / 2) 0))=true then kas_place p k f l ((l+r) / 2) else kas_place p k f ((l+r) / 2+1) r)=l'/\_
   by_cases c2:key (p.getD k 0)<key (p.getD ((l+r) / 2) 0)
   ·rw[if_pos (Yx c2)];exact Zz64 hk f l ((l+r) / 2) (by grind) (by lia) (by lia) ha λi hi hik=>by
     have:=mono ((l+r) / 2) i hi hik
     omega
   ·rw[if_neg (λz=>c2 (Yw z))];exact Zz64 hk f ((l+r) / 2+1) r (by grind) (by lia) (by lia) (λi hi=>by
     have:=mono i ((l+r) / 2) (by lia) (by lia)
     omega) hb
theorem Zw10{p:Array Nat}{k d x:Nat}(hk:k<p.size)(hd:d<=k):(bubble p k d).getD x 0=if x=k - d then p.getD k 0 else if k - d<x/\x<=k then p.getD (x - 1) 0 else p.getD x 0:=by rw[Yv,getElem?_bubble hk d hd,apply_ite (λo:Option Nat=>o.getD 0),apply_ite (λo:Option Nat=>o.getD 0),<- Yv,<- Yv,<- Yv]
theorem Zd12:∀(f k:Nat) (p:Array Nat),k+f=n->Ord n k p->Asc key k p->∃ p',goT (λi j=>decide (key i<key j)) (kas_bin f p k)=p'/\Ord n n p'/\Asc key n p'
 | 0,k,p,hf,ho,ha=>by
  obtain rfl:k=n:=by lia
  exact⟨p,rfl,ho,ha⟩
 | f+1,k,p,hf,ho,ha=>by
  have hs:=ho.size;have ek:=ho.suf k (Yy8 _) (by lia)
  unfold kas_bin;rw[Zz22];obtain⟨l,e1,e2,e3,e4⟩:=Zz64 ha k 0 k (by lia) (by lia) (Yy8 _) (λi hi=>by lia) λi hi hi2=>by grind
  rw[e1];refine Zd12 f (k+1) (bubble p k (k - l)) (by lia) ⟨(bubble_perm _ _ _).trans ho.perm,λi hi hn=>?_⟩ λi j hij hj=>?_
  ·rw[Zw10 (by lia) (by grind),if_neg (by lia),if_neg (by lia)];exact ho.suf i (by lia) hn
  ·have low:∀ x,x<k->p.getD x 0<k:=λx hx=>ho.lt (by lia) hx;rw[Zw10 (by lia) (by grind),Zw10 (by omega) (by omega)];have ekl:k - (k - l)=l:=by grind
   rw[ekl];by_cases c1:i=l
   ·rw[if_pos c1,if_neg (by lia),if_pos (by lia)];exact .inl (e4 (j - 1) (by grind) (by grind))
   ·rw[if_neg c1];by_cases c2:j=l
    ·rw[if_pos c2,if_neg (by lia)];have a:=e3 i (by grind)
     have b:=low i (by lia);rw[ek]at a ⊢;unfold Ahd;lia
    ·rw[if_neg c2];by_cases c3:l<i
     ·rw[if_pos ⟨c3,by lia⟩,if_pos ⟨by lia,by lia⟩];exact ha _ _ (by grind) (by grind)
     ·rw[if_neg (by lia)];by_cases c4:l<j
      ·rw[if_pos ⟨c4,by omega⟩];exact ha _ _ (by lia) (by grind)
      ·rw[if_neg (by lia)];exact ha _ _ hij (by lia)
theorem sort_go(hn:1<=n):∃ p,goT (λi j=>decide (key i<key j)) (kas_sort n)=p/\p.toList.Perm (List.range n)/\p.toList.Pairwise (Ahd key):=by
 have fin:∀ p,Ord n n p->Asc key n p->p.toList.Perm (List.range n)/\p.toList.Pairwise (Ahd key):=λp ho ha=>by
  have hs:=ho.size;refine⟨Yy10.mp ho.perm,Y0K.mpr λi j hi hj hij=>?_⟩;rw[YB]at hi hj
  have:=ha i j hij (by lia)
  rw[Yv,Yv,YE hi,YE hj]at this;exact this
 unfold kas_sort;rw[Zz22];obtain⟨k,p,e1,e2,e3,e4,e5⟩:=Zp10 (key:=key) hn (p:=(List.range n).toArray) ⟨Array.Perm.refl _,λi _ hi=>by simp[Array.getD,hi]⟩;rw[e1];show ∃ q,goT _ (if k<n then kas_bin (n - max k 1) p (max k 1) else .ret p)=q/\_
 by_cases c:k<n
 ·rw[if_pos c,Nat.max_eq_left e2];obtain⟨q,h1,h2,h3⟩:=Zd12 (n - k) k p (by grind) e4 e5;exact⟨q,h1,fin q h2 h3⟩
 ·rw[if_neg c];obtain rfl:k=n:=by lia
  exact⟨p,rfl,fin p e4 e5⟩
end
end My
namespace L2
open PySem PySem.Spec PyProof.Rows
def Zz812(P:Program)(w:World)(K:PySem.W.Frag)(mg:Str->Option Value)(base:Heap)(N:List Str)(qual:Str)(scope:Scope)(f:Addr)(cd:Value)(cl:List (Str × Addr))(A:Around)(outer:List Env)(s:Shared)(H:Hp):Cx where
 prog:=P
 w:=w
 K:=K
 mg:=mg
 base:=base
 A:=A.deeper (PySem.W.envX qual scope s.heap.objs.size f cd cl)
 N:=N
 s₀:=s
 H₀:=H
 env:=PySem.W.envX qual scope s.heap.objs.size f cd cl
 outer:=outer
 stack:=PySem.W.envX qual scope s.heap.objs.size f cd cl :: outer
 ex:=[]
 calm:=true
 fn:=λ_=>false
 pn:=[]
 xe:=λ_ _=>False
structure LamScope (v x:Str) (sc:Scope):Prop where
 kind:sc.kind=.function
 co:sc.isCoroutine=false
 gen:sc.isGenerator=false
 nocell:∀ y∈sc.names,y.2≠.cell
 par:sc.names.lookup v=some .local
 free:sc.names.lookup x=some .free
 only:∀ y,sc.names.lookup y=some .free->y=x
 ne:v≠x
section
variable{P:Program}{w:World}{K:PySem.W.Frag}{mg:Str->Option Value}{base:Heap}{qual name v x:Str}{scope:Scope}{f c c':Addr}{cd pm ctv u ux:Value}{A:Around}{outer:List Env}{s:Shared}{H:Hp}{vv vx:V}{params:Arguments}{body:Expr}{k:Nat}{t:TE}{Q:VK}
theorem Za3{y:Str}{c2:Addr}(h:List.lookup y [(x,c)]=some c2):y=x/\c2=c:=by
 unfold List.lookup at h;split at h
 ·rename_i e;exact⟨Y0U.mp e,(Yh h).symm⟩
 ·cases h
theorem ZQ11(S:LamScope v x scope)(hd:A.handled=none)(e0:Env0 P w K mg base A outer s H)(hc:s.heap.IsCell c (some ux))(rx:RelV vx ux)(hfc:H c=none)(rv:RelV vv u){h1:Heap}{tk:Nat}
  (hns:h1.Ns s.heap.objs.size λy=>[(v,u)].reverse.lookup y) (hk:∀ b o,s.heap.get? b=some o->h1.get? b=some o) :
  Inv (Zz812 P w K mg base [v,x] qual scope f cd [(x,c)] A outer s H) [] [some vv,some vx] H { s with heap:=h1,toks:=tk }:=by
 have noA:∀ b:Addr,b∉(Zz812 P w K mg base [v,x] qual scope f cd [(x,c)] A outer s H).ex:=λb z=>absurd (show b∈([]:List Addr) from z) (by simp);have hck:h1.IsCell c (some ux):=by obtain⟨o,e,d⟩:=hc;exact⟨o,hk _ _ e,d⟩
 have lk:List.lookup x [(x,c)]=some c:=by unfold List.lookup;rw[Y2G]
 refine⟨⟨e0.mod,S.kind,rfl,rfl,Yy8 _,λy z c2 h1 h2=>?_,λy hy=>?_,λy c2 z _=>(nomatch z),λ_=>hd,Around.frames_deeper e0.frames,.inr ⟨rfl,rfl⟩,λb z=>absurd z (noA b),e0.bs,e0.bsz,λb _ _=>noA b,λb z=>absurd z (noA b),e0.funs,e0.frf⟩,
  rfl,e0.bare,Un.kept hk,⟨_,hns,λi y v' h1 h2 h3=>?_⟩,λy c2 h=>?_,e0.hok.fresh (Yy8 _),λy c2 h=>?_,λp hp=>absurd (show p∈([]:List (Addr × Obj)) from hp) (by simp),e0.hok.kept hk,rfl⟩
 ·rw[(Za3 h1).1,(Za3 h2).1]
 ·have hy:scope.names.lookup y=some .cell\/scope.names.lookup y=some .free:=hy;rcases hy with hy | hy
  ·exact absurd rfl (S.nocell _ (Y0C hy))
  ·rw[S.only y hy];exact⟨c,lk⟩
 ·match i,h1,h2 with
  | 0,h1,h2 =>
   obtain rfl:v=y:=Yh h1;obtain rfl:vv=v':=Yh (Yh h2);refine⟨u,rv,.inl ⟨S.par,?_⟩⟩;show List.lookup v [(v,u)]=some u
   unfold List.lookup;rw[Y2G]
  | 1,h1,h2 =>
   obtain rfl:x=y:=Yh h1;obtain rfl:vx=v':=Yh (Yh h2);exact⟨ux,rx,.inr ⟨.inr S.free,c,lk,hck⟩⟩
  | i+2,h1,h2=>cases h1
 ·rw[(Za3 h).2];exact⟨_,hck⟩
 ·rw[(Za3 h).2];exact hfc
theorem ZJ11(S:LamScope v x scope)(hr:Room (k+1) A)(e0:Env0 P w K mg base A outer s H)(ho:s.heap.get? f=some (PySem.W.kla_obj name qual params body scope [(x,c)] pm c' ctv))(hcd:s.heap.CodeRec (.ref c') qual)
  (hbind:bindArgs (PySem.W.kla_fn name qual params body scope [(x,c)] pm (.ref c') ctv) ⟨[u],[]⟩=pure [(v,u)]) (hc:s.heap.IsCell c (some ux)) (rx:RelV vx ux) (hfc:H c=none) (rv:RelV vv u)
  (hb:PE (Zz812 P w K mg base [v,x] qual scope f (.ref c') [(x,c)] A outer s H) body t) (hq:t [some vv,some vx] H Q) :
  codeAny (model P w) A (.call (.ref f) ⟨[u],[]⟩) (λr s'=>∃ u',r=.ok (.ret u')/\CE outer P w H s Q u' s') s:=by
 have lim:s.heap.NoLimit:=e0.mod.nolimit.keeps λb o e=>(e0.bs b o e).1;refine PySem.W.kla_callFunE hr.depth ho rfl S.co S.gen rfl hcd ?_;rw[hbind];refine Yi (wpAny_newFunctionEnv S.nocell (λy hy=>?_) (λh1 hns hsb=>⟨lim.fresh _ hsb,?_⟩) S.kind)
 ·rw[Yy2.mp hy];exact S.par
 have hk:∀ b o,s.heap.get? b=some o->h1.get? b=some o:=λb o e=>hsb.extBut b o (Yr (Yn e)) (Yy5 _ e);have I:Inv (Zz812 P w K mg base [v,x] qual scope f (.ref c') [(x,c)] A outer s H) [] [some vv,some vx] H { s with heap:=h1,toks:=s.toks+[(v,u)].length }:=ZQ11 S hr.hd e0 hc rx hfc rv hns hk
 refine PySem.W.kla_codeExpr (Y0J (hb [] _ _ H _ I hq) (λu' s' h=>?_) λe s' h=>False.elim h);obtain⟨y,H',J,r,q⟩:=h;exact⟨u',rfl,y,H',J.os,J.bare,J.base,J.hok,r,q⟩
end
end L2
namespace My
open PySem PySem.W PyProof.Rows
def Asks{α:Type}(n:Nat)(R:α->Prop):KasT α->Prop
 | .ret a=>R a
 | .ask i j k=>i<n/\j<n/\∀ b,Asks n R (k b)
theorem Asks.bind{α β:Type}{n:Nat}{R:α->Prop}{S:β->Prop}{f:α->KasT β}:∀ {t:KasT α},Asks n R t->(∀ a,R a->Asks n S (f a))->Asks n S (t.bind f)
 | .ret a,h,hf=>hf a h
 | .ask _ _ _,h,hf=>⟨h.1,h.2.1,λb=>Asks.bind (h.2.2 b) hf⟩
theorem goT_wp'{α:Type}{n:Nat}{R:α->Prop}{c:Nat->Nat->Bool}{cmp:Nat->Nat->(Bool->Shared->Prop)->Shared->Prop}{J:Shared->Prop}(h:∀ i j C s,i<n->j<n->J s->(∀ s',J s'->C (c i j) s')->cmp i j C s){Q:α->Shared->Prop}:∀(t:KasT α) (s:Shared),Asks n R t->J s->(∀ s',J s'->Q (goT c t) s')->t.kasWp cmp Q s
 | .ret _,s,_,hs,q=>q s hs
 | .ask i j k,s,ha,hs,q=>h i j _ s ha.1 ha.2.1 hs λs' hs'=>goT_wp' h (k (c i j)) s' (ha.2.2 _) hs' q
section
variable{n:Nat}
def Bd(n:Nat)(p:Array Nat):Prop:=p.Perm (List.range n).toArray
theorem Bd.lt{p:Array Nat}(h:Bd n p)(hn:1<=n)(i:Nat):p.getD i 0<n:=by
 by_cases hi:i<p.size
 ·have e1:=Zm12 (p:=p) hi;rw[<- QP]at e1;exact YH.mp ((Yy10.mp h).mem_iff.mp (Yy9 e1))
 ·rw[Yv,Y1r (by lia)];exact hn
theorem Bd.rev{p:Array Nat}(h:Bd n p)(i j:Nat):Bd n (kas_rev p i j):=(mirror_perm _ _ _ _).trans h
theorem Zq4(hn:1<=n){p:Array Nat}(hp:Bd n p):∀ f m:Nat,Asks n (λ_=>True) (kas_asc p f m)
 | 0,m=>trivial
 | f+1,m=>⟨hp.lt hn _,hp.lt hn _,λb=>by
  cases b with
  | true=>exact trivial
  | false=>exact Zq4 hn hp f (m+1)⟩
theorem Zc2(hn:1<=n):∀(f:Nat) (p:Array Nat) (m q:Nat),Bd n p->Asks n (λr=>Bd n r.1) (kas_desc f p m q)
 | 0,p,m,q,hp=>hp
 | f+1,p,m,q,hp=>⟨hp.lt hn _,hp.lt hn _,λb=>by
  cases b with
  | true =>
   show Asks n _ (if q > 0 then kas_desc f (kas_rev p (m - (q+1)) m) (m+1) 0 else kas_desc f p (m+1) 0);split
   ·exact Zc2 hn f _ _ _ (hp.rev _ _)
   ·exact Zc2 hn f _ _ _ hp
  | false =>
   refine⟨hp.lt hn _,hp.lt hn _,λd=>?_⟩;cases d with
   | true=>exact hp
   | false=>exact Zc2 hn f _ _ _ hp⟩
theorem Zw4(hn:1<=n){p:Array Nat}(hp:Bd n p)(m r:Nat):Asks n (λz=>Bd n z.2) (kas_tail3 m r p) :=
 (Zq4 hn (hp.rev _ _) _ _).bind λ_ _=>hp.rev _ _
theorem ZC4(hn:1<=n){p:Array Nat}(hp:Bd n p)(m r:Nat):Asks n (λz=>Bd n z.2) (kas_descPart m r p) :=
 (Zc2 hn _ p _ _ hp).bind λz hz=>by
  split
  ·exact Zw4 hn (hz.rev _ _) _ _
  ·exact Zw4 hn hz _ _
theorem Zd7(hn:1<=n){p:Array Nat}(hp:Bd n p)(r:Nat):Asks n (λz=>Bd n z.2) (kas_count r p) :=
 (Zq4 hn hp _ _).bind λz _=>by
  split
  ·exact hp
  ·split
   ·refine⟨hp.lt hn _,hp.lt hn _,λb=>?_⟩;cases b with
    | true=>exact hp
    | false=>exact ZC4 hn (hp.rev _ _) _ _
   ·exact ZC4 hn hp _ _
theorem Zq2(hn:1<=n){p:Array Nat}(hp:Bd n p)(k:Nat):∀ f l r:Nat,Asks n (λ_=>True) (kas_place p k f l r)
 | 0,l,r=>trivial
 | f+1,l,r=>by
  unfold kas_place;split
  ·exact trivial
  ·refine⟨hp.lt hn _,hp.lt hn _,λb=>?_⟩;cases b with
   | true=>exact Zq2 hn hp k f _ _
   | false=>exact Zq2 hn hp k f _ _
theorem Zl7(hn:1<=n):∀(f:Nat) (p:Array Nat) (k:Nat),Bd n p->Asks n (λz=>Bd n z) (kas_bin f p k)
 | 0,p,k,hp=>hp
 | f+1,p,k,hp=>(Zq2 hn hp k _ _ _).bind λl _=>Zl7 hn f _ _ ((bubble_perm _ _ _).trans hp)
theorem sort_asks(hn:1<=n):Asks n (λz=>Bd n z) (kas_sort n) :=
 (Zd7 hn (p:=(List.range n).toArray) (Array.Perm.refl _) n).bind λz hz=>by
  split
  ·exact Zl7 hn _ _ _ hz
  ·exact hz
end
end My
namespace L2
open PySem PySem.Spec PyProof.Rows PySem.W
def Zo5(key:Int->Int)(ns ms:List Int):Prop:=∃ p:List Nat,p.Perm (List.range ns.length)/\p.Pairwise (My.Ahd λi=>key (ns.getD i 0))/\ms=p.map λi=>ns.getD i 0
section
variable{X:Cx}{pins:List (Addr × Obj)}{σ:St}{H:Hp}{s:Shared}{b:Addr}{o:Obj}
theorem Inv.pin1(I:Inv X pins σ H s)(F:FpOk X pins H b)(e:s.heap.get? b=some o)(hd:∀ v,o.data≠.cell v):Inv X (pins++[(b,o)]) σ H s:=I.pins_of λp hp=>by
 rcases Yy7.mp hp with hp | hp
 ·exact I.pin p (Yd _ hp)
 ·rw[Yy2.mp hp];exact⟨e,F.1,F.2.1,F.2.2.1,hd⟩
theorem FpOk.more{pl:List (Addr × Obj)}(F:FpOk X pins H b)(hn:∀ p∈pl,p.1≠b):FpOk X (pins++pl) H b:=⟨F.1,F.2.1,F.2.2.1,F.2.2.2.1,F.2.2.2.2.1,λp hp=>by
 rcases Yy7.mp hp with hp | hp
 ·exact F.2.2.2.2.2 p (Yc _ hp)
 ·rcases Yy7.mp hp with hp | hp
  ·exact F.2.2.2.2.2 p (Yd _ hp)
  ·exact hn p hp⟩
theorem Inv.changed{h':Heap}{t':Nat}(I:Inv X pins σ H s)(F:FpOk X pins H b)(k:∀ c o,c≠b->s.heap.get? c=some o->h'.get? c=some o):Inv X pins σ H { s with heap:=h',toks:=t' } :=
 I.turned k F.1 F.2.1 F.2.2.2.1 F.2.2.2.2.1 F.2.2.2.2.2
theorem Inv.adopt{u:HO}(I:Inv X pins σ H s)(hex:X.ex=[])(F:FpOk X pins H b)(new:ObjOk X.prog X.w (upd H b u) s.heap b u):Inv X pins σ (upd H b u) s:=by
 have f4:X.s₀.heap.objs.size<=b:=F.2.2.2.1.resolve_left (by rw[hex];simp);have hn:=F.1
 refine⟨I.ok,I.os,I.bare,⟨I.base.keep,I.base.slot,λc o e n hc=>?_,I.base.there,λc xs q=>?_,λc o w q=>?_,λc ps q=>?_⟩,I.loc,I.cell,?_,λx c e=>?_,λp hp=>?_,λc w e=>?_,I.len⟩
 ·rw[Zb (Yr (Yo (Yn e) f4))];exact I.base.free c o e n hc
 ·have:=I.base.tups c xs q
  rw[Zb (Zc this hn)];exact this
 ·have:=I.base.frzs c o w q
  rw[Zb (Zc this hn)];exact this
 ·obtain⟨m,this⟩:=I.base.tbls c ps q;exact⟨m,by rw[Zb (Zc this hn)];exact this⟩
 ·rw[Zb (YY F.2.1)];exact I.free
 ·rw[Zb (F.2.2.2.2.1 x c e)];exact I.freeC x c e
 ·have:=I.pin p hp
  exact⟨this.1,by rw[Zb (F.2.2.2.2.2 p hp)];exact this.2.1,this.2.2⟩
 ·by_cases hb:c=b
  ·subst hb;rw[Zz1]at e;cases e;exact new
  ·rw[Zb hb]at e;exact(I.hok c w e).stay (λ_ _ _ q=>q) (λd q=>by rw[Zb (Zc q hn)];exact q) λd xs q=>by rw[Zb (Zc q hn)];exact q
end
section
variable{X:Cx}{pins:List (Addr × Obj)}{σ:St}{H:Hp}{s:Shared}{a kS:Addr}{A:Around}{E:Value->Shared->Prop}{P:PySem.Fin->Shared->Prop}{kA:Array Value}{e e1:Nat}{ns:List Int}{vs:List Value}
theorem ZI6 {st:SortSt} {out:List Value} (I:Inv X (pins++[(a,seqObj "list" #[] e1),(kS,seqObj "list" kA e)]) σ H s) (Fa:FpOk X pins H a) (Fk:FpOk X pins H kS) (hak:a≠kS) (hz:kA.size<64) (hfl:failedOf st=none)
  (hout:(arrOf st).map (·.2)=out.toArray) (hlen:out.length<64) (h:∀ s' m,Inv X pins σ H s'->s'.heap.get? a=some (seqObj "list" out.toArray m)->P (.done (.ret .none)) s') :
  wpAny (model X.prog X.w) A (ksk_tail a false e1 (.ref kS) st) P E s:=by
 have hsl:sizeLine=16777216:=Y0r;have pa:=(I.pin (a,seqObj "list" #[] e1) (by simp)).1
 have pk:=(I.pin (kS,seqObj "list" kA e) (by simp)).1;have I0:Inv X pins σ H s:=I.unpinned
 have pa1:(s.heap.update kS (Obj.mapSeq λ_=>(#[]:Array Value))).get? a=some (seqObj "list" #[] e1):=(YM _ _ (YY hak)).trans pa;obtain⟨m,hm⟩:∃ m,((s.heap.update kS (Obj.mapSeq λ_=>(#[]:Array Value))).update a (Obj.mapSeq λ_=>out.toArray)).get? a=some (seqObj "list" out.toArray m):=⟨_,Yy37 pa1 λ_=>out.toArray⟩;unfold ksk_tail;dsimp only;rw[hout];refine Yy3 (Y1R pk rfl ?_ (by lia) (Yl _));refine Yy3 (Y2p ?_);refine Yy3 (seqEpoch_at pa1 rfl ?_);refine Yy3 (Y1R pa1 rfl ?_ (Yl _) (by simp;lia));rw[hfl];simp only [bne_self_eq_false,Y2s,if_false];refine Yi (h _ m ?_ hm);have I1:Inv X pins σ H { s with heap:=s.heap.update kS (Obj.mapSeq λ_=>(#[]:Array Value)),toks:=s.toks }:=I0.changed Fk λc o hc q=>(YM _ _ (YY hc)).trans q
 exact I1.changed (t':=s.toks) Fa λc o hc q=>(YM _ _ (YY hc)).trans q
theorem ZJ6:∀ {vs:List Value} {ns:List Int},IntsAre vs ns->∀ i,i<ns.length->∃ t,vs[i]?=some (.int (ns.getD i 0) t)
 | _,_,.nil,i,h=>absurd h (YW _)
 | _,_,.cons n t r,0,h=>⟨t,rfl⟩
 | _,_,.cons n t r,i+1,h=>ZJ6 r i (by rw[YD]at h;lia)
end
def CdO(c:Addr)(qual:Str):HO:=.ext λh=>h.CodeRec (.ref c) qual
def TabH(H:Hp)(Pt:Addr)(pos:Pos)(qual:Str):Prop:=∃ ps:Array Value,H Pt=some (.tbl ps)/\TriplesOk ps.toList/\(codeAmong pos ps.toList=none\/∃ c,codeAmong pos ps.toList=some (.ref c)/\H c=some (CdO c qual))
def SameX(Pt:Addr)(H H':Hp):Prop:=∀ b o,b≠Pt->H b=some o->H' b=some o
theorem ZA2{c:Addr}{qual:Str}(h1 h2:Heap)(r:h1.CodeRec (.ref c) qual)(k:∀ o,h1.get? c=some o->h2.get? c=some o):h2.CodeRec (.ref c) qual:=by obtain⟨c2,o,vs,t,e,g,r⟩:=r;cases e;exact⟨c,o,vs,t,rfl,k _ g,r⟩
section
variable{X:Cx}{pins:List (Addr × Obj)}{σ:St}{H:Hp}{s:Shared}{c Pt cc:Addr}{x:Str}{params:Arguments}{body:Expr}{scope:Scope}{pos:Pos}{E:Value->Shared->Prop}{Q:Value->Shared->Prop}
theorem Inv.builtinsAt(I:Inv X pins σ H s)(hB:X.base.BuiltinsAt X.mg Pt):s.heap.BuiltinsAt X.mg Pt:=by obtain⟨bm,o,h1,h2,h3,h4,h5,h6⟩:=hB;exact⟨bm,o,h1,h2,h3,h4,I.bk _ _ h5,h6⟩
theorem ZX9 (I:Inv X pins σ H s) (hcode:X.env.code=.ref c) (hC:codeHdIn X.K c Pt=true) (hB:X.base.BuiltinsAt X.mg Pt) (hT:TabH H Pt pos (X.env.qual++Str.ofString "<lambda>")) (hcl:closureFor scope X.env=pure [(x,cc)]) (hdef:defaultsOf params X.env=([],[])) (hPg:mainGlobals≠Pt)
  (h:∀ f c' pm ctv s' H',SameX Pt H H'->TabH H' Pt pos (X.env.qual++Str.ofString "<lambda>")->FpOk X pins H' f->Inv X pins σ H' s'->s'.heap.get? f=some (kla_obj (Str.ofString "<lambda>") (X.env.qual++Str.ofString "<lambda>") params body scope [(x,cc)] pm c' ctv)->H' c'=some (CdO c' (X.env.qual++Str.ofString "<lambda>"))->Q (.ref f) s') :
  wpAny (model X.prog X.w) X.A (eval (.Lambda params body scope pos) X.env) Q E s:=by
 obtain⟨ps,hP,htr,hcase⟩:=hT;have hPo:s.heap.get? Pt=some (tabObj ps):=I.hok Pt _ hP
 have hns:s.heap.Ns mainGlobals X.mg:=I.mod.glob.keeps I.bk;have hHd:=codeHd_of_K I.kIn hC
 refine kla_eval hdef ?_;rcases hcase with hnf | ⟨c',hf,hc'⟩
 ·refine kla_makeFunction hcl I.ok.glob hns hcode hHd hPo htr hnf hPg (I.builtinsAt hB) λc' ctv h' tk hx hge hlt hrec htb=>?_;have hPl:Pt<s.heap.objs.size:=Yn hPo
  have hcn:H c'=none:=I.hok.fresh hge;have hcP:c'≠Pt:=Y0x (Yo hPl hge)
  have keep:∀ b o,b≠Pt->s.heap.get? b=some o->(h'.push (kla_obj (Str.ofString "<lambda>") (X.env.qual++Str.ofString "<lambda>") params body scope [(x,cc)] ((X.mg "__name__").getD .none) c' ctv)).get? b=some o:=λb o hb e=>Yy5 _ (hx b o hb e);have sx:SameX Pt H (upd (upd H Pt (.tbl (ps++#[rawInt pos.line,rawInt pos.col,.ref c']))) c' (CdO c' (X.env.qual++Str.ofString "<lambda>"))):=λb o hb e=>by rw[Zb (Zc e hcn),Zb hb];exact e
  have tb:TabH (upd (upd H Pt (.tbl (ps++#[rawInt pos.line,rawInt pos.col,.ref c']))) c' (CdO c' (X.env.qual++Str.ofString "<lambda>"))) Pt pos (X.env.qual++Str.ofString "<lambda>"):=by
   have et:(ps++#[rawInt pos.line,rawInt pos.col,Value.ref c']).toList=ps.toList++[rawInt pos.line,rawInt pos.col,.ref c']:=by simp
   refine⟨ps++#[rawInt pos.line,rawInt pos.col,.ref c'],by rw[Zb (YY hcP),Zz1],by rw[et];exact TriplesOk_snoc _ _ _ _ htr,.inr ⟨c',by rw[et];exact codeAmong_snoc _ htr hnf,Zz1⟩⟩
  have notP:∀ b,H b=none->b≠Pt:=λb n z=>by rw[z,hP]at n;cases n
  refine h h'.objs.size c' _ ctv _ _ sx tb ?_ (I.un ⟨λb o e n _ _=>keep b o (notP b n) e,λb o e n _ _=>⟨o.slots,keep b o (notP b n) e⟩,λb o e n _=>?_,λb o e _=>?_,λb xs e=>?_,λb o u e=>?_,λb qs e=>?_⟩ λb u e=>?_) (Ym _ rfl) Zz1
  ·have hfs:s.heap.objs.size<=h'.objs.size:=by lia
   refine I.fpOk hfs ?_;rw[Zb (Y0x hlt),Zb (Y0x (Yo hPl hfs))];exact I.hok.fresh hfs
  ·rw[Zb (Yr (Yo (Yn e) hge)),Zb (notP b n)];exact n
  ·by_cases hb:b=Pt
   ·rw[hb];exact⟨_,Yy5 _ htb⟩
   ·exact⟨o,keep b o hb e⟩
  ·exact sx b _ (λz=>by rw[z,hP]at e;cases e) e
  ·exact sx b _ (λz=>by rw[z,hP]at e;cases e) e
  ·by_cases hb:b=Pt
   ·subst hb;rw[hP]at e;obtain rfl:ps=qs:=by cases e;rfl
    exact⟨#[rawInt pos.line,rawInt pos.col,.ref c'],by rw[Zb (YY hcP),Zz1]⟩
   ·exact⟨#[],by rw[sx b _ hb e];simp⟩
  ·by_cases hb:b=c'
   ·subst hb;rw[Zz1]at e;cases e;refine⟨ZA2 _ _ hrec λo g=>Yy5 _ g,?_,ZA2⟩;obtain⟨c2,o,_,_,e2,g,_⟩:=hrec;cases e2;exact⟨o,Yy5 _ g⟩
   ·rw[Zb hb]at e;by_cases hb2:b=Pt
    ·subst hb2;rw[Zz1]at e;cases e;exact Yy5 _ htb
    ·rw[Zb hb2]at e;refine(I.hok b u e).stay (λd o hd g=>keep d o (λz=>?_) g) (λd g=>sx d _ (λz=>by rw[z,hP]at g;cases g) g) λd xs g=>sx d _ (λz=>by rw[z,hP]at g;cases g) g;rcases hd with hd | hd
     ·exact hb2 (hd.symm.trans z)
     ·rw[z,hP]at hd;cases hd
 ·refine kla_makeFunctionHit hcl I.ok.glob hns hcode hHd hPo htr hf (I.builtinsAt hB) λctv h' tk hk hsz=>?_;refine h h'.objs.size c' _ ctv _ H (λ_ _ _ e=>e) ⟨ps,hP,htr,.inr ⟨c',hf,hc'⟩⟩ (I.fpOk hsz (I.hok.fresh hsz)) (I.kept λb o e=>Yy5 _ (hk b o e)) (Ym _ rfl) hc'
end
section
variable{lpos:Pos}{Pt:Addr}
theorem SqT.samex{K:PySem.W.Frag}{H H2:Hp}{a:Addr}{xs:List V}{qual:Str}(h:SqT K H a xs)(t:TabH H Pt lpos qual)(sx:SameX Pt H H2):SqT K H2 a xs:=by
 obtain⟨ps,hP,_⟩:=t;rcases h with (h | ⟨o,h⟩) | h
 ·exact .inl (.inl (sx _ _ (λz=>by rw[z,hP]at h;cases h) h))
 ·exact .inl (.inr ⟨o,sx _ _ (λz=>by rw[z,hP]at h;cases h) h⟩)
 ·exact .inr h
end
def Ze13(Pt:Addr)(H:Hp):Prop:=H Pt=some (.tbl #[])/\∀ b,b=Pt\/H b=none\/∃ o xs,H b=some (.frz o (.lst xs))
theorem ZX7{P:Program}{w:World}{K:PySem.W.Frag}{mg mb:Str->Option Value}{CX:CXT}{k:Nat}{fa a Pt c:Addr}{fd:FuncData}{x:Str}{sp:Sp}{s₁:Shared}{vs:List Value}{ns:List Int}
  (KX:K.In s₁.heap) (hns:s₁.heap.Ns mainGlobals mg) (hb:s₁.heap.Ns builtinsNs mb) (hbb:∀ x:Str,x≠"__name__"->mb x=bootBuiltins x) (hlim:s₁.heap.NoLimit) (hg:s₁.gens=#[])
  (hT:s₁.heap.get? Pt=some (tabObj #[])) (hC:codeHdIn K c Pt=true) (hKP:K.lookup Pt=none) (hbm:∃ bm ob,mg (Str.ofString "__builtins__")=some (.ref bm)/\bm≠builtinsNs/\s₁.heap.get? bm=some ob/\ob.cls=.type "module"/\ob.dict=some builtinsNs/\ob.data=.plain)
  (ha:s₁.heap.get? a=some { cls:=.type "list",data:=.seq vs.toArray }) (hi:IntsAre vs ns) (hl:ns.length<=sizeLine) (hr:Room k callerA)
  (F:∀ base:Heap,K.In base->base.Ns mainGlobals mg->base.BuiltinsAt mg Pt->FnOk P w K mg base CX k fa fd [x] sp) (hbind:∀(s:Shared) (u:Value),BindsTo s fd ⟨[u],[]⟩ [(x,u)])
  (hsp:∀ H:Hp,Ze13 Pt H->SqL K H a (ns.map V.int)->sp [.ref a] H (λv _=>v=.bl true) λ_ _ _=>False)
  (hCX:∀ H e s',CX [] H s₁ (λ_ _ _=>False) e s'->False) :
  codeAny (model P w) callerA (.call (.ref fa) ⟨[.ref a],[]⟩) (λr s'=>r=.ok (.ret (.bool true))/\OldK s₁.heap s'.heap/\s'.os=s₁.os/\AllBare s'.gens) s₁:=by
 have rv:=Zs4 hi;have lenV:=hi.length
 have haP:a≠Pt:=λz=>by rw[z,hT]at ha;cases ha
 have core:∀ H:Hp,Ze13 Pt H->SqL K H a (ns.map V.int)->HOk P w H s₁.heap->(∀ b,H b≠none->b=a\/b=Pt)->(H a≠none->K.lookup a=none) ->
   codeAny (model P w) callerA (.call (.ref fa) ⟨[.ref a],[]⟩) (λr s'=>r=.ok (.ret (.bool true))/\OldK s₁.heap s'.heap/\s'.os=s₁.os/\AllBare s'.gens) s₁:=by
  intro H hO hS hok hA hK;have base_of:∀ {b:Addr} {o:Obj},s₁.heap.get? b=some o->H b=none->(hidT s₁.heap H).get? b=some o:=λe n=>Zz310 e n
  have free:∀ {b:Addr} {o:Obj},s₁.heap.get? b=some o->(∀ its n,o.data≠.seq its n)->(∀ vs,o.data≠.fields vs)->H b=none:=λ{b o} e d1 d2=>by
   cases q:H b with
   | none=>rfl
   | some u =>
    rcases hA b (by rw[q];simp) with e' | e'
    ·subst e';rw[ha]at e;cases e;exact absurd rfl (d1 _ _)
    ·subst e';rw[hT]at e;cases e;exact absurd rfl (d2 _)
  have nsK:∀ {b:Addr} {m:Str->Option Value},s₁.heap.Ns b m->(hidT s₁.heap H).Ns b m:=λ{b m} ⟨o,es,ep,e,d,r⟩=>⟨o,es,ep,base_of e (free e (λ_ _ z=>by rw[d]at z;cases z) λ_ z=>by rw[d]at z;cases z),d,r⟩;have hKb:K.In (hidT s₁.heap H):=λb o e=>base_of (KX b o e) (by
   cases q:H b with
   | none=>rfl
   | some u =>
    rcases hA b (by rw[q];simp) with e' | e'
    ·subst e';rw[hK (by rw[q];simp)]at e;cases e
    ·subst e';rw[hKP]at e;cases e)
  have hM:Mod K mg (hidT s₁.heap H):=⟨hKb,nsK hns,⟨mb,nsK hb,hbb⟩,let ⟨mc,h1,h2⟩:=hlim;⟨mc,nsK h1,h2⟩⟩;have hB:(hidT s₁.heap H).BuiltinsAt mg Pt:=by
   obtain⟨bm,ob,b1,b2,b3,b4,b5,b6⟩:=hbm;refine⟨bm,ob,b1,b2,λz=>?_,λz=>?_,base_of b3 (free b3 (λ_ _ z=>by rw[b6]at z;cases z) λ_ z=>by rw[b6]at z;cases z),b4,b5,b6⟩
   ·obtain⟨o,es,ep,e,d,_⟩:=hns;rw[z,e]at b3;cases b3;rw[d]at b6;cases b6
   ·rw[z,hT]at b3;cases b3;cases b4
  have e0:Env0 P w K mg (hidT s₁.heap H) callerA [] s₁ H:=⟨rfl,hM,λb o e=>ZB11 e,Nat.le_of_eq (Zz68 _ _),trivial,λb hb=>absurd (show b∈([]:List Addr) from hb) (by simp),hok,.of_eq hg⟩;refine Y1y ((F _ hKb (nsK hns) hB).run callerA [] s₁ H ⟨[.ref a],[]⟩ [.ref a] [.ref a] _ _ hr e0 (hbind s₁ (.ref a)) (.cons rfl .nil) (hsp H hO hS)) λr s' h=>?_;cases r with
  | error e=>exact(hCX H e s' h).elim
  | ok fl =>
   cases fl with
   | next=>exact False.elim h
   | brk=>exact False.elim h
   | cont=>exact False.elim h
   | ret u =>
    obtain⟨v,H',os,bare,un,hok',r',q⟩:=h;have q':v=.bl true:=q
    subst q';obtain rfl:u=Value.bool true:=r';obtain⟨more,eP⟩:=un.tbls Pt #[] hO.1;have hP':s'.heap.get? Pt=some { cls:=.none,data:=.fields (#[]++more) }:=hok' Pt _ eP
    have kept:∀ b o,b≠Pt->s₁.heap.get? b=some o->s'.heap.get? b=some o:=λb o hbP e=>by
     cases q:H b with
     | none=>exact un.keep b o e q (by intro z;exact absurd (show b∈([]:List Addr) from z) (by simp)) (by simp)
     | some u =>
      rcases hO.2 b with z | z | ⟨ob,xs,z⟩
      ·exact absurd z hbP
      ·rw[q]at z;cases z
      ·have z2:=un.frzs b ob _ z;obtain⟨e1,_⟩:=hok b _ z;obtain⟨e2,_⟩:=hok' b _ z2;rw[e]at e1;cases e1;exact e2
    refine⟨rfl,⟨λb o e=>?_,λb o e=>?_⟩,os,bare⟩
    ·by_cases hbP:b=Pt
     ·subst hbP;rw[hT]at e;obtain rfl:=Yh e;obtain⟨oc,vsc,_,_,_,_,_,_,_,c1,c2,c3,c4,_⟩:=codeHd_of_K KX hC;exact .inr (.inl ⟨⟨c,oc,vsc,c1,c2,c3,c4⟩,rfl,#[],more,rfl,hP'⟩)
     ·exact .inl (kept b o hbP e)
    ·by_cases hbP:b=Pt
     ·rw[hbP];exact⟨_,hP'⟩
     ·exact⟨o,kept b o hbP e⟩
 cases hk:K.lookup a with
 | some o =>
  have e:=KX a o hk;rw[ha]at e;cases e;refine core (λb=>if b=Pt then some (.tbl #[]) else none) ⟨if_pos rfl,λb=>?_⟩ (.inr ⟨_,vs.toArray,_,hk,rfl,rfl,rfl,by rw[Ya,lenV];exact hl,by simpa using rv⟩) (λb u z=>?_) (λb z=>?_) λz=>absurd (if_neg haP) z
  ·by_cases hbP:b=Pt
   ·exact .inl hbP
   ·exact .inr (.inl (if_neg hbP))
  ·by_cases hbP:b=Pt
   ·have z':=(if_pos hbP).symm.trans z;cases z';subst hbP;exact hT
   ·have z':=(if_neg hbP).symm.trans z;cases z'
  ·by_cases hbP:b=Pt
   ·exact .inr hbP
   ·exact absurd (if_neg hbP) z
 | none =>
  refine core (λb=>if b=Pt then some (.tbl #[]) else if b=a then some (.frz { cls:=.type "list",data:=.seq vs.toArray } (.lst (ns.map V.int))) else none) ⟨if_pos rfl,λb=>?_⟩ (.inl (.inr ⟨{ cls:=.type "list",data:=.seq vs.toArray },(if_neg haP).trans (if_pos rfl)⟩)) (λb u z=>?_) (λb z=>?_) λ_=>hk
  ·by_cases hbP:b=Pt
   ·exact .inl hbP
   ·by_cases hb:b=a
    ·exact .inr (.inr ⟨_,_,(if_neg hbP).trans (if_pos hb)⟩)
    ·exact .inr (.inl ((if_neg hbP).trans (if_neg hb)))
  ·by_cases hbP:b=Pt
   ·have z':=(if_pos hbP).symm.trans z;cases z';subst hbP;exact hT
   ·by_cases hb:b=a
    ·have z':=((if_neg hbP).trans (if_pos hb)).symm.trans z;cases z';subst hb;exact⟨ha,by rw[Yb];exact hl,vs,_,rv,ha⟩
    ·have z':=((if_neg hbP).trans (if_neg hb)).symm.trans z;cases z'
  ·by_cases hbP:b=Pt
   ·exact .inr hbP
   ·by_cases hb:b=a
    ·exact .inl hb
    ·exact absurd ((if_neg hbP).trans (if_neg hb)) z
theorem walk_ofT{l:PySem.W.OpenLaw}{n k:Nat}{q:Program}{loose:List Str}{XP:(Str->Option Value)->Heap->Prop}{YP:World->Heap->Prop}{d:DefRec}{K:Params->PySem.W.Frag}{CX:CXT}{sp:PySem.W.Frag->Sp}{x:Str}{c Pt:Addr}
  (hn:l.most=some n) (hn2:n<=sizeLine) (hdf:d.params.defaults=[]) (hr:Room k callerA)
  (hY:∀(w:World) (h:Heap),YP w h->(K w.params).In h/\h.get? Pt=some (tabObj #[])) (hC:∀ w:World,codeHdIn (K w.params) c Pt=true) (hKP:∀ w:World,(K w.params).lookup Pt=none)
  (F:∀(w:World) (mg:Str->Option Value) (fa:Addr) (h:Heap),(K w.params).In h->h.Ns mainGlobals mg->mg d.name=some (.ref fa) ->
   ∃ fd:FuncData,(∀(s:Shared) (u:Value),BindsTo s fd ⟨[u],[]⟩ [(x,u)]) /\
    ∀ base:Heap,(K w.params).In base->base.Ns mainGlobals mg->base.BuiltinsAt mg Pt->FnOk l.prog w (K w.params) mg base CX k fa fd [x] (sp (K w.params)))
  (hsp:∀(w:World) (H:Hp) (a:Addr) (ns:List Int),ns.length<=n->Ze13 Pt H->SqL (K w.params) H a (ns.map V.int)->sp (K w.params) [.ref a] H (λv _=>v=.bl true) λ_ _ _=>False)
  (hCX:∀(H:Hp) (s:Shared) (e:Value) (s':Shared),CX [] H s (λ_ _ _=>False) e s'->False) :
  PySem.W.WalkO q loose XP YP l.row.toRowW d [] (λf vs=>PySem.call f vs):=by refine Att.attach_call hn hdf λw s₀ s₁ mg mb fa o pm cd doc a vs ns G Y ho hd hcd hmg hobj hints hlen hg=>?_;obtain⟨KX,hT⟩:=hY w _ Y;obtain⟨fd,hb,hF⟩:=F w mg fa _ KX G.T.g hmg;exact ZX7 KX G.T.g G.T.b G.T.builtins G.T.nolimit hg hT (hC w) (hKP w) G.T.bmain hobj hints (Yt hlen hn2) hr hF hb (λH hO hS=>hsp w H a ns hlen hO hS) λH e s'=>hCX H s₁ e s'
def Zq7(K:PySem.W.Frag)(mg:Str->Option Value)(base:Heap)(fd:FuncData)(Pt:Addr):Prop:=∃ c,fd.code=.ref c/\codeHdIn K c Pt=true/\base.BuiltinsAt mg Pt/\mainGlobals≠Pt
theorem LamScope.of{v x:Str}{sc:Scope}(h1:sc.kind=.function)(h2:sc.isCoroutine=false)(h3:sc.isGenerator=false)(h4:sc.names=[(v,.local),(x,.free)]\/sc.names=[(x,.free),(v,.local)])(hn:v≠x):LamScope v x sc:=by
 have b1:(v == x)=false:=Y2P hn;have b2:(x == v)=false:=Y2P (YY hn)
 refine⟨h1,h2,h3,λy hy=>?_,?_,?_,λy hy=>?_,hn⟩
 ·have l1:NameKind.local≠NameKind.cell:=by decide
  have l2:NameKind.free≠NameKind.cell:=by decide
  rcases h4 with e | e <;> rw[e]at hy <;> rcases Yf.mp hy with rfl | hy
  ·exact l1
  ·rw[Yy2.mp hy];exact l2
  ·exact l2
  ·rw[Yy2.mp hy];exact l1
 ·rcases h4 with e | e <;> rw[e] <;> simp[List.lookup,b1,b2]
 ·rcases h4 with e | e <;> rw[e] <;> simp[List.lookup,b1,b2]
 ·rcases h4 with e | e <;> rw[e]at hy <;> simp only [List.lookup]at hy
  ·split at hy
   ·cases hy
   ·split at hy
    ·rename_i q;exact Y0U.mp q
    ·cases hy
  ·split at hy
   ·rename_i q;exact Y0U.mp q
   ·split at hy
    ·cases hy
    ·cases hy
section
variable{P:Program}{w:World}{K:PySem.W.Frag}{mg:Str->Option Value}{base:Heap}
theorem Fun.okL{x qual:Str}{st:Stmt}{f c:Addr}{fd:FuncData}{N ps:List Str}{k:Nat}{sp:Sp}(F:Fun K x qual st f fd)(hc:fd.code=.ref c)(S:FnScope N ps (Zz7 st))(len:∀ vs H Q E,sp vs H Q E->vs.length=ps.length)
  (hbody:∀(A:Around) (outer:List Env) (s:Shared) (H:Hp) (vs:List V) (Q:VK) (E:XK),Room k (A.deeper (envOfC qual (Zz7 st) s.heap.objs.size f (.ref c)))->sp vs H Q E ->
   ∃ t,PSs (cxOf CX0 P w K mg base N qual (Zz7 st) f (.ref c) A outer s H E).nox (ZI1 st) t/\t { nx:=λ_ H'=>Q .non H',rt:=Q } (start N vs) H):FnOk P w K mg base CX0 (k+1) f fd ps sp:=by obtain⟨oc,od,kV,doc,pm,an,cdv,ct,osl,rfl,lk,hcd⟩:=F.ex;obtain rfl:cdv=.ref c:=hc;refine Zo13 lk hcd S len λA outer s H vs Q E hr hsp=>?_;obtain⟨t,h,q⟩:=hbody A outer s H vs Q E hr hsp;exact⟨t,h.nox,q⟩
end
end L2
namespace My
open PySem L2
def ClsT(n:Int)(ps:List (Int × Int))(I O W:List Int):Prop:=Zi n ps W/\(∀ z∈I,z∈W)/\∀ z∈O,z∉W
def pl(ls T U:List Int):Prop:=HT.ltP (sumL ls T,T) (sumL ls U,U)=true
def OrdL(ls:List Int)(m:Nat)(os:List Int):Prop:=os.Perm (rgL m)/\os.Pairwise λx y=>lnz ls x<lnz ls y\/(lnz ls x=lnz ls y/\x<y)
theorem ZX5{n:Int}{ps:List (Int × Int)}{T W:List Int}(g:Zv n ps)(hT:Zi n ps T)(hW:Zi n ps W)(h:∀ z∈T,z∈W):T=W :=
 Zo7 (ZV2 hT) (ZV2 hW) λz=>(Zd9 g hT hW h).mem_iff
structure Ent where
 T:List Int
 I:List Int
 O:List Int
deriving DecidableEq
def ECl(n:Int)(ps:List (Int × Int))(E:Ent)(W:List Int):Prop:=ClsT n ps E.I E.O W
structure EOk (n:Int) (ps:List (Int × Int)) (ls:List Int) (E:Ent):Prop where
 own:ECl n ps E E.T
 min:∀ W,ECl n ps E W->W=E.T\/pl ls E.T W
 iN:E.I.Nodup
 oN:E.O.Nodup
 oR:∀ z∈E.O,0<=z/\z<(ps.length:Int)
def Dsj(n:Int)(ps:List (Int × Int))(E F:Ent):Prop:=∀ W,ECl n ps E W->¬ ECl n ps F W
structure FB (n:Int) (ps:List (Int × Int)) (ls:List Int) (E:Ent) (l:List Int) (Es:List Ent):Prop where
 ok:∀ F∈Es,EOk n ps ls F
 sub:∀ F∈Es,∀ W,ECl n ps F W->ECl n ps E W
 cov:∀ W,ECl n ps E W->((∃ t∈l,t∉W)↔∃ F∈Es,ECl n ps F W)
 dsj:Es.Pairwise (Dsj n ps)
structure RI (n:Int) (ps:List (Int × Int)) (ls:List Int) (L:List (List Int)) (Es:List Ent):Prop where
 tr:∀ T∈L,Zi n ps T
 asc:L.Pairwise (pl ls)
 ok:∀ E∈Es,EOk n ps ls E
 cov:∀ W,Zi n ps W->W∈L\/∃ E∈Es,ECl n ps E W
 beh:∀ E∈Es,∀ W,ECl n ps E W->∀ T∈L,pl ls T W
 dsj:Es.Pairwise (Dsj n ps)
structure Rkd (n:Int) (ps:List (Int × Int)) (ls:List Int) (most:Nat) (L:List (List Int)):Prop where
 tr:∀ T∈L,Zi n ps T
 asc:L.Pairwise (pl ls)
 few:L.length<=most
 all:∀ W,Zi n ps W->W∈L\/(L.length=most/\∀ T∈L,pl ls T W)
end My
namespace L2
open PySem PySem.Spec PyProof.Rows PySem.W My
theorem SameX.same{Pt:Addr}{H H':Hp}(s:Same H H'):SameX Pt H H':=λb o _ e=>s b o e
theorem SameX.trans{Pt:Addr}{H H1 H2:Hp}(a:SameX Pt H H1)(b:SameX Pt H1 H2):SameX Pt H H2:=λc o hc e=>b c o hc (a c o hc e)
theorem TabH.same{H H':Hp}{Pt:Addr}{pos:Pos}{qual:Str}(t:TabH H Pt pos qual)(s:Same H H'):TabH H' Pt pos qual:=by
 obtain⟨ps,h1,h2,h3⟩:=t;refine⟨ps,s _ _ h1,h2,?_⟩;rcases h3 with h | ⟨c,h,h'⟩
 ·exact .inl h
 ·exact .inr ⟨c,h,s _ _ h'⟩
theorem TabH.ne{H:Hp}{Pt a:Addr}{pos:Pos}{qual:Str}{o:HO}(t:TabH H Pt pos qual)(h:H a=some o)(hn:∀ ps,o≠.tbl ps):a≠Pt:=λe=>by obtain⟨ps,h1,_⟩:=t;rw[e,h1]at h;exact hn ps (Yh h).symm
theorem TabH.put{H:Hp}{Pt r:Addr}{pos:Pos}{qual:Str}{zs:List V}{u:List V}(t:TabH H Pt pos qual)(hr:H r=some (.lst zs)):TabH (upd H r (.lst u)) Pt pos qual:=by
 obtain⟨ps,h1,h2,h3⟩:=t;refine⟨ps,by rw[Zb (Zs7 h1 hr (by simp))];exact h1,h2,?_⟩;rcases h3 with h | ⟨c,h,h'⟩
 ·exact .inl h
 ·exact .inr ⟨c,h,by rw[Zb (Zs7 h' hr (by unfold CdO;simp))];exact h'⟩
end L2
namespace My
open PySem L2
theorem SqK.samex{kd:Bool}{K:PySem.W.Frag}{H H2:Hp}{a Pt:Addr}{xs:List V}{pos:Pos}{qual:Str}(h:SqK kd K H a xs)(t:TabH H Pt pos qual)(sx:SameX Pt H H2):SqK kd K H2 a xs:=by
 cases kd with
 | true=>exact SqT.samex (show SqT K H a xs from h) t sx
 | false =>
  rcases(show SqL K H a xs from h) with (h | ⟨o,h⟩) | h
  ·exact .inl (.inl (sx _ _ (t.ne h (by simp)) h))
  ·exact .inl (.inr ⟨o,sx _ _ (t.ne h (by simp)) h⟩)
  ·exact .inr h
theorem WebAt.samex{C w Pt:Addr}{H H2:Hp}{n:Int}{ps:List (Int × Int)}{pos:Pos}{qual:Str}(h:WebAt C H w n ps)(t:TabH H Pt pos qual)(sx:SameX Pt H H2):WebAt C H2 w n ps:=by obtain⟨dx,tl,xs,h1,h2,h3⟩:=h;refine⟨dx,tl,xs,sx _ _ (t.ne h1 (by simp)) h1,sx _ _ (t.ne h2 (by simp)) h2,h3.1,λi p hp=>?_⟩;obtain⟨x,hx,q,e,hq⟩:=h3.2 i p hp;exact⟨x,hx,q,e,sx _ _ (t.ne hq (by simp)) hq⟩
end My
namespace My
theorem un1{α:Type}{P:List α->Prop}(h:∀ a,P [a])(l:List α)(e:l.length=1):P l:=by obtain⟨a,rfl⟩:=len1 e;exact h a
theorem un2{α:Type}{P:List α->Prop}(h:∀ a b,P [a,b])(l:List α)(e:l.length=2):P l:=by obtain⟨a,b,rfl⟩:=len2 e;exact h a b
theorem un3{α:Type}{P:List α->Prop}(h:∀ a b c,P [a,b,c])(l:List α)(e:l.length=3):P l:=by obtain⟨a,b,c,rfl⟩:=len3 e;exact h a b c
theorem un4{α:Type}{P:List α->Prop}(h:∀ a b c d,P [a,b,c,d])(l:List α)(e:l.length=4):P l:=by obtain⟨a,b,c,d,rfl⟩:=len4 e;exact h a b c d
theorem un5{α:Type}{P:List α->Prop}(h:∀ a b c d e,P [a,b,c,d,e])(l:List α)(e:l.length=5):P l:=by
 cases l with
 | nil=>cases e
 | cons x r =>
  obtain⟨a,b,c,d,rfl⟩:=len4 (Yy13 e);exact h x a b c d
end My
namespace My
open PySem L2
theorem Zv4{n:Int}{ps:List (Int × Int)}{c:Nat}(h:TC n ps c):c=0↔∀ T,¬ Zi n ps T:=by
 obtain⟨L,a1,a2,a3⟩:=h;constructor
 ·intro e T hT;rw[e]at a3
  have:=(a2 T).mpr hT
  rw[YN.mp a3]at this;cases this
 ·intro e;rw[<- a3,YN];exact Y1v.mpr λT hT=>e T ((a2 T).mp hT)
end My
namespace L2
open PySem PySem.Spec PyProof.Rows PySem.W
theorem ZS2:∀ bs:List Bool,(bs.map Value.bool).mapM firstOfTuple'=(pure ((bs.map Value.bool).map λ_=>none):Sem _)
 | []=>by simp
 | b :: bs=>by rw[Yy06,List.mapM_cons,ZS2 bs];show(pure none >>= λb=>pure _ >>= λbs=>pure (b :: bs))=_;simp
theorem Zh2:∀ bs:List Bool,(bs.map Value.bool).mapM typeOf=(pure ((bs.map Value.bool).map λ_=>Value.type "bool"):Sem _)
 | []=>by simp
 | b :: bs=>by rw [Yy06,List.mapM_cons,Zh2 bs];show(pure (Value.type "bool") >>= λb=>pure _ >>= λbs=>pure (b :: bs))=_;simp
theorem ZH6{kA:Array Value}{ns:List Int}{key:Int->Bool}(hk:kA.toList=ns.map λz=>Value.bool (key z))(h2:2<=ns.length):keyKind' kA=pure oneType':=by
 have e:kA=((ns.map key).map Value.bool).toArray:=by rw[<- Array.toArray_toList (xs:=kA),hk,Y1g];rfl
 rw[e];obtain⟨b1,b2,bs,eb⟩:∃ b1 b2 bs,ns.map key=b1 :: b2 :: bs:=by
  match ns,h2 with
  | x :: y :: l,_=>exact⟨_,_,_,rfl⟩
 rw[eb,keyKind'_eq,List.mapM_toArray,ZS2];simp only [map_pure,pure_bind];rw[if_neg (by simp),if_neg (by simp)];rw[oneTypeOnly'_eq,List.mapM_toArray,Zh2];simp only [map_pure,pure_bind];have hall:((List.map (λ_=>Value.type "bool") (List.map Value.bool (b1 :: b2 :: bs))).toArray.all λx=>x == Value.type "bool")=true:=by simp only [List.all_toArray,List.all_map,Y0i];intro _ _;rfl
 have h0:(List.map (λ_=>Value.type "bool") (List.map Value.bool (b1 :: b2 :: bs))).toArray[0]?=some (Value.type "bool"):=by simp
 rw[h0];simp only [hall,Yy30,pure_bind,Option.isSome_some]
theorem ZR9{prog:Program}{w:World}{A:Around}{E:Value->Shared->Prop}{s:Shared}{p q:Bool}{Q:Bool->Shared->Prop}(h:Q (decide (b2i p<b2i q)) s):wpAny (model prog w) A (keyLt' oneType' (.bool p) (.bool q)) Q E s:=by rw[keyLt'_oneType,oneLt'_eq];simp only [Yy30];refine Yy3 (wpAny_cRoomFor_byValue rfl ?_);refine Yy3 (wpAny_callSpecialIfBound?_slot (typeIs_bool' s p) F.slot_bool_lt (call_gives F.slot_bool_lt (typeIs_bool' s p) F.entry_int_lt (F.args_int_lt_2 _ _) (gives_int_lt_bools p q) ?_));exact Y0m h
section
variable{X:Cx}{pins:List (Addr × Obj)}{σ:St}{H:Hp}{s:Shared}{a kS:Addr}{A:Around}{E:Value->Shared->Prop}{P:PySem.Fin->Shared->Prop}{kA:Array Value}{e e1:Nat}{f:Value}{key:Int->Bool}{ns:List Int}{vs:List Value}
theorem Za4(hv:IntsAre vs ns)(hk:kA.toList=ns.map λz=>Value.bool (key z)){i:Nat}(hi:i<ns.length):∃ u,kas_item (kA.zip vs.toArray) i=(.bool (key (ns.getD i 0)),.int (ns.getD i 0) u):=by
 obtain⟨u,hu⟩:=ZJ6 hv i hi;have ht:kA.toList[i]?=some (Value.bool (key (ns.getD i 0))):=by rw[hk,Yu,Yy6,Yy0 hi];rfl
 refine⟨u,?_⟩;unfold kas_item;rw[Yv,<- QP,ksk_zip,(List.getElem?_zip_eq_some (z:=(Value.bool (key (ns.getD i 0)),Value.int (ns.getD i 0) u))).mpr ⟨ht,hu⟩];rfl
theorem ZL4(hv:IntsAre vs ns)(hk:kA.toList=ns.map λz=>Value.bool (key z)):∀ l:List Nat,(∀ i∈l,i<ns.length)->IntsAre (l.map λi=>(kas_item (kA.zip vs.toArray) i).2) (l.map λi=>ns.getD i 0)
 | [],_=>.nil
 | i :: l,h=>by
  obtain⟨u,e⟩:=Za4 hv hk (h i Ye);have r:=ZL4 hv hk l λj hj=>h j (Yg _ hj)
  rw[Yy06,Yy06,e];exact .cons _ u r
theorem ZY9 (I:Inv X (pins++[(a,seqObj "list" #[] e1),(kS,seqObj "list" kA e)]) σ H s) (Fa:FpOk X pins H a) (Fk:FpOk X pins H kS) (hak:a≠kS) (hv:IntsAre vs ns) (h64:ns.length<64) (hk:kA.toList=ns.map λz=>Value.bool (key z))
  (h:∀ s' m out ms,Inv X pins σ H s'->s'.heap.get? a=some (seqObj "list" out m)->IntsAre out.toList ms->Zo5 (λz=>b2i (key z)) ns ms->P (.done (.ret .none)) s') :
  wpAny (model X.prog X.w) A (ksk_end a false vs.toArray e1 (.ref kS) kA) P E s:=by
 have hvl:=hv.length;have hkl:=YV List.length hk
 rw[YB,Yb]at hkl;have hzs:(kA.zip vs.toArray).size=ns.length:=by rw[Array.size_zip,show vs.toArray.size=vs.length from Ya];grind
 unfold ksk_end;dsimp only;rw[if_neg (by decide)];by_cases h2:vs.toArray.size<2
 ·rw[if_pos h2,if_pos h2];rw[Ya]at h2;refine Yy3 (Yi ?_);rw[StateT.run_pure];refine Yy3 (Yi ?_);dsimp only;refine ZI6 (out:=vs) I Fa Fk hak (by lia) rfl ?_ (by grind) λs' m J e=>h s' m vs.toArray ns J e (by simpa using hv) ?_
  ·show(if false=true then (kA.zip vs.toArray).reverse else kA.zip vs.toArray).map (·.2)=vs.toArray;rw[if_neg (by decide),Array.map_snd_zip (by rw[Ya];lia)]
  ·refine⟨List.range ns.length,List.Perm.refl _,?_,?_⟩
   ·match ns.length,(show ns.length<2 by lia) with
    | 0,_=>exact List.Pairwise.nil
    | 1,_=>exact Y0A _ _
   ·match ns,(show ns.length<2 by omega) with
    | [],_=>rfl
    | [x],_=>rfl
 ·rw[if_neg h2,if_neg h2];rw[Ya]at h2;rw[ZH6 hk (by lia)];refine Yy3 (Yi ?_);rw[if_neg (by decide)];obtain⟨p,hp1,hp2,hp3⟩:=My.sort_go (n:=ns.length) (key:=λi=>b2i (key (ns.getD i 0))) (by lia);have runs:=kas_runs (prog:=X.prog) (w:=X.w) (A:=A) (E:=E) (κ:=oneType') (it:=kA.zip vs.toArray) (n:=ns.length) (s:=s) (Q:=λ_ st s'=>s'=s/\failedOf st=none/\arrOf st=p.map (kas_item (kA.zip vs.toArray)))
   (G:=λq s'=>s'=s/\q=p) (by omega) h64 (λq st s' _ e2 e3 e4=>⟨e4.1,e3,by rw[e2,e4.2]⟩)
   (My.goT_wp' (c:=λi j=>decide (b2i (key (ns.getD i 0))<b2i (key (ns.getD j 0)))) (J:=λs'=>s'=s) (λi j C s' hi hj hs hC=>by obtain⟨u,e⟩:=Za4 hv hk hi;obtain⟨u',e'⟩:=Za4 hv hk hj;unfold kas_cmp;rw[e,e'];exact ZR9 (hC s' hs)) _ s (My.sort_asks (by omega)) rfl λs' hs=>⟨hs,hp1⟩)
  unfold kasC kas_st at runs;rw[<- hzs,kas_range]at runs;refine Yy3 (Y0J runs ?_ λ_ _ z=>z);rintro⟨⟨⟩,st⟩ s' ⟨rfl,hf,ha⟩;dsimp only;have hb:∀ i∈p.toList,i<ns.length:=λi hi=>YH.mp (hp2.mem_iff.mp hi)
  have hpl:p.toList.length=ns.length:=by rw[hp2.length_eq,Y0k]
  refine ZI6 (out:=p.toList.map λi=>(kas_item (kA.zip vs.toArray) i).2) I Fa Fk hak (by lia) hf ?_ (by rw[Yb];lia) λs'' m J e=>h s'' m _ _ J e (by simpa using ZL4 hv hk p.toList hb) ⟨p.toList,hp2,hp3,rfl⟩;have ha:arrOf st=p.map (kas_item (kA.zip vs.toArray)):=ha
  rw[ha,Array.map_map];exact Array.toList_inj.mp (by simp)
theorem ZZ7 (I:Inv X (pins++[(a,seqObj "list" #[] e1),(kS,seqObj "list" #[] 0)]) σ H s) (Fa:FpOk X pins H a) (Fk:FpOk X pins H kS) (hak:a≠kS) (hv:IntsAre vs ns) (h64:ns.length<64)
  (turn:∀(pl:List (Addr × Obj)) (z:Int) (t:Tok) (s':Shared),z∈ns->Inv X (pins++pl) σ H s'->wpAny (model X.prog X.w) A (call f [.int z t]) (λv s''=>v=.bool (key z)/\Inv X (pins++pl) σ H s'') (λ_ _=>False) s')
  (h:∀ s' m out ms,Inv X pins σ H s'->s'.heap.get? a=some (seqObj "list" out m)->IntsAre out.toList ms->Zo5 (λz=>b2i (key z)) ns ms->P (.done (.ret .none)) s') :
  wpAny (model X.prog X.w) A (ksk_rest a f false vs.toArray e1 (.ref kS)) P E s:=by
 have hsl:sizeLine=16777216:=Y0r;have hvl:=hv.length
 unfold ksk_rest;refine Yy3 (Y3m ?_);rw[<- Array.forIn_toList];simp only [List.toList_toArray];refine Yy3 (ksk_fold (λi s'=>∃(kA:Array Value) (e:Nat),Inv X (pins++[(a,seqObj "list" #[] e1),(kS,seqObj "list" kA e)]) σ H s'/\kA.toList=(ns.take i).map λz=>Value.bool (key z)) vs 0 s ⟨#[],0,I,rfl⟩ ?step ?done)
 case step =>
  rintro j x s' hx ⟨kA,e,J,hk⟩;rw[Y1f]at hk ⊢;have hj:j<ns.length:=by rw[<- hvl];exact(Yy1.mp hx).1
  obtain⟨t,ht⟩:=ZJ6 hv j hj;rw[hx]at ht;obtain rfl:=Yh ht;have hz:kA.size<=j:=by have h1:=YV List.length hk;rw[YB,Yb,Yz]at h1;lia
  have eg:ns.getD j 0=ns[j]:=by rw[Yy6,Yy0 hj];rfl
  have hmem:ns.getD j 0∈ns:=by rw[eg];exact Y0M hj
  refine Yy3 (Y2k (Y0J (turn _ _ t s' hmem J) (λv s'' he=>?_) λ_ _ hF=>hF.elim));obtain⟨rfl,J2⟩:=he;dsimp only;have pk:=(J2.pin (kS,seqObj "list" kA e) (by simp)).1
  obtain⟨c2,hc2⟩:∃ c2,(s''.heap.update kS (Obj.mapSeq (·.push (.bool (key (ns.getD j 0)))))).get? kS=some (seqObj "list" (kA.push (.bool (key (ns.getD j 0)))) c2):=⟨_,Yy37 pk (·.push (.bool (key (ns.getD j 0))))⟩;refine Yy3 (Y1R pk rfl ?_ (by lia) (by rw[Array.size_push];lia));refine Yi ⟨rfl,kA.push (.bool (key (ns.getD j 0))),c2,?_,?_⟩
  ·have J3:Inv X (pins++[(a,seqObj "list" #[] e1)]) σ H s'':=J2.pins_of λp hp=>J2.pin p (Yd _ (by
    rcases Yy7.mp hp with hp | hp
    ·exact Yc _ hp
    ·exact Yd _ (by rw[Yy2.mp hp];exact Ye)))
   have Fk2:FpOk X (pins++[(a,seqObj "list" #[] e1)]) H kS:=Fk.more λp hp=>by rw [Yy2.mp hp];exact hak
   have J4:=(J3.changed (t':=s''.toks) Fk2 λc o hc q=>(YM s''.heap (Obj.mapSeq (·.push (.bool (key (ns.getD j 0))))) (YY hc)).trans q).pin1 Fk2 hc2 λv z=>by cases z
   rw[Y0a]at J4;exact J4
  ·have ek:((ns.take (j+1)).map λz=>Value.bool (key z))=((ns.take j).map λz=>Value.bool (key z))++[Value.bool (key (ns.getD j 0))]:=by rw[List.take_add_one,Yy0 hj,YL,eg];rfl
   rw[Y2B,ek,hk]
 case done =>
  rintro s' ⟨kA,e,J,hk⟩;rw[Y1f,hvl,YJ]at hk;have pk:=(J.pin (kS,seqObj "list" kA e) (by simp)).1
  refine Yy3 (listItems_at pk rfl ?_);exact ZY9 J Fa Fk hak hv h64 hk h
theorem ZY7 {n:Nat} (I:Inv X pins σ H s) (Fa:FpOk X pins H a) (ho:s.heap.get? a=some (seqObj "list" vs.toArray n)) (hv:IntsAre vs ns) (h64:ns.length<64)
  (turn:∀(pl:List (Addr × Obj)) (z:Int) (t:Tok) (s':Shared),z∈ns->Inv X (pins++pl) σ H s'->wpAny (model X.prog X.w) A (call f [.int z t]) (λv s''=>v=.bool (key z)/\Inv X (pins++pl) σ H s'') (λ_ _=>False) s')
  (h:∀ s' m out ms,Inv X pins σ H s'->s'.heap.get? a=some (seqObj "list" out m)->IntsAre out.toList ms->Zo5 (λz=>b2i (key z)) ns ms->P (.done (.ret .none)) s') :
  wpAny (model X.prog X.w) A (ksk_tree a f false) P E s:=by
 have hsl:sizeLine=16777216:=Y0r;have hvl:=hv.length
 obtain⟨e1,ho1⟩:∃ e1,(s.heap.update a (Obj.mapSeq λ_=>(#[]:Array Value))).get? a=some (seqObj "list" #[] e1):=⟨_,Yy37 ho λ_=>#[]⟩;have I1:Inv X pins σ H { s with heap:=s.heap.update a (Obj.mapSeq λ_=>(#[]:Array Value)),toks:=s.toks }:=I.changed Fa λc o hc q=>(YM _ _ (YY hc)).trans q
 have I2:Inv X pins σ H { s with heap:=(s.heap.update a (Obj.mapSeq λ_=>(#[]:Array Value))).push (seqObj "tuple" vs.toArray 0),toks:=s.toks }:=I1.kept λc o q=>Yy5 _ q;have ho2:((s.heap.update a (Obj.mapSeq λ_=>(#[]:Array Value))).push (seqObj "tuple" vs.toArray 0)).get? a=some (seqObj "list" #[] e1):=Yy5 _ ho1
 unfold ksk_tree;refine Yy3 (listItems_at ho rfl ?_);refine Yy3 (Y1R ho rfl ?_ (by rw[Ya];lia) (Yl _));refine Yy3 (seqEpoch_at ho1 rfl ?_);refine Yy3 (wpAny_newTuple ?_ (by show vs.length<=_;omega));refine Yy3 (Y1D ?_ (Yl _));refine Y0e ?_;have Fk:FpOk X pins H ((s.heap.update a (Obj.mapSeq λ_=>(#[]:Array Value))).push (seqObj "tuple" vs.toArray 0)).objs.size:=I2.fpOk (Yy8 _) (I2.hok.fresh (Yy8 _))
 have hak:a≠((s.heap.update a (Obj.mapSeq λ_=>(#[]:Array Value))).push (seqObj "tuple" vs.toArray 0)).objs.size:=Yr (Yn ho2);have I3:Inv X pins σ H { s with heap:=((s.heap.update a (Obj.mapSeq λ_=>(#[]:Array Value))).push (seqObj "tuple" vs.toArray 0)).push (seqObj "list" #[] 0),toks:=s.toks }:=I2.kept λc o q=>Yy5 _ q
 have I4:=(I3.pin1 Fa (Yy5 _ ho2) λv z=>by cases z).pin1 (Fk.more (pl:=[(a,seqObj "list" #[] e1)]) λp hp=>by rw [Yy2.mp hp];exact hak) (Ym _ rfl) λv z=>by cases z
 rw[Y0a]at I4;exact ZZ7 I4 Fa Fk hak hv h64 turn h
theorem Zt5{tp q:Addr}{Q:Value->Shared->Prop}(I:Inv X pins σ H s)(ht:s.heap.IsList tp vs.toArray)(hv:IntsAre vs ns)(h64:ns.length<64)
  (turn:∀(pl:List (Addr × Obj)) (z:Int) (t:Tok) (s':Shared),z∈ns->Inv X (pins++pl) σ H s'->wpAny (model X.prog X.w) A.in1.in1 (call (.ref q) [.int z t]) (λv s''=>v=.bool (key z)/\Inv X (pins++pl) σ H s'') (λ_ _=>False) s')
  (h:∀ s' a m out ms,FpOk X pins H a->Inv X pins σ H s'->s'.heap.get? a=some (seqObj "list" out m)->IntsAre out.toList ms->Zo5 (λz=>b2i (key z)) ns ms->Q (.ref a) s') :
  wpAny (model X.prog X.w) A (call (.builtin "sorted") [.ref tp] [(Str.ofString "key",.ref q)]) Q E s:=by
 have hsl:sizeLine=16777216:=Y0r;have hvl:=hv.length
 refine call_function_entry_kw kind_sorted plain_sorted entry_sorted (ksk_s1 _ _) ?_;unfold Builtin.«sorted»;refine Yy3 (m:=checkCount "sorted" 1 1 _) (Yi ?_);refine Yy3 (collect_list ht ?_ (by omega));refine Yy3 (Y1D ?_ (by omega));have hsz:((s.heap.push (seqObj "list" #[] 0)).update s.heap.objs.size (Obj.mapSeq (·++vs.toArray))).objs.size=s.heap.objs.size+1:=by rw[Heap.size_update,size_push']
 have hoL:(((s.heap.push (seqObj "list" #[] 0)).update s.heap.objs.size (Obj.mapSeq (·++vs.toArray))).push (seqObj "list" vs.toArray 0)).get? (s.heap.objs.size+1)=some (seqObj "list" vs.toArray 0):=by rw[<- hsz];exact Ym _ rfl
 have keep:∀ b o,s.heap.get? b=some o->(((s.heap.push (seqObj "list" #[] 0)).update s.heap.objs.size (Obj.mapSeq (·++vs.toArray))).push (seqObj "list" vs.toArray 0)).get? b=some o:=λb o q=>by have hlt:b<s.heap.objs.size:=Yn q;exact Yy5 _ ((YM _ _ (Y0x hlt)).trans (Yy5 _ q))
 show wpAny _ _ _ _ _ { s with heap:=((s.heap.push (seqObj "list" #[] 0)).update s.heap.objs.size (Obj.mapSeq (·++vs.toArray))).push (seqObj "list" vs.toArray 0) };rw[hsz];have Fa:FpOk X pins H (s.heap.objs.size+1):=I.fpOk (Y0j _) (I.hok.fresh (Y0j _))
 refine Yy3 (Y0e (wpAny_call_entry_kw slot_list_sort ⟨_,hoL,rfl⟩ entry_list_sort ?body (ksk_l1 _ _)));show wpAny (model X.prog X.w) A.in1.in1 (Builtin.«list.sort» ⟨[.ref (s.heap.objs.size+1)],[(Str.ofString "key",.ref q)]⟩) _ _ _
 rw[ksk_t1];refine ZY7 (s:={ s with heap:=((s.heap.push (seqObj "list" #[] 0)).update s.heap.objs.size (Obj.mapSeq (·++vs.toArray))).push (seqObj "list" vs.toArray 0),toks:=s.toks }) (I.kept keep) Fa hoL hv h64 turn λs' m out ms J e hi hs=>⟨_,rfl,?_⟩;exact Yi ⟨_,rfl,h s' _ m out ms Fa J e hi hs⟩
end
def ZY10(K:PySem.W.Frag)(Pt:Addr)(lpos:Pos)(qual:Str)(i:Nat)(te tb:TE):TE:=λσ H Q=>te σ H λy H1=>∃(p:Addr) (ns:List Int) (vx:V) (key:Int->Bool),y=.ref p/\SqL K H1 p (ns.map V.int)/\ns.length<64/\TabH H1 Pt lpos qual/\σ[i]?=some (some vx) /\
 (∀ H2,SameX Pt H1 H2->∀ z∈ns,tb [some (.int z),some vx] H2 λr H3=>r=.bl (key z)/\H3=H2) /\
 ∀(ms:List Int) (l:Addr) (H2:Hp),Zo5 (λz=>b2i (key z)) ns ms->SameX Pt H1 H2->TabH H2 Pt lpos qual->H2 l=none->Q (.ref l) (upd H2 l (.lst (ms.map V.int)))
section
variable{X:Cx}{p kp pos lpos:Pos}{e body:Expr}{params:Arguments}{scope:Scope}{te tb:TE}{v x:Str}{i k:Nat}{c Pt cc:Addr}
theorem SqL.samexT{K:PySem.W.Frag}{H H2:Hp}{a:Addr}{xs:List V}{qual:Str}(h:SqL K H a xs)(t:TabH H Pt lpos qual)(sx:SameX Pt H H2):SqL K H2 a xs:=by
 obtain⟨ps,hP,_⟩:=t;rcases h with (h | ⟨o,h⟩) | h
 ·exact .inl (.inl (sx _ _ (λz=>by rw[z,hP]at h;cases h) h))
 ·exact .inl (.inr ⟨o,sx _ _ (λz=>by rw[z,hP]at h;cases h) h⟩)
 ·exact .inr h
theorem Zv5 (he:PE X e te) (hg:Gl X (Str.ofString "sorted")) (hm:X.mg (Str.ofString "sorted")=none) (hr:Room (k+3) X.A) (hex:X.ex=[]) (hcode:X.env.code=.ref c) (hC:codeHdIn X.K c Pt=true) (hB:X.base.BuiltinsAt X.mg Pt) (hPg:mainGlobals≠Pt)
  (S:LamScope v x scope) (hcl:closureFor scope X.env=pure [(x,cc)]) (hdef:defaultsOf params X.env=([],[])) (hbind:∀(c':Addr) (pm ctv u:Value),bindArgs (kla_fn (Str.ofString "<lambda>") (X.env.qual++Str.ofString "<lambda>") params body scope [(x,cc)] pm (.ref c') ctv) ⟨[u],[]⟩=pure [(v,u)])
  (hi:X.N[i]?=some x) (hkx:X.env.kindOf x=some .cell) (hcx:X.env.cells.lookup x=some cc)
  (hb:∀(f c':Addr) (A:Around) (outer:List Env) (s:Shared) (H:Hp),Room k (A.deeper (envX (X.env.qual++Str.ofString "<lambda>") scope s.heap.objs.size f (.ref c') [(x,cc)]))->PE (Zz812 X.prog X.w X.K X.mg X.base [v,x] (X.env.qual++Str.ofString "<lambda>") scope f (.ref c') [(x,cc)] A outer s H) body tb) (hs:starEach [e] X.env=[(false,eval e X.env)]:=by rfl) :
  PE X (.Call (.Name (Str.ofString "sorted") p) [e] [⟨some (Str.ofString "key"),.Lambda params body scope lpos,kp⟩] pos) (ZY10 X.K Pt lpos (X.env.qual++Str.ofString "<lambda>") i te tb):=by
 intro pins s σ H Q I h;refine Y0f (Zu2 I hg hm Boot.«sorted» ?_ (by decide) (by decide));have ha:PA X [e] (Zx12 te tNil):=Zz0 he Zz3 hs
 refine callWith_kw (thn (ha pos pins s σ H (λvs H1=>match vs with
  | [y]=>∃(p:Addr) (ns:List Int) (vx:V) (key:Int->Bool),y=.ref p/\SqL X.K H1 p (ns.map V.int)/\ns.length<64/\TabH H1 Pt lpos (X.env.qual++Str.ofString "<lambda>")/\σ[i]?=some (some vx) /\
   (∀ H2,SameX Pt H1 H2->∀ z∈ns,tb [some (.int z),some vx] H2 λr H3=>r=.bl (key z)/\H3=H2) /\
   ∀(ms:List Int) (l:Addr) (H2:Hp),Zo5 (λz=>b2i (key z)) ns ms->SameX Pt H1 H2->TabH H2 Pt lpos (X.env.qual++Str.ofString "<lambda>")->H2 l=none->Q (.ref l) (upd H2 l (.lst (ms.map V.int)))
  | _=>False) I h) λus s1 hh=>?_) (by rw[hs];rfl) (by rw[hs];rfl) rfl rfl
 obtain⟨vs,H1,I1,r,q⟩:=hh
 match vs,r,q with
 | [],_,q=>exact False.elim q
 | _ :: _ :: _,_,q=>exact False.elim q
 | [y],r,q =>
  obtain⟨p2,ns,vx,key,rfl,hq,h64,hT,hσ,hk,q⟩:=q;obtain⟨u,rfl,ru⟩:=ZZ3 r;obtain rfl:u=Value.ref p2:=ru;refine kws_cons (ZX9 I1 hcode hC hB hT hcl hdef hPg λf c' pm ctv s2 H2 sx tab F I2 hf hc'=>kws_nil ?_);have I3:=I2.pin1 F hf λv z=>by cases z
  have hq2:=SqL.samexT hq hT sx;obtain⟨its,rv,g1,hz⟩:=I2.list hq2;have hv:=ZR rv
  refine Zt5 I3 g1.isList hv h64 (key:=key) (λpl z t s3 hmem J=>?_) λs3 a m out ms Fa J hg2 hout hst=>?_
  ·-- the lambda called
   have hob:s3.heap.get? f=some (kla_obj (Str.ofString "<lambda>") (X.env.qual++Str.ofString "<lambda>") params body scope [(x,cc)] pm c' ctv):=(J.pin (f,_) (Yd _ (Yc _ (Yd _ Ye)))).1;obtain⟨mm,_,hloc⟩:=J.loc;obtain⟨ux,rx,hlook⟩:=hloc i x vx hi hσ (.inr (.inl hkx));have hcell:s3.heap.IsCell cc (some ux):=by
    rcases hlook with ⟨kz,_⟩ | ⟨_,c2,e2,hc2⟩
    ·rw[hkx]at kz;cases kz
    ·rw[hcx]at e2;cases e2;exact hc2
   have hrec:s3.heap.CodeRec (.ref c') (X.env.qual++Str.ofString "<lambda>"):=(J.hok c' _ hc').1;have hr2:Room (k+1) X.A.in1.in1:=(hr.in1).in1
   refine Y3o (Y1y (ZJ11 (u:=.int z t) (vv:=.int z) S hr2 J.env0.in1.in1 hob hrec (hbind c' pm ctv _) hcell rx (J.freeC x cc hcx) ⟨t,rfl⟩ (hb f c' _ _ s3 H2 (hr2.deeper _)) (hk H2 sx z hmem)) λrr s4 hh=>?_);obtain⟨u',rfl,ce⟩:=hh;obtain⟨v',H',J',rv',e1,e2⟩:=J.after ce;subst e1 e2;obtain rfl:=rv';exact⟨rfl,J'⟩
  ·have J0:Inv X pins σ H2 s3:=J.unpinned;have Fa0:FpOk X pins H2 a:=⟨Fa.1,Fa.2.1,Fa.2.2.1,Fa.2.2.2.1,Fa.2.2.2.2.1,λp hp=>Fa.2.2.2.2.2 p (by
    rcases Yy7.mp hp with hp | hp
    ·exact Yc _ hp
    ·exact Yd _ (Yc _ hp))⟩
   have hml:ms.length=ns.length:=by obtain⟨pp,h1,_,rfl⟩:=hst;rw[Yb,h1.length_eq,Y0k]
   refine⟨.ref a,_,J0.adopt hex Fa0 (u:=.lst (ms.map V.int)) ⟨?_,out.toList,m,ZY hout,by simpa using hg2⟩,rfl,q ms a H2 hst sx tab Fa.1⟩;rw[Yb,hml]
   have:sizeLine=16777216:=Y0r
   lia
end
abbrev ZH10:List (Str × Value):=[(Str.ofString "default",.none)]
section
variable{prog:Program}{w:World}{A:Around}{I S:Addr}{fp wr:List Addr}{n:Nat}{P:Nat->Value->Prop}{St:Nat->Heap->Prop}{R:Result->Shared->Prop}
theorem ZR7(W:Walks prog w A.in1 I fp wr n P St)(lt:Nat->Nat->Bool)(C:Heap->Prop)(ck:∀ h h',C h->(∀ b o,b≠S->b∉wr->h.get? b=some o->h'.get? b=some o)->C h')(cc:∀(s:Shared) (i j:Nat) (v u:Value) (E:Value->Shared->Prop) (Q:Value->Shared->Prop),C s.heap->i≠j->P i v->P j u->Q (.bool (lt i j)) s->wpAny (model prog w) A.in1 (compareOp .Lt v u) Q E s)(hSf:S∉fp):∀(k j:Nat) (s:Shared) (vb:Value) (c:Nat),n - (j+1)=k->j+1<=n->St (j+1) s.heap->P (argBest lt j) vb->C s.heap ->
  s.heap.get? S=some { cls:=.type "list",dict:=none,data:=.seq #[vb,vb] c,slots:=#[] } ->
  (∀ v h' tk,P (argBest lt (n - 1)) v->(∀ b o,b≠S->b∉wr->s.heap.get? b=some o->h'.get? b=some o)->R (.ok (.ret v)) { s with heap:=h',toks:=tk }) ->
  codeAny (model prog w) A (.builtin "min.loop" ⟨[.ref I,.none,.ref S],ZH10⟩) R s:=by
 have hSw:S∉wr:=λh=>hSf (W.sub _ h);have nm:(toString "min"++toString ".loop":String)="min.loop":=by decide
 intro k
 induction k with
 | zero =>
  intro j s vb c hk hj st pb ta hS hR;have ej:j+1=n:=by grind
  refine Y0d Y2o ?_;rw[Y0G Y0F _];show wpAny _ A.in1 (seqItems? (.ref S) >>= _) _ _ s
  refine Yy3 (Y1o hS rfl ?_);show wpAny _ A.in1 (tryCatch (pyNext (.ref I)) _ >>= _) _ _ s
  refine Yy3 (Yy29 (W.done s _ _ (ej ▸ st) λh' tk hk'=>?_));have hS':=hk' S _ hSw hS
  show wpAny _ A.in1 (updateSeq S (λ_=>#[]) >>= _) _ _ _;refine Yy3 (Y2t hS' rfl (Yy3 (Y2p (Yi ?_))));exact hR vb _ tk (by rw[<- ej];exact pb) λb o b1 b2 e=>(YM _ _ (YY b1)).trans (hk' b o b2 e)
 | succ k ih =>
  intro j s vb c hk hj st pb ta hS hR;have hlt:j+1<n:=by omega
  refine Y0d Y2o ?_;rw[Y0G Y0F _];show wpAny _ A.in1 (seqItems? (.ref S) >>= _) _ _ s
  refine Yy3 (Y1o hS rfl ?_);show wpAny _ A.in1 (tryCatch (pyNext (.ref I)) _ >>= _) _ _ s
  refine Yy3 (Yy29 (W.item (j+1) s _ _ hlt st λv h' tk pv st' hk'=>?_));have hS':=hk' S _ hSw hS
  have ta':=ck _ h' ta λb o _ b2 e=>hk' b o b2 e;show wpAny _ A.in1 (tryCatch (holding [v,v] (richCompare .Lt (v) (vb) >>= _)) _ >>= _) _ _ _
  refine Yy3 (Yy29 (Y0e (Yy3 (show wpAny _ _ (compareOp .Lt (v) (vb)) _ _ _ from cc { s with heap:=h',toks:=tk } (j+1) _ v vb _ _ ta' (Y0x (Nat.lt_succ_of_le (My.best_le _ _))) pv pb ?_))));refine Yy3 (Y0e (Y0m ?_));refine Yy3 (Y2p (Yi ?_));cases hb:lt (j+1) (argBest lt j) with
  | true =>
   simp only [Yy30];refine Yy3 (Y2t hS' rfl (Yy3 (Y2p ?_)));rw[nm];have up:∀ b o,b≠S->h'.get? b=some o->(h'.update S (Obj.mapSeq λ_=>#[v,v])).get? b=some o:=λb o b1 e=>(YM _ _ (YY b1)).trans e
   refine Yi ⟨Y0Y Y0F _,ih (j+1) _ (v) _ (by omega) hlt (W.frame _ h' _ st' λb hbf o e=>up b o (λh=>hSf (h ▸ hbf)) e) ?_ (ck _ _ ta' λb o b1 _ e=>up b o b1 e) (Yy03 _ hS' rfl) λv' h'' tk'' p'' k''=>?_⟩
   ·unfold argBest;rw[if_pos hb];exact pv
   ·exact hR v' h'' tk'' p'' λb o b1 b2 e=>k'' b o b1 b2 (up b o b1 (hk' b o b2 e))
  | false =>
   simp only [Y2s,if_false];refine Yy3 (Y2p ?_);rw[nm];refine Yi ⟨Y0Y Y0F _,ih (j+1) _ (vb) c (by omega) hlt st' ?_ ta' hS' λv' h'' tk'' p'' k''=>?_⟩
   ·unfold argBest;rw[if_neg (by rw[hb];decide)];exact pb
   ·exact hR v' h'' tk'' p'' λb o b1 b2 e=>k'' b o b1 b2 (hk' b o b2 e)
theorem Zw6 (W:Walks prog w A.in1 I fp wr n P St) (lt:Nat->Nat->Bool) (C:Heap->Prop) (ck:∀ h h',C h->(∀ b o,b≠S->b∉wr->h.get? b=some o->h'.get? b=some o)->C h') (cc:∀(s:Shared) (i j:Nat) (v u:Value) (E:Value->Shared->Prop) (Q:Value->Shared->Prop),C s.heap->i≠j->P i v->P j u->Q (.bool (lt i j)) s->wpAny (model prog w) A.in1 (compareOp .Lt v u) Q E s) (hSf:S∉fp) (hn:0<n) {s:Shared} {c:Nat} (st:St 0 s.heap) (ta:C s.heap) (hS:s.heap.get? S=some { cls:=.type "list",dict:=none,data:=.seq #[] c,slots:=#[] })
  (hR:∀ v h' tk,P (argBest lt (n - 1)) v->(∀ b o,b≠S->b∉wr->s.heap.get? b=some o->h'.get? b=some o)->R (.ok (.ret v)) { s with heap:=h',toks:=tk }) :
  codeAny (model prog w) A (.builtin "min.loop" ⟨[.ref I,.none,.ref S],ZH10⟩) R s:=by
 have hSw:S∉wr:=λh=>hSf (W.sub _ h);have nm:(toString "min"++toString ".loop":String)="min.loop":=by decide
 refine Y0d Y2o ?_;rw[Y0G Y0F _];show wpAny _ A.in1 (seqItems? (.ref S) >>= _) _ _ s
 refine Yy3 (Y1o hS rfl ?_);show wpAny _ A.in1 (tryCatch (pyNext (.ref I)) _ >>= _) _ _ s
 refine Yy3 (Yy29 (W.item 0 s _ _ hn st λv h' tk pv st' hk'=>?_));have hS':=hk' S _ hSw hS
 show wpAny _ A.in1 (updateSeq S (λ_=>#[v,v]) >>= _) _ _ _;refine Yy3 (Y2t hS' rfl ?_);rw[nm];have up:∀ b o,b≠S->h'.get? b=some o->(h'.update S (Obj.mapSeq λ_=>#[v,v])).get? b=some o:=λb o b1 e=>(YM _ _ (YY b1)).trans e
 refine Yi ⟨Y0Y Y0F _,ZR7 W lt C ck cc hSf _ 0 _ v _ rfl hn (W.frame _ h' _ st' λb hbf o e=>up b o (λh=>hSf (h ▸ hbf)) e) pv (ck _ _ ta λb o b1 b2 e=>up b o b1 (hk' b o b2 e)) (Yy03 _ hS' rfl) λv' h'' tk'' p'' k''=>?_⟩;exact hR v' h'' tk'' p'' λb o b1 b2 e=>k'' b o b1 b2 (up b o b1 (hk' b o b2 e))
theorem ZQ7 (W:Walks prog w A.in1 I fp wr n P St) (hn:n=0) (hSf:S∉fp) {s:Shared} {c:Nat} (st:St 0 s.heap) (hS:s.heap.get? S=some { cls:=.type "list",dict:=none,data:=.seq #[] c,slots:=#[] })
  (hR:∀ h' tk,(∀ b o,b≠S->b∉wr->s.heap.get? b=some o->h'.get? b=some o)->R (.ok (.ret .none)) { s with heap:=h',toks:=tk }) :
  codeAny (model prog w) A (.builtin "min.loop" ⟨[.ref I,.none,.ref S],ZH10⟩) R s:=by
 subst hn;refine Y0d Y2o ?_;rw[Y0G Y0F _];show wpAny _ A.in1 (seqItems? (.ref S) >>= _) _ _ s
 refine Yy3 (Y1o hS rfl ?_);show wpAny _ A.in1 (tryCatch (pyNext (.ref I)) _ >>= _) _ _ s
 refine Yy3 (Yy29 (W.done s _ _ st λh' tk hk'=>?_));refine Yy3 (Y3m (Yi ?_));exact hR h' tk λb o _ b2 e=>hk' b o b2 e
theorem Zn4{E:Value->Shared->Prop}{s:Shared}{id:String}{b:Builtin}{args:List Value}{kw:List (Str × Value)}{Q:Value->Shared->Prop}(hk:builtinKind id=none)(hp:plainId id=true)(hb:entryFor table id=some b)(ha:argsOk id ⟨args,kw⟩)
  (hc:wpAny (model prog w) A.in1 (b ⟨args,kw⟩) (λfin s'=>match fin with
   | .done f=>(match (Except.ok f:Result) with | .ok (.ret v)=>Q v s' | .ok _=>False | .error e=>E e s')
   | .again c'=>c'.quiet=true/\codeAny (model prog w) A c' (λr s'=>match r with | .ok (.ret v)=>Q v s' | .ok _=>False | .error e=>E e s') s') E s):wpAny (model prog w) A (call (.builtin id) args kw) Q E s:=by
 refine Y3o (codeAny_call_builtin hp hb ?_);simp only [checkBuiltinCall,hk];cases hsig:Manifest.signature? id with
 | none=>exact Yi hc
 | some sig =>
  have ha':Bind.checkArgs id sig ⟨args,kw⟩=pure ():=by simpa only [argsOk,hsig] using ha
  simp only [ha'];exact Yi hc
theorem ZX12 (a:Value):argsOk "min" ⟨[a],ZH10⟩:=by unfold argsOk;kernel_rfl
theorem ZN9{E:Value->Shared->Prop}{s:Shared}{l:Addr}{xs:Array (Int × Tok)}{Q:Value->Shared->Prop}(hh:A.handled=none)(hl:s.heap.IsList l (intItems xs))
  (h0:xs.size=0->∀ h' tk,(∀ b o,s.heap.get? b=some o->h'.get? b=some o)->Q .none { s with heap:=h',toks:=tk })
  (h:0<xs.size->∀ v h' tk,(intItems xs)[argBest (λi j=>decide (numAt xs i<numAt xs j)) (xs.size - 1)]?=some v->(∀ b o,s.heap.get? b=some o->h'.get? b=some o)->Q v { s with heap:=h',toks:=tk }) :
  wpAny (model prog w) A (call (.builtin "min") [.ref l] ZH10) Q E s:=by
 have nm:(toString "min"++toString ".loop":String)="min.loop":=by decide
 refine Zn4 F.kind_min F.plain_min F.entry_min (ZX12 _) ?_;show wpAny _ A.in1 (Builtin.Builtins.bindParams "min" ["key","default"] 0 ⟨[],ZH10⟩ >>= _) _ _ s
 refine Yy3 (Y1x (a:=[none,some .none]) rfl ?_);refine Yy3 (Yi ?_);refine Yy3 (iter_intList hl λs₂ e st hfp hlI=>?_);subst e;refine Yy3 (Y0v ?_);rw[nm];have W:=Walks.list (prog:=prog) (w:=w) (A:=A.in1) hh s.heap.objs.size l hlI (intItems xs)
 obtain⟨G,hG⟩:∃ G,G=s.heap.push { cls:=.type "list_iterator",data:=.fields #[.ref l,.int 0 0] }:=⟨_,rfl⟩;have hold:∀ b o,s.heap.get? b=some o->b≠G.objs.size/\b∉[s.heap.objs.size]/\(G.push { cls:=.type "list",data:=.seq #[] 0 }).get? b=some o:=λb o e=>by
  have hlt:=Yn e;have hlt2:b<G.objs.size:=by rw[hG];exact Yo hlt (by rw[Y0T];exact Y0j _)
  refine⟨Yr hlt2,λhm=>by rw[Yy2.mp hm]at hlt;exact Y0q _ hlt,Yy5 _ (by rw[hG];exact Yy5 _ e)⟩
 rw[<- hG]at st hfp ⊢;have hSf:G.objs.size∉[s.heap.objs.size,l]:=λhm=>Y0q _ (hfp _ hm)
 have st2:=W.frame 0 G (G.push { cls:=.type "list",data:=.seq #[] 0 }) st λb _ o e=>Yy5 _ e;have esz:(intItems xs).size=xs.size:=by simp[intItems]
 rcases Nat.eq_zero_or_pos xs.size with hz | hz
 ·refine Yi ⟨Y0Y Y0F _,ZQ7 W (esz.trans hz) hSf st2 (Ym _ rfl) λh' tk hk=>?_⟩;exact h0 hz h' tk λb o e=>let ⟨a1,a2,a3⟩:=hold b o e;hk b o a1 a2 a3
 ·refine Yi ⟨Y0Y Y0F _,Zw6 W (λi j=>decide (numAt xs i<numAt xs j)) (λ_=>True) (λ_ _ _ _=>trivial) (λs i j v u E Q _ _ pv pu q=>?_) hSf (by rw[esz];exact hz) st2 trivial (Ym _ rfl) λv h' tk pv hk=>?_⟩
  ·obtain⟨t1,rfl⟩:=intItems_at pv;obtain⟨t2,rfl⟩:=intItems_at pu;exact lt_int q
  ·rw[esz]at pv;exact h hz v h' tk pv λb o e=>let ⟨a1,a2,a3⟩:=hold b o e;hk b o a1 a2 a3
end
def Zt13(K:PySem.W.Frag)(te:TE):TE:=λσ H Q=>te σ H λy H1=>∃(p:Addr) (ns:List Int),y=.ref p/\SqL K H1 p (ns.map V.int)/\(ns=[]->Q .non H1)/\∀ m:Int,m∈ns->(∀ a∈ns,m<=a)->Q (.int m) H1
theorem ZB8 {X:Cx} {p kp pos cp:Pos} {e:Expr} {te:TE} {j:Nat} (hc:X.calm=true) (hg:Gl X (Str.ofString "min")) (hm:X.mg (Str.ofString "min")=none) (he:PE X e te) (hs:starEach [e] X.env=[(false,eval e X.env)]:=by rfl) :
  PE X (.Call (.Name (Str.ofString "min") p) [e] [⟨some (Str.ofString "default"),.Constant .none j cp,kp⟩] pos) (Zt13 X.K te):=by
 intro pins s σ H Q I h;refine Y0f (Zu2 I hg hm Boot.«min» ?_ (by decide) (by decide));have ha:PA X [e] (Zx12 te tNil):=Zz0 he Zz3 hs
 refine callWith_kw (thn (ha pos pins s σ H (λvs H1=>match vs with
  | [y]=>∃(p:Addr) (ns:List Int),y=.ref p/\SqL X.K H1 p (ns.map V.int)/\(ns=[]->Q .non H1)/\∀ m:Int,m∈ns->(∀ a∈ns,m<=a)->Q (.int m) H1
  | _=>False) I h) λus s1 hh=>?_) (by rw[hs];rfl) (by rw[hs];rfl) rfl rfl
 obtain⟨vs,H1,I1,r,q⟩:=hh
 match vs,r,q with
 | [],_,q=>exact False.elim q
 | _ :: _ :: _,_,q=>exact False.elim q
 | [y],r,q =>
  obtain⟨p2,ns,rfl,hq,q0,q1⟩:=q;obtain⟨u,rfl,ru⟩:=ZZ3 r;obtain rfl:u=Value.ref p2:=ru;refine kws_cons (Constant_none (kws_nil ?_));obtain⟨its,rv,pl,hz⟩:=I1.list hq;have hi:=ZR rv
  obtain⟨xs,e'⟩:=hi.allInts.items;have hns:ns=xs.toList.map (·.1):=by rw[<- hi.numsOf,<- nums_intItems,<- e']
  have hl:=pl.isList;rw[e']at hl;refine ZN9 (I1.ok.hd hc) hl (λhsz h' tk hk=>?_) λhsz v h' tk hv hk=>?_
  ·refine⟨.non,H1,I1.kept (t':=tk) hk,rfl,q0 ?_⟩;rw[hns,Yy19];exact YN.mp (by rw[YB];exact hsz)
  ·obtain⟨t,rfl⟩:=intItems_at hv;obtain⟨h1,h2⟩:=argBest_lt (numAt xs) (xs.size - 1);refine⟨.int _,H1,I1.kept (t':=tk) hk,⟨t,rfl⟩,q1 _ ?_ λa ha=>?_⟩
   ·rw[hns,numAt_eq];exact getD_mem (by rw[Yb,YB];omega)
   ·rw[hns]at ha;obtain⟨j,hj,rfl⟩:=mem_getD ha;rw[Yb,YB]at hj;rw[<- numAt_eq];exact h2 j (by grind)
end L2
namespace My
open PySem L2
def CXFL (K:PySem.W.Frag) (mg:Str->Option Value) (x qual:Str) (st:Stmt) (fs:List Str) (Pt:Addr):Prop:=∃(C f:Addr) (fd:FuncData) (c:Addr),mg x=some (.ref C)/\Fun K "__init__" qual st f fd/\Cls K C/\Mk K C f/\(∀ a∈fs,NoAttr K C a)/\fd.code=.ref c/\PySem.W.codeHdIn K c Pt=true
theorem cxl_mk{K:PySem.W.Frag}{h:Heap}{mg:Str->Option Value}{x qual:Str}{fs:List Str}{st:Stmt}{C f cA Pt:Addr}{oc:Value}{od an:Option Addr}{osl:Array (Option Value)}{kV doc pm ct:Value}(X:K.In h)(G:h.Ns mainGlobals mg)
  (aC:PySem.W.nsIn K mainGlobals x=some (some (.ref C))) (a:PySem.W.findIn K (.ref C) "__init__"=some (some (.ref f))) (i:PySem.W.isFn K (.ref f)=true)
  (l:K.lookup f=some ⟨oc,od,.func (PySem.W.fnOf "__init__" qual (Yz2 st) (ZI1 st) (Zz7 st) .none kV doc pm an (.ref cA) ct),osl⟩) (c:PySem.W.codeIn K (.ref cA) qual=true) (k:PySem.W.keepIn K (.ref f)=true)
  (pg:PySem.W.plainGet K C Str.empty=true) (hd:PySem.W.hasDictIn K C=true) (po:PySem.W.plainOver K C=true) (sa:PySem.W.findIn K (.ref C) "__setattr__"=some (some (.builtin "object.__setattr__"))) (mk:PySem.W.makesIn K C=true) (kc:PySem.W.keepIn K (.ref C)=true)
  (na:∀ a∈fs,PySem.W.findIn K (.ref C) a=some none) (z:PySem.W.codeHdIn K cA Pt=true):CXFL K mg x qual st fs Pt :=
 ⟨C,f,_,cA,Y2v X G aC,Zz910 l c k,⟨pg,hd,po,sa⟩,⟨mk,a,i,kc⟩,na,rfl,z⟩
def opn(M:List Int)(ps:List (Int × Int))(g:List Int)(i:Nat):List Int:=(rgL i).filter λz=>decide (z∉g/\mk M (ps.getD z.toNat (0,0)).1.toNat≠mk M (ps.getD z.toNat (0,0)).2.toNat)
theorem Zk6(M:List Int)(ps:List (Int × Int))(g:List Int)(i:Nat):opn M ps g (i+1)=opn M ps g i++if (i:Int)∉g/\mk M (ps.getD i (0,0)).1.toNat≠mk M (ps.getD i (0,0)).2.toNat then [(i:Int)] else []:=by
 unfold opn;rw[Zb6,Y0b];congr 1;rw[YO,Y2V];show(if decide ((i:Int)∉g/\mk M (ps.getD ((i:Int).toNat) (0,0)).1.toNat≠mk M (ps.getD ((i:Int).toNat) (0,0)).2.toNat)=true then [(i:Int)] else [])=_
 rw[YA];simp only [Y0S]
theorem ZG3(M:List Int)(ps:List (Int × Int))(g:List Int)(i:Nat):(opn M ps g i).length<=i:=Yt (YF ..) (by rw[ZI];exact Yy8 _)
def optV:Option Int->V
 | none=>.non
 | some z=>.int z
def pfs (w k s ld l i fu:V):List (Str × V):=[("web",w),("kept",k),("shut",s),("lead",ld),("least",l),("incoming",i),("further",fu)]
theorem samex_upd{H:Hp}{x:Addr}{o:HO}:SameX x H (upd H x o):=λb o' hb e=>by rw[Zb hb];exact e
theorem WebAt.but{C CP w x dx:Addr}{H H1:Hp}{n:Int}{ps:List (Int × Int)}(h:WebAt C H w n ps)(hx:H x=some (.ins CP dx []))(s:SameX x H H1):WebAt C H1 w n ps:=by
 obtain⟨d,tl,xs,h1,h2,h3⟩:=h;refine⟨d,tl,xs,s _ _ (λe=>?_) h1,s _ _ (λe=>?_) h2,h3.1,λi p e=>?_⟩
 ·rw[e,hx]at h1
  have:=YV (λo=>match o with | some (HO.ins _ _ fs)=>fs.length | _=>0) h1
  exact absurd this (by show ¬ 0=2;decide)
 ·rw[e,hx]at h2;cases h2
 ·obtain⟨v,a1,tt,a2,a3⟩:=h3.2 i p e;exact⟨v,a1,tt,a2,s _ _ (λe=>by rw[e,hx]at a3;cases a3) a3⟩
theorem Zt3{K:PySem.W.Frag}{CP a x dx:Addr}{H H1:Hp}{xs:List V}(h:SqT K H a xs)(hx:H x=some (.ins CP dx []))(s:SameX x H H1):SqT K H1 a xs:=by
 rcases h with (h | ⟨o,h⟩) | h
 ·exact .inl (.inl (s _ _ (λz=>by rw[z,hx]at h;cases h) h))
 ·exact .inl (.inr ⟨o,s _ _ (λz=>by rw[z,hx]at h;cases h) h⟩)
 ·exact .inr h
theorem ZX10{CP Pt x dx:Addr}{H H1:Hp}{pos:Pos}{qual:Str}(t:TabH H Pt pos qual)(hx:H x=some (.ins CP dx []))(s:SameX x H H1):TabH H1 Pt pos qual:=by
 obtain⟨ps,h1,h2,h3⟩:=t;refine⟨ps,s _ _ (λe=>by rw[e,hx]at h1;cases h1) h1,h2,?_⟩;rcases h3 with h | ⟨c,h,h'⟩
 ·exact .inl h
 ·exact .inr ⟨c,h,s _ _ (λe=>by rw[e,hx]at h';cases h') h'⟩
theorem ZR3{K:PySem.W.Frag}{H:Hp}{a b:Addr}{l m:List Int}{Q:VK}(ha:SqT K H a (IL l))(hb:SqT K H b (IL m))(hl:l.length+m.length<=1000)(k:∀(r:Addr) (H':Hp),Same H H'->SqT K H' r (IL (l++m))->Q (.ref r) H'):ZH12 K (.ref a) (.ref b) H Q:=by
 refine⟨a,b,_,_,rfl,rfl,ha,hb,by rw[Zz4,Zz4];exact Yt hl (by decide),λe=>?_,λ_ e=>?_,λ_ _ p hp=>?_⟩
 ·have el:l=[]:=Yy19.mp e;rw[el,Y0t]at k;exact k b H (Same.refl _) hb
 ·have em:m=[]:=Yy19.mp e;rw[em,YG]at k;exact k a H (Same.refl _) ha
 ·refine k p _ (Zz5 hp) (SqT.of ?_);rw[Zz1,ZW1]
def eky(M:List Int)(ps:List (Int × Int))(z:Int):Int × Int:=(min (mk M (ps.getD z.toNat (0,0)).1.toNat) (mk M (ps.getD z.toNat (0,0)).2.toNat),max (mk M (ps.getD z.toNat (0,0)).1.toNat) (mk M (ps.getD z.toNat (0,0)).2.toNat))
theorem Zv1{l:List Int}{a b:Int}(hp:l.Perm [a,b])(hs:l.Pairwise (·<=·)):l=[min a b,max a b]:=by
 by_cases c:a<=b
 ·rw[Y2d c,Yy27 c];exact Zz81 hp hs (by simpa using c)
 ·rw[Y2O (by lia),Y2W (by omega)];exact Zz81 (hp.trans (List.Perm.swap b a [])) hs (by simp;omega)
theorem ZF3{M:List Int}{ps:List (Int × Int)}{g:List Int}{i:Nat}{z:Int}(h:z∈opn M ps g i):0<=z/\z<(i:Int):=rgL_mem.mp (Yk.mp h).1
def opL(n:Int)(ps:List (Int × Int))(I O F:List Int):List Int:=opn (pms n.toNat (Zz6 ps I)) ps (I++O++F) ps.length
def alL(n:Int)(ps:List (Int × Int))(I O F:List Int)(ld:Option Int):List Int:=(opL n ps I O F).filter λz=>decide (∃ y,ld=some y/\eky (pms n.toNat (Zz6 ps I)) ps z=eky (pms n.toNat (Zz6 ps I)) ps y)
def unL(n:Int)(ps:List (Int × Int))(I O F:List Int)(ld:Option Int):List Int:=(opL n ps I O F).filter λz=>decide (z∉alL n ps I O F ld)
def PartAt(K:PySem.W.Frag)(CP C:Addr)(H:Hp)(x:Addr)(n:Int)(ps:List (Int × Int))(I O F inc:List Int)(ld fu:Option Int):Prop:=∃ dx w a b l i,H x=some (.ins CP dx (pfs (.ref w) (.ref a) (.ref b) (optV ld) (.ref l) (.ref i) (optV fu)))/\WebAt C H w n ps/\SqT K H a (IL I)/\SqT K H b (IL O)/\H l=some (.tup (IL F))/\H i=some (.lst (IL inc))
theorem PartAt.samex{K:PySem.W.Frag}{CP C Pt x:Addr}{H H2:Hp}{n:Int}{ps:List (Int × Int)}{I O F inc:List Int}{ld fu:Option Int}{pos:Pos}{qual:Str}(h:PartAt K CP C H x n ps I O F inc ld fu)(t:TabH H Pt pos qual)(sx:SameX Pt H H2):PartAt K CP C H2 x n ps I O F inc ld fu:=by obtain⟨dx,w,a,b,l,i,h1,h2,h3,h4,h5,h6⟩:=h;exact⟨dx,w,a,b,l,i,sx _ _ (t.ne h1 (by simp)) h1,h2.samex t sx,SqK.samex (kd:=true) h3 t sx,SqK.samex (kd:=true) h4 t sx,sx _ _ (t.ne h5 (by simp)) h5,sx _ _ (t.ne h6 (by simp)) h6⟩
structure PartOk (n:Int) (ps:List (Int × Int)) (I O:List Int) (ld:Option Int) (F inc:List Int) (fu:Option Int):Prop where
 tr:With n ps I O F
 least:∀ U,With n ps I O U->HT.lexLt U F=false
 inc:Zo5 (λz=>PyProof.Rows.b2i (decide (ld=some z))) (alL n ps I O F ld) inc
 none:fu=none↔unL n ps I O F ld=[]
 some:∀ y,fu=some y->y∈unL n ps I O F ld/\∀ z∈unL n ps I O F ld,y<=z
def xchT(F:List Int)(o z:Int):List Int:=(wo F o++[z]).mergeSort λa b=>decide (a<=b)
theorem Zf2(F:List Int)(o z:Int):(xchT F o z).Perm (wo F o++[z]):=List.mergeSort_perm _ _
theorem ZU2(F:List Int)(o z:Int):(xchT F o z).Pairwise (·<=·):=by
 refine(Y3k (le:=λa b:Int=>decide (a<=b)) (λa b c h1 h2=>?_) (λa b=>?_) _).imp λh=>Yw h
 ·simp only [Y0S]at *;lia
 ·simp only [Y2Y,Y0S];lia
def lvT(n:Int)(ps:List (Int × Int))(I F:List Int)(z:Int):List Int:=(Zp3 n ps F z F).filter λt=>decide (t∉I)
section
variable{n:Int}{ps:List (Int × Int)}{I O F T M:List Int}{x y z:Int}(g:Zv n ps)
include g
theorem Zz62(hF:With n ps I O F)(he:exg n ps F x y)(hx:x∉I)(hy:y∉O)(hp:M.Perm (wo F x++[y]))(hs:M.Pairwise (·<=·)):With n ps I O M:=by
 refine⟨Zg4 g hF.1 he hp hs,λv hv=>(ZY4 g hF.1 he hp hs).mpr (.inl ⟨hF.2.1 v hv,λe=>hx (e ▸ hv)⟩),λv hv h=>?_⟩;rcases(ZY4 g hF.1 he hp hs).mp h with h | h
 ·exact hF.2.2 v hv h.1
 ·exact hy (h ▸ hv)
theorem ZI4(hF:Zi n ps F)(he:exg n ps F x y)(h:y<x)(hp:M.Perm (wo F x++[y]))(hs:M.Pairwise (·<=·)):HT.lexLt M F=true:=by
 have tM:=Zg4 g hF he hp hs;have yF:y∉F:=((ZZ4 g hF).mp he).2.1
 refine(ZH4 (isSet_iff.mp tM.1).2 (isSet_iff.mp hF.1).2 (by have:=tM.2.1;have:=hF.2.1;lia)).mpr ⟨y,(ZY4 g hF he hp hs).mpr (.inr rfl),yF,λs hs'=>?_⟩;rw[ZY4 g hF he hp hs];constructor
 ·rintro(q | q)
  ·exact q.1
  ·lia
 ·exact λq=>.inl ⟨q,by lia⟩
theorem ZK3(hF:With n ps I O F)(hFm:∀ U,With n ps I O U->HT.lexLt U F=false)(hT:With n ps (I++[z]) O T)(hTm:∀ U,With n ps (I++[z]) O U->HT.lexLt U T=false):∀ v∈T,v∈F\/v=z:=λv hv=>Yy λno=>by
 have vF:v∉F:=λh=>no (.inl h);have vz:v≠z:=λh=>no (.inr h)
 obtain⟨u,e1,e2⟩:=ZD3 g hT.1 hF.1 hv vF;have uF:u∈F:=e2.1
 have uT:u∉T:=((ZZ4 g hT.1).mp e1).2.1;have uI:u∉I:=λh=>uT (hT.2.1 u (Yc _ h))
 have vO:v∉O:=λh=>hT.2.2 v h hv;have uO:u∉O:=λh=>hF.2.2 u h uF
 have vI:v∉I++[z]:=λh=>by
  rcases Yy7.mp h with h | h
  ·exact vF (hF.2.1 v h)
  ·exact vz (Yy2.mp h)
 have uv:u≠v:=λe=>uT (e ▸ hv);obtain⟨M1,p1,q1⟩:=Zz26 (wo F u++[v]);have w1:=Zz62 g hF e2 uI vO p1 q1
 obtain⟨M2,p2,q2⟩:=Zz26 (wo T v++[u]);have w2:=Zz62 g hT e1 vI uO p2 q2
 rcases Int.lt_or_lt_of_ne uv with h | h
 ·have:=ZI4 g hT.1 e1 h p2 q2
  rw[hTm M2 w2]at this;cases this
 ·have:=ZI4 g hF.1 e2 h p1 q1
  rw[hFm M1 w1]at this;cases this
theorem Zt2(hF:With n ps I O F)(hFm:∀ U,With n ps I O U->HT.lexLt U F=false)(hz:z∉F):With n ps I (O++[z]) F/\∀ U,With n ps I (O++[z]) U->HT.lexLt U F=false :=
 ⟨⟨hF.1,hF.2.1,λv hv=>(Yy7.mp hv).elim (hF.2.2 v) λh=>by rw[Yy2.mp h];exact hz⟩,λU hU=>hFm U ⟨hU.1,hU.2.1,λv hv=>hU.2.2 v (Yc _ hv)⟩⟩
end
theorem with_part{n:Int}{ps:List (Int × Int)}{I O T:List Int}{z:Int}:With n ps I O T↔With n ps I (O++[z]) T\/With n ps (I++[z]) O T:=by
 constructor
 ·intro h;by_cases c:z∈T
  ·exact .inr ⟨h.1,λv hv=>(Yy7.mp hv).elim (h.2.1 v) λe=>by rw[Yy2.mp e];exact c,h.2.2⟩
  ·exact .inl ⟨h.1,h.2.1,λv hv=>(Yy7.mp hv).elim (h.2.2 v) λe=>by rw[Yy2.mp e];exact c⟩
 ·rintro(h | h)
  ·exact⟨h.1,h.2.1,λv hv=>h.2.2 v (Yc _ hv)⟩
  ·exact⟨h.1,λv hv=>h.2.1 v (Yc _ hv),h.2.2⟩
def RowAll(n:Int)(ps:List (Int × Int))(I O:List Int)(R:List (List Int)):Prop:=R.Nodup/\∀ T,T∈R↔With n ps I O T
theorem RowAll.pc{n:Int}{ps:List (Int × Int)}{I O:List Int}{R:List (List Int)}(h:RowAll n ps I O R):PC n ps I O R.length:=⟨R,h.1,λl=>h.2 l,rfl⟩
theorem Zz96{n:Int}{ps:List (Int × Int)}{I O:List Int}{z:Int}{A B:List (List Int)}(hA:RowAll n ps I (O++[z]) A)(hB:RowAll n ps (I++[z]) O B):RowAll n ps I O (A++B.reverse):=by
 refine⟨YQ.mpr ⟨hA.1,(Y2y B).nodup_iff.mpr hB.1,λa ha b hb e=>?_⟩,λT=>?_⟩
 ·subst e;exact((hA.2 a).mp ha).2.2 z (by simp) (((hB.2 a).mp (Y0y.mp hb)).2.1 z (by simp))
 ·rw[Yy7,Y0y,hA.2,hB.2];exact with_part.symm
theorem ZI13{a b c d:Int}(h1:min a b=min c d)(h2:max a b=max c d):(a=c/\b=d)\/(a=d/\b=c):=by
 rcases Int.le_total a b with p | p <;> rcases Int.le_total c d with q | q <;> simp only [Y2d,Y2O,Y2W,Yy27,p,q]at h1 h2
 ·exact .inl ⟨h1,h2⟩
 ·exact .inr ⟨h1,h2⟩
 ·exact .inr ⟨h2,h1⟩
 ·exact .inl ⟨h2,h1⟩
section
variable{n:Int}{ps:List (Int × Int)}{I O F T:List Int}{o t t':Int}(g:Zv n ps)
include g
theorem ZW5(hT:Zi n ps T)(ho:o∈T):¬ Conn (Zz6 ps (wo T o)) (Zu ps o).1 (Zu ps o).2:=by obtain⟨o0,o1⟩:=hT.1.all o ho;exact(Zz01 g hT o0 o1).mp ((ZT2 g hT ho ho).mpr rfl)
theorem Zx7(hT:Zi n ps T)(hI:∀ v∈I,v∈T)(ht:t∈T)(hn:t∉I):¬ Conn (Zz6 ps I) (Zu ps t).1 (Zu ps t).2:=λc =>
 ZW5 g hT ht (c.mono (ZH λv hv=>wo_mem.mpr ⟨hI v hv,λe=>hn (by rw[<- e];exact hv)⟩))
theorem Zg10(hIb:∀ z∈I,0<=z/\z<(ps.length:Int))(t0:0<=t)(t1:t<(ps.length:Int))(s0:0<=t')(s1:t'<(ps.length:Int))(h:eky (pms n.toNat (Zz6 ps I)) ps t=eky (pms n.toNat (Zz6 ps I)) ps t') :
  (Conn (Zz6 ps I) (Zu ps t).1 (Zu ps t').1/\Conn (Zz6 ps I) (Zu ps t).2 (Zu ps t').2)\/(Conn (Zz6 ps I) (Zu ps t).1 (Zu ps t').2/\Conn (Zz6 ps I) (Zu ps t).2 (Zu ps t').1):=by
 have hin:=ZJ g hIb;have a:=Zs1 (z:=t) g t0 t1
 have b:=Zs1 (z:=t') g s0 s1;have h:(min (mk (pms n.toNat (Zz6 ps I)) (Zu ps t).1) (mk (pms n.toNat (Zz6 ps I)) (Zu ps t).2),max (mk (pms n.toNat (Zz6 ps I)) (Zu ps t).1) (mk (pms n.toNat (Zz6 ps I)) (Zu ps t).2))=(min (mk (pms n.toNat (Zz6 ps I)) (Zu ps t').1) (mk (pms n.toNat (Zz6 ps I)) (Zu ps t').2),max (mk (pms n.toNat (Zz6 ps I)) (Zu ps t').1) (mk (pms n.toNat (Zz6 ps I)) (Zu ps t').2)):=h
 obtain⟨h1,h2⟩:=Prod.mk.inj h;rw[<- Zb1 hin a.1 b.1,<- Zb1 hin a.2 b.2,<- Zb1 hin a.1 b.2,<- Zb1 hin a.2 b.1];exact ZI13 h1 h2
theorem Zn8(hIb:∀ z∈I,0<=z/\z<(ps.length:Int))(hT:Zi n ps T)(hI:∀ v∈I,v∈T)(ht:t∈T)(hs:t'∈T)(hn:t∉I)(hn':t'∉I)(h:eky (pms n.toNat (Zz6 ps I)) ps t=eky (pms n.toNat (Zz6 ps I)) ps t'):t=t':=Yy λne=>by
 obtain⟨t0,t1⟩:=hT.1.all t ht;obtain⟨s0,s1⟩:=hT.1.all t' hs;have sub:∀ v∈I++[t],v∈wo T t':=λv hv=>by
  rcases Yy7.mp hv with hv | hv
  ·exact wo_mem.mpr ⟨hI v hv,λe=>hn' (by rw[<- e];exact hv)⟩
  ·rw[Yy2.mp hv];exact wo_mem.mpr ⟨ht,ne⟩
 have up:∀ {i j},Conn (Zz6 ps I) i j->Conn (Zz6 ps (I++[t])) i j:=λc=>c.mono (ZH λv hv=>Yc _ hv);have ed:Conn (Zz6 ps (I++[t])) (Zu ps t).1 (Zu ps t).2:=.edge (YC.mpr ⟨t,by simp,rfl⟩)
 have c:Conn (Zz6 ps (I++[t])) (Zu ps t').1 (Zu ps t').2:=by
  rcases Zg10 g hIb t0 t1 s0 s1 h with ⟨a,b⟩ | ⟨a,b⟩
  ·exact((up a).symm.trans ed).trans (up b)
  ·exact((up b).symm.trans ed.symm).trans (up a)
 exact ZW5 g hT hs (c.mono (ZH sub))
theorem ZE8(hIb:∀ z∈I,0<=z/\z<(ps.length:Int))(hT:With n ps I O T)(hF:∀ v∈I,v∈F)(ht:t∈T)(hn:t∉F):t∈opL n ps I O F:=by
 obtain⟨t0,t1⟩:=hT.1.1.all t ht;have a:=Zs1 (z:=t) g t0 t1
 have hI:t∉I:=λh=>hn (hF t h);refine Yk.mpr ⟨rgL_mem.mpr ⟨t0,t1⟩,Yx ⟨λh=>?_,λe=>?_⟩⟩
 ·rcases Yy7.mp h with h | h
  ·rcases Yy7.mp h with h | h
   ·exact hI h
   ·exact hT.2.2 t h ht
  ·exact hn h
 ·exact Zx7 g hT.1 hT.2.1 ht hI ((Zb1 (ZJ g hIb) a.1 a.2).mp e)
end
def lvR(n:Int)(ps:List (Int × Int))(I F:List Int)(asc:Bool)(z:Int):List (List Int):=if asc then (lvT n ps I F z).map λo=>xchT F o z else ((lvT n ps I F z).map λo=>xchT F o z).reverse
def udR(n:Int)(ps:List (Int × Int))(I F:List Int):List Int->Bool->List (List Int)
 | [],_=>[]
 | z :: r,asc=>lvR n ps I F asc z++udR n ps I F r (!asc)
theorem ZT5(n:Int)(ps:List (Int × Int))(I F:List Int)(z:Int):∀(l:List Int) (asc:Bool),udR n ps I F (l++[z]) asc=udR n ps I F l asc++lvR n ps I F (asc != (l.length % 2 == 1)) z
 | [],asc=>by show lvR n ps I F asc z++[]=[]++lvR n ps I F (asc != false) z;rw[YG,Y0t,Bool.bne_false]
 | y :: l,asc=>by show lvR n ps I F asc y++udR n ps I F (l++[z]) (!asc)=lvR n ps I F asc y++udR n ps I F l (!asc)++_;rw[ZT5 n ps I F z l,Y0a,YD];congr 3;rcases(by lia:l.length % 2=0/\(l.length+1) % 2=1\/l.length % 2=1/\(l.length+1) % 2=0) with ⟨a,b⟩ | ⟨a,b⟩ <;> rw[a,b] <;> cases asc <;> rfl
theorem ZG11(n:Int)(ps:List (Int × Int))(I F:List Int)(asc:Bool)(z:Int):(lvR n ps I F asc z).length<=F.length:=by
 unfold lvR;have h:(lvT n ps I F z).length<=F.length:=Yt (YF ..) (Yz1 n ps F z F)
 split
 ·rw[Yb];exact h
 ·rw[YS,Yb];exact h
theorem Zp8(n:Int)(ps:List (Int × Int))(I F:List Int):∀(l:List Int) (asc:Bool),(udR n ps I F l asc).length<=l.length * F.length
 | [],_=>Yl _
 | z :: l,asc=>by
  show(lvR n ps I F asc z++udR n ps I F l (!asc)).length<=_;rw[Yy4,YD,Nat.succ_mul]
  have:=ZG11 n ps I F asc z
  have:=Zp8 n ps I F l (!asc)
  lia
def udL(n:Int)(ps:List (Int × Int))(I F inc:List Int):List (List Int):=F :: udR n ps I F inc (inc.length % 2 == 1)
theorem ringA_iff{n:Int}{ps:List (Int × Int)}{F:List Int}{o t:Int}:o∈Zp3 n ps F t F↔o∈F/\t∈cutT n ps F o:=by unfold Zp3;rw[Yk,Yy00];exact Iff.rfl
theorem xch_mem{F:List Int}{o t v:Int}:v∈xchT F o t↔(v∈F/\v≠o)\/v=t:=by rw[(Zf2 F o t).mem_iff,Yy7,wo_mem,Yy2]
section
variable{n:Int}{ps:List (Int × Int)}{I O F T:List Int}{ld:Option Int}{o t:Int}(g:Zv n ps)
include g
theorem ZQ10(hIb:∀ z∈I,0<=z/\z<(ps.length:Int))(hF:With n ps I O F)(hu:unL n ps I O F ld=[])(hT:With n ps I O T):T=F\/∃ t∈opL n ps I O F,∃ o∈lvT n ps I F t,T=xchT F o t:=by
 by_cases c:∀ v∈T,v∈F
 ·exact .inl (ZX5 g hT.1 hF.1 c)
 ·obtain⟨t,ht,hn⟩:∃ t,t∈T/\t∉F:=Yy λno=>c λv hv=>Yy λhn=>no ⟨v,hv,hn⟩;have hto:=ZE8 g hIb hT hF.2.1 ht hn
  have alike:∀ v∈opL n ps I O F,∃ y,ld=some y/\eky (pms n.toNat (Zz6 ps I)) ps v=eky (pms n.toNat (Zz6 ps I)) ps y:=λv hv=>by
   have hm:v∈alL n ps I O F ld:=Yy λno=>by
    have:v∈unL n ps I O F ld:=Yk.mpr ⟨hv,Yx no⟩
    rw[hu]at this;cases this
   exact Yw (Yk.mp hm).2
  have only:∀ v∈T,v∉F->v=t:=λv hv hvn=>by obtain⟨y,e1,e2⟩:=alike v (ZE8 g hIb hT hF.2.1 hv hvn);obtain⟨y',e3,e4⟩:=alike t hto;rw[e1]at e3;cases e3;exact Zn8 g hIb hT.1 hT.2.1 hv ht (λh=>hvn (hF.2.1 v h)) (λh=>hn (hF.2.1 t h)) (e2.trans e4.symm)
  obtain⟨o,e1,e2⟩:=ZD3 g hT.1 hF.1 ht hn;have oT:o∉T:=((ZZ4 g hT.1).mp e1).2.1
  have hM:=Zg4 g hF.1 e2 (Zf2 F o t) (ZU2 F o t);refine .inr ⟨t,hto,o,Yk.mpr ⟨ringA_iff.mpr ⟨e2.1,e2.2.2⟩,Yx λh=>oT (hT.2.1 o h)⟩,ZX5 g hT.1 hM λv hv=>xch_mem.mpr ?_⟩;by_cases cv:v∈F
  ·exact .inl ⟨cv,λe=>oT (by rw[<- e];exact hv)⟩
  ·exact .inr (only v hv cv)
theorem ZS5(hF:With n ps I O F)(ht:t∈opL n ps I O F)(ho:o∈lvT n ps I F t):With n ps I O (xchT F o t):=by
 obtain⟨h1,h2⟩:=Yk.mp ht;obtain⟨hg,_⟩:=Yw h2;obtain⟨h3,h4⟩:=Yk.mp ho;obtain⟨h5,h6⟩:=ringA_iff.mp h3;have tF:t∉F:=λh=>hg (Yd _ h)
 exact Zz62 g hF ⟨h5,λe=>tF (by rw[e];exact h5),h6⟩ (Yw h4) (λh=>hg (Yc _ (Yd _ h))) (Zf2 F o t) (ZU2 F o t)
end
theorem lvR_mem{n:Int}{ps:List (Int × Int)}{I F T:List Int}{asc:Bool}{z:Int}:T∈lvR n ps I F asc z↔∃ o∈lvT n ps I F z,T=xchT F o z:=by
 have h:T∈((lvT n ps I F z).map λo=>xchT F o z)↔∃ o∈lvT n ps I F z,T=xchT F o z:=by rw[YC];exact⟨λ⟨o,h1,h2⟩=>⟨o,h1,h2.symm⟩,λ⟨o,h1,h2⟩=>⟨o,h1,h2.symm⟩⟩
 unfold lvR;split
 ·exact h
 ·rw[Y0y];exact h
theorem udR_mem{n:Int}{ps:List (Int × Int)}{I F T:List Int}:∀ {l:List Int} {asc:Bool},T∈udR n ps I F l asc↔∃ z∈l,∃ o∈lvT n ps I F z,T=xchT F o z
 | [],_=>⟨λh=>(by cases h),λ⟨_,h,_⟩=>(by cases h)⟩
 | z :: l,asc=>by
  show T∈lvR n ps I F asc z++udR n ps I F l (!asc)↔_;rw[Yy7,lvR_mem,udR_mem];constructor
  ·rintro(h | ⟨z',h1,h2⟩)
   ·exact⟨z,Ye,h⟩
   ·exact⟨z',Yg _ h1,h2⟩
  ·rintro⟨z',h1,h2⟩;rcases Yf.mp h1 with e | e
   ·exact .inl (e ▸ h2)
   ·exact .inr ⟨z',e,h2⟩
theorem Za9{F:List Int}{o o' t t':Int}(ht:t∉F)(e:xchT F o t=xchT F o' t'):t=t':=by
 have:t∈xchT F o' t':=e ▸ xch_mem.mpr (.inr rfl)
 rcases xch_mem.mp this with h | h
 ·exact absurd h.1 ht
 ·exact h
theorem ZI10{F:List Int}{o o' t:Int}(ho:o∈F)(ht:t∉F)(e:xchT F o t=xchT F o' t):o=o':=Yy λne=>by
 have h1:o∈xchT F o' t:=xch_mem.mpr (.inl ⟨ho,ne⟩);rw[<- e]at h1;rcases xch_mem.mp h1 with h | h
 ·exact h.2 rfl
 ·exact ht (h ▸ ho)
theorem ZS7{n:Int}{ps:List (Int × Int)}{I F:List Int}(hF:F.Nodup){asc:Bool}{z:Int}(hz:z∉F):(lvR n ps I F asc z).Nodup:=by
 have hm:∀ v∈lvT n ps I F z,v∈F:=λv hv=>(ringA_iff.mp (Yk.mp hv).1).1;have h:((lvT n ps I F z).map λo=>xchT F o z).Nodup:=by have hd:(lvT n ps I F z).Pairwise (·≠·):=(hF.filter _).filter _;exact Y0B.mpr (Y3d (λ{a b} ha hb hab e=>hab (ZI10 (hm a ha) hz e)) hd)
 unfold lvR;split
 ·exact h
 ·exact(Y2y _).nodup_iff.mpr h
theorem Zt4{n:Int}{ps:List (Int × Int)}{I F:List Int}(hF:F.Nodup):∀ {l:List Int} {asc:Bool},l.Nodup->(∀ z∈l,z∉F)->(udR n ps I F l asc).Nodup
 | [],_,_,_=>.nil
 | z :: l,asc,hn,hl=>by
  obtain⟨n1,n2⟩:=Y0n.mp hn;refine YQ.mpr ⟨ZS7 hF (hl z Ye),Zt4 hF n2 λv hv=>hl v (Yg _ hv),λa ha b hb e=>?_⟩;obtain⟨o,_,h1⟩:=lvR_mem.mp ha;obtain⟨z',hz',o',_,h2⟩:=udR_mem.mp hb;rw[h1,h2]at e
  have:=Za9 (hl z Ye) e
  exact n1 (this ▸ hz')
theorem ZO10{n:Int}{ps:List (Int × Int)}{I O F inc:List Int}{ld:Option Int}(g:Zv n ps)(hIb:∀ z∈I,0<=z/\z<(ps.length:Int))(hF:With n ps I O F)(hu:unL n ps I O F ld=[])(hinc:∀ z,z∈inc↔z∈opL n ps I O F)(hn:inc.Nodup):RowAll n ps I O (udL n ps I F inc):=by
 have hop:∀ z∈inc,z∉F:=λz hz h=>(Yw (Yk.mp ((hinc z).mp hz)).2).1 (Yd _ h);refine⟨Y0n.mpr ⟨λh=>?_,Zt4 hF.1.1.nodup hn hop⟩,λT=>?_⟩
 ·obtain⟨z,hz,o,_,e⟩:=udR_mem.mp h;exact hop z hz (by rw[e];exact xch_mem.mpr (.inr rfl))
 ·unfold udL;rw[Yf,udR_mem];constructor
  ·rintro(h | ⟨z,hz,o,ho,rfl⟩)
   ·rw[h];exact hF
   ·exact ZS5 g hF ((hinc z).mp hz) ho
  ·intro h;rcases ZQ10 g hIb hF hu h with e | ⟨t,ht,o,ho,e⟩
   ·exact .inl e
   ·exact .inr ⟨t,(hinc t).mpr ht,o,ho,e⟩
theorem Zh8{es:List (Nat × Nat)}{u v i j:Nat}(c:Conn (es++[(u,v)]) i j):Conn es i j\/(Conn es i u/\Conn es v j)\/(Conn es i v/\Conn es u j):=by
 induction c with
 | refl i=>exact .inl (.refl i)
 | edge h =>
  rcases Yy7.mp h with h | h
  ·exact .inl (.edge h)
  ·cases Yy2.mp h;exact .inr (.inl ⟨.refl _,.refl _⟩)
 | symm _ ih =>
  rcases ih with a | ⟨a,b⟩ | ⟨a,b⟩
  ·exact .inl a.symm
  ·exact .inr (.inr ⟨b.symm,a.symm⟩)
  ·exact .inr (.inl ⟨b.symm,a.symm⟩)
 | trans _ _ ih1 ih2 =>
  rcases ih1 with a | ⟨a,b⟩ | ⟨a,b⟩ <;> rcases ih2 with c | ⟨c,d⟩ | ⟨c,d⟩
  ·exact .inl (a.trans c)
  ·exact .inr (.inl ⟨a.trans c,d⟩)
  ·exact .inr (.inr ⟨a.trans c,d⟩)
  ·exact .inr (.inl ⟨a,b.trans c⟩)
  ·exact .inr (.inl ⟨a,d⟩)
  ·exact .inl (a.trans d)
  ·exact .inr (.inr ⟨a,b.trans c⟩)
  ·exact .inl (a.trans d)
  ·exact .inr (.inr ⟨a,d⟩)
theorem ZW2{key:Int->Int}{ns ms:List Int}(h:Zo5 key ns ms):ms.Perm ns:=by
 obtain⟨p,h1,_,rfl⟩:=h;have e:(List.range ns.length).map (λi=>ns.getD i 0)=ns:=by
  refine Yy12 λi=>?_;rw[Yu];by_cases c:i<ns.length
  ·rw[Y1L c,Yy0 c];show some (ns.getD i 0)=_
   rw[Yy6,Yy0 c];rfl
  ·rw[YZ (by simpa using c),YZ (by lia)];rfl
 have:=h1.map λi=>ns.getD i 0
 rw[e]at this;exact this
theorem Zz211(key:Int->Int)(ns:List Int):∃ ms,Zo5 key ns ms:=by
 have hp:=List.mergeSort_perm (List.range ns.length) λi j=>decide (key (ns.getD i 0)<key (ns.getD j 0)\/(key (ns.getD i 0)=key (ns.getD j 0)/\i<=j));have hs:=Y3k (le:=λi j=>decide (key (ns.getD i 0)<key (ns.getD j 0)\/(key (ns.getD i 0)=key (ns.getD j 0)/\i<=j))) (λa b c h1 h2=>by simp only [Y0S]at *;grind) (λa b=>by simp only [Y2Y,Y0S];grind) (List.range ns.length)
 refine⟨_,_,hp,?_,rfl⟩;refine(hs.and (hp.nodup_iff.mpr List.nodup_range)).imp λ{a b} h=>?_;have h1:=Yw h.1
 have h2:=h.2;show key (ns.getD a 0)<key (ns.getD b 0)\/(key (ns.getD a 0)=key (ns.getD b 0)/\a<b)
 grind
theorem Zo8(n:Int)(ps:List (Int × Int))(I O F:List Int)(ld:Option Int):(unL n ps I O F ld).Pairwise (· < ·):=((Yz3 _).filter _).filter _
theorem ZE3{n:Int}{ps:List (Int × Int)}{I O:List Int}(g:Zv n ps)(ld:Option Int)(h:∃ U,With n ps I O U):∃ F inc fu,PartOk n ps I O ld F inc fu:=by
 obtain⟨L,l1,l2⟩:=Zd11 g;obtain⟨U,hU⟩:=h;obtain⟨F,hF,hm⟩:∃ F,With n ps I O F/\∀ U,With n ps I O U->HT.lexLt U F=false:=by
  have key:∀ M:List (List Int),M.Pairwise lexS->(∃ U∈M,With n ps I O U)->∃ F∈M,With n ps I O F/\∀ U∈M,With n ps I O U->HT.lexLt U F=false:=by
   intro M
   induction M with
   | nil=>rintro _ ⟨U,h,_⟩;cases h
   | cons x M ih =>
    intro hp hex;obtain⟨p1,p2⟩:=YK.mp hp;by_cases c:With n ps I O x
    ·refine⟨x,Ye,c,λV hV _=>?_⟩;rcases Yf.mp hV with e | e
     ·rw[e];exact Zs2 x
     ·cases q:HT.lexLt V x with
      | false=>rfl
      | true =>
       have z:=ZG4 q (p1 V e);rw[Zs2]at z;cases z
    ·obtain⟨V,hV,hw⟩:=hex;obtain⟨F,hF,a,b⟩:=ih p2 ⟨V,(Yf.mp hV).resolve_left λe=>c (e ▸ hw),hw⟩;refine⟨F,Yg _ hF,a,λV hV hw=>?_⟩;rcases Yf.mp hV with e | e
     ·exact absurd (e ▸ hw) c
     ·exact b V e hw
  obtain⟨F,_,a,b⟩:=key L l2 ⟨U,(l1 U).mpr hU.1,hU⟩;exact⟨F,a,λV hV=>b V ((l1 V).mpr hV.1) hV⟩
 obtain⟨inc,hi⟩:=Zz211 (λz=>PyProof.Rows.b2i (decide (ld=some z))) (alL n ps I O F ld);have hasc:=Zo8 n ps I O F ld
 cases hu:unL n ps I O F ld with
 | nil=>exact⟨F,inc,none,hF,hm,hi,⟨λ_=>hu,λ_=>rfl⟩,λy h=>by cases h⟩
 | cons y l =>
  rw[hu]at hasc;refine⟨F,inc,some y,hF,hm,hi,⟨λh=>(by cases h),λh=>(by rw[hu]at h;cases h)⟩,λv h=>?_⟩;cases h;rw[hu];refine⟨Ye,λv hv=>?_⟩;rcases Yf.mp hv with e | e
  ·rw[e];exact Y1j _
  ·exact Y1k ((YK.mp hasc).1 v e)
inductive RowR (n:Int) (ps:List (Int × Int)):Nat->List Int->List Int->Option Int->List (List Int)->Prop
 | und {d:Nat} {I O F inc:List Int} {ld:Option Int}:PartOk n ps I O ld F inc none->inc.length<=30->(∀ z∈inc,z∉F/\0<=z/\z<(ps.length:Int))->RowR n ps d I O ld (udL n ps I F inc)
 | div {d:Nat} {I O F inc:List Int} {z y:Int} {A B:List (List Int)}:PartOk n ps I O (some z) F inc (some y)->(I++[z]).Nodup->(∀ v∈I++[z],0<=v/\v<(ps.length:Int))->(∀ v∈I++[z],v∉O)->(O++[z]).length<=30->(∃ U,With n ps (I++[z]) O U)->(∃ U,With n ps I (O++[z]) U)->0<=y->y<(ps.length:Int)->PC n ps I (O++[z]) A.length->RowR n ps d I (O++[z]) (some y) A->RowR n ps d (I++[z]) O (some y) B->RowR n ps (d+1) I O (some z) (A++B.reverse)
theorem ZA7{key:Int->Int}{ns ms ms':List Int}(h:Zo5 key ns ms)(h':Zo5 key ns ms'):ms=ms':=by
 obtain⟨p,h1,h2,rfl⟩:=h;obtain⟨p',h1',h2',rfl⟩:=h';have e:p=p':=List.Perm.eq_of_pairwise (le:=Ahd λi=>key (ns.getD i 0)) (λa b _ _ x y=>by unfold Ahd at x y;omega) h2 h2' (h1.trans h1'.symm)
 rw[e]
theorem PartOk.uniq{n:Int}{ps:List (Int × Int)}{I O F F' inc inc':List Int}{ld fu fu':Option Int}(h1:PartOk n ps I O ld F inc fu)(h2:PartOk n ps I O ld F' inc' fu'):F=F'/\inc=inc'/\fu=fu':=by
 have eF:F=F':=ZV1 (h2.least F h1.tr) (h1.least F' h2.tr);subst eF;refine⟨rfl,ZA7 h1.inc h2.inc,?_⟩;cases fu with
 | none =>
  cases fu' with
  | none=>rfl
  | some y =>
   have:=(h2.some y rfl).1
   rw[h1.none.mp rfl]at this;cases this
 | some y =>
  cases fu' with
  | none =>
   have:=(h1.some y rfl).1
   rw[h2.none.mp rfl]at this;cases this
  | some y' =>
   obtain⟨a1,a2⟩:=h1.some y rfl;obtain⟨b1,b2⟩:=h2.some y' rfl
   have:=a2 y' b1
   have:=b2 y a1
   rw[show y=y' by omega]
def RowW(n:Int)(ps:List (Int × Int))(R:List (List Int)):Prop:=∃(ld:Option Int) (F inc:List Int) (fu:Option Int),PartOk n ps [] [] ld F inc fu/\(ld=none↔opL n ps [] [] F=[])/\(∀ y,ld=some y->y∈opL n ps [] [] F/\∀ z∈opL n ps [] [] F,y<=z)/\RowR n ps 31 [] [] ld R/\TC n ps R.length
section
variable{n:Int}{ps:List (Int × Int)}{I O F:List Int}{y z:Int}(g:Zv n ps)
include g
theorem ZK1(hIb:∀ v∈I,0<=v/\v<(ps.length:Int)):z∈opL n ps I O F↔(0<=z/\z<(ps.length:Int))/\z∉I/\z∉O/\z∉F/\¬ Conn (Zz6 ps I) (Zu ps z).1 (Zu ps z).2:=by
 unfold opL opn;rw[Yk,rgL_mem,Yy00];constructor
 ·rintro⟨h,h1,h2⟩;have a:=Zs1 (z:=z) g h.1 h.2
  exact⟨h,λq=>h1 (Yc _ (Yc _ q)),λq=>h1 (Yc _ (Yd _ q)),λq=>h1 (Yd _ q),λc=>h2 ((Zb1 (ZJ g hIb) a.1 a.2).mpr c)⟩
 ·rintro⟨h,h1,h2,h3,h4⟩;have a:=Zs1 (z:=z) g h.1 h.2
  refine⟨h,λq=>?_,λe=>h4 ((Zb1 (ZJ g hIb) a.1 a.2).mp e)⟩;rcases Yy7.mp q with q | q
  ·rcases Yy7.mp q with q | q
   ·exact h1 q
   ·exact h2 q
  ·exact h3 q
theorem Zu7(hIb:∀ v∈I,0<=v/\v<(ps.length:Int))(hF:With n ps I O F)(hz:z∈opL n ps I O F):∃ U,With n ps (I++[z]) O U:=by
 obtain⟨⟨z0,z1⟩,zI,zO,zF,hc⟩:=(ZK1 g hIb).mp hz;obtain⟨o,ho,hoI⟩:∃ o,o∈Zp3 n ps F z F/\o∉I:=Yy λno=>hc ((Yz4 g hF.1 z0 z1).mono (ZH λv hv=>Yy λh=>no ⟨v,hv,h⟩));obtain⟨h5,h6⟩:=ringA_iff.mp ho;have he:exg n ps F o z:=⟨h5,λe=>zF (by rw[e];exact h5),h6⟩
 have hw:=Zz62 g hF he hoI zO (Zf2 F o z) (ZU2 F o z);refine⟨xchT F o z,hw.1,λv hv=>?_,hw.2.2⟩;rcases Yy7.mp hv with hv | hv
 ·exact hw.2.1 v hv
 ·rw[Yy2.mp hv];exact xch_mem.mpr (.inr rfl)
theorem Zz613(hIb:∀ v∈I,0<=v/\v<(ps.length:Int))(y0:0<=y/\y<(ps.length:Int))(z0:0<=z/\z<(ps.length:Int))(h:(Conn (Zz6 ps I) (Zu ps y).1 (Zu ps z).1/\Conn (Zz6 ps I) (Zu ps z).2 (Zu ps y).2)\/(Conn (Zz6 ps I) (Zu ps y).1 (Zu ps z).2/\Conn (Zz6 ps I) (Zu ps z).1 (Zu ps y).2)):eky (pms n.toNat (Zz6 ps I)) ps y=eky (pms n.toNat (Zz6 ps I)) ps z:=by
 have hin:=ZJ g hIb;have a:=Zs1 (z:=y) g y0.1 y0.2
 have b:=Zs1 (z:=z) g z0.1 z0.2;rw[<- Zb1 hin a.1 b.1,<- Zb1 hin b.2 a.2,<- Zb1 hin a.1 b.2,<- Zb1 hin b.1 a.2]at h;show(min (mk (pms n.toNat (Zz6 ps I)) (Zu ps y).1) (mk (pms n.toNat (Zz6 ps I)) (Zu ps y).2),max (mk (pms n.toNat (Zz6 ps I)) (Zu ps y).1) (mk (pms n.toNat (Zz6 ps I)) (Zu ps y).2))=(min (mk (pms n.toNat (Zz6 ps I)) (Zu ps z).1) (mk (pms n.toNat (Zz6 ps I)) (Zu ps z).2),max (mk (pms n.toNat (Zz6 ps I)) (Zu ps z).1) (mk (pms n.toNat (Zz6 ps I)) (Zu ps z).2))
 rcases h with ⟨e1,e2⟩ | ⟨e1,e2⟩
 ·rw[e1,<- e2]
 ·rw[e1,<- e2,Int.min_comm,Int.max_comm]
end
section
variable{n:Int}{ps:List (Int × Int)}(g:Zv n ps)
include g
theorem ZP10{I O F inc:List Int}{ld fu:Option Int}(d:Nat)(hP:PartOk n ps I O ld F inc fu)(hIb:∀ v∈I,0<=v/\v<(ps.length:Int))(hu:unL n ps I O F ld=[]):∃ R,RowR n ps d I O ld R/\RowAll n ps I O R:=by
 obtain rfl:=hP.none.mpr hu;have hp:=ZW2 hP.inc
 have hnd:(alL n ps I O F ld).Nodup:=((((Yz3 _).imp λh e=>by lia:(rgL ps.length).Nodup)).filter _).filter _;have hinc:∀ z,z∈inc↔z∈opL n ps I O F:=λz=>by
  rw[hp.mem_iff];constructor
  ·exact λh=>(Yk.mp h).1
  ·intro h;refine Yy λno=>?_
   have:z∈unL n ps I O F ld:=Yk.mpr ⟨h,Yx no⟩
   rw[hu]at this;cases this
 have hlen:inc.length<=30:=by rw[hp.length_eq];refine Yt (YF ..) (Yt (ZG3 _ _ _ _) g.2.2.1)
 exact⟨_,.und hP hlen λz hz=>by obtain⟨h1,_,_,h2,_⟩:=(ZK1 g hIb).mp ((hinc z).mp hz);exact⟨h2,h1⟩,ZO10 g hIb hP.tr hu hinc (hp.nodup_iff.mpr hnd)⟩
theorem ZD12:∀(d:Nat) (I O F inc:List Int) (ld fu:Option Int),PartOk n ps I O ld F inc fu->I.Nodup->(∀ v∈I,0<=v/\v<(ps.length:Int))->(∀ v∈I,v∉O)->O.Nodup->(∀ v∈O,0<=v/\v<(ps.length:Int))->(ld=none->opL n ps I O F=[])->(∀ z,ld=some z->z∈opL n ps I O F)->ps.length<=d+I.length+O.length->∃ R,RowR n ps d I O ld R/\RowAll n ps I O R:=by
 intro d
 induction d with
 | zero =>
  intro I O F inc ld fu hP hIn hIb hIO hOn hOb _ _ hm;refine ZP10 g 0 hP hIb ?_;have hop:opL n ps I O F=[]:=Y1v.mpr λz hz=>by
   obtain⟨h1,h2,h3,_⟩:=(ZK1 g hIb).mp hz;have nd:(z :: (I++O)).Nodup:=Y0n.mpr ⟨λh=>(Yy7.mp h).elim h2 h3,YQ.mpr ⟨hIn,hOn,λa ha b hb e=>hIO a ha (e ▸ hb)⟩⟩
   have:=Zi2 (m:=rgL ps.length) nd λv hv=>rgL_mem.mpr (by
    rcases Yf.mp hv with e | e
    ·rw[e];exact h1
    ·exact(Yy7.mp e).elim (hIb v) (hOb v))
   rw[ZI,YD,Yy4]at this;lia
  unfold unL;rw[hop];rfl
 | succ d ih =>
  intro I O F inc ld fu hP hIn hIb hIO hOn hOb hl0 hl1 hm;by_cases hu:unL n ps I O F ld=[]
  ·exact ZP10 g _ hP hIb hu
  obtain⟨y,rfl⟩:∃ y,fu=some y:=by
   cases fu with
   | none=>exact absurd (hP.none.mp rfl) hu
   | some y=>exact⟨y,rfl⟩
  obtain⟨yu,_⟩:=hP.some y rfl;obtain⟨yo,ya⟩:=Yk.mp yu;have ya:=Yw ya
  obtain⟨z,rfl⟩:∃ z,ld=some z:=by
   cases ld with
   | none=>rw[hl0 rfl]at yo;cases yo
   | some z=>exact⟨z,rfl⟩
  have zo:=hl1 z rfl;obtain⟨y01,yI,yO,yF,yc⟩:=(ZK1 g hIb).mp yo;obtain⟨z01,zI,zO,zF,zc⟩:=(ZK1 g hIb).mp zo;have hne:eky (pms n.toNat (Zz6 ps I)) ps y≠eky (pms n.toNat (Zz6 ps I)) ps z:=λe=>ya (Yk.mpr ⟨yo,Yx ⟨z,rfl,e⟩⟩)
  have yz:y≠z:=λe=>hne (by rw[e]);have hIz:(I++[z]).Nodup:=YQ.mpr ⟨hIn,by simp,λa ha b hb e=>zI (by rw[<- Yy2.mp hb,<- e];exact ha)⟩
  have hOz:(O++[z]).Nodup:=YQ.mpr ⟨hOn,by simp,λa ha b hb e=>zO (by rw[<- Yy2.mp hb,<- e];exact ha)⟩;have hIzb:∀ v∈I++[z],0<=v/\v<(ps.length:Int):=λv hv=>(Yy7.mp hv).elim (hIb v) λh=>by rw[Yy2.mp h];exact z01
  have hOzb:∀ v∈O++[z],0<=v/\v<(ps.length:Int):=λv hv=>(Yy7.mp hv).elim (hOb v) λh=>by rw[Yy2.mp h];exact z01
  have hO30:(O++[z]).length<=30:=by
   have:=Zi2 (m:=rgL ps.length) hOz λv hv=>rgL_mem.mpr (hOzb v hv)
   rw[ZI]at this
   have:=g.2.2.1
   lia
  have hIzO:∀ v∈I++[z],v∉O:=λv hv=>(Yy7.mp hv).elim (hIO v) λh=>by rw[Yy2.mp h];exact zO
  have hIOz:∀ v∈I,v∉O++[z]:=λv hv h=>(Yy7.mp h).elim (hIO v hv) λh=>zI (by rw[<- Yy2.mp h];exact hv);obtain⟨s1,s2⟩:=Zt2 g hP.tr hP.least zF;obtain⟨F1,inc1,fu1,hP1⟩:=ZE3 g (some y) ⟨F,s1⟩;have e1:F1=F:=ZV1 (s2 F1 hP1.tr) (hP1.least F s1)
  subst e1;have hW:=Zu7 g hIb hP.tr zo
  obtain⟨F2,inc2,fu2,hP2⟩:=ZE3 g (some y) hW;have yF2:y∉F2:=λh=>(ZK3 g hP.tr hP.least hP2.tr hP2.least y h).elim yF yz
  obtain⟨A,hA1,hA2⟩:=ih I (O++[z]) F1 inc1 (some y) fu1 hP1 hIn hIb hIOz hOz hOzb (λh=>by cases h) (λv h=>by cases h;exact(ZK1 g hIb).mpr ⟨y01,yI,λh=>(Yy7.mp h).elim yO λh=>yz (Yy2.mp h),yF,yc⟩) (by rw[Yy4,Yj];lia)
  obtain⟨B,hB1,hB2⟩:=ih (I++[z]) O F2 inc2 (some y) fu2 hP2 hIz hIzb hIzO hOn hOb (λh=>by cases h) (λv h=>by
   cases h;refine(ZK1 g hIzb).mpr ⟨y01,λh=>(Yy7.mp h).elim yI λh=>yz (Yy2.mp h),yO,yF2,λc=>?_⟩;have e:Zz6 ps (I++[z])=Zz6 ps I++[((Zu ps z).1,(Zu ps z).2)]:=YL
   rw[e]at c;rcases Zh8 c with h | h
   ·exact yc h
   ·exact hne (Zz613 g hIb y01 z01 h)) (by rw[Yy4,Yj];lia)
  exact⟨_,.div hP hIz hIzb hIzO hO30 hW ⟨F1,s1⟩ y01.1 y01.2 hA2.pc hA1 hB1,Zz96 hA2 hB2⟩
theorem Zc11(h:∃ U,Zi n ps U):∃ R,RowW n ps R/\R.Nodup/\∀ T,T∈R↔Zi n ps T:=by
 obtain⟨U,hU⟩:=h;have hw:∀ T,With n ps [] [] T↔Zi n ps T:=λT=>⟨λh=>h.1,λh=>⟨h,λz q=>(by cases q),λz q=>(by cases q)⟩⟩
 obtain⟨F,_,_,hP0⟩:=ZE3 g none ⟨U,(hw U).mpr hU⟩;have hasc:(opL n ps [] [] F).Pairwise (· < ·):=(Yz3 _).filter _
 obtain⟨ld,h1,h2⟩:∃ ld:Option Int,(ld=none↔opL n ps [] [] F=[])/\∀ y,ld=some y->y∈opL n ps [] [] F/\∀ z∈opL n ps [] [] F,y<=z:=by
  cases ho:opL n ps [] [] F with
  | nil=>exact⟨none,⟨λ_=>rfl,λ_=>rfl⟩,λy h=>by cases h⟩
  | cons y l =>
   rw[ho]at hasc;refine⟨some y,⟨λh=>(by cases h),λh=>(by cases h)⟩,λv h=>?_⟩;cases h;refine⟨Ye,λv hv=>?_⟩;rcases Yf.mp hv with e | e
   ·rw[e];exact Y1j _
   ·exact Y1k ((YK.mp hasc).1 v e)
 obtain⟨F',inc,fu,hP⟩:=ZE3 g ld ⟨U,(hw U).mpr hU⟩;have eF:F'=F:=ZV1 (hP0.least F' hP.tr) (hP.least F hP0.tr)
 subst eF;obtain⟨R,r1,r2⟩:=ZD12 g 31 [] [] F' inc ld fu hP .nil (λv h=>by cases h) (λv h=>by cases h) .nil (λv h=>by cases h) (λe=>h1.mp e) (λz e=>(h2 z e).1) (by have:=g.2.2.1;simp;lia);exact⟨R,⟨ld,F',inc,fu,hP,h1,h2,r1,R,r2.1,λl=>(r2.2 l).trans (hw l),rfl⟩,r2.1,λT=>(r2.2 T).trans (hw T)⟩
end
end My
namespace L2
open PySem PySem.Spec PyProof.Rows PySem.MeetsSeq
section
variable{X:Cx}
def Zk11(K:PySem.W.Frag):V->List V->Hp->VK->Prop:=λx vs H Q=>∃(n:Nat) (l:Addr) (xs:List V) (y:V) (e:Addr->Bool) (j:Nat) (a:Addr),x=.ref l/\vs=[y]/\H l=some (.lst xs)/\n<=6/\(∀ v∈xs,∃ a,v=.ref a/\EqD K H n v y (e a))/\xs[j]?=some (.ref a)/\e a=true/\(∀ m b,m<j->xs[m]?=some (.ref b)->e b=false)/\Q (.int j) H
theorem ZN7 (K:PySem.W.Frag) (hu:X.A.units+8<cLine) (hk:X.K=K:=by rfl):MtM X "list.index" (Zk11 K):=by
 subst hk;intro pins s σ H x vs v us Q I rx rv h;obtain⟨n,l,xs,y,e,j,a,rfl,rfl,hH,hn,he,hj,hy,hno,q⟩:=h;cases rx;obtain⟨u,rfl,ru⟩:=rv.one;obtain⟨z,its,m,r,hl,ho⟩:=I.lstM hH;have hsz:sizeLine=16777216:=Y0r
 have hjl:j<xs.length:=(Yy1.mp hj).1;have at_:∀(i:Nat) (hi:i<its.toArray.size),∃ b,xs[i]?=some (.ref b)/\its.toArray[i]=.ref b:=λi hi=>by
  have hi2:i<its.length:=by simpa using hi
  obtain⟨w,ew,rw'⟩:=r.at hi2;obtain⟨b,rfl,_⟩:=he w (Yy9 ew);have e3:its[i]=Value.ref b:=rw'
  exact⟨b,ew,by simpa using e3⟩
 have hjs:j<its.toArray.size:=by rw[Ya];lia
 refine Y2l F.slot_list_index ⟨_,ho,rfl⟩ F.entry_list_index (F.args_list_index_2 _ _) (SeqAt.list_indexAt l its.toArray m none #[] u (λw=>match w with | .ref b=>e b | _=>false) j hjs (by lia) ?_ ?_) ⟨ho,λw hw=>?_,?_⟩
 ·obtain⟨b,e1,e2⟩:=at_ j hjs;rw[hj]at e1;cases e1;rw[e2];exact hy
 ·intro i hi hij;obtain⟨b,e1,e2⟩:=at_ i hi;rw[e2];exact hno i b hij e1
 ·exact Zx6 I (by show X.A.units+1+n<cLine;lia) ru r he w (by simpa using hw)
 ·exact⟨.int j,H,I.tok _,⟨_,rfl⟩,q⟩
end
end L2
namespace My
open PySem L2
theorem ZY8{P:Program}{w:World}{K:PySem.W.Frag}{mg:Str->Option Value}{base:Heap}{k:Nat}{f:Addr}{fd:FuncData}{ps:List Str}:FnOk P w K mg base CX0 k f fd ps λ_ _ _ _=>False:=⟨λ_ _ _ _ h=>h.elim,λ_ _ _ _ _ _ _ _ _ _ _ _ _ h=>h.elim⟩
theorem ZX6{α:Type}[DecidableEq α]{x:α}:∀ {l:List α},x∈l->∃ j:Nat,l[j]?=some x/\∀ i:Nat,i<j->l[i]?≠some x
 | y :: l,h=>by
  by_cases c:y=x
  ·exact⟨0,by rw[c];rfl,λi hi=>absurd hi (YW _)⟩
  ·obtain⟨j,h1,h2⟩:=ZX6 ((Yf.mp h).resolve_left λe=>c e.symm);refine⟨j+1,h1,λi hi=>?_⟩
   match i,hi with
   | 0,_=>exact λe=>c (Yh e)
   | i+1,hi=>exact h2 i (by lia)
theorem Zw7{K:PySem.W.Frag}{H:Hp}{xs:List V}{L:List (List Int)}{ta:Addr}{U:List Int}(hX:Bears (TupV H) xs L)(hta:SqT K H ta (IL U))(hU:U∈L):∃(e:Addr->Bool) (j:Nat) (a:Addr),(∀ v∈xs,∃ a,v=.ref a/\EqD K H 1 v (.ref ta) (e a))/\xs[j]?=some (.ref a)/\e a=true/\(∀ m b,m<j->xs[m]?=some (.ref b)->e b=false)/\L[j]?=some U:=by
 have key:∀ {c:Addr} {w:List Int},H c=some (.tup (IL w))->(TupV H (.ref c) U↔w=U):=λ{c w} hc=>by
  constructor
  ·rintro⟨c',e,h⟩;cases e;rw[hc]at h;injection h with h
   injection h with h;exact(List.map_inj_right (λ_ _ h=>by injection h)).mp h
  ·rintro rfl;exact⟨c,rfl,hc⟩
 obtain⟨j,h1,h2⟩:=ZX6 hU;obtain⟨v,hv,c,rfl,hc⟩:=hX.2 j U h1;refine⟨λa=>@decide (TupV H (.ref a) U) (Classical.propDecidable _),j,c,λv hv=>?_,hv,?_,λm b hm hb=>?_,h1⟩
 ·obtain⟨i,hi⟩:=YX hv;obtain⟨w,hw,c',rfl,hc'⟩:=hX.at hi;refine⟨c',rfl,?_⟩;have e:@decide (TupV H (.ref c') U) (Classical.propDecidable _)=decide (w=U):=by rw[Y1E];exact key hc'
  show EqD K H 1 (.ref c') (.ref ta) (@decide (TupV H (.ref c') U) (Classical.propDecidable _));rw[e];exact Ze3 (SqT.of hc') hta
 ·exact @Yx _ (Classical.propDecidable _) ((key hc).mpr rfl)
 ·obtain⟨w,hw,c',e,hc'⟩:=hX.at hb;cases e;exact @Yy09 _ (Classical.propDecidable _) λh=>h2 m hm (by rw[hw,(key hc').mp h])
end My
namespace L2
open PySem PyProof.Rows
variable{X:Cx}
def gLst(K:PySem.W.Frag)(n:Nat)(t:TGs):TG:=λv σ H Q=>∃ a xs,v=.ref a/\SqL K H a xs/\xs.length=n/\t xs σ H Q
theorem ZN12{es:List Expr}{k:Nat}{pos:Pos}{t:TGs}{n:Nat}(hc:X.calm=true)(h:PGs X es t)
  (hn:(assignEach es X.env).length=n:=by rfl) (hst:(assignEach es X.env).findIdx? (·.1)=none:=by rfl):PG X (.Tuple es k pos) (gLst X.K n t):=by
 intro pins s σ H v u Q I r hw;obtain⟨a,xs,e1,hq,hl,hw⟩:=hw;subst e1;cases r;obtain⟨its,rv,ht,hz⟩:=I.list hq;rw[assign_Tuple];refine Yy3 (Y2Z ?_);unfold unpack;rw[show(assignEach es X.env).length=its.toArray.size by simp[hn,<- hl,rv.length],hst];refine Yy3 (Y0e (PySem.W.kun_itemsOf (I.ok.hd hc) ht.isList λh' hx=>?_));have I1:Inv X pins σ H { s with heap:=h' }:=I.kept (t':=s.toks) λb o e=>hx b o (Yr (Yn e)) e
 exact h pins _ σ H xs _ Q I1 (by simpa using rv) hw
theorem Zq11(K:PySem.W.Frag){es:List Expr}{k:Nat}{pos:Pos}{t:TGs}{n:Nat}(hc:X.calm=true)(ht:PGs X es t)
  (hn:(assignEach es X.env).length=n:=by rfl) (hst:(assignEach es X.env).findIdx? (·.1)=none:=by rfl) (h:X.K=K:=by rfl):PG X (.Tuple es k pos) (gLst K n t):=h ▸ ZN12 hc ht hn hst
end L2
namespace My
open PySem L2
theorem Zm1{n:Int}{ps:List (Int × Int)}{d:Nat}{I O:List Int}{ld:Option Int}{R:List (List Int)}(g:Zv n ps)(h:RowR n ps d I O ld R):∀ T∈R,With n ps I O T:=by
 induction h with
 | und hP _ _ =>
  intro T hT;rcases Yf.mp hT with e | e
  ·rw[e];exact hP.tr
  ·obtain⟨z,hz,o,ho,rfl⟩:=udR_mem.mp e;exact ZS5 g hP.tr (Yk.mp ((ZW2 hP.inc).mem_iff.mp hz)).1 ho
 | div _ _ _ _ _ _ _ _ _ _ _ _ ihA ihB =>
  intro T hT;rcases Yy7.mp hT with h | h
  ·exact with_part.mpr (.inl (ihA T h))
  ·exact with_part.mpr (.inr (ihB T (Y0y.mp h)))
theorem Zh9{key:Int->Int}{ns ms:List Int}(h:Zo5 key ns ms):ms.Pairwise λa b=>key a<=key b:=by
 obtain⟨p,h1,h2,rfl⟩:=h;refine Y0B.mpr (h2.imp λ{a b} h=>?_);have h:key (ns.getD a 0)<key (ns.getD b 0)\/(key (ns.getD a 0)=key (ns.getD b 0)/\a<b):=h
 lia
theorem ZU5{k:Int->Int}:∀ {l:List Int},(∀ a∈l,k a=0\/k a=1)->l.Pairwise (λa b=>k a<=k b)->∃ l1 l2,l=l1++l2/\(∀ a∈l1,k a=0)/\∀ a∈l2,k a=1
 | [],_,_=>⟨[],[],rfl,λa h=>(by cases h),λa h=>(by cases h)⟩
 | a :: l,h0,h=>by
  obtain⟨p1,p2⟩:=YK.mp h;rcases h0 a Ye with e | e
  ·obtain⟨l1,l2,rfl,q1,q2⟩:=ZU5 (λb hb=>h0 b (Yg _ hb)) p2;exact⟨a :: l1,l2,rfl,λb hb=>(Yf.mp hb).elim (λz=>z ▸ e) (q1 b),q2⟩
  ·refine⟨[],a :: l,rfl,λa h=>(by cases h),λb hb=>?_⟩;rcases Yf.mp hb with z | z
   ·rw[z];exact e
   ·have:=p1 b z
    have:=h0 b (Yg _ z)
    lia
theorem led_key{z a:Int}:(PyProof.Rows.b2i (decide (some z=some a))=0↔a≠z)/\(PyProof.Rows.b2i (decide (some z=some a))=1↔a=z):=by
 by_cases c:a=z
 ·subst c;simp[PyProof.Rows.b2i]
 ·simp[PyProof.Rows.b2i,c,YY c]
theorem ZV7{ns ms:List Int}{z:Int}(h:Zo5 (λa=>PyProof.Rows.b2i (decide (some z=some a))) ns ms):∃ l1 l2,ms=l1++l2/\(∀ a∈l1,a≠z)/\∀ a∈l2,a=z:=by
 obtain⟨l1,l2,e,h1,h2⟩:=ZU5 (λa _=>by
  by_cases c:a=z
  ·exact .inr (led_key.2.mpr c)
  ·exact .inl (led_key.1.mpr c)) (Zh9 h)
 exact⟨l1,l2,e,λa ha=>led_key.1.mp (h1 a ha),λa ha=>led_key.2.mp (h2 a ha)⟩
theorem Zq8(n:Int)(ps:List (Int × Int))(I F:List Int):∀(l1 l2:List Int) (asc:Bool),∃ a,udR n ps I F (l1++l2) asc=udR n ps I F l1 asc++udR n ps I F l2 a
 | [],l2,asc=>⟨asc,rfl⟩
 | z :: l1,l2,asc=>by
  obtain⟨a,e⟩:=Zq8 n ps I F l1 l2 (!asc);refine⟨a,?_⟩;show lvR n ps I F asc z++udR n ps I F (l1++l2) (!asc)=(lvR n ps I F asc z++udR n ps I F l1 (!asc))++_
  rw[e,Y0a]
theorem Zv11{n:Int}{ps:List (Int × Int)}{I O F:List Int}{z:Int}(h:z∈opL n ps I O F):z∉F:=λq=>(Yw (Yk.mp h).2).1 (Yd _ q)
theorem ZR10{n:Int}{ps:List (Int × Int)}{I O F:List Int}{y z:Int}(h:y∈unL n ps I O F (some z)):y∉F/\y≠z:=by obtain⟨h1,h2⟩:=Yk.mp h;refine⟨Zv11 h1,λe=>Yw h2 (Yk.mpr ⟨h1,Yx ⟨z,rfl,by rw[e]⟩⟩)⟩
section
variable{n:Int}{ps:List (Int × Int)}{d:Nat}{I O:List Int}{R:List (List Int)}(g:Zv n ps)
include g
theorem Zz54{z:Int}(h:RowR n ps d I O (some z) R)(hz:∀ F,With n ps I O F->(∀ U,With n ps I O U->HT.lexLt U F=false)->z∉F):∃ A B,R=A++B/\(∀ T∈A,z∉T)/\∀ T∈B,z∈T:=by
 cases h with
 | und hP hl hi =>
  rename_i F inc;have zF:=hz F hP.tr hP.least
  obtain⟨l1,l2,rfl,q1,q2⟩:=ZV7 hP.inc;obtain⟨a,e⟩:=Zq8 n ps I F l1 l2 ((l1++l2).length % 2 == 1);refine⟨F :: udR n ps I F l1 ((l1++l2).length % 2 == 1),udR n ps I F l2 a,?_,λT hT=>?_,λT hT=>?_⟩
  ·unfold udL;rw[e];rfl
  ·rcases Yf.mp hT with e | e
   ·rw[e];exact zF
   ·obtain⟨v,hv,o,_,rfl⟩:=udR_mem.mp e;intro hh;rcases xch_mem.mp hh with q | q
    ·exact zF q.1
    ·exact q1 v hv q.symm
  ·obtain⟨v,hv,o,_,rfl⟩:=udR_mem.mp hT;exact xch_mem.mpr (.inr (q2 v hv).symm)
 | div hP _ _ _ _ _ _ _ _ _ hA hB =>
  rename_i F inc y A B;exact⟨_,_,rfl,λT hT=>(Zm1 g hA T hT).2.2 z (by simp),λT hT=>(Zm1 g hB T (Y0y.mp hT)).2.1 z (by simp)⟩
theorem Zy4{ld:Option Int}(h:RowR n ps d I O ld R):∀ F,With n ps I O F->(∀ U,With n ps I O U->HT.lexLt U F=false)->(∀ z,ld=some z->z∉F)->R[0]?=some F:=by
 induction h with
 | und hP _ _ =>
  intro F hF hm _;rw[ZV1 (hP.least F hF) (hm _ hP.tr)];rfl
 | div hP _ _ _ _ _ _ _ _ _ _ _ ihA _ =>
  intro F hF hm hz;obtain⟨s1,s2⟩:=Zt2 g hF hm (hz _ rfl);have e:=ZV1 (hP.least F hF) (hm _ hP.tr)
  have:=ihA F s1 s2 λy' e'=>by cases e';rw[e];exact(ZR10 (hP.some _ rfl).1).1
  rw[Yp (Yy1.mp this).1,this]
end
theorem Zz72{n:Int}{ps:List (Int × Int)}{I O:List Int}{z:Int}{A B:List (List Int)}(h:RowAll n ps I O (A++B))(hA:∀ T∈A,z∉T)(hB:∀ T∈B,z∈T):RowAll n ps I (O++[z]) A/\RowAll n ps (I++[z]) O B:=by
 obtain⟨n1,n2,_⟩:=YQ.mp h.1;refine⟨⟨n1,λT=>⟨λhT=>?_,λhT=>?_⟩⟩,n2,λT=>⟨λhT=>?_,λhT=>?_⟩⟩
 ·exact(with_part.mp ((h.2 T).mp (Yc _ hT))).resolve_right λq=>hA T hT (q.2.1 z (by simp))
 ·exact(Yy7.mp ((h.2 T).mpr (with_part.mpr (.inl hT)))).resolve_right λq=>hT.2.2 z (by simp) (hB T q)
 ·exact(with_part.mp ((h.2 T).mp (Yd _ hT))).resolve_left λq=>q.2.2 z (by simp) (hB T hT)
 ·exact(Yy7.mp ((h.2 T).mpr (with_part.mpr (.inr hT)))).resolve_left λq=>hA T q (hT.2.1 z (by simp))
theorem Zo3{α:Type}{A B:List α}{p:α->Prop}{j:Nat}{x:α}(h:(A++B)[j]?=some x)(hA:∀ T∈A,¬ p T)(hB:∀ T∈B,p T):p x↔A.length<=j:=by
 by_cases c:j<A.length
 ·rw[Yp c]at h;exact⟨λq=>absurd q (hA x (Yy9 h)),λq=>by lia⟩
 ·rw[Yq (by lia)]at h;exact⟨λ_=>by omega,λ_=>hB x (Yy9 h)⟩
theorem ZE11{N i:Nat}(h:i<N):mk (pms N []) i=(i:Int):=by
 have e:=Zy1 (m:=pms N []) (i:=i) (by rw[Zw];exact h);have e2:(pms N [])[i]?=some (i:Int):=by show((List.range N).map λ(i:Nat)=>(i:Int))[i]?=_;rw[Yu,Y1L h];rfl
 rw[e2]at e;exact(Yh e).symm
theorem Zv6{n:Int}{ps:List (Int × Int)}{z:Int}(g:Zv n ps)(z0:0<=z)(z1:z<(ps.length:Int)):mk (pms n.toNat []) (ps.getD z.toNat (0,0)).1.toNat=(ps.getD z.toNat (0,0)).1/\mk (pms n.toNat []) (ps.getD z.toNat (0,0)).2.toNat=(ps.getD z.toNat (0,0)).2:=by obtain⟨p,hp⟩:∃ p,ps[z.toNat]?=some p:=⟨_,Yy0 (by lia)⟩;obtain⟨a,b,c,d⟩:=g.2.2.2 p (Yy9 hp);rw[ZO hp,ZE11 (by grind),ZE11 (by grind)];lia
theorem Zz73{l:List Int}{ld ld':Option Int}(h1:ld=none↔l=[])(h2:∀ y,ld=some y->y∈l/\∀ z∈l,y<=z)(h1':ld'=none↔l=[])(h2':∀ y,ld'=some y->y∈l/\∀ z∈l,y<=z):ld=ld':=by
 cases ld with
 | none=>exact(h1'.mpr (h1.mp rfl)).symm
 | some y =>
  cases ld' with
  | none=>exact absurd (h1.mpr (h1'.mp rfl)) (by simp)
  | some y' =>
   obtain⟨a1,a2⟩:=h2 y rfl;obtain⟨b1,b2⟩:=h2' y' rfl
   have:=a2 y' b1
   have:=b2 y a1
   rw[show y=y' by lia]
theorem with_none{n:Int}{ps:List (Int × Int)}{T:List Int}:With n ps [] [] T↔Zi n ps T:=⟨λh=>h.1,λh=>⟨h,λz q=>(by cases q),λz q=>(by cases q)⟩⟩
theorem Zy8{n:Int}{ps:List (Int × Int)}{R:List (List Int)}{F:List Int}{ld:Option Int}(h:RowW n ps R)(hF:Zi n ps F)(hFm:∀ U,Zi n ps U->HT.lexLt U F=false)(h1:ld=none↔opL n ps [] [] F=[])(h2:∀ y,ld=some y->y∈opL n ps [] [] F/\∀ z∈opL n ps [] [] F,y<=z):∃ inc fu,PartOk n ps [] [] ld F inc fu/\RowR n ps 31 [] [] ld R:=by
 obtain⟨ld',F',inc,fu,hP,a1,a2,hR,_⟩:=h;have eF:F'=F:=ZV1 (hFm F' hP.tr.1) (hP.least F (with_none.mpr hF))
 subst eF;have el:=Zz73 a1 a2 h1 h2
 subst el;exact⟨inc,fu,hP,hR⟩
theorem Za6{n:Int}{ps:List (Int × Int)}{R:List (List Int)}{F T:List Int}{z:Int}{fu:Option Int}{c1 j:Nat}(g:Zv n ps)(hF:Zi n ps F)(hFm:∀ U,Zi n ps U->HT.lexLt U F=false)(hz:z∈opL n ps [] [] F)(hzm:∀ v∈opL n ps [] [] F,z<=v)
  (hfu0:fu=none↔unL n ps [] [] F (some z)=[]) (hfu1:∀ y,fu=some y->y∈unL n ps [] [] F (some z)/\∀ v∈unL n ps [] [] F (some z),y<=v) (hR:RowW n ps R) (hAll:RowAll n ps [] [] R) (hj:R[j]?=some T) (hc:PC n ps [z] [] c1) :
  (z∈T↔(R.length:Int) - c1<=j)/\((j:Int)=0↔T=F)/\∀ y,fu=some y->z<y/\(z∈T->∀ c2,PC n ps [z,y] [] c2->(y∈T↔(j:Int)<R.length - c1+c2))/\(z∉T->∀ c2,PC n ps [] [z,y] c2->(y∈T↔(c2:Int)<=j)):=by
 obtain⟨inc,fu',hP,hRR⟩:=Zy8 (ld:=some z) hR hF hFm ⟨λh=>(by cases h),λh=>(by rw[h]at hz;cases hz)⟩ λy h=>by cases h;exact⟨hz,hzm⟩
 have efu:fu'=fu:=Zz73 hP.none hP.some hfu0 hfu1;subst efu;have hFw:=with_none.mpr hF
 have hFwm:∀ U,With n ps [] [] U->HT.lexLt U F=false:=λU hU=>hFm U hU.1;have zF:=Zv11 hz
 have leadF:∀ F',With n ps [] [] F'->(∀ U,With n ps [] [] U->HT.lexLt U F'=false)->z∉F':=λF' h1 h2=>by rw[ZV1 (hFwm F' h1) (h2 F hFw)];exact zF
 have first:=Zy4 g hRR F hFw hFwm λv e=>by cases e;exact zF
 have hjl:=(Yy1.mp hj).1;refine⟨?_,?_,λy ey=>?_⟩
 ·obtain⟨A,B,rfl,hA,hB⟩:=Zz54 g hRR leadF;obtain⟨_,rB⟩:=Zz72 hAll hA hB;have e:=rB.pc.uniq hc
  rw[Zo3 hj hA hB,Yy4];omega
 ·constructor
  ·intro e;rw[show j=0 by lia,first]at hj;exact(Yh hj).symm
  ·intro e
   have:=(Y2A hjl hAll.1).mp (hj.trans (by rw[e];exact first.symm))
   grind
 ·subst ey;obtain⟨yu,_⟩:=hfu1 y rfl;obtain⟨yF,yz⟩:=ZR10 yu;have zy:z<y:=by
   have:=hzm y (Yk.mp yu).1
   lia
  refine⟨zy,?_⟩;have hIb:∀ v∈([]:List Int),0<=v/\v<(ps.length:Int):=λv h=>by cases h
  cases hRR with
  | und hP' _ _ =>
   have:=(hP.uniq hP').2.2
   cases this
  | div hP' a1 a2 a3 a4 hW a6 a7 a8 a9 hRA hRB =>
   rename_i F' inc' y' A B;obtain⟨rfl,rfl,e⟩:=hP.uniq hP';cases e;have hAz:∀ U∈A,z∉U:=λU hU=>(Zm1 g hRA U hU).2.2 z (by simp)
   have hBz:∀ U∈B.reverse,z∈U:=λU hU=>(Zm1 g hRB U (Y0y.mp hU)).2.1 z (by simp);obtain⟨rA,rB⟩:=Zz72 hAll hAz hBz;have rB':RowAll n ps ([]++[z]) [] B:=⟨(Y2y B).nodup_iff.mp rB.1,λU=>by rw[<- rB.2 U,Y0y]⟩
   have e1:=rB'.pc.uniq hc;have hin:=Zo3 (p:=λU=>z∈U) hj hAz hBz
   obtain⟨s1,s2⟩:=Zt2 g hFw hFwm zF;constructor
   ·intro zT c2 hc2;have hAj:=hin.mp zT
    obtain⟨F2,_,_,hP2⟩:=ZE3 g (some y) hW;obtain⟨A2,B2,eB,hA2,hB2⟩:=Zz54 g hRB λF' h1 h2=>by rw[ZV1 (hP2.least F' h1) (h2 F2 hP2.tr)];exact λq=>(ZK3 g hFw hFwm hP2.tr hP2.least y q).elim yF yz
    rw[eB]at rB';obtain⟨_,r2⟩:=Zz72 rB' hA2 hB2;have e2:=r2.pc.uniq hc2
    rw[Yq hAj]at hj;have hjl2:=(Yy1.mp hj).1
    rw[YS]at hjl2;rw[Y0X hjl2,eB]at hj
    have:=Zo3 (p:=λU=>y∈U) hj hA2 hB2
    rw[this];have l1:B.length=A2.length+B2.length:=by rw[eB,Yy4]
    rw[<- eB]at *;rw[Yy4,YS];lia
   ·intro zT c2 hc2;have hAj:j<A.length:=Y2K λh=>zT (hin.mpr h)
    obtain⟨A1,B1,eA,hA1,hB1⟩:=Zz54 g hRA λF' h1 h2=>by rw[ZV1 (s2 F' h1) (h2 F s1)];exact yF
    rw[eA]at rA;obtain⟨r1,_⟩:=Zz72 rA hA1 hB1;have e2:=r1.pc.uniq hc2
    rw[Yp hAj,eA]at hj
    have:=Zo3 (p:=λU=>y∈U) hj hA1 hB1
    rw[this];lia
def top(i:Nat):Stmt:=PySem.Challenge.pw_spanrow_k43_whole_halves_of_the_row.main.body.getD i (.Pass ⟨0,0,0,0⟩)
abbrev sZ0:Stmt:=top 10
abbrev sZ1:Stmt:=top 11
abbrev sZ2:Stmt:=top 12
abbrev sZ3:Stmt:=top 13
abbrev sZ4:Stmt:=top 14
abbrev sZ5:Stmt:=top 15
abbrev sZ6:Stmt:=top 21
abbrev sZ7:Stmt:=top 20
abbrev sZ8:Stmt:=ZP8 (top 19) 0
abbrev sZ9:Stmt:=top 22
abbrev sZa:Stmt:=top 23
abbrev sZb:Stmt:=top 24
abbrev sZc:Stmt:=top 25
abbrev sZd:Stmt:=top 26
abbrev sZe:Stmt:=top 27
abbrev sZf:Stmt:=top 28
abbrev sZg:Stmt:=top 29
abbrev sZh:Stmt:=top 30
abbrev sZi:Stmt:=top 31
abbrev sZj:Stmt:=top 32
abbrev sZk:Stmt:=top 34
abbrev sZl:Stmt:=top 35
abbrev sZm:Stmt:=top 36
abbrev sZn:Stmt:=top 37
abbrev sZo:Stmt:=top 38
abbrev sZp:Stmt:=top 40
abbrev sZq:Stmt:=top 41
abbrev sZr:Stmt:=top 42
abbrev sZs:Stmt:=top 43
abbrev sZt:Stmt:=top 44
abbrev sZu:Stmt:=top 45
abbrev sZv:Stmt:=top 47
abbrev sZw:Stmt:=top 50
abbrev sZx:Stmt:=top 51
abbrev sZy:Stmt:=ZP8 (top 52) 0
abbrev sZz:Stmt:=top 53
abbrev sZA:Stmt:=top 54
abbrev sZB:Stmt:=top 55
abbrev sZC:Stmt:=top 56
abbrev sZD:Stmt:=top 57
abbrev sZE:Stmt:=top 58
abbrev sZF:Stmt:=top 59
abbrev sZG:Stmt:=top 48
abbrev sZH:Stmt:=top 61
abbrev sZI:Stmt:=top 62
abbrev sZJ:Stmt:=top 60
abbrev sZK:Stmt:=top 63
abbrev sZL:Stmt:=top 65
abbrev sZM:Stmt:=top 66
abbrev sZN:Stmt:=top 67
abbrev sZO:Stmt:=top 68
abbrev sZP:Stmt:=top 69
abbrev sZQ:Stmt:=top 70
abbrev sZR:Stmt:=top 71
abbrev sZS:Stmt:=top 72
abbrev sZT:Stmt:=top 73
abbrev sZU:Stmt:=top 74
abbrev sZV:Stmt:=top 75
set_option genInjectivity false in
structure Adr where
 aZ0:Addr
 dZ0:FuncData
 aZ1:Addr
 dZ1:FuncData
 aZ2:Addr
 dZ2:FuncData
 aZ3:Addr
 dZ3:FuncData
 aZ4:Addr
 dZ4:FuncData
 aZ5:Addr
 dZ5:FuncData
 aZ6:Addr
 dZ6:FuncData
 aZ7:Addr
 dZ7:FuncData
 aZ8:Addr
 dZ8:FuncData
 aZ9:Addr
 dZ9:FuncData
 aZa:Addr
 dZa:FuncData
 aZb:Addr
 dZb:FuncData
 aZc:Addr
 dZc:FuncData
 aZd:Addr
 dZd:FuncData
 aZe:Addr
 dZe:FuncData
 aZf:Addr
 dZf:FuncData
 aZg:Addr
 dZg:FuncData
 aZh:Addr
 dZh:FuncData
 aZi:Addr
 dZi:FuncData
 aZj:Addr
 dZj:FuncData
 aZk:Addr
 dZk:FuncData
 aZl:Addr
 dZl:FuncData
 aZm:Addr
 dZm:FuncData
 aZn:Addr
 dZn:FuncData
 aZo:Addr
 dZo:FuncData
 aZp:Addr
 dZp:FuncData
 aZq:Addr
 dZq:FuncData
 aZr:Addr
 dZr:FuncData
 aZs:Addr
 dZs:FuncData
 aZt:Addr
 dZt:FuncData
 aZu:Addr
 dZu:FuncData
 aZv:Addr
 dZv:FuncData
 aZw:Addr
 dZw:FuncData
 aZx:Addr
 dZx:FuncData
 aZy:Addr
 dZy:FuncData
 aZz:Addr
 dZz:FuncData
 aZA:Addr
 dZA:FuncData
 aZB:Addr
 dZB:FuncData
 aZC:Addr
 dZC:FuncData
 aZD:Addr
 dZD:FuncData
 aZE:Addr
 dZE:FuncData
 aZF:Addr
 dZF:FuncData
 aZG:Addr
 dZG:FuncData
 aZH:Addr
 dZH:FuncData
 aZI:Addr
 dZI:FuncData
 aZJ:Addr
 dZJ:FuncData
 aZK:Addr
 dZK:FuncData
 aZL:Addr
 dZL:FuncData
 aZM:Addr
 dZM:FuncData
 aZN:Addr
 dZN:FuncData
 aZO:Addr
 dZO:FuncData
 aZP:Addr
 dZP:FuncData
 aZQ:Addr
 dZQ:FuncData
 aZR:Addr
 dZR:FuncData
 aZS:Addr
 dZS:FuncData
 aZT:Addr
 dZT:FuncData
 aZU:Addr
 dZU:FuncData
 aZV:Addr
 dZV:FuncData
 A_Web:Addr
 A_Part:Addr
structure Txt (K:PySem.W.Frag) (mg:Str->Option Value) (t:Adr):Prop where
 fZ0:Fun K "refuse_not_square" "refuse_not_square" sZ0 t.aZ0 t.dZ0
 bZ0:Binds K t.dZ0 ["table"] []
 mZ0:mg "refuse_not_square"=some (.ref t.aZ0)
 fZ1:Fun K "row_taken_off" "row_taken_off" sZ1 t.aZ1 t.dZ1
 bZ1:Binds K t.dZ1 ["row","pivot","last"] []
 mZ1:mg "row_taken_off"=some (.ref t.aZ1)
 fZ2:Fun K "first_with_some" "first_with_some" sZ2 t.aZ2 t.dZ2
 bZ2:Binds K t.dZ2 ["rows"] []
 mZ2:mg "first_with_some"=some (.ref t.aZ2)
 fZ3:Fun K "determinant" "determinant" sZ3 t.aZ3 t.dZ3
 bZ3:Binds K t.dZ3 ["table"] []
 mZ3:mg "determinant"=some (.ref t.aZ3)
 fZ4:Fun K "row_without" "row_without" sZ4 t.aZ4 t.dZ4
 bZ4:Binds K t.dZ4 ["row","number"] []
 mZ4:mg "row_without"=some (.ref t.aZ4)
 fZ5:Fun K "table_without" "table_without" sZ5 t.aZ5 t.dZ5
 bZ5:Binds K t.dZ5 ["table","number"] []
 mZ5:mg "table_without"=some (.ref t.aZ5)
 fZ6:Fun K "is_tie" "is_tie" sZ6 t.aZ6 t.dZ6
 bZ6:Binds K t.dZ6 ["web","number"] []
 mZ6:mg "is_tie"=some (.ref t.aZ6)
 fZ7:Fun K "refuse_bad_web" "refuse_bad_web" sZ7 t.aZ7 t.dZ7
 bZ7:Binds K t.dZ7 ["places","ties"] []
 mZ7:mg "refuse_bad_web"=some (.ref t.aZ7)
 fZ8:Fun K "__init__" "Web.__init__" sZ8 t.aZ8 t.dZ8
 bZ8:Binds K t.dZ8 ["self","places","ties"] []
 fZ9:Fun K "all_ties" "all_ties" sZ9 t.aZ9 t.dZ9
 bZ9:Binds K t.dZ9 ["web"] []
 mZ9:mg "all_ties"=some (.ref t.aZ9)
 fZa:Fun K "ties_beside" "ties_beside" sZa t.aZa t.dZa
 bZa:Binds K t.dZa ["web","ties"] []
 mZa:mg "ties_beside"=some (.ref t.aZa)
 fZb:Fun K "ties_without" "ties_without" sZb t.aZb t.dZb
 bZb:Binds K t.dZb ["ties","left_out"] []
 mZb:mg "ties_without"=some (.ref t.aZb)
 fZc:Fun K "have_common" "have_common" sZc t.aZc t.dZc
 bZc:Binds K t.dZc ["one","other"] []
 mZc:mg "have_common"=some (.ref t.aZc)
 fZd:Fun K "is_set" "is_set" sZd t.aZd t.dZd
 bZd:Binds K t.dZd ["web","ties"] []
 mZd:mg "is_set"=some (.ref t.aZd)
 fZe:Fun K "made_set" "made_set" sZe t.aZe t.dZe
 bZe:Binds K t.dZe ["web","ties"] []
 mZe:mg "made_set"=some (.ref t.aZe)
 fZf:Fun K "merged_marks" "merged_marks" sZf t.aZf t.dZf
 bZf:Binds K t.dZf ["web","marks","ties"] []
 mZf:mg "merged_marks"=some (.ref t.aZf)
 fZg:Fun K "piece_marks" "piece_marks" sZg t.aZg t.dZg
 bZg:Binds K t.dZg ["web","ties"] []
 mZg:mg "piece_marks"=some (.ref t.aZg)
 fZh:Fun K "pieces_of" "pieces_of" sZh t.aZh t.dZh
 bZh:Binds K t.dZh ["web","ties"] []
 mZh:mg "pieces_of"=some (.ref t.aZh)
 fZi:Fun K "is_joined" "is_joined" sZi t.aZi t.dZi
 bZi:Binds K t.dZi ["web","ties"] []
 mZi:mg "is_joined"=some (.ref t.aZi)
 fZj:Fun K "refuse_parted" "refuse_parted" sZj t.aZj t.dZj
 bZj:Binds K t.dZj ["web"] []
 mZj:mg "refuse_parted"=some (.ref t.aZj)
 fZk:Fun K "weighted_table" "weighted_table" sZk t.aZk t.dZk
 bZk:Binds K t.dZk ["web","weights"] []
 mZk:mg "weighted_table"=some (.ref t.aZk)
 fZl:Fun K "pull_table" "pull_table" sZl t.aZl t.dZl
 bZl:Binds K t.dZl ["web"] []
 mZl:mg "pull_table"=some (.ref t.aZl)
 fZm:Fun K "tree_count" "tree_count" sZm t.aZm t.dZm
 bZm:Binds K t.dZm ["web"] []
 mZm:mg "tree_count"=some (.ref t.aZm)
 fZn:Fun K "part_count" "part_count" sZn t.aZn t.dZn
 bZn:Binds K t.dZn ["web","inside","outside"] []
 mZn:mg "part_count"=some (.ref t.aZn)
 fZo:Fun K "count_with" "count_with" sZo t.aZo t.dZo
 bZo:Binds K t.dZo ["web","inside","outside"] []
 mZo:mg "count_with"=some (.ref t.aZo)
 fZp:Fun K "is_tree" "is_tree" sZp t.aZp t.dZp
 bZp:Binds K t.dZp ["web","ties"] []
 mZp:mg "is_tree"=some (.ref t.aZp)
 fZq:Fun K "refuse_no_tree" "refuse_no_tree" sZq t.aZq t.dZq
 bZq:Binds K t.dZq ["web","tree"] []
 mZq:mg "refuse_no_tree"=some (.ref t.aZq)
 fZr:Fun K "grown_tree" "grown_tree" sZr t.aZr t.dZr
 bZr:Binds K t.dZr ["web","inside","order"] []
 mZr:mg "grown_tree"=some (.ref t.aZr)
 fZs:Fun K "least_tree" "least_tree" sZs t.aZs t.dZs
 bZs:Binds K t.dZs ["web"] []
 mZs:mg "least_tree"=some (.ref t.aZs)
 fZt:Fun K "tree_cut" "tree_cut" sZt t.aZt t.dZt
 bZt:Binds K t.dZt ["web","tree","tie"] []
 mZt:mg "tree_cut"=some (.ref t.aZt)
 fZu:Fun K "ring_of" "ring_of" sZu t.aZu t.dZu
 bZu:Binds K t.dZu ["web","tree","tie"] []
 mZu:mg "ring_of"=some (.ref t.aZu)
 fZv:Fun K "least_in" "least_in" sZv t.aZv t.dZv
 bZv:Binds K t.dZv ["web","inside","outside"] []
 mZv:mg "least_in"=some (.ref t.aZv)
 fZw:Fun K "end_pieces" "end_pieces" sZw t.aZw t.dZw
 bZw:Binds K t.dZw ["web","marks","tie"] []
 mZw:mg "end_pieces"=some (.ref t.aZw)
 fZx:Fun K "open_ties" "open_ties" sZx t.aZx t.dZx
 bZx:Binds K t.dZx ["web","marks","gone"] []
 mZx:mg "open_ties"=some (.ref t.aZx)
 fZy:Fun K "__init__" "Part.__init__" sZy t.aZy t.dZy
 bZy:Binds K t.dZy ["self","web","kept","shut","lead"] []
 fZz:Fun K "whole_part" "whole_part" sZz t.aZz t.dZz
 bZz:Binds K t.dZz ["web"] []
 mZz:mg "whole_part"=some (.ref t.aZz)
 fZA:Fun K "half_without" "half_without" sZA t.aZA t.dZA
 bZA:Binds K t.dZA ["part"] []
 mZA:mg "half_without"=some (.ref t.aZA)
 fZB:Fun K "half_with" "half_with" sZB t.aZB t.dZB
 bZB:Binds K t.dZB ["part"] []
 mZB:mg "half_with"=some (.ref t.aZB)
 fZC:Fun K "part_size" "part_size" sZC t.aZC t.dZC
 bZC:Binds K t.dZC ["part"] []
 mZC:mg "part_size"=some (.ref t.aZC)
 fZD:Fun K "trees_with_tie" "trees_with_tie" sZD t.aZD t.dZD
 bZD:Binds K t.dZD ["part","into"] []
 mZD:mg "trees_with_tie"=some (.ref t.aZD)
 fZE:Fun K "undivided_row" "undivided_row" sZE t.aZE t.dZE
 bZE:Binds K t.dZE ["part"] []
 mZE:mg "undivided_row"=some (.ref t.aZE)
 fZF:Fun K "trees_between" "trees_between" sZF t.aZF t.dZF
 bZF:Binds K t.dZF ["part","size","start","stop"] []
 mZF:mg "trees_between"=some (.ref t.aZF)
 fZG:Fun K "refuse_below_nought" "refuse_below_nought" sZG t.aZG t.dZG
 bZG:Binds K t.dZG ["number"] []
 mZG:mg "refuse_below_nought"=some (.ref t.aZG)
 fZH:Fun K "row_from" "row_from" sZH t.aZH t.dZH
 bZH:Binds K t.dZH ["web","number","most"] []
 mZH:mg "row_from"=some (.ref t.aZH)
 fZI:Fun K "row_at" "row_at" sZI t.aZI t.dZI
 bZI:Binds K t.dZI ["web","number"] []
 mZI:mg "row_at"=some (.ref t.aZI)
 fZJ:Fun K "number_in" "number_in" sZJ t.aZJ t.dZJ
 bZJ:Binds K t.dZJ ["part","size","tree"] []
 mZJ:mg "number_in"=some (.ref t.aZJ)
 fZK:Fun K "row_number" "row_number" sZK t.aZK t.dZK
 bZK:Binds K t.dZK ["web","tree"] []
 mZK:mg "row_number"=some (.ref t.aZK)
 fZL:Fun K "_law_at" "_law_at" sZL t.aZL t.dZL
 bZL:Binds K t.dZL ["script","k"] []
 mZL:mg "_law_at"=some (.ref t.aZL)
 fZM:Fun K "_law_mixed" "_law_mixed" sZM t.aZM t.dZM
 bZM:Binds K t.dZM ["cell","k"] []
 mZM:mg "_law_mixed"=some (.ref t.aZM)
 fZN:Fun K "_law_digits" "_law_digits" sZN t.aZN t.dZN
 bZN:Binds K t.dZN ["script","size"] []
 mZN:mg "_law_digits"=some (.ref t.aZN)
 fZO:Fun K "_law_stirred" "_law_stirred" sZO t.aZO t.dZO
 bZO:Binds K t.dZO ["script","size"] []
 mZO:mg "_law_stirred"=some (.ref t.aZO)
 fZP:Fun K "_law_large" "_law_large" sZP t.aZP t.dZP
 bZP:Binds K t.dZP ["script"] []
 mZP:mg "_law_large"=some (.ref t.aZP)
 fZQ:Fun K "_law_cells" "_law_cells" sZQ t.aZQ t.dZQ
 bZQ:Binds K t.dZQ ["script","most"] []
 mZQ:mg "_law_cells"=some (.ref t.aZQ)
 fZR:Fun K "_law_far_web" "_law_far_web" sZR t.aZR t.dZR
 bZR:Binds K t.dZR ["script"] []
 mZR:mg "_law_far_web"=some (.ref t.aZR)
 fZS:Fun K "_law_free" "_law_free" sZS t.aZS t.dZS
 bZS:Binds K t.dZS ["web"] []
 mZS:mg "_law_free"=some (.ref t.aZS)
 fZT:Fun K "_law_leads" "_law_leads" sZT t.aZT t.dZT
 bZT:Binds K t.dZT ["web"] []
 mZT:mg "_law_leads"=some (.ref t.aZT)
 fZU:Fun K "_law_good" "_law_good" sZU t.aZU t.dZU
 bZU:Binds K t.dZU ["web","leads","total","number"] []
 mZU:mg "_law_good"=some (.ref t.aZU)
 fZV:Fun K "law" "law" sZV t.aZV t.dZV
 bZV:Binds K t.dZV ["script"] []
 mZV:mg "law"=some (.ref t.aZV)
 c_Web:mg "Web"=some (.ref t.A_Web)
 cl_Web:Cls K t.A_Web
 k_Web:Mk K t.A_Web t.aZ8
 n_Web_places:NoAttr K t.A_Web "places"
 n_Web_ties:NoAttr K t.A_Web "ties"
 c_Part:mg "Part"=some (.ref t.A_Part)
 cl_Part:Cls K t.A_Part
 k_Part:Mk K t.A_Part t.aZy
 n_Part_web:NoAttr K t.A_Part "web"
 n_Part_kept:NoAttr K t.A_Part "kept"
 n_Part_shut:NoAttr K t.A_Part "shut"
 n_Part_lead:NoAttr K t.A_Part "lead"
 n_Part_least:NoAttr K t.A_Part "least"
 n_Part_incoming:NoAttr K t.A_Part "incoming"
 n_Part_further:NoAttr K t.A_Part "further"
 g_MOST_PLACES:∃ tk,mg "MOST_PLACES"=some (.int 14 tk)
 g_MOST_TIES:∃ tk,mg "MOST_TIES"=some (.int 30 tk)
 n_any:mg "any"=none
 n_enumerate:mg "enumerate"=none
 n_len:mg "len"=none
 n_list:mg "list"=none
 n_max:mg "max"=none
 n_min:mg "min"=none
 n_range:mg "range"=none
 n_reversed:mg "reversed"=none
 n_set:mg "set"=none
 n_sorted:mg "sorted"=none
 n_tuple:mg "tuple"=none
 n_zip:mg "zip"=none
end My
namespace My
open PySem L2 PyProof.Rows
set_option maxHeartbeats 4000000
section
variable{P:Program}{w:World}{K:PySem.W.Frag}{mg:Str->Option Value}{base:Heap}{t:Adr}
def spZ0(K:PySem.W.Frag):Sp:=λvs H Q _=>∃(a:Addr) (kd:Bool) (xs:List V) (L:List (List Int)),vs=[.ref a]/\SqK kd K H a xs/\Bears (RowV K H) xs L /\
 ((∀ l∈L,l.length=L.length)->Q .non H)/\(¬ (∀ l∈L,l.length=L.length)->False)
theorem scZ0:FnScope ["table","row"] ["table"] (Zz7 sZ0):=⟨rfl,rfl,rfl,by decide +kernel,rfl,by decide +kernel,by decide +kernel⟩
theorem okZ0 (T:Txt K mg t):FnOk P w K mg base CX0 1 t.aZ0 t.dZ0 ["table"] (spZ0 K):=by
 refine T.fZ0.ok scZ0 (λvs H Q E h=>?_) (λcdv A outer s H vs Q E hr h=>?_)
 ·obtain⟨a,kd,xs,L,rfl,_⟩:=h;rfl
 ·obtain⟨a,kd,xs,L,rfl,hS,hB,q,qe⟩:=h;refine⟨_,(Zz8 (ZP1 Yy04 rfl (Zz32 K (pv 0)) (Zd (i:=1) scZ0.nd rfl (Or.inl rfl))
   (Zz8 (Zn1 (Zf ZK5 (Zg (Zo K) (by rfl) T.n_len Boot.«len» (Zz0 (pv 1) Zz3)) (Zg (Zo K) (by rfl) T.n_len Boot.«len» (Zz0 (pv 0) Zz3)) (Zp _))
   (Zz8 Zz61)
   Zn)))),?_⟩
  have hxl:=hB.1;refine⟨_,rfl,a,rfl,ZV4 (K:=K) (k:=kd) (a:=a) (xs:=xs) (λi σ H2=>∃ v1,σ=[some (.ref a),v1]/\H2=H/\∀ l∈L.take i,l.length=L.length) ⟨none,rfl,rfl,λl h=>(by cases h)⟩ (λi σ H2 _ ⟨_,_,e,_⟩=>e ▸ hS) ?_ ?_⟩
  ·rintro i v σ H2 hi ⟨v1,rfl,rfl,hall⟩;obtain⟨l,hl,r,k,rfl,hr⟩:=hB.at hi;refine nm ?_;refine⟨_,rfl,r,_,rfl,hr.or,_,rfl,a,xs,rfl,hS.or,rfl,_,rfl,?_⟩;rw[Zz4,Zx];refine itn2 (λe=>?_) (λe=>?_)
   ·refine⟨_,rfl,rfl,λm hm=>?_⟩;rw[YU,hl]at hm;rcases Yy7.mp hm with h | h
    ·exact hall m h
    ·have hm':m=l:=by simpa using h
     rw[hm'];lia
   ·exact qe λh=>e (by rw[h l (Yy9 hl),hxl])
  ·rintro σ H2 ⟨v1,rfl,rfl,hall⟩;rw[hxl,YJ]at hall;exact q hall
def spZ1(K:PySem.W.Frag):Sp:=λvs H Q _=>∃(r p:Addr) (x y last:Int) (l q:List Int),vs=[.ref r,.ref p,.int last]/\SqL K H r (IL (x :: l))/\SqL K H p (IL (y :: q))/\l.length=q.length/\l.length<=1000/\last≠0/\last.natAbs<2 ^ 9000 /\
 (∀ z∈x :: l,z.natAbs<2 ^ 9000)/\(∀ z∈y :: q,z.natAbs<2 ^ 9000)/\∀(c:Addr) (H':Hp),Same H H'->H c=none->H' c=some (.lst (IL (tkn y q last (x :: l))))->Q (.ref c) H'
theorem scZ1:FnScope ["row","pivot","last"] ["row","pivot","last"] (Zz7 sZ1):=⟨rfl,rfl,rfl,by decide +kernel,rfl,by decide +kernel,by decide +kernel⟩
theorem okZ1 (T:Txt K mg t):FnOk P w K mg base CX0 1 t.aZ1 t.dZ1 ["row","pivot","last"] (spZ1 K):=by
 refine T.fZ1.ok scZ1 (λvs H Q E h=>?_) (λcdv A outer s H vs Q E hr h=>?_)
 ·obtain⟨r,p,x,y,last,l,q,rfl,_⟩:=h;rfl
 ·obtain⟨r,p,x,y,last,l,q',rfl,hR,hP,hlq,hl,l0,l1,hx,hy,q⟩:=h;refine⟨_,(Zz8 (Zh (Zz84 rfl (sc0:=Zz7 sZ1) (N0:=["row","pivot","last"]) (N':=["own","other","pivot","row","last"]) (o:=2) (fr:=[1,0,2]) ⟨rfl,by decide +kernel,by decide +kernel,by decide +kernel,rfl,by decide +kernel⟩ (Zn11 K rfl T.n_zip (Zz0 (Zx1 (Zw1 K) (pv 0) (ZQ1 Za) Zp2) (Zz0 (Zx1 (Zw1 K) (pv 1) (ZQ1 Za) Zp2) Zz3))) (ZN2 (ZU (by decide) (ZU (by decide) ZO2))) (λ_ _ _ _=>(Zu1 (n:=2) K rfl (Zt (Zd (i:=0) (show List.Nodup (["own","other","pivot","row","last"]:List Str) by decide +kernel) rfl (Or.inl rfl)) (Zt (Zd (i:=1) (show List.Nodup (["own","other","pivot","row","last"]:List Str) by decide +kernel) rfl (Or.inl rfl)) Zc1)))) (λ_ _ _ _=>Zz91) (λ_ _ _ _=>(Zq ZJ9 (Zq ZG1 (Zq Zl6 (ZP (Ze K) (pv 2) Za (λ_ _=>rfl)) (pv 0)) (Zq Zl6 (ZP (Ze K) (pv 3) Za (λ_ _=>rfl)) (pv 1))) (pv 4)))))),?_⟩;refine⟨_,rfl,_,rfl,r,_,rfl,hR,λp1 hp1=>?_⟩;rw[Za7];have s1:=Zz5 (o:=.lst (IL l)) hp1
  refine⟨_,rfl,_,rfl,p,_,rfl,s1.seq hP,λp2 hp2=>?_⟩;rw[Za7];have s2:=Zz5 (o:=.lst (IL q')) hp2
  have s12:=s1.trans s2;have h1:=s2 _ _ (Zz1 (H:=H) (a:=p1) (o:=.lst (IL l)))
  have h2:(upd (upd H p1 (.lst (IL l))) p2 (.lst (IL q'))) p2=some (.lst (IL q')):=Zz1;generalize upd (upd H p1 (.lst (IL l))) p2 (.lst (IL q'))=H2 at *;refine⟨p1,p2,rfl,⟨_,_,SqL.of h1,SqL.of h2⟩,ZY12 (K:=K) (a:=p1) (b:=p2) (xs:=IL l) (ys:=IL q') (λi zs H3=>Same H2 H3/\i<=l.length/\zs=IL ((tkn y q' last (x :: l)).take i)) ⟨Same.refl _,Yl _,rfl⟩ (by rw[Zz4,Zz4];exact hlq) (Zm (by rw[Zz4];lia))
   (λi zs H3 hi ⟨e,hi2,ez⟩=>⟨SqL.of (e _ _ h1),SqL.of (e _ _ h2),by rw[ez,Zz4,Yz];lia⟩) ?_ ?_⟩
  ·rintro i u v zs H3 pt hpt hu hv ⟨s3,hil,rfl⟩ S hSS;obtain⟨own,rfl,ho⟩:=Zz71 hu;obtain⟨oth,rfl,ht⟩:=Zz71 hv;have hil':=(Yy1.mp ho).1
   have s4:=Zz5 (o:=.tup [.int own,.int oth]) hpt;refine⟨pt,_,rfl,SqT.of Zz1,rfl,_,_,rfl,_,_,rfl,rfl,?_⟩;have s34:=s12.trans (s3.trans s4)
   have a1:=hy y Ye;have a2:=hx own (Yg _ (Yy9 ho))
   have a3:=hx x Ye;have a4:=hy oth (Yg _ (Yy9 ht))
   refine⟨_,rfl,p,_,0,.int y,rfl,rfl,s34.seq hP,ZK (n:=0) rfl rfl,_,rfl,_,_,rfl,rfl,⟨a1,a2⟩,_,rfl,r,_,0,.int x,rfl,rfl,s34.seq hR,ZK (n:=0) rfl rfl,_,rfl,_,_,rfl,rfl,⟨a3,a4⟩,_,_,rfl,rfl,_,rfl,_,_,rfl,rfl,⟨l0,l1⟩,?_⟩;refine hSS _ _ ⟨s3.trans s4,hil',?_⟩;have e:(tkn y q' last (x :: l))[i]?=some ((y * own - x * oth).fdiv last):=by show(List.zipWith _ l q')[i]?=_;rw[Y0I,ho,ht];rfl
   rw[YU,e];exact(ZV _ _).symm
  ·rintro zs H3 ⟨s3,_,rfl⟩ c hc;rw[Zz4,Yy07 (by rw[Zr8 (by rw[YD,hlq])];lia)];exact q c _ (s12.trans (s3.trans (Zz5 hc))) ((s12.trans s3).free hc) Zz1
def spZ2(K:PySem.W.Frag):Sp:=λvs H Q _=>∃(a:Addr) (ys:List V) (R:List (List Int)),vs=[.ref a]/\SqL K H a ys/\Bears (Zt7 H) ys R/\(∀ l∈R,0<l.length) /\
 (∀ H':Hp,Same H H'->(∀ i,i<R.length->fnL R i 0=0)->Q .non H')/\(∀(t:Nat) (H':Hp),Same H H'->t<R.length->fnL R t 0≠0->Q (.int t) H')
theorem scZ2:FnScope ["rows","at","row"] ["rows"] (Zz7 sZ2):=⟨rfl,rfl,rfl,by decide +kernel,rfl,by decide +kernel,by decide +kernel⟩
theorem okZ2 (T:Txt K mg t):FnOk P w K mg base CX0 1 t.aZ2 t.dZ2 ["rows"] (spZ2 K):=by
 refine T.fZ2.ok scZ2 (λvs H Q E h=>?_) (λcdv A outer s H vs Q E hr h=>?_)
 ·obtain⟨a,ys,R,rfl,_⟩:=h;rfl
 ·obtain⟨a,ys,R,rfl,hS,hB,hp,q0,q1⟩:=h;refine⟨_,(Zz2 (ZP1 Yy04 rfl (Zo1 K rfl T.n_enumerate (Zz0 (pv 0) Zz3)) (Zu1 (n:=2) K rfl (Zt (Zd (i:=1) scZ2.nd rfl (Or.inl rfl)) (Zt (Zd (i:=2) scZ2.nd rfl (Or.inl rfl)) Zc1)))
   (Zz8 (Zn1 (Zf ZK5 (ZP (Ze K) (pv 2) Za (λ_ _=>rfl)) Za (Zp _))
   (Zz8 (Zh (pv 1)))
   Zn)))
   (Zz8 (Zh ZF2))),?_⟩
  have hyl:=hB.1;refine⟨_,rfl,a,rfl,⟨_,hS⟩,Zd3 (K:=K) (a:=a) (xs:=ys) (λi σ H2=>∃ v1 v2,σ=[some (.ref a),v1,v2]/\Same H H2/\∀ j,j<i->fnL R j 0=0) ⟨none,none,rfl,Same.refl _,λj h=>absurd h (YW _)⟩ (λi σ H2 _ ⟨_,_,_,e,_⟩=>e.seq hS) ?_ ?_⟩
  ·rintro i v σ H2 pt hpt hi ⟨v1,v2,rfl,s2,hz⟩;obtain⟨l,hl,r,rfl,hr⟩:=hB.at hi;have hlp:=hp l (Yy9 hl)
   obtain⟨x,l',rfl⟩:∃ x l',l=x :: l':=by
    cases l with
    | nil=>exact absurd hlp (Y0q 0)
    | cons x l'=>exact⟨x,l',rfl⟩
   have e0:fnL R i 0=x:=ZH2 hl rfl;have s3:=s2.trans (Zz5 (o:=.tup [.int i,.ref r]) hpt)
   refine⟨pt,_,rfl,SqT.of Zz1,rfl,_,_,rfl,_,_,rfl,rfl,?_⟩;generalize upd H2 pt (.tup [.int i,.ref r])=H3 at *;refine⟨_,rfl,r,_,0,.int x,rfl,rfl,SqL.of (s3 _ _ hr),ZK (n:=0) rfl rfl,rfl,_,rfl,?_⟩;rw[Zx];refine itn2 (λe=>?_) (λe=>?_)
   ·refine⟨_,_,rfl,s3,λj hj=>?_⟩;by_cases c:j=i
    ·rw[c,e0,e]
    ·exact hz j (by lia)
   ·exact⟨_,rfl,q1 i H3 s3 (by have:=(Yy1.mp hl).1;exact this) (by rw[e0];exact e)⟩
  ·rintro σ H2 ⟨v1,v2,rfl,s2,hz⟩;exact q0 H2 s2 λi hi=>hz i (by lia)
def spZ3(K:PySem.W.Frag):Sp:=λvs H Q _=>∃(a:Addr) (kd:Bool) (xs:List V) (L:List (List Int)),vs=[.ref a]/\SqK kd K H a xs/\Bears (RowV K H) xs L/\L.length<=16/\(∀ i j,i<L.length->j<L.length->(fnL L i j).natAbs<=2 ^ 400) /\
 ((∀ l∈L,l.length=L.length)->∀ H':Hp,Same H H'->Q (.int (det L.length (fnL L))) H')/\(¬ (∀ l∈L,l.length=L.length)->∀ H':Hp,Same H H'->False)
theorem Za13{s rest:TS}{D:Ends}{σ:L2.St}{H:Hp}(P:L2.St->Hp->Prop)(h1:∀ σ' H',P σ' H'->rest D σ' H')(h2:∀ K:L2.St->Hp->Prop,(∀ σ' H',P σ' H'->K σ' H')->s { D with nx:=K } σ H):tSeq s rest D σ H:=h2 _ h1
theorem scZ3:FnScope ["table","rows","sign","last","at","pivot"] ["table"] (Zz7 sZ3):=⟨rfl,rfl,rfl,by decide +kernel,rfl,by decide +kernel,by decide +kernel⟩
theorem okZ3 (T:Txt K mg t):FnOk P w K mg base CX0 2 t.aZ3 t.dZ3 ["table"] (spZ3 K):=by
 refine T.fZ3.ok scZ3 (λvs H Q E h=>?_) (λcdv A outer s H vs Q E hr h=>?_)
 ·obtain⟨a,kd,xs,L,rfl,_⟩:=h;rfl
 ·obtain⟨a,kd,xs,L,rfl,hS,hB,hL16,hA0,q,qe⟩:=h;refine⟨_,(Zz2 (Za1 (Zz9 (okZ0 T) (hr.mono (by decide)) rfl T.mZ0 T.fZ0.kp T.bZ0 .nil Zs (Zz0 (pv 0) Zz3)))
   (Zz2 (Zr7 (i:=1) rfl scZ3.nd rfl rfl (sc0:=Zz7 sZ3) (N0:=["table","rows","sign","last","at","pivot"]) (N':=["row"]) (o:=1) (fr:=[]) ⟨rfl,by decide +kernel,by decide +kernel,by decide +kernel,rfl,by decide +kernel⟩ (Zz32 K (pv 0)) (Zy (by decide)) (λ_ _ _ _=>(Zd (i:=0) (show List.Nodup (["row"]:List Str) by decide +kernel) rfl (Or.inl rfl))) (λ_ _ _ _=>Zz91) (λ_ _ _ _=>(Zr (Zi1 K) (by rfl) T.n_list Boot.«list» (Zz0 (pv 0) Zz3))))
   (Zz2 (Zj (i:=2) scZ3.nd rfl (Or.inl rfl) Za)
   (Zz2 (Zj (i:=3) scZ3.nd rfl (Or.inr rfl) Za)
   (Zz2 (Zg6 Yy04 (Zf Zx11 (Zg (Zo K) (by rfl) T.n_len Boot.«len» (Zz0 (pv 1) Zz3)) Za (Zp _))
   (Zz2 (Zj (i:=4) scZ3.nd rfl (Or.inl rfl) (Zz9 (okZ2 T) (hr.mono (by decide)) rfl T.mZ2 T.fZ2.kp T.bZ2 .nil Zs (Zz0 (pv 1) Zz3)))
   (Zz2 (Zn1 (Zf Zn6 (pv 4) ZF2 (Zp _))
   (Zz8 (Zh Za))
   Zn)
   (Zz2 (Zn1 (Zf Zq3 (Zq ZQ (pv 4) Za) Za (Zp _))
   (Zz8 (Zj (i:=2) scZ3.nd rfl (Or.inl rfl) (Zj13 ZS10 (pv 2))))
   Zn)
   (Zz2 (Zj (i:=5) scZ3.nd rfl (Or.inr rfl) (Zz52 K YT Y3u Y3t Zu6 (pv 1) (Zz0 (pv 4) Zz3)))
   (Zz2 (Zr7 (i:=1) rfl scZ3.nd rfl rfl (sc0:=Zz7 sZ3) (N0:=["table","rows","sign","last","at","pivot"]) (N':=["row","pivot","last"]) (o:=1) (fr:=[5,3]) ⟨rfl,by decide +kernel,by decide +kernel,by decide +kernel,rfl,by decide +kernel⟩ (ZZ K (pv 1)) (Zy (by decide)) (λ_ _ _ _=>(Zd (i:=0) (show List.Nodup (["row","pivot","last"]:List Str) by decide +kernel) rfl (Or.inl rfl))) (λ_ _ _ _=>Zz91) (λ_ _ _ _=>(Zz9 (okZ1 T) (hr.mono (by decide)) rfl T.mZ1 T.fZ1.kp T.bZ1 .nil Zs (Zz0 (pv 0) (Zz0 (pv 1) (Zz0 (pv 2) Zz3))))))
   (Zz8 (Zj (i:=3) scZ3.nd rfl (Or.inr rfl) (ZP (Ze K) (pv 5) Za (λ_ _=>rfl))))))))))
   (Zz8 (Zh (Zq Zl6 (pv 2) (pv 3))))))))),?_⟩
  have hxl:=hB.1;refine⟨_,rfl,a,kd,xs,L,rfl,hS,hB,λhsq=>?_,λh=>qe h H (Same.refl H)⟩;have q:=q hsq
  obtain⟨n,hn⟩:∃ n,n=L.length:=⟨_,rfl⟩;rw[<- hn]at q hsq hA0 hL16;refine⟨_,rfl,a,rfl,ZW7 (K:=K) (k:=kd) (a:=a) (xs:=xs) (λi zs H2=>Same H H2/\i<=xs.length/\Bears (Zt7 H2) zs (L.take i)) ⟨Same.refl _,Yl _,⟨rfl,λi l e=>by simp at e⟩⟩ (Zm (by lia)) (λi zs H2 hi ⟨e,hi2,ez⟩=>⟨hS.same e,by rw[ez.1,Yz];lia⟩) ?_ ?_⟩
  ·rintro i v zs H2 hi ⟨s2,hil,hZ⟩ S hSS;obtain⟨l,hl,r,k,rfl,hr⟩:=hB.at hi;have hil':=(Yy1.mp hi).1
   refine nm ?_;refine⟨_,rfl,r,_,rfl,(hr.same s2).or,λc hc=>hSS _ _ ⟨s2.trans (Zz5 hc),hil',?_⟩⟩;rw[YU,hl];refine(hZ.imp λ_ _ ⟨r',e,h⟩=>⟨r',e,Zz5 hc _ _ h⟩).snoc ⟨c,rfl,Zz1⟩
  rintro zs H2 ⟨s2,_,hZ⟩ rA hrA;rw[hxl,YJ]at hZ;have s3:=s2.trans (Zz5 (o:=.lst zs) hrA)
  refine⟨λm σ H4=>∃(A:Mx) (k:Nat) (rA:Addr) (ys:List V) (R:List (List Int)) (sgn last:Int) (v4 v5:Option V),σ=[some (.ref a),some (.ref rA),some (.int sgn),some (.int last),v4,v5]/\Same H H4/\H rA=none/\H4 rA=some (.lst ys)/\Bears (LiV rA H4) ys R/\R.length=m/\(∀ l∈R,l.length=m)/\k+m=n/\Bar A k m (fnL R) last/\det n (fnL L)=sgn * det n A/\(∀ i j,i<n->j<n->(A i j).natAbs<=2 ^ 400)/\(m=0->last=det n A)/\(sgn=1\/sgn=-1)/\last.natAbs<2 ^ 9000,⟨n,fnL L,0,rA,zs,L,1,1,none,none,rfl,s3,s2.free hrA,Zz1,?_,hn.symm,hsq,by lia,Zk8 _ _,by grind,hA0,λe=>by rw[e];rfl,.inl rfl,Nat.one_lt_two_pow (by decide)⟩,?_⟩
  ·exact hZ.imp λv l ⟨r,e,h⟩=>⟨r,e,Zz5 hrA _ _ h,Zc h hrA⟩
  rintro m σ H4 ⟨A,k,rA,ys,R,sgn,last,v4,v5,rfl,s4,hr0,hr4,hR,hRm,hRl,hkm,hBar,hdet,hAb,hfin,hsg,hlb⟩;have hyl:=hR.1
  refine⟨_,rfl,rA,ys,rfl,.inl (SqL.of hr4),_,_,rfl,rfl,_,rfl,?_⟩;refine itd2 (λhpos=>?_) (λhpos=>?_)
  ·obtain⟨M,rfl⟩:∃ M,m=M+1:=⟨m - 1,by lia⟩;refine⟨_,λσ' H' h=>⟨M,Y0p M,h⟩,?_⟩;have hsm:∀ l∈R,∀ z∈l,z.natAbs<2 ^ 9000:=λl hl z hz=>by
    obtain⟨i,hi⟩:=YX hl;obtain⟨j,hj⟩:=YX hz;have h1:=(Yy1.mp hi).1
    have h2:=(Yy1.mp hj).1;have h3:=hRl l hl
    have:=Zl8 hBar hkm hL16 hAb (i:=i) (j:=j) (by lia) (by lia)
    rw[ZH2 hi hj]at this;exact this
   refine⟨_,rfl,rA,ys,R,rfl,SqL.of hr4,hR.imp λ_ _ h=>h.list,λl hl=>by rw[hRl l hl];lia,λH5 s5 h0=>?_,λt H5 s5 ht hne=>?_⟩
   ·refine⟨_,rfl,rfl,_,rfl,?_⟩;refine itd (c:=V.non=V.non) rfl ?_;have z:det n A=0:=by
     have:=ZA10 hBar λi hi=>h0 i (by lia)
     rw[show k+M+1=n by lia]at this;exact this
    rw[hdet,z,Y0s]at q;exact q H5 (s4.trans s5)
   refine⟨_,rfl,rfl,_,rfl,?_⟩;refine itdn (c:=V.int (t:Int)=V.non) (λz=>nomatch z) ?_;refine nm ?_;dsimp only;refine Za13 (λσ H6=>∃ sgn':Int,H6=H5/\σ=[some (.ref a),some (.ref rA),some (.int sgn'),some (.int last),some (.int t),v5]/\sgn'=sgn * sg t) ?_ ?_
   ·rintro σ H6 ⟨sgn',rfl,rfl,hsgn⟩;have hr6:=s5 _ _ hr4
    have hR6:=hR.imp λ_ _ h=>h.same s5;obtain⟨l,hl⟩:∃ l,R[t]?=some l:=⟨_,Yy0 ht⟩;have hll:=hRl l (Yy9 hl)
    obtain⟨y,p',rfl⟩:∃ y p',l=y :: p':=by
     cases l with
     | nil=>cases hll
     | cons y p'=>exact⟨y,p',rfl⟩
    have hpl:p'.length=M:=by rw[YD]at hll;lia
    obtain⟨v,hv,pA,rfl,hpA,hpn⟩:=hR6.2 t _ hl;have hy0:y≠0:=by rw[ZH2 hl rfl]at hne;exact hne
    refine⟨_,rfl,.inl ⟨rfl,_,SqL.of hr6⟩,_,rfl,rA,ys,(t:Int),t,.ref pA,rfl,rfl,hr6,by lia,by lia,by rw[Za11 (by lia) (by lia),YA],hv,?_⟩;have hpA7:(upd H6 rA (.lst (ys.eraseIdx t))) pA=some (.lst (IL (y :: p'))):=by rw[Zb hpn];exact hpA
    have s7:Same H (upd H6 rA (.lst (ys.eraseIdx t))):=ZG hr0 (s4.trans s5);have hR7:Bears (LiV rA (upd H6 rA (.lst (ys.eraseIdx t)))) (ys.eraseIdx t) (R.eraseIdx t):=(hR6.erase t).imp λ_ _ h=>h.mut
    have hr7:(upd H6 rA (.lst (ys.eraseIdx t))) rA=some (.lst (ys.eraseIdx t)):=Zz1;generalize upd H6 rA (.lst (ys.eraseIdx t))=H7 at *;have eRl:(R.eraseIdx t).length=M:=by rw[Y1H,if_pos ht];lia
    have hRl7:∀ l∈R.eraseIdx t,l.length=M+1:=λl h=>hRl l (Y1U h);have hy7:=hR7.1
    refine⟨_,rfl,rA,rfl,⟨_,SqL.of hr7⟩,ZH1 (K:=K) (a:=rA) (xs:=ys.eraseIdx t) (λi zs H8=>Same H7 H8/\i<=(ys.eraseIdx t).length/\Bears (Zt7 H8) zs (((R.eraseIdx t).take i).map (tkn y p' last))) ⟨Same.refl _,Yl _,⟨rfl,λi l e=>by simp at e⟩⟩ (Zm (by lia)) (λi zs H8 hi ⟨e,hi2,ez⟩=>⟨SqL.of (e _ _ hr7),by rw[ez.1,Yb,Yz];lia⟩) ?_ ?_⟩
    ·rintro i v zs H8 hi ⟨s8,hil,hZ8⟩ S hSS;obtain⟨l,hli,r,rfl,hr,_⟩:=hR7.at hi;have hil':=(Yy1.mp hi).1
     have hl2:=hRl7 l (Yy9 hli);obtain⟨x,l',rfl⟩:∃ x l',l=x :: l':=by
      cases l with
      | nil=>cases hl2
      | cons x l'=>exact⟨x,l',rfl⟩
     have hl':l'.length=M:=by rw[YD]at hl2;lia
     refine nm ?_;refine⟨_,rfl,_,rfl,_,rfl,r,pA,x,y,last,l',p',rfl,SqL.of (s8 _ _ hr),SqL.of (s8 _ _ hpA7),by lia,by lia,hBar.1,hlb,hsm _ (Y1U (Yy9 hli)),hsm _ (Yy9 hl),λc H9 s9 hc0 hc=>hSS _ _ ⟨s8.trans s9,hil',?_⟩⟩;rw[YU,hli,YL];exact(hZ8.imp λ_ _ ⟨r',e,h⟩=>⟨r',e,s9 _ _ h⟩).snoc ⟨c,rfl,hc⟩
    rintro zs H8 ⟨s8,_,hZ8⟩ cA hcA;rw[hy7,YJ]at hZ8;have s9:=Zz5 (o:=.lst zs) hcA
    refine⟨_,rfl,pA,_,0,.int y,rfl,rfl,SqL.of (s9 _ _ (s8 _ _ hpA7)),ZK (n:=0) rfl rfl,?_⟩;have hb1:Bar (λi=>A (rotN k t i)) k (M+1) (fnL ((y :: p') :: R.eraseIdx t)) last:=by rw[Zf11 hl];exact Ze12 hBar (by lia)
    have hb2:Bar (λi=>A (rotN k t i)) (k+1) M (fnL ((R.eraseIdx t).map (tkn y p' last))) y:=Zz10 hb1 hy0 λi j hi hj=>ZW10 hpl eRl hRl7 hi hj;have hdr:=Zz27 (n:=n) (k:=k) (t:=t) (A:=A) (by lia)
    refine⟨λi=>A (rotN k t i),k+1,cA,zs,(R.eraseIdx t).map (tkn y p' last),sgn',y,_,_,rfl,s7.trans (s8.trans s9),(s7.trans s8).free hcA,Zz1,?_,by rw[Yb];exact eRl,λl h=>?_,by lia,hb2,?_,λi j hi hj=>hAb _ _ ?_ hj,λe0=>?_,?_,hsm _ (Yy9 hl) y Ye⟩
    ·exact hZ8.imp λv l ⟨r,e,h⟩=>⟨r,e,s9 _ _ h,Zc h hcA⟩
    ·obtain⟨l0,h0,rfl⟩:=YC.mp h;rw[Zr8 (by rw[hRl7 l0 h0,hpl]),hpl]
    ·rw[hdr,hdet,hsgn,Y0l,<- Y0l (sg t),Yz13,Y0w]
    ·unfold rotN;split
     ·grind
     ·split
      ·lia
      ·split <;> lia
    ·subst e0
     have:=Zg12 hb1
     rw[show k+1=n by lia]at this;exact this
    ·rw[hsgn];have hst:sg t=1\/sg t=-1:=by
      unfold sg;split
      ·exact .inl rfl
      ·exact .inr rfl
     rcases hsg with e | e <;> rcases hst with f | f <;> rw[e,f]
     ·exact .inl rfl
     ·exact .inr rfl
     ·exact .inr rfl
     ·exact .inl rfl
   ·intro Kn hK;refine⟨_,rfl,_,_,rfl,rfl,(by show(0:Int)<2;decide),rfl,_,rfl,?_⟩;rw[Zx];refine itd2 (λh1=>?_) (λh1=>?_)
    ·refine⟨_,rfl,_,rfl,hK _ _ ⟨-sgn,rfl,rfl,?_⟩⟩;have e:sg t=-1:=by unfold sg;rw[if_neg (by lia)]
     rw[e];lia
    ·refine hK _ _ ⟨sgn,rfl,rfl,?_⟩;have e:sg t=1:=by unfold sg;rw[if_pos (by lia)]
     rw[e];grind
  ·have hm0:m=0:=by lia
   refine⟨_,rfl,_,rfl,_,_,rfl,rfl,⟨?_,hlb⟩,?_⟩
   ·rcases hsg with e | e <;> rw[e] <;> exact Nat.one_lt_two_pow (by decide)
   ·rw[hfin hm0]at *;rw[hdet]at q;exact q H4 s4
def spZ4(K:PySem.W.Frag):Sp:=λvs H Q _=>∃(a:Addr) (l:List Int) (i:Nat),vs=[.ref a,.int i]/\SqL K H a (IL l)/\l.length<=1000/\∀(r:Addr) (H':Hp),Same H H'->H r=none->H' r=some (.lst (IL (cutz l i)))->Q (.ref r) H'
theorem Zz110(l:List Int)(z:Int):cutz (IL l) z=IL (cutz l z):=by
 unfold cutz;show(l.map V.int).take _++(l.map V.int).drop _=(l.take _++l.drop _).map V.int
 rw[YL,List.map_take,List.map_drop]
theorem scZ4:FnScope ["row","number"] ["row","number"] (Zz7 sZ4):=⟨rfl,rfl,rfl,by decide +kernel,rfl,by decide +kernel,by decide +kernel⟩
theorem okZ4 (T:Txt K mg t):FnOk P w K mg base CX0 1 t.aZ4 t.dZ4 ["row","number"] (spZ4 K):=by
 refine T.fZ4.ok scZ4 (λvs H Q E h=>?_) (λcdv A outer s H vs Q E hr h=>?_)
 ·obtain⟨a,l,i,rfl,_⟩:=h;rfl
 ·obtain⟨a,l,i,rfl,hA,hl,q⟩:=h;refine⟨_,(Zz8 (Zh (Zq Zp6 (Zr (Zi1 K) (by rfl) T.n_list Boot.«list» (Zz0 (Zx1 (Zw1 K) (pv 0) Zp2 (ZQ1 (pv 1))) Zz3)) (Zr (Zi1 K) (by rfl) T.n_list Boot.«list» (Zz0 (Zx1 (Zw1 K) (pv 0) (ZQ1 (Zq Ze1 (pv 1) Za)) Zp2) Zz3))))),?_⟩;refine⟨_,rfl,_,rfl,(i:Int),rfl,a,_,rfl,hA,λp1 hp1=>?_⟩;have u1:=Zz5 (o:=.lst (cutV (IL l) none (some (i:Int)))) hp1
  refine⟨p1,_,rfl,.inl (SqL.of Zz1),λp2 hp2=>?_⟩;have u2:=Zz5 (o:=.lst (cutV (IL l) none (some (i:Int)))) hp2
  refine⟨_,rfl,_,rfl,_,_,rfl,rfl,_,rfl,a,_,rfl,(u1.trans u2).seq hA,λp3 hp3=>?_⟩;have u3:=Zz5 (o:=.lst (cutV (IL l) (some ((i:Int)+1)) none)) hp3
  refine⟨p3,_,rfl,.inl (SqL.of Zz1),λp4 hp4=>?_⟩;have u4:=Zz5 (o:=.lst (cutV (IL l) (some ((i:Int)+1)) none)) hp4
  have c1:=Zh1 (IL l) none (some (i:Int));have c2:=Zh1 (IL l) (some ((i:Int)+1)) none
  rw[Zz4]at c1 c2;refine⟨p2,p4,_,_,rfl,rfl,(u3.trans u4) _ _ Zz1,Zz1,ZN1 (by lia),λp5 hp5=>?_⟩;have u14:=u1.trans (u2.trans (u3.trans u4))
  refine q p5 _ (u14.trans (Zz5 hp5)) (u14.free hp5) ?_;rw[Zz1,ZQ13 (by lia),Zz110]
def spZ5(K:PySem.W.Frag):Sp:=λvs H Q _=>∃(a:Addr) (ys:List V) (L:List (List Int)) (i:Nat),vs=[.ref a,.int i]/\SqL K H a ys/\Bears (Zt7 H) ys L/\L.length<=1000/\(∀ l∈L,l.length<=1000)/\i<L.length /\
 ∀(r:Addr) (zs:List V) (H':Hp),Same H H'->H' r=some (.lst zs)->Bears (Zt7 H') zs ((cutz L i).map λl=>cutz l (i:Int))->Q (.ref r) H'
theorem Zz45{α:Type}{l:List α}{i j:Nat}{x:α}(hx:l[j]?=some x):cutz (l.take (j+1)) (i:Int)=cutz (l.take j) (i:Int)++(if j=i then [] else [x]):=by
 have hj:=(Yy1.mp hx).1;have e:l.take (j+1)=l.take j++[x]:=by rw[YU,hx];rfl
 have hl:(l.take j).length=j:=by rw[Yz];grind
 have short:∀ m:List α,m.length<=i->cutz m (i:Int)=m:=λm hm=>by unfold cutz;rw[YA,Yy07 hm,Y0E (by lia),YG]
 rw[e];by_cases c:j=i
 ·subst c;rw[if_pos rfl,YG,short (l.take j) (by lia)];unfold cutz;rw[YA,Y1z (by lia),Y0E (by rw[Yy4,hl];exact Yy8 _),YG,Yy07 (by omega)]
 ·rw[if_neg c];by_cases d:j<i
  ·rw[short (l.take j++[x]) (by rw[Yy4,hl];exact d),short (l.take j) (by lia)]
  ·unfold cutz;rw[YA,Y1z (by grind),Y1A (by lia),Y0a]
theorem scZ5:FnScope ["table","number"] ["table","number"] (Zz7 sZ5):=⟨rfl,rfl,rfl,by decide +kernel,rfl,by decide +kernel,by decide +kernel⟩
theorem okZ5 (T:Txt K mg t):FnOk P w K mg base CX0 2 t.aZ5 t.dZ5 ["table","number"] (spZ5 K):=by
 refine T.fZ5.ok scZ5 (λvs H Q E h=>?_) (λcdv A outer s H vs Q E hr h=>?_)
 ·obtain⟨a,ys,L,i,rfl,_⟩:=h;rfl
 ·obtain⟨a,ys,L,i,rfl,hA,hB,hL,hLl,hi,q⟩:=h;refine⟨_,(Zz8 (Zh (Zz84 rfl (sc0:=Zz7 sZ5) (N0:=["table","number"]) (N':=["at","row","number"]) (o:=2) (fr:=[1]) ⟨rfl,by decide +kernel,by decide +kernel,by decide +kernel,rfl,by decide +kernel⟩ (Zo1 K rfl T.n_enumerate (Zz0 (pv 0) Zz3)) (ZN2 (ZU (by decide) (ZU (by decide) ZO2))) (λ_ _ _ _=>(Zu1 (n:=2) K rfl (Zt (Zd (i:=0) (show List.Nodup (["at","row","number"]:List Str) by decide +kernel) rfl (Or.inl rfl)) (Zt (Zd (i:=1) (show List.Nodup (["at","row","number"]:List Str) by decide +kernel) rfl (Or.inl rfl)) Zc1)))) (λ_ _ _ _=>(Zt1 (Zf ZK5 (pv 0) (pv 2) (Zp _)))) (λ_ _ _ _=>(Zz9 (okZ4 T) (hr.mono (by decide)) rfl T.mZ4 T.fZ4.kp T.bZ4 .nil Zs (Zz0 (pv 1) (Zz0 (pv 2) Zz3))))))),?_⟩;have hyl:=hB.1
  refine⟨_,rfl,a,rfl,⟨_,hA⟩,ZL3 (K:=K) (a:=a) (xs:=ys) (λj zs H2=>Same H H2/\j<=ys.length/\Bears (Zt7 H2) zs ((cutz (L.take j) (i:Int)).map λl=>cutz l (i:Int))) ⟨Same.refl _,Yl _,by rw[show(cutz (L.take 0) (i:Int)).map (λl=>cutz l (i:Int))=[] by unfold cutz;simp];exact⟨rfl,λi l e=>by simp at e⟩⟩ (Zm (by lia)) (λj zs H2 hj ⟨e,hj2,ez⟩=>⟨e.seq hA,by
   rw[ez.1,Yb];refine Yt (Zm10 _ _) ?_;rw[Yz]
   lia⟩) ?_ ?_⟩
  ·rintro j v zs H2 pt hpt hj ⟨s2,hjl,hZ⟩ S hSS;obtain⟨l,hl,r,rfl,hr⟩:=hB.at hj;have hjl':=(Yy1.mp hj).1
   have s3:=Zz5 (o:=.tup [.int j,.ref r]) hpt;refine⟨pt,_,rfl,SqT.of Zz1,rfl,_,_,rfl,_,_,rfl,rfl,?_⟩;have hZ3:Bears (Zt7 (upd H2 pt (.tup [.int j,.ref r]))) zs ((cutz (L.take j) (i:Int)).map λl=>cutz l (i:Int)):=hZ.imp λ_ _ ⟨r',e,h⟩=>⟨r',e,s3 _ _ h⟩
   have s23:=s2.trans s3;generalize upd H2 pt (.tup [.int j,.ref r])=H3 at *;refine⟨_,rfl,_,rfl,rfl,_,rfl,?_⟩;rw[Zx];refine itn2 (λe=>?_) (λe=>?_)
   ·refine hSS _ _ ⟨s23,hjl',?_⟩;rw[Zz45 hl,if_pos (by lia),YG];exact hZ3
   ·refine⟨_,rfl,_,rfl,r,l,i,rfl,SqL.of (s23 _ _ hr),hLl l (Yy9 hl),λc H4 s4 _ hc=>hSS _ _ ⟨s23.trans s4,hjl',?_⟩⟩;rw[Zz45 hl,if_neg (by lia),YL];exact(hZ3.imp λ_ _ ⟨r',e,h⟩=>⟨r',e,s4 _ _ h⟩).snoc ⟨c,rfl,hc⟩
  ·rintro zs H2 ⟨s2,_,hZ⟩ p hp;rw[hyl,YJ]at hZ;exact q p zs _ (s2.trans (Zz5 hp)) Zz1 (hZ.imp λ_ _ ⟨r',e,h⟩=>⟨r',e,Zz5 hp _ _ h⟩)
def spZ6(C:Addr):Sp:=λvs H Q _=>∃(w:Addr) (n:Int) (ps:List (Int × Int)) (k:Int),vs=[.ref w,.int k]/\WebAt C H w n ps/\Q (.bl (decide (0<=k/\k<(ps.length:Int)))) H
theorem scZ6:FnScope ["web","number"] ["web","number"] (Zz7 sZ6):=⟨rfl,rfl,rfl,by decide +kernel,rfl,by decide +kernel,by decide +kernel⟩
theorem okZ6 (T:Txt K mg t):FnOk P w K mg base CX0 1 t.aZ6 t.dZ6 ["web","number"] (spZ6 t.A_Web):=by
 refine T.fZ6.ok scZ6 (λvs H Q E h=>?_) (λcdv A outer s H vs Q E hr h=>?_)
 ·obtain⟨w,n,ps,k,rfl,_⟩:=h;rfl
 ·obtain⟨w,n,ps,k,rfl,⟨dx,tl,xs,h1,h2,h3⟩,q⟩:=h;refine⟨_,(Zz8 (Zh (ZH9 Zw11 ZI9 Za (pv 1) (Zg (Zo K) (by rfl) T.n_len Boot.«len» (Zz0 (Zk K (pv 0) rfl) Zz3))))),?_⟩;refine⟨_,rfl,_,_,rfl,rfl,_,rfl,?_⟩;refine ite2 (λhc=>?_) (λhc=>?_)
  ·refine⟨_,rfl,w,_,dx,_,_,rfl,h1,T.cl_Web,T.n_Web_ties,Zz31 _ _,tl,xs,rfl,.inl (SqL.of h2),_,_,rfl,rfl,?_⟩;have hc:=Yw hc
   show Q (.bl (decide (k<(xs.length:Int)))) H;rw[h3.1,show decide (k<(ps.length:Int))=decide (0<=k/\k<(ps.length:Int)) from by simp[hc]];exact q
  ·have hc:¬ (0<=k):=λz=>hc (Yx z);show Q (.bl false) H
   rw[show(false:Bool)=decide (0<=k/\k<(ps.length:Int)) from by simp;lia];exact q
def spZ7(K:PySem.W.Frag):Sp:=λvs H Q _=>∃(n:Int) (a:Addr) (kd:Bool) (xs:List V) (ps:List (Int × Int)),vs=[.int n,.ref a]/\SqK kd K H a xs/\PairsV H xs ps/\Zv n ps/\Q .non H
theorem scZ7:FnScope ["places","ties","ends","end"] ["places","ties"] (Zz7 sZ7):=⟨rfl,rfl,rfl,by decide +kernel,rfl,by decide +kernel,by decide +kernel⟩
theorem okZ7 (T:Txt K mg t):FnOk P w K mg base CX0 1 t.aZ7 t.dZ7 ["places","ties"] (spZ7 K):=by
 refine T.fZ7.ok scZ7 (λvs H Q E h=>?_) (λcdv A outer s H vs Q E hr h=>?_)
 ·obtain⟨n,a,kd,xs,ps,rfl,_⟩:=h;rfl
 ·obtain⟨n,a,kd,xs,ps,rfl,hS,hp,⟨g1,g2,g3,g4⟩,q⟩:=h;refine⟨_,(Zz2 (Zn1 (ZA3 (Zf6 Zw11 Zw11 Za (pv 0) (ZC8 (v:=V.int 14) rfl T.g_MOST_PLACES.choose_spec ⟨_,rfl⟩)))
   (Zz8 Zz61)
   Zn)
   (Zz2 (Zn1 (Zf Zx11 (Zg (Zo K) (by rfl) T.n_len Boot.«len» (Zz0 (pv 1) Zz3)) (ZC8 (v:=V.int 30) rfl T.g_MOST_TIES.choose_spec ⟨_,rfl⟩) (Zp _))
   (Zz8 Zz61)
   Zn)
   (Zz8 (ZP1 Yy04 rfl (Zz32 K (pv 1)) (Zd (i:=2) scZ7.nd rfl (Or.inl rfl))
   (Zz8 (ZP1 Yy04 rfl (Zi6 K (pv 2)) (Zd (i:=3) scZ7.nd rfl (Or.inl rfl))
   (Zz8 (Zn1 (ZA3 (Zf6 Zw11 ZI9 Za (pv 3) (pv 0)))
   (Zz8 Zz61)
   Zn)))))))),?_⟩
  refine⟨_,rfl,_,_,rfl,rfl,_,rfl,?_⟩;refine itd g1 ?_;refine⟨_,_,rfl,rfl,_,rfl,?_⟩;refine itn g2 ?_;refine⟨_,rfl,a,xs,rfl,hS.or,_,_,rfl,rfl,_,rfl,?_⟩;refine itdn (by rw[hp.1];lia) ?_;refine⟨_,rfl,a,rfl,ZV4 (k:=kd) (K:=K) (xs:=xs) (λi σ H2=>∃ v v2,σ=[some (.int n),some (.ref a),v,v2]/\H2=H) ⟨none,none,rfl,rfl⟩ (λi σ H2 _ ⟨_,_,_,e⟩=>e ▸ hS) ?_ ?_⟩
  ·rintro i x σ H2 hi ⟨v,v2,rfl,rfl⟩;obtain⟨p,hpi,tt,rfl,ht⟩:=hp.at hi;obtain⟨e1,e2,e3,e4⟩:=g4 p (Yy9 hpi);refine⟨_,rfl,tt,rfl,⟨_,SqT.of ht⟩,ZX8 (K:=K) (a:=tt) (xs:=[.int p.1,.int p.2]) (λj σ H3=>∃ v v2,σ=[some (.int n),some (.ref a),v,v2]/\H3=H2) ⟨_,_,rfl,rfl⟩ (λj σ H3 _ ⟨_,_,_,e⟩=>e ▸ SqT.of ht) ?_ ?_⟩
   ·rintro j y σ H3 hj ⟨v,v2,rfl,rfl⟩;have hy:∃ z:Int,y=.int z/\0<=z/\z<n:=by
     match j,hj with
     | 0,hj=>exact⟨p.1,(Yh hj).symm,e1,e2⟩
     | 1,hj=>exact⟨p.2,(Yh hj).symm,e3,e4⟩
    obtain⟨z,rfl,z1,z2⟩:=hy;refine⟨_,rfl,_,_,rfl,rfl,_,rfl,?_⟩;refine itd z1 ?_;refine⟨_,rfl,_,_,rfl,rfl,_,rfl,?_⟩;refine itn z2 ?_;exact⟨_,_,rfl,rfl⟩
   ·rintro σ H3 ⟨v,v2,rfl,rfl⟩;exact⟨_,_,rfl,rfl⟩
  ·rintro σ H2 ⟨v,v2,rfl,rfl⟩;exact q
def Zr5(K:PySem.W.Frag)(C:Addr):Sp:=λvs H Q _=>∃(w dx:Addr) (n:Int) (a:Addr) (kd:Bool) (xs:List V) (ps:List (Int × Int)),vs=[.ref w,.int n,.ref a]/\H w=some (.ins C dx [])/\(∀ o,SqK kd K (upd H w o) a xs)/\PairsV H xs ps/\Zv n ps /\
 ∀ H':Hp,WebAt C H' w n ps->(∀ b o,H b=some o->b≠w->H' b=some o)->Q .non H'
theorem scZ8:FnScope ["self","places","ties"] ["self","places","ties"] (Zz7 sZ8):=⟨rfl,rfl,rfl,by decide +kernel,rfl,by decide +kernel,by decide +kernel⟩
theorem okZ8 (T:Txt K mg t):FnOk P w K mg base CX0 2 t.aZ8 t.dZ8 ["self","places","ties"] (Zr5 K t.A_Web):=by
 refine T.fZ8.ok scZ8 (λvs H Q E h=>?_) (λcdv A outer s H vs Q E hr h=>?_)
 ·obtain⟨w,dx,n,a,kd,xs,ps,rfl,_⟩:=h;rfl
 ·obtain⟨w,dx,n,a,kd,xs,ps,rfl,hw,hS,hp,g,q⟩:=h;have eH:upd H w (.ins t.A_Web dx [])=H:=by
   funext b
   by_cases hb:b=w
   ·subst hb;rw[Zz1,hw]
   ·rw[Zb hb]
  have hS0:SqK kd K H a xs:=by have z:=hS (.ins t.A_Web dx []);rw[eH]at z;exact z
  refine⟨_,(Zz2 (Za1 (Zz9 (okZ7 T) (hr.mono (by decide)) rfl T.mZ7 T.fZ7.kp T.bZ7 .nil Zs (Zz0 (pv 1) (Zz0 (pv 2) Zz3))))
   (Zz2 (Zz03 (pv 0) (pv 1) rfl)
   (Zz8 (Zz03 (pv 0) (Zz84 rfl (sc0:=Zz7 sZ8) (N0:=["self","places","ties"]) (N':=["ends"]) (o:=1) (fr:=[]) ⟨rfl,by decide +kernel,by decide +kernel,by decide +kernel,rfl,by decide +kernel⟩ (Zz32 K (pv 2)) (Zy (by decide)) (λ_ _ _ _=>(Zd (i:=0) (show List.Nodup (["ends"]:List Str) by decide +kernel) rfl (Or.inl rfl))) (λ_ _ _ _=>Zz91) (λ_ _ _ _=>(Zd1 (Zz0 (ZP (ZN K) (pv 0) Za (λ_ _=>rfl)) (Zz0 (ZP (ZN K) (pv 0) Za (λ_ _=>rfl)) Zz3))))) rfl)))),?_⟩
  refine⟨_,rfl,_,rfl,n,a,kd,xs,ps,rfl,hS0,hp,g,?_⟩;refine⟨_,rfl,_,rfl,w,_,dx,[],rfl,hw,T.cl_Web,T.n_Web_places,(by show 0<1000;decide),?_⟩;have hp1:PairsV (upd H w (.ins t.A_Web dx (putF "places" (.int n) []))) xs ps:=⟨hp.1,λi p e=>by obtain⟨v,e1,tt,e2,e3⟩:=hp.2 i p e;exact⟨v,e1,tt,e2,by rw[Zb (Zs7 e3 hw (λz=>nomatch z))];exact e3⟩⟩
  have sx:xs.length<sizeLine:=Zm (by rw[hp.1];have:=g.2.2.1;lia);refine⟨_,rfl,a,rfl,ZW7 (k:=kd) (K:=K) (xs:=xs) (λi ys H2=>i<=xs.length/\ys.length=i/\Same (upd H w (.ins t.A_Web dx (putF "places" (.int n) []))) H2/\PairsV H2 ys (ps.take i)) ⟨Yl _,rfl,Same.refl _,PairsV.nil⟩ sx
   (λi ys H2 _ ⟨_,hl,s2,_⟩=>⟨(hS _).same s2,Nat.le_of_eq hl⟩) ?_ ?_⟩
  ·rintro i x ys H2 hi ⟨h1,hl,s2,hy⟩ S hSS;obtain⟨p,hpi,tt,rfl,ht⟩:=hp1.at hi;have ht2:=s2 _ _ ht
   refine nmY ?_;refine⟨_,rfl,tt,_,0,.int p.1,rfl,rfl,SqT.of ht2,rfl,_,rfl,tt,_,1,.int p.2,rfl,rfl,SqT.of ht2,rfl,(by show 2<=sizeLine;decide),λq hq=>?_⟩;have hil:i<xs.length:=(Yy1.mp hi).1
   refine hSS _ _ ⟨hil,by rw[Yy4,hl];rfl,ZC s2 hq,?_⟩;rw[YU,hpi];exact(hy.same (Zz5 hq)).snoc ⟨q,rfl,Zz1⟩
  ·rintro ys H2 ⟨_,hl,s2,hy⟩ tl htl;have hw2:=s2 w _ Zz1
   have nwt:w≠tl:=Zc hw2 htl;refine⟨_,rfl,w,_,dx,_,rfl,(by rw[Zb nwt];exact hw2),T.cl_Web,T.n_Web_ties,(by show 1<1000;decide),?_⟩;refine q _ ⟨dx,tl,ys,Zz1,by rw[Zb (YY nwt),Zz1],?_⟩ λb ob e hb=>?_
   ·have e1:ps.take xs.length=ps:=Yy07 (by rw[hp.1];exact Yy8 _);rw[e1]at hy;refine⟨hy.1,λi p e=>?_⟩;obtain⟨v,e2,tt,e3,e4⟩:=hy.2 i p e;exact⟨v,e2,tt,e3,by rw[Zb (Zs7 e4 hw2 (λz=>nomatch z)),Zb (Zc e4 htl)];exact e4⟩
   ·have e2:=s2 b ob (by rw[Zb hb];exact e);rw[Zb hb,Zb (Zc e2 htl)];exact e2
def spZ9(K:PySem.W.Frag)(C:Addr):Sp:=λvs H Q _=>∃(w:Addr) (n:Int) (ps:List (Int × Int)),vs=[.ref w]/\WebAt C H w n ps/\ps.length<=1000 /\
 ∀(r:Addr) (H':Hp),Same H H'->H r=none->H' r=some (.tup (IL (rgL ps.length)))->Q (.ref r) H'
theorem scZ9:FnScope ["web"] ["web"] (Zz7 sZ9):=⟨rfl,rfl,rfl,by decide +kernel,rfl,by decide +kernel,by decide +kernel⟩
theorem okZ9 (T:Txt K mg t):FnOk P w K mg base CX0 1 t.aZ9 t.dZ9 ["web"] (spZ9 K t.A_Web):=by
 refine T.fZ9.ok scZ9 (λvs H Q E h=>?_) (λcdv A outer s H vs Q E hr h=>?_)
 ·obtain⟨w,n,ps,rfl,_⟩:=h;rfl
 ·obtain⟨w,n,ps,rfl,⟨dx,tl,xs,h1,h2,h3⟩,hl,q⟩:=h;refine⟨_,(Zz8 (Zh (Zr (Zj3 rfl) (by rfl) T.n_tuple Boot.«tuple» (Zz0 (Zr Zd5 (by rfl) T.n_range Boot.«range» (Zz0 (Zg (Zo K) (by rfl) T.n_len Boot.«len» (Zz0 (Zk K (pv 0) rfl) Zz3)) Zz3)) Zz3)))),?_⟩;have hx:=h3.1
  refine⟨_,rfl,w,_,dx,_,_,rfl,h1,T.cl_Web,T.n_Web_ties,Zz31 _ _,tl,xs,rfl,.inl (SqL.of h2),_,rfl,λr hr=>⟨r,0,_,rfl,Zz1,⟨by decide,by decide,by lia,by lia⟩,by lia,λl hl=>?_⟩⟩;refine q l _ (ZC (Zz5 hr) hl) ((Zz5 hr).free hl) ?_;rw[Zz1,hx,Zt9]
def spZa(K:PySem.W.Frag)(C:Addr):Sp:=λvs H Q _=>∃(w a:Addr) (n:Int) (ps:List (Int × Int)) (kd:Bool) (T:List Int),vs=[.ref w,.ref a]/\WebAt C H w n ps/\ps.length<=1000/\SqK kd K H a (IL T) /\
 ∀(D:List Int),D.Pairwise (· < ·)->(∀ z,z∈D↔(0<=z/\z<(ps.length:Int))/\z∉T)->∀(r:Addr) (H':Hp),Same H H'->H' r=some (.tup (IL D))->Q (.ref r) H'
theorem scZa:FnScope ["web","ties"] ["web","ties"] (Zz7 sZa):=⟨rfl,rfl,rfl,by decide +kernel,rfl,by decide +kernel,by decide +kernel⟩
theorem okZa (T:Txt K mg t):FnOk P w K mg base CX0 1 t.aZa t.dZa ["web","ties"] (spZa K t.A_Web):=by
 refine T.fZa.ok scZa (λvs H Q E h=>?_) (λcdv A outer s H vs Q E hr h=>?_)
 ·obtain⟨w,a,n,ps,kd,T,rfl,_⟩:=h;rfl
 ·obtain⟨w,a,n,ps,kd,T',rfl,hW,hl,hA,q⟩:=h;refine⟨_,(Zz8 (Zh (Zr (ZA K) (by rfl) T.n_tuple Boot.«tuple» (Zz0 (Zz84 rfl (sc0:=Zz7 sZa) (N0:=["web","ties"]) (N':=["tie","ties"]) (o:=1) (fr:=[1]) ⟨rfl,by decide +kernel,by decide +kernel,by decide +kernel,rfl,by decide +kernel⟩ (ZA1 rfl T.n_range (Zz0 (Zg (Zo K) (by rfl) T.n_len Boot.«len» (Zz0 (Zk K (pv 0) rfl) Zz3)) Zz3)) (Zy (by decide)) (λ_ _ _ _=>(Zd (i:=0) (show List.Nodup (["tie","ties"]:List Str) by decide +kernel) rfl (Or.inl rfl))) (λ_ _ _ _=>(Zt1 (Zf (ZB1 K) (pv 0) (pv 1) rfl))) (λ_ _ _ _=>(pv 0))) Zz3)))),?_⟩;obtain⟨dx,tl,xs,h1,h2,h3⟩:=hW;have hlx:=h3.1
  refine⟨_,rfl,w,_,dx,_,_,rfl,h1,T.cl_Web,T.n_Web_ties,Zz31 _ _,tl,xs,rfl,.inl (SqL.of h2),_,rfl,by lia,by lia,Zz83 (lo:=0) (n:=(xs.length:Int).toNat) (λj ys H3=>H3=H/\∃ D:List Int,ys=IL D/\D.length<=j/\D.Pairwise (· < ·)/\∀ z,z∈D↔(0<=z/\z<(j:Int))/\z∉T') ⟨rfl,[],rfl,Yy8 _,.nil,λz=>⟨λh=>(by cases h),λh=>(by lia)⟩⟩ (Zm (by lia)) (λj ys H3 _ ⟨_,D,e,hl,_⟩=>by rw[e,Zz4];exact hl) ?_ ?_⟩
  ·rintro j ys H3 hj ⟨rfl,D,rfl,hDl,hp,hm⟩ S hSS;have lt:∀ z∈D,z<(j:Int):=λz hz=>((hm z).mp hz).1.2
   refine nm ?_;refine⟨_,rfl,_,rfl,a,_,rfl,hA.or,rfl,Zz _,_,rfl,?_⟩;rw[ZL,Y1W];refine itn2 (λhin=>?_) (λhin=>?_)
   ·refine hSS _ _ ⟨rfl,D,rfl,by lia,hp,λz=>?_⟩;rw[hm z];refine⟨λh=>⟨by lia,h.2⟩,λh=>⟨⟨h.1.1,?_⟩,h.2⟩⟩;by_cases e:z=(j:Int)
    ·exact absurd (e ▸ hin) h.2
    ·lia
   ·refine⟨_,rfl,hSS _ _ ⟨rfl,D++[(j:Int)],?_,by rw[Yy4];exact Nat.succ_le_succ hDl,?_,λz=>?_⟩⟩
    ·rw[ZV]
    ·exact Yy08.mpr ⟨hp,Y0A _ _,λa ha b hb=>by rw[Yy2.mp hb];exact lt a ha⟩
    ·rw[Yy7,Yy2,hm z];constructor
     ·rintro(⟨f1,f2⟩ | h)
      ·exact⟨by lia,f2⟩
      ·rw[h];exact⟨by lia,hin⟩
     ·rintro⟨f1,f2⟩;by_cases e:z=(j:Int)
      ·exact .inr e
      ·exact .inl ⟨by lia,f2⟩
  rintro ys H3 ⟨rfl,D,rfl,hDl,hp,hm⟩ la hla;rw[show(((xs.length:Int).toNat:Nat):Int)=(ps.length:Int) by lia]at hm;refine⟨la,_,rfl,.inl ⟨SqL.of Zz1,λtp htp=>?_⟩⟩;exact q D hp hm tp _ ((Zz5 hla).trans (Zz5 htp)) Zz1
def spZb(K:PySem.W.Frag):Sp:=λvs H Q _=>∃(a:Addr) (kd:Bool) (ns:List Int) (z:Int),vs=[.ref a,.int z]/\SqK kd K H a (IL ns)/\ns.length<=1000 /\
 ∀(r:Addr) (H':Hp),Same H H'->H r=none->H' r=some (.tup (IL (wo ns z)))->Q (.ref r) H'
theorem scZb:FnScope ["ties","left_out"] ["ties","left_out"] (Zz7 sZb):=⟨rfl,rfl,rfl,by decide +kernel,rfl,by decide +kernel,by decide +kernel⟩
theorem okZb (T:Txt K mg t):FnOk P w K mg base CX0 1 t.aZb t.dZb ["ties","left_out"] (spZb K):=by
 refine T.fZb.ok scZb (λvs H Q E h=>?_) (λcdv A outer s H vs Q E hr h=>?_)
 ·obtain⟨a,kd,ns,z,rfl,_⟩:=h;rfl
 ·obtain⟨a,kd,ns,z,rfl,hS,hn,q⟩:=h;refine⟨_,(Zz8 (Zh (Zr (ZA K) (by rfl) T.n_tuple Boot.«tuple» (Zz0 (Zz84 rfl (sc0:=Zz7 sZb) (N0:=["ties","left_out"]) (N':=["tie","left_out"]) (o:=1) (fr:=[1]) ⟨rfl,by decide +kernel,by decide +kernel,by decide +kernel,rfl,by decide +kernel⟩ (Zz32 K (pv 0)) (Zy (by decide)) (λ_ _ _ _=>(Zd (i:=0) (show List.Nodup (["tie","left_out"]:List Str) by decide +kernel) rfl (Or.inl rfl))) (λ_ _ _ _=>(Zt1 (Zf ZK5 (pv 0) (pv 1) (Zp _)))) (λ_ _ _ _=>(pv 0))) Zz3)))),?_⟩;refine⟨_,rfl,a,rfl,ZW7 (k:=kd) (K:=K) (xs:=IL ns) (λi ys H2=>H2=H/\i<=ns.length/\ys=IL (wo (ns.take i) z)) ⟨rfl,Yl _,rfl⟩ (Zm (by rw[Zz4];lia))
   (λi ys H2 hi ⟨e,hi2,ey⟩=>⟨e ▸ hS,by rw[ey,Zz4];exact Yt (ZL10 _ _) (by rw[Yz];lia)⟩) ?_ ?_⟩
  ·rintro i x ys H2 hi ⟨rfl,hil,rfl⟩ S hSS;obtain⟨y,rfl,hy⟩:=Zz71 hi;have hil':i<ns.length:=(Yy1.mp hy).1
   refine nm ?_;refine⟨_,rfl,_,rfl,rfl,_,rfl,?_⟩;rw[Zx];refine itn2 (λhe=>?_) (λhe=>?_)
   ·refine hSS _ _ ⟨rfl,hil',?_⟩;rw[Zg2 hy,if_neg (by simpa using he),YG]
   ·refine⟨_,rfl,hSS _ _ ⟨rfl,hil',?_⟩⟩;rw[Zg2 hy,if_pos he,ZV]
  ·rintro ys H2 ⟨rfl,_,rfl⟩ p hp;rw[Zz4,YJ];refine⟨p,_,rfl,.inl ⟨SqL.of Zz1,λr hr=>?_⟩⟩;exact q r _ (ZC (Zz5 hp) hr) ((Zz5 hp).free hr) Zz1
def spZc(K:PySem.W.Frag):Sp:=λvs H Q _=>∃(a b:Addr) (ns ms:List Int),vs=[.ref a,.ref b]/\SqT K H a (IL ns)/\SqT K H b (IL ms)/\ns.length<=1000/\∀(c:Bool) (H':Hp),(c=true↔∃ z∈ns,z∈ms)->Same H H'->Q (.bl c) H'
theorem scZc:FnScope ["one","other"] ["one","other"] (Zz7 sZc):=⟨rfl,rfl,rfl,by decide +kernel,rfl,by decide +kernel,by decide +kernel⟩
theorem okZc (T:Txt K mg t):FnOk P w K mg base CX0 1 t.aZc t.dZc ["one","other"] (spZc K):=by
 refine T.fZc.ok scZc (λvs H Q E h=>?_) (λcdv A outer s H vs Q E hr h=>?_)
 ·obtain⟨a,b,ns,ms,rfl,_⟩:=h;rfl
 ·obtain⟨a,b,ns,ms,rfl,hA,hB,hl,q⟩:=h;refine⟨_,(Zz8 (Zh (Zg (Zi8 K rfl) (by rfl) T.n_any Boot.«any» (Zz0 (Zz84 rfl (sc0:=Zz7 sZc) (N0:=["one","other"]) (N':=["tie","other"]) (o:=1) (fr:=[1]) ⟨rfl,by decide +kernel,by decide +kernel,by decide +kernel,rfl,by decide +kernel⟩ (Zi6 K (pv 0)) (Zy (by decide)) (λ_ _ _ _=>(Zd (i:=0) (show List.Nodup (["tie","other"]:List Str) by decide +kernel) rfl (Or.inl rfl))) (λ_ _ _ _=>Zz91) (λ_ _ _ _=>(ZF (Zz43 K) (pv 0) (pv 1) rfl))) Zz3)))),?_⟩;refine⟨_,rfl,a,rfl,⟨_,hA⟩,ZW9 (K:=K) (a:=a) (xs:=IL ns) (λi us H2=>H2=H/\i<=ns.length/\us=((ns.take i).map λz=>decide (z∈ms)).map V.bl) ⟨rfl,Yl _,rfl⟩ (Zm (by rw[Zz4];lia))
   (λi us H2 hi ⟨e,hi2,ey⟩=>⟨e ▸ hA,by rw[ey,Yb,Yb,Yz];lia⟩) ?_ ?_⟩
  ·rintro i v us H2 hi ⟨rfl,hil,rfl⟩ S hSS;obtain⟨z,rfl,hz⟩:=Zz71 hi;refine nm ?_;refine⟨_,rfl,_,rfl,b,_,rfl,.inr hB,rfl,Zz _,?_⟩;rw[ZL];refine hSS _ _ ⟨rfl,(Yy1.mp hz).1,?_⟩;rw[YU,hz,YL,YL];rfl
  ·rintro us H2 ⟨rfl,_,rfl⟩ p hp;rw[Zz4,YJ];refine⟨p,_,rfl,SqL.of Zz1,?_⟩;refine q _ _ ?_ (Zz5 hp);rw[List.any_map,Y1c];constructor
   ·rintro⟨z,h1,h2⟩;exact⟨z,h1,Yw h2⟩
   ·rintro⟨z,h1,h2⟩;exact⟨z,h1,Yx h2⟩
def spZd(K:PySem.W.Frag)(C:Addr):Sp:=λvs H Q _=>∃(w a:Addr) (n:Int) (ps:List (Int × Int)) (kd:Bool) (ns:List Int),vs=[.ref w,.ref a]/\WebAt C H w n ps/\SqK kd K H a (IL ns)/\∀ b:Bool,(b=true↔IsSet ps.length ns)->Q (.bl b) H
theorem scZd:FnScope ["web","ties","last","tie"] ["web","ties"] (Zz7 sZd):=⟨rfl,rfl,rfl,by decide +kernel,rfl,by decide +kernel,by decide +kernel⟩
theorem okZd (T:Txt K mg t):FnOk P w K mg base CX0 2 t.aZd t.dZd ["web","ties"] (spZd K t.A_Web):=by
 refine T.fZd.ok scZd (λvs H Q E h=>?_) (λcdv A outer s H vs Q E hr h=>?_)
 ·obtain⟨w,a,n,ps,kd,ns,rfl,_⟩:=h;rfl
 ·obtain⟨w,a,n,ps,kd,ns,rfl,hW,hS,q⟩:=h;refine⟨_,(Zz2 (Zj (i:=2) scZd.nd rfl (Or.inl rfl) (Zj13 ZS10 Za))
   (Zz2 (ZP1 Yy04 rfl (Zz32 K (pv 1)) (Zd (i:=3) scZd.nd rfl (Or.inl rfl))
   (Zz2 (Zn1 (PW.pt (ZI12 (Zf Zw11 (pv 3) (pv 2) (Zp _)) (Zw9 (ZA3 (ZE2 (Zz9 (okZ6 T) (hr.mono (by decide)) rfl T.mZ6 T.fZ6.kp T.bZ6 .nil Zs (Zz0 (pv 0) (Zz0 (pv 3) Zz3))))))))
   (Zz8 (Zh ZF10))
   Zn)
   (Zz8 (Zj (i:=2) scZd.nd rfl (Or.inl rfl) (pv 3)))))
   (Zz8 (Zh ZF10)))),?_⟩
  refine⟨_,rfl,?_⟩;refine⟨_,rfl,a,rfl,ZV4 (k:=kd) (K:=K) (xs:=IL ns) (λi σ H2=>∃(l:Int) (v:Option V),σ=[some (.ref w),some (.ref a),some (.int l),v]/\H2=H/\(i=0->l=-1)/\(i≠0->ns[i - 1]?=some l)/\∀ j z,j<i->ns[j]?=some z->0<=z/\z<(ps.length:Int)/\∀ y,j≠0->ns[j - 1]?=some y->y<z)
   ⟨-1,none,rfl,rfl,λ_=>rfl,λz=>absurd rfl z,λj z hj=>absurd hj (YW j)⟩ (λi σ H2 _ ⟨_,_,_,e,_⟩=>e ▸ hS) ?_ ?_⟩
  ·rintro i x σ H2 hi ⟨l,v,rfl,rfl,hl0,hl1,hp⟩;obtain⟨z,rfl,hz⟩:=Zz71 hi;refine⟨_,rfl,_,rfl,_,_,rfl,rfl,_,rfl,?_⟩;refine itd2 (λhc=>?_) (λhc=>?_)
   ·-- tie<=last
    refine iteT ?_;refine q false ⟨λz=>(nomatch z),λhs=>?_⟩;obtain⟨b1,b2,b3⟩:=hs i z hz;by_cases h0:i=0
    ·have:=hl0 h0;lia
    ·have:=b3 l h0 (hl1 h0);lia
   ·refine⟨_,rfl,_,rfl,w,n,ps,z,rfl,hW,_,rfl,?_⟩;refine itn2 (λhc2=>?_) (λhc2=>?_)
    ·refine⟨_,rfl,?_⟩;refine⟨z,_,rfl,rfl,λe=>(nomatch e),λ_=>by simpa using hz,λj y hj ey=>?_⟩;by_cases hji:j<i
     ·exact hp j y hji ey
     ·have e:j=i:=by lia
      subst e;rw[hz]at ey;cases ey;refine⟨hc2.1,hc2.2,λy h0 ey=>?_⟩;rw[hl1 h0]at ey;cases ey;lia
    ·refine q false ⟨λz=>(nomatch z),λhs=>?_⟩;obtain⟨b1,b2,b3⟩:=hs i z hz;exact absurd ⟨b1,b2⟩ hc2
  ·rintro σ H2 ⟨l,v,rfl,rfl,hl0,hl1,hp⟩;refine q true ⟨λ_ i z hz=>?_,λ_=>rfl⟩;have hi:i<(IL ns).length:=by rw[Zz4];exact(Yy1.mp hz).1
   exact hp i z hi hz
def spZe(K:PySem.W.Frag)(C:Addr):Sp:=λvs H Q _=>∃(w a:Addr) (n:Int) (ps:List (Int × Int)) (kd:Bool) (ns:List Int),vs=[.ref w,.ref a]/\WebAt C H w n ps/\SqK kd K H a (IL ns)/\IsSet ps.length ns /\
 ∀(r:Addr) (H':Hp),Same H H'->SqT K H' r (IL ns)->Q (.ref r) H'
theorem scZe:FnScope ["web","ties"] ["web","ties"] (Zz7 sZe):=⟨rfl,rfl,rfl,by decide +kernel,rfl,by decide +kernel,by decide +kernel⟩
theorem okZe (T:Txt K mg t):FnOk P w K mg base CX0 3 t.aZe t.dZe ["web","ties"] (spZe K t.A_Web):=by
 refine T.fZe.ok scZe (λvs H Q E h=>?_) (λcdv A outer s H vs Q E hr h=>?_)
 ·obtain⟨w,a,n,ps,kd,ns,rfl,_⟩:=h;rfl
 ·obtain⟨w,a,n,ps,kd,ns,rfl,hW,hS,hI,q⟩:=h;refine⟨_,(Zz2 (Zn1 (ZA3 (ZE2 (Zz9 (okZd T) (hr.mono (by decide)) rfl T.mZd T.fZd.kp T.bZd .nil Zs (Zz0 (pv 0) (Zz0 (pv 1) Zz3)))))
   (Zz8 Zz61)
   Zn)
   (Zz8 (Zh (Zr (ZA K) (by rfl) T.n_tuple Boot.«tuple» (Zz0 (pv 1) Zz3))))),?_⟩
  refine⟨_,rfl,_,rfl,w,a,n,ps,kd,ns,rfl,hW,hS,λb hb=>⟨_,rfl,?_⟩⟩;refine itnb (λ_=>?_) (λz=>?_)
  ·refine⟨_,rfl,a,IL ns,rfl,?_⟩;cases kd with
   | false=>exact .inl ⟨hS,λl hl=>q l _ (Zz5 hl) (SqT.of Zz1)⟩
   | true=>exact .inr ⟨hS,q a H (Same.refl H) hS⟩
  ·rw[hb.mpr hI]at z;cases z
def spZf(K:PySem.W.Frag)(C:Addr):Sp:=λvs H Q _=>∃(w m a:Addr) (n:Int) (ps:List (Int × Int)) (M:List Int) (kd:Bool) (ns:List Int),vs=[.ref w,.ref m,.ref a]/\WebAt C H w n ps/\Zv n ps/\H m=some (.lst (IL M))/\M.length=n.toNat/\SqK kd K H a (IL ns)/\(∀ z∈ns,0<=z/\z<(ps.length:Int)) /\
 ∀(m':Addr) (H':Hp),Same H H'->(m'=m\/H m'=none)->H' m'=some (.lst (IL (pmf M (Zz6 ps ns))))->Q (.ref m') H'
theorem scZf:FnScope ["web","marks","ties","tie","ends","low","high"] ["web","marks","ties"] (Zz7 sZf):=⟨rfl,rfl,rfl,by decide +kernel,rfl,by decide +kernel,by decide +kernel⟩
theorem okZf (T:Txt K mg t):FnOk P w K mg base CX0 1 t.aZf t.dZf ["web","marks","ties"] (spZf K t.A_Web):=by
 refine T.fZf.ok scZf (λvs H Q E h=>?_) (λcdv A outer s H vs Q E hr h=>?_)
 ·obtain⟨w,m,a,n,ps,M,kd,ns,rfl,_⟩:=h;rfl
 ·obtain⟨w,m0,a,n,ps,M0,kd,ns,rfl,⟨dx,tl,xs,h1,h2,h3⟩,⟨g1,g2,g3,g4⟩,hm,hlM,hS,hI,q⟩:=h;refine⟨_,(Zz2 (ZP1 Yy04 rfl (Zz32 K (pv 2)) (Zd (i:=3) scZf.nd rfl (Or.inl rfl))
   (Zz2 (Zj (i:=4) scZf.nd rfl (Or.inl rfl) (ZP (Ze K) (Zk K (pv 0) rfl) (pv 3) (λ_ _=>rfl)))
   (Zz2 (Zj (i:=5) scZf.nd rfl (Or.inr rfl) (Zg (Zk3 rfl) (by rfl) T.n_min Boot.«min» (Zz0 (ZP (Ze K) (pv 1) (ZP (ZN K) (pv 4) Za (λ_ _=>rfl)) (λ_ _=>rfl)) (Zz0 (ZP (Ze K) (pv 1) (ZP (ZN K) (pv 4) Za (λ_ _=>rfl)) (λ_ _=>rfl)) Zz3))))
   (Zz2 (Zj (i:=6) scZf.nd rfl (Or.inr rfl) (Zg (Ze5 rfl) (by rfl) T.n_max Boot.«max» (Zz0 (ZP (Ze K) (pv 1) (ZP (ZN K) (pv 4) Za (λ_ _=>rfl)) (λ_ _=>rfl)) (Zz0 (ZP (Ze K) (pv 1) (ZP (ZN K) (pv 4) Za (λ_ _=>rfl)) (λ_ _=>rfl)) Zz3))))
   (Zz8 (Zn1 (Zf ZI9 (pv 5) (pv 6) (Zp _))
   (Zz8 (Zr7 (i:=1) rfl scZf.nd rfl rfl (sc0:=Zz7 sZf) (N0:=["web","marks","ties","tie","ends","low","high"]) (N':=["mark","high","low"]) (o:=1) (fr:=[6,5]) ⟨rfl,by decide +kernel,by decide +kernel,by decide +kernel,rfl,by decide +kernel⟩ (ZZ K (pv 1)) (Zy (by decide)) (λ_ _ _ _=>(Zd (i:=0) (show List.Nodup (["mark","high","low"]:List Str) by decide +kernel) rfl (Or.inl rfl))) (λ_ _ _ _=>Zz91) (λ_ _ _ _=>(Zj6 (Zf Zq3 (pv 0) (pv 1) (Zp _)) (pv 2) (pv 0)))))
   Zn))))))
   (Zz8 (Zh (pv 1)))),?_⟩
  refine⟨_,rfl,a,rfl,ZV4 (k:=kd) (K:=K) (a:=a) (xs:=IL ns) (λi σ H2=>∃(m:Addr) (v3 v4 v5 v6:Option V),σ=[some (.ref w),some (.ref m),some (.ref a),v3,v4,v5,v6]/\Same H H2/\(m=m0\/H m=none)/\H2 m=some (.lst (IL (pmf M0 (Zz6 ps (ns.take i))))))
   ⟨m0,none,none,none,none,rfl,Same.refl _,.inl rfl,hm⟩ (λi σ H2 _ ⟨_,_,_,_,_,_,s2,_⟩=>hS.same s2) ?_ ?_⟩
  ·rintro i x σ H2 hi ⟨m,v3,v4,v5,v6,rfl,s2,hm0,hm2⟩;obtain⟨z,rfl,hz⟩:=Zz71 hi;obtain⟨z0,z1⟩:=hI z (Yy9 hz);obtain⟨p,hp⟩:∃ p,ps[z.toNat]?=some p:=⟨_,Yy0 (by lia)⟩;obtain⟨v,hv,tt,rfl,htt⟩:=h3.2 z.toNat p hp;obtain⟨e1,e2,e3,e4⟩:=g4 p (Yy9 hp);have ed:ps.getD z.toNat (0,0)=p:=ZO hp
   refine⟨_,rfl,w,_,dx,_,_,rfl,s2 _ _ h1,T.cl_Web,T.n_Web_ties,Zz31 _ _,_,rfl,tl,xs,z,.ref tt,rfl,rfl,SqL.of (s2 _ _ h2),ZK (n:=z.toNat) (by lia) hv,?_⟩;have ht2:=s2 _ _ htt
   have hl:(pmf M0 (Zz6 ps (ns.take i))).length=n.toNat:=(Zh6 _ _).trans hlM;generalize hM:pmf M0 (Zz6 ps (ns.take i))=M at *;have ha:M[p.1.toNat]?=some (mk M p.1.toNat):=Zy1 (by grind)
   have hb:M[p.2.toNat]?=some (mk M p.2.toNat):=Zy1 (by grind);have iA:atI (IL M) p.1=some (.int (mk M p.1.toNat)):=ZK (n:=p.1.toNat) (by lia) (by rw[Yu,ha];rfl)
   have iB:atI (IL M) p.2=some (.int (mk M p.2.toNat)):=ZK (n:=p.2.toNat) (by lia) (by rw[Yu,hb];rfl);have t0:atI ([.int p.1,.int p.2]:List V) 0=some (.int p.1):=rfl
   have t1:atI ([.int p.1,.int p.2]:List V) 1=some (.int p.2):=rfl;refine⟨_,rfl,_,rfl,tt,_,0,_,rfl,rfl,SqT.of ht2,t0,m,_,p.1,_,rfl,rfl,SqL.of hm2,iA,_,rfl,_,rfl,tt,_,1,_,rfl,rfl,SqT.of ht2,t1,m,_,p.2,_,rfl,rfl,SqL.of hm2,iB,_,_,rfl,?_⟩;refine⟨_,rfl,_,rfl,tt,_,0,_,rfl,rfl,SqT.of ht2,t0,m,_,p.1,_,rfl,rfl,SqL.of hm2,iA,_,rfl,_,rfl,tt,_,1,_,rfl,rfl,SqT.of ht2,t1,m,_,p.2,_,rfl,rfl,SqL.of hm2,iB,_,_,rfl,?_⟩;have eL:(if mk M p.2.toNat<mk M p.1.toNat then mk M p.2.toNat else mk M p.1.toNat)=min (mk M p.1.toNat) (mk M p.2.toNat):=by rw[Int.min_def];split <;> split <;> lia
   have eH:(if mk M p.2.toNat > mk M p.1.toNat then mk M p.2.toNat else mk M p.1.toNat)=max (mk M p.1.toNat) (mk M p.2.toNat):=by rw[Int.max_def];split <;> split <;> lia
   refine⟨_,rfl,_,rfl,_,_,rfl,rfl,_,rfl,?_⟩;rw[eL,eH];have step:pmf M0 (Zz6 ps (ns.take (i+1)))=pm M p.1.toNat p.2.toNat:=by rw[ZD5 hz,ZD9,hM,ed]
   refine itd2 (λhc=>?_) (λhc=>?_)
   ·refine⟨_,rfl,m,rfl,⟨_,SqL.of hm2⟩,ZH1 (K:=K) (a:=m) (xs:=IL M) (λj ys H3=>H3=H2/\j<=M.length/\ys=IL ((M.take j).map λk=>if k=max (mk M p.1.toNat) (mk M p.2.toNat) then min (mk M p.1.toNat) (mk M p.2.toNat) else k)) ⟨rfl,Yl _,rfl⟩ (Zm (by rw[Zz4];grind))
     (λj ys H3 hj ⟨e,hjl,ey⟩=>⟨e ▸ SqL.of hm2,by rw[ey,Zz4,Yb,Yz];lia⟩) ?_ ?_⟩
    ·rintro j y ys H3 hj ⟨rfl,hjl,rfl⟩ S hSS;obtain⟨k,rfl,hk⟩:=Zz71 hj;refine nmY ?_;refine⟨_,rfl,_,rfl,rfl,_,rfl,?_⟩;have hjl':j<M.length:=(Yy1.mp hk).1
     have app:∀ r:Int,r=(if k=max (mk M p.1.toNat) (mk M p.2.toNat) then min (mk M p.1.toNat) (mk M p.2.toNat) else k) ->
       IL ((M.take j).map λk=>if k=max (mk M p.1.toNat) (mk M p.2.toNat) then min (mk M p.1.toNat) (mk M p.2.toNat) else k)++[.int r]=IL ((M.take (j+1)).map λk=>if k=max (mk M p.1.toNat) (mk M p.2.toNat) then min (mk M p.1.toNat) (mk M p.2.toNat) else k):=by intro r er;rw[YU,hk,er];simp
     refine itd2 (λhe=>?_) (λhe=>?_)
     ·refine⟨_,rfl,hSS _ _ ⟨rfl,hjl',app _ ?_⟩⟩;rw[if_pos (V.int.inj he)]
     ·refine⟨_,rfl,hSS _ _ ⟨rfl,hjl',app _ ?_⟩⟩;rw[if_neg λz=>he (YV V.int z)]
    ·rintro ys H3 ⟨rfl,_,rfl⟩ p' hp';refine⟨p',_,_,_,_,rfl,ZC s2 hp',.inr (s2.free hp'),?_⟩;rw[Zz1,step,Zz4,YJ];unfold pm;rw[if_pos hc]
   ·refine⟨m,_,_,_,_,rfl,s2,hm0,?_⟩;rw[hm2,step];unfold pm;rw[if_neg hc]
  ·rintro σ H2 ⟨m,v3,v4,v5,v6,rfl,s2,hm0,hm2⟩;rw[Zz4,YJ]at hm2;exact⟨_,rfl,q m H2 s2 hm0 hm2⟩
def spZg(K:PySem.W.Frag)(C:Addr):Sp:=λvs H Q _=>∃(w a:Addr) (n:Int) (ps:List (Int × Int)) (ns:List Int),vs=[.ref w,.ref a]/\WebAt C H w n ps/\Zv n ps/\SqT K H a (IL ns)/\(∀ z∈ns,0<=z/\z<(ps.length:Int)) /\
 ∀(m:Addr) (H':Hp),Same H H'->H m=none->H' m=some (.lst (IL (pms n.toNat (Zz6 ps ns))))->Q (.ref m) H'
theorem scZg:FnScope ["web","ties"] ["web","ties"] (Zz7 sZg):=⟨rfl,rfl,rfl,by decide +kernel,rfl,by decide +kernel,by decide +kernel⟩
theorem okZg (T:Txt K mg t):FnOk P w K mg base CX0 2 t.aZg t.dZg ["web","ties"] (spZg K t.A_Web):=by
 refine T.fZg.ok scZg (λvs H Q E h=>?_) (λcdv A outer s H vs Q E hr h=>?_)
 ·obtain⟨w,a,n,ps,ns,rfl,_⟩:=h;rfl
 ·obtain⟨w,a,n,ps,ns,rfl,hW,hG,hS,hI,q⟩:=h;refine⟨_,(Zz8 (Zh (Zz9 (okZf T) (hr.mono (by decide)) rfl T.mZf T.fZf.kp T.bZf .nil Zs (Zz0 (pv 0) (Zz0 (Zr (ZT3 rfl) (by rfl) T.n_list Boot.«list» (Zz0 (Zr Zd5 (by rfl) T.n_range Boot.«range» (Zz0 (Zk K (pv 0) rfl) Zz3)) Zz3)) (Zz0 (pv 1) Zz3)))))),?_⟩;obtain⟨dx,tl,xs,h1,h2,h3⟩:=id hW;obtain⟨g1,g2,g3,g4⟩:=id hG;refine⟨_,rfl,_,rfl,w,_,dx,_,_,rfl,h1,T.cl_Web,T.n_Web_places,Zk1 _ _,n,rfl,λr hr0=>⟨r,0,n,rfl,Zz1,⟨by decide,by decide,by lia,by omega⟩,by lia,λm hm=>?_⟩⟩;have sm:Same H (upd (upd H r (.rng 0 n)) m (.lst ((rngI 0 n).map V.int))):=ZC (Zz5 hr0) hm
  refine⟨_,rfl,w,m,a,n,ps,(List.range n.toNat).map (λ(i:Nat)=>(i:Int)),true,ns,rfl,hW.same sm,hG,?_,by simp,ZT sm hS,hI,λm' H' s' hf hm'=>?_⟩
  ·rw[Zz1,ZD7]
  ·refine q m' H' (sm.trans s') ?_ hm';rcases hf with rfl | hf
   ·exact(Zz5 hr0).free hm
   ·exact sm.free hf
def spZh(K:PySem.W.Frag)(C:Addr):Sp:=λvs H Q _=>∃(w a:Addr) (n:Int) (ps:List (Int × Int)) (kd:Bool) (ns:List Int),vs=[.ref w,.ref a]/\WebAt C H w n ps/\Zv n ps/\SqK kd K H a (IL ns)/\IsSet ps.length ns /\
 ∀(r:Addr) (as:List Addr) (H':Hp),Same H H'->H r=none->H' r=some (.lst (as.map V.ref))->r∉as->GrpAt H H' (grp (pms n.toNat (Zz6 ps ns))) as->Q (.ref r) H'
theorem scZh:FnScope ["web","ties","pieces","place","mark"] ["web","ties"] (Zz7 sZh):=⟨rfl,rfl,rfl,by decide +kernel,rfl,by decide +kernel,by decide +kernel⟩
theorem okZh (T:Txt K mg t):FnOk P w K mg base CX0 4 t.aZh t.dZh ["web","ties"] (spZh K t.A_Web):=by
 refine T.fZh.ok scZh (λvs H Q E h=>?_) (λcdv A outer s H vs Q E hr h=>?_)
 ·obtain⟨w,a,n,ps,kd,ns,rfl,_⟩:=h;rfl
 ·obtain⟨w,a,n,ps,kd,ns,rfl,hW,hG,hS,hI,q⟩:=h;refine⟨_,(Zz2 (Zj (i:=2) scZh.nd rfl (Or.inl rfl) ZG9)
   (Zz2 (ZP1 Yy04 rfl (Zo1 K rfl T.n_enumerate (Zz0 (Zz9 (okZg T) (hr.mono (by decide)) rfl T.mZg T.fZg.kp T.bZg .nil Zs (Zz0 (pv 0) (Zz0 (Zz9 (okZe T) (hr.mono (by decide)) rfl T.mZe T.fZe.kp T.bZe .nil Zs (Zz0 (pv 0) (Zz0 (pv 1) Zz3))) Zz3))) Zz3)) (Zu1 (n:=2) K rfl (Zt (Zd (i:=3) scZh.nd rfl (Or.inl rfl)) (Zt (Zd (i:=4) scZh.nd rfl (Or.inl rfl)) Zc1)))
   (Zz8 (Za1 (Zz52 K YT Y0O Y0N ZT1 (Zz52 K Y3j Y2H PySem.F.type_dict_setdefault ZJ3 (pv 2) (Zz0 (pv 4) (Zz0 (Zp1 Zz3) Zz3))) (Zz0 (pv 3) Zz3)))))
   (Zz8 (Zh (Zr (Zl3 rfl) (by rfl) T.n_list Boot.«list» (Zz0 (Zr11 K Y3j Y3a PySem.F.type_dict_values ZM7 (pv 2)) Zz3)))))),?_⟩
  intro d hd;have s0:Same H (upd H d (.dK [])):=Zz5 hd
  refine⟨_,rfl,_,rfl,_,rfl,w,a,n,ps,kd,ns,rfl,hW.same s0,hS.same s0,hI,λr H1 s1 hr1=>?_⟩;refine⟨w,r,n,ps,ns,rfl,(hW.same s0).same s1,hG,hr1,hI.all,λm H2 s2 hm1 hm2=>?_⟩;have s02:Same H H2:=(s0.trans s1).trans s2
  have hd2:H2 d=some (.dK []):=s2 _ _ (s1 _ _ Zz1);have hl:(pms n.toNat (Zz6 ps ns)).length=n.toNat:=Zw _ _
  generalize hM:pms n.toNat (Zz6 ps ns)=M at *;have hm0:H m=none:=(s0.trans s1).free hm1
  have n14:M.length<=14:=by have:=hG.2.1;grind
  refine⟨m,rfl,⟨_,SqL.of hm2⟩,?_⟩;refine Zd3 (K:=K) (a:=m) (xs:=IL M) (λi σ H3=>∃(as:List Addr) (v3 v4:Option V),σ=[some (.ref w),some (.ref a),some (.ref d),v3,v4]/\i<=M.length/\Same H H3/\H3 m=some (.lst (IL M))/\H3 d=some (.dK (gkv (grpA M i) as))/\d∉as/\m∉as/\GrpAt H H3 (grpA M i) as/\as.length<=i)
   ⟨[],none,none,rfl,Yl _,s02,hm2,hd2,by simp,by simp,⟨rfl,List.nodup_nil,λi kv a e=>by simp[grpA]at e,λa ha=>by simp at ha⟩,Yy8 _⟩ (λi σ H3 _ ⟨_,_,_,_,_,_,h,_⟩=>SqL.of h) ?_ ?_
  ·rintro i x σ H3 pt hpt hi ⟨as,v3,v4,rfl,hil,s3,hm3,hd3,nda,nma,gA,hal⟩;obtain⟨k,rfl,hk⟩:=Zz71 hi;have hk':mk M i=k:=ZO hk
   have hil':i<M.length:=(Yy1.mp hk).1;have s4:Same H3 (upd H3 pt (.tup [.int i,.int k])):=Zz5 hpt
   refine⟨pt,_,rfl,SqT.of Zz1,rfl,_,_,rfl,_,_,rfl,rfl,?_⟩;refine⟨_,rfl,.inr (.inr (.inl ⟨rfl,.inl ⟨_,s4 _ _ hd3⟩⟩)),_,rfl,(by show 0<=sizeLine;exact Yl _),λl hl0=>?_⟩;have s5:Same H3 (upd (upd H3 pt (.tup [.int i,.int k])) l (.lst [])):=ZC s4 hl0
   have hd5:=s5 _ _ hd3;have hl3:H3 l=none:=s4.free hl0
   have ndl:d≠l:=Zc hd3 hl3;have gl:=gA.len
   refine⟨d,gkv (grpA M i) as,Sum.inl k,.ref l,rfl,rfl,hd5,?_,λv hv=>?_,λhv=>?_⟩
   ·rw[ZR6 gl];exact Zm (by grind)
   ·-- the mark has its list
    rcases ZP6 (g:=grpA M i) (as:=as) (k:=k) gl with ⟨h1,_⟩ | ⟨j,kv,b,e1,e2,e3,e4⟩
    ·rw[h1]at hv;cases hv
    ·rw[e4]at hv;cases hv;have hb5:=s5 _ _ (gA.at_ j kv b e1 e2)
     have hkm:k∈(grpA M i).map (·.1):=YC.mpr ⟨kv,Yy9 e1,e3⟩;have hlen:kv.2.length<=i:=Zc4 (Yy9 e1)
     refine⟨.inl ⟨rfl,_,SqL.of hb5⟩,_,rfl,b,_,.int i,rfl,rfl,hb5,?_,?_⟩
     ·rw[Zz4];exact Zm (by grind)
     ·have hbas:b∈as:=Yy9 e2;have hdb:d≠b:=λz=>nda (z ▸ hbas)
      have hmb:m≠b:=λz=>nma (z ▸ hbas);have hb0:=gA.new b hbas
      have ekeys:(grpA M (i+1)).map (·.1)=(grpA M i).map (·.1):=by show(Zb4 (grpA M i) (i:Int) (mk M i)).map (·.1)=_;rw[ZX1,hk',if_pos hkm]
      refine⟨as,_,_,rfl,hil',ZG hb0 (s3.trans s5),by rw[Zb hmb];exact s5 _ _ hm3,by rw[Zb hdb,hd5,ZS6 ekeys],nda,nma,⟨?_,gA.nd,?_,gA.new⟩,by lia⟩
      ·have:=YV List.length ekeys
       rw[Yb,Yb]at this;lia
      ·intro i2 kv2 a2 f1 f2;have f1:(Zb4 (grpA M i) (i:Int) (mk M i))[i2]?=some kv2:=f1
       unfold Zb4 at f1;rw[hk',if_pos hkm,Yu]at f1;cases f3:(grpA M i)[i2]? with
       | none=>rw[f3]at f1;cases f1
       | some kv3 =>
        rw[f3]at f1;have f1:(if kv3.1=k then (kv3.1,kv3.2++[(i:Int)]) else kv3)=kv2:=Yh f1
        by_cases hj:i2=j
        ·subst hj;rw[e1]at f3;cases f3;rw[e2]at f2;cases f2;rw[if_pos e3]at f1;subst f1;rw[Zz1];simp
        ·have hab:a2≠b:=λz=>by subst z;exact hj (ZC1 gA.nd f2 e2)
         have hkk:¬ kv3.1=k:=λz=>hj (ZC1 (Zw2 M i) (by rw[Yu,f3];exact YV some z) (by rw[Yu,e1];exact YV some e3));rw[if_neg hkk]at f1;subst f1;rw[Zb hab];exact s5 _ _ (gA.at_ i2 kv3 a2 f3 f2)
   ·-- a new list
    rcases ZP6 (g:=grpA M i) (as:=as) (k:=k) gl with ⟨h1,hkn⟩ | ⟨j,kv,b,e1,e2,e3,e4⟩
    ·have hl6:(upd (upd (upd H3 pt (.tup [.int i,.int k])) l (.lst [])) d (.dK (gkv (grpA M i) as++[(Sum.inl k,.ref l)]))) l=some (.lst []):=by rw[Zb (YY ndl),Zz1]
     refine⟨.inl ⟨rfl,_,SqL.of hl6⟩,_,rfl,l,[],.int i,rfl,rfl,hl6,(by show 0<sizeLine;decide),?_⟩;have hl0':H l=none:=s3.free hl3
     have hlas:l∉as:=λz=>by obtain⟨_,e⟩:=gA.mem z;rw[hl3]at e;cases e
     have hml:m≠l:=Zc hm3 hl3;have hmd:m≠d:=Zs7 hm3 hd3 (λz=>nomatch z)
     have egr:grpA M (i+1)=grpA M i++[(k,[(i:Int)])]:=by show Zb4 (grpA M i) (i:Int) (mk M i)=_;unfold Zb4;rw[hk',if_neg hkn]
     have hdH:H d=none:=hd;refine⟨as++[l],_,_,rfl,hil',ZG hl0' (ZG hdH (s3.trans s5)),by rw[Zb hml,Zb hmd];exact s5 _ _ hm3,?_,?_,?_,⟨?_,?_,?_,?_⟩,?_⟩
     ·rw[Zb ndl,Zz1,egr,ZQ6 gl]
     ·rw[Yy7,Yy2];rintro(z | z)
      ·exact nda z
      ·exact ndl z
     ·rw[Yy7,Yy2];rintro(z | z)
      ·exact nma z
      ·exact hml z
     ·rw[egr,Yy4,Yy4,gl];rfl
     ·exact ZG8 gA.nd hlas
     ·intro i2 kv2 a2 f1 f2;rw[egr]at f1;by_cases hi2:i2<(grpA M i).length
      ·rw[Yp hi2]at f1;rw[Yp (by lia)]at f2;have e:=gA.at_ i2 kv2 a2 f1 f2
       have n1:a2≠l:=Zc e hl3;have n2:a2≠d:=Zs7 e hd3 (λz=>nomatch z)
       rw[Zb n1,Zb n2];exact s5 _ _ e
      ·have h2:i2=(grpA M i).length:=by
        have:=(Yy1.mp f1).1
        rw[Yy4,Yj]at this;grind
       subst h2;rw[Yq (Yy8 _),Yy14]at f1;rw[Yq (by lia),gl,Yy14]at f2;cases f1;cases f2;rw[Zz1];rfl
     ·intro a2 ha2;rcases Yy7.mp ha2 with z | z
      ·exact gA.new a2 z
      ·rw[Yy2.mp z];exact hl0'
     ·rw[Yy4,Yj];lia
    ·rw[e4]at hv;cases hv
  ·rintro σ H3 ⟨as,v3,v4,rfl,hil,s3,hm3,hd3,nda,nma,gA,hal⟩;rw[Zz4]at hd3 gA;refine⟨_,rfl,.inr (.inr (.inl ⟨rfl,.inl ⟨_,hd3⟩⟩)),d,_,rfl,rfl,hd3,λp hp=>?_⟩;have s6:Same H3 (upd H3 p (ZE10 p d)):=Zz5 hp
   refine⟨p,d,_,rfl,Zz1,s6 _ _ hd3,λr hr0=>?_⟩;have s7:Same H3 (upd (upd H3 p (ZE10 p d)) r (.lst ((gkv (grpA M M.length) as).map (·.2)))):=ZC s6 hr0
   refine q r as _ (s3.trans s7) ((s3.trans s6).free hr0) (by rw[Zz1,ZV8 gA.len]) (λz=>?_) (gA.same s7);obtain⟨_,e⟩:=gA.mem z;rw[s6.free hr0]at e;cases e
def spZi(K:PySem.W.Frag)(C:Addr):Sp:=λvs H Q _=>∃(w a:Addr) (n:Int) (ps:List (Int × Int)) (kd:Bool) (ns:List Int),vs=[.ref w,.ref a]/\WebAt C H w n ps/\Zv n ps/\SqK kd K H a (IL ns)/\IsSet ps.length ns /\
 ∀(b:Bool) (H':Hp),Same H H'->(b=true↔(grp (pms n.toNat (Zz6 ps ns))).length=1)->Q (.bl b) H'
theorem scZi:FnScope ["web","ties"] ["web","ties"] (Zz7 sZi):=⟨rfl,rfl,rfl,by decide +kernel,rfl,by decide +kernel,by decide +kernel⟩
theorem okZi (T:Txt K mg t):FnOk P w K mg base CX0 5 t.aZi t.dZi ["web","ties"] (spZi K t.A_Web):=by
 refine T.fZi.ok scZi (λvs H Q E h=>?_) (λcdv A outer s H vs Q E hr h=>?_)
 ·obtain⟨w,a,n,ps,kd,ns,rfl,_⟩:=h;rfl
 ·obtain⟨w,a,n,ps,kd,ns,rfl,hW,hG,hS,hI,q⟩:=h;refine⟨_,(Zz8 (Zh (ZF Zq3 (Zg (Zo K) (by rfl) T.n_len Boot.«len» (Zz0 (Zz9 (okZh T) (hr.mono (by decide)) rfl T.mZh T.fZh.kp T.bZh .nil Zs (Zz0 (pv 0) (Zz0 (pv 1) Zz3))) Zz3)) Za (Zp _)))),?_⟩;refine⟨_,rfl,_,rfl,w,a,n,ps,kd,ns,rfl,hW,hG,hS,hI,λr as H' s1 hr0 hr1 hnr gA=>?_⟩;refine⟨r,_,rfl,.inl (SqL.of hr1),rfl,?_⟩;rw[Yb,gA.len,Zx];refine q _ H' s1 ?_;rw[Yy00];lia
def spZj(K:PySem.W.Frag)(C:Addr):Sp:=λvs H Q _=>∃(w:Addr) (n:Int) (ps:List (Int × Int)),vs=[.ref w]/\WebAt C H w n ps/\Zv n ps /\
 (ZI2 n ps->∀ H':Hp,Same H H'->Q .non H')/\(¬ ZI2 n ps->∀ H':Hp,Same H H'->False)
theorem scZj:FnScope ["web"] ["web"] (Zz7 sZj):=⟨rfl,rfl,rfl,by decide +kernel,rfl,by decide +kernel,by decide +kernel⟩
theorem okZj (T:Txt K mg t):FnOk P w K mg base CX0 6 t.aZj t.dZj ["web"] (spZj K t.A_Web):=by
 refine T.fZj.ok scZj (λvs H Q E h=>?_) (λcdv A outer s H vs Q E hr h=>?_)
 ·obtain⟨w,n,ps,rfl,_⟩:=h;rfl
 ·obtain⟨w,n,ps,rfl,hW,hG,q,qe⟩:=h;refine⟨_,(Zz8 (Zn1 (ZA3 (ZE2 (Zz9 (okZi T) (hr.mono (by decide)) rfl T.mZi T.fZi.kp T.bZi .nil Zs (Zz0 (pv 0) (Zz0 (Zz9 (okZ9 T) (hr.mono (by decide)) rfl T.mZ9 T.fZ9.kp T.bZ9 .nil Zs (Zz0 (pv 0) Zz3)) Zz3)))))
   (Zz8 Zz61)
   Zn)),?_⟩
  refine⟨_,rfl,_,rfl,w,n,ps,rfl,hW,by have:=hG.2.2.1;lia,λr H1 s1 hr0 hr1=>?_⟩;refine⟨w,r,n,ps,true,rgL ps.length,rfl,hW.same s1,hG,SqT.of hr1,ZL2 _,λb H2 s2 hb=>⟨_,rfl,?_⟩⟩;rw[ZL6 (by have:=hG.1;lia) (ZJ hG (ZL2 _).all)]at hb;refine itnb (λz=>?_) (λz=>?_)
  ·exact q (hb.mp z) H2 (s1.trans s2)
  ·exact qe (λg=>by rw[hb.mpr g]at z;cases z) H2 (s1.trans s2)
def spZk(K:PySem.W.Frag)(C:Addr):Sp:=λvs H Q _=>∃(w b:Addr) (n:Int) (ps:List (Int × Int)) (ws:List Int),vs=[.ref w,.ref b]/\WebAt C H w n ps/\Zv n ps/\SqL K H b (IL ws)/\ws.length=ps.length /\
 ∀(r:Addr) (ys:List V) (L:List (List Int)) (H':Hp),Same H H'->H r=none->TabAt H r n.toNat H' ys L->(∀ i j,i<n.toNat->j<n.toNat->fnL L i j=lapE (Zz42 ps ws) i j)->Q (.ref r) H'
theorem Zc6(x:V)(k:Nat):(List.replicate k [x]).flatten=List.replicate k x:=by
 induction k with
 | zero=>rfl
 | succ k ih=>rw[Y0D,Y1t,ih,Y0D];rfl
theorem Zb10(n i j:Nat):fnL (List.replicate n (List.replicate n 0)) i j=0:=by
 unfold fnL;cases h:(List.replicate n (List.replicate n (0:Int)))[i]? with
 | none =>
  have e:(List.replicate n (List.replicate n (0:Int))).getD i []=[]:=by rw[Yy6,h];rfl
  rw[e];rfl
 | some l =>
  have e:(List.replicate n (List.replicate n (0:Int))).getD i []=l:=by rw[Yy6,h];rfl
  rw[e,Y1b (Yy9 h),Yy6,Y1e];split <;> rfl
theorem TabAt.get{H0 H:Hp}{r:Addr}{n:Nat}{ys:List V}{L:List (List Int)}(h:TabAt H0 r n H ys L){i j:Nat}(hi:i<n)(hj:j<n):∃(A:Addr) (l:List Int) (x:Int),ys[i]?=some (.ref A)/\H A=some (.lst (IL l))/\l[j]?=some x/\l.length=n/\x=fnL L i j/\H0 A=none/\∀ y:Int,∃ L':List (List Int),TabAt H0 r n (upd H A (.lst ((IL l).set j (.int y)))) ys L'/\∀ a b,fnL L' a b=if a=i/\b=j then y else fnL L a b:=by
 obtain⟨A,l,y1,z1,hA,hl,hn,hr⟩:=h.at hi;obtain⟨x,hx⟩:∃ x,l[j]?=some x:=⟨_,Yy0 (by lia)⟩;refine⟨A,l,x,y1,hA,hx,hl,(ZH2 z1 hx).symm,hn,λy=>⟨L.set i (l.set j y),?_,ZX11 z1 (by omega)⟩⟩;have e:(IL l).set j (.int y)=IL (l.set j y):=(List.map_set ..).symm
 rw[e];exact h.put y1 z1 hr (by rw[Y0Z];exact hl)
theorem Zz28{xs:List V}{i:Int}(h0:0<=i)(h1:i<(xs.length:Int)):ixN xs.length i=some i.toNat:=by unfold ixN;rw[if_pos h0,if_pos (by omega)]
theorem scZk:FnScope ["web","weights","table","ends","weight","one","other"] ["web","weights"] (Zz7 sZk):=⟨rfl,rfl,rfl,by decide +kernel,rfl,by decide +kernel,by decide +kernel⟩
theorem okZk (T:Txt K mg t):FnOk P w K mg base CX0 1 t.aZk t.dZk ["web","weights"] (spZk K t.A_Web):=by
 refine T.fZk.ok scZk (λvs H Q E h=>?_) (λcdv A outer s H vs Q E hr h=>?_)
 ·obtain⟨w,b,n,ps,ws,rfl,_⟩:=h;rfl
 ·obtain⟨w,b,n,ps,ws,rfl,hW,hG,hS,hwl,q⟩:=h;refine⟨_,(Zz2 (Zr7 (i:=2) rfl scZk.nd rfl rfl (sc0:=Zz7 sZk) (N0:=["web","weights","table","ends","weight","one","other"]) (N':=["place","web"]) (o:=1) (fr:=[0]) ⟨rfl,by decide +kernel,by decide +kernel,by decide +kernel,rfl,by decide +kernel⟩ (ZA1 rfl T.n_range (Zz0 (Zk K (pv 0) rfl) Zz3)) (Zy (by decide)) (λ_ _ _ _=>(Zd (i:=0) (show List.Nodup (["place","web"]:List Str) by decide +kernel) rfl (Or.inl rfl))) (λ_ _ _ _=>Zz91) (λ_ _ _ _=>(Zq Zu11 (Zp1 (Zz0 Za Zz3)) (Zk K (pv 1) rfl))))
   (Zz2 (ZP1 Yy04 rfl (Zn11 K rfl T.n_zip (Zz0 (Zk K (pv 0) rfl) (Zz0 (pv 1) Zz3))) (Zu1 (n:=2) K rfl (Zt (Zd (i:=3) scZk.nd rfl (Or.inl rfl)) (Zt (Zd (i:=4) scZk.nd rfl (Or.inl rfl)) Zc1)))
   (Zz2 (Zj (i:=5) scZk.nd rfl (Or.inl rfl) (ZP (ZN K) (pv 3) Za (λ_ _=>rfl)))
   (Zz2 (Zj (i:=6) scZk.nd rfl (Or.inl rfl) (ZP (ZN K) (pv 3) Za (λ_ _=>rfl)))
   (Zz8 (Zn1 (Zf ZK5 (pv 5) (pv 6) (Zp _))
   (Zz2 (ZA4 (ZP (Ze K) (pv 2) (pv 5) (λ_ _=>rfl)) (pv 5) (Za2 K) (pv 4) ZP11 Zm2)
   (Zz2 (ZA4 (ZP (Ze K) (pv 2) (pv 6) (λ_ _=>rfl)) (pv 6) (Za2 K) (pv 4) ZP11 Zm2)
   (Zz2 (ZA4 (ZP (Ze K) (pv 2) (pv 5) (λ_ _=>rfl)) (pv 6) (Za2 K) (pv 4) ZO11 Zm2)
   (Zz8 (ZA4 (ZP (Ze K) (pv 2) (pv 6) (λ_ _=>rfl)) (pv 5) (Za2 K) (pv 4) ZO11 Zm2)))))
   Zn)))))
   (Zz8 (Zh (pv 2))))),?_⟩
  obtain⟨dx,tl,xs,h1,h2,h3⟩:=id hW;have hl:=h3.1
  obtain⟨g1,g2,g3,g4⟩:=id hG;have one:1<=sizeLine:=by decide
  refine⟨_,rfl,w,_,dx,_,_,rfl,h1,T.cl_Web,T.n_Web_places,Zk1 _ _,n,rfl,by lia,by lia,Zz83 (lo:=0) (n:=n.toNat) (λi zs H2=>Same H H2/\Bears (Zt7 H2) zs (List.replicate i (List.replicate n.toNat 0))/\zs.Nodup/\∀ A,V.ref A∈zs->H A=none/\∃ o,H2 A=some o) ⟨Same.refl _,⟨rfl,λi l e=>by simp at e⟩,.nil,λA h=>(by cases h)⟩ (Zm (by lia)) (λi zs H2 _ ⟨_,e,_⟩=>by rw[e.1,YI];exact Yy8 _) ?_ ?_⟩
  ·rintro i zs H2 hi ⟨s2,hZ,hnd,hnew⟩ S hSS;refine nm ?_;refine⟨one,λp1 hp1=>?_⟩;have u1:=Zz5 (o:=.lst [.int 0]) hp1
   refine⟨_,rfl,w,_,dx,_,_,rfl,u1 _ _ (s2 _ _ h1),T.cl_Web,T.n_Web_places,Zk1 _ _,p1,n,_,rfl,rfl,Zz1,by lia,by lia,ZN1 (by show 1 * n.toNat<=_;lia),λp2 hp2=>?_⟩;have e0:(List.replicate n.toNat [V.int 0]).flatten=IL (List.replicate n.toNat 0):=by rw[Zc6];show _=(List.replicate n.toNat 0).map V.int;rw[List.map_replicate]
   rw[e0];have u2:=u1.trans (Zz5 (o:=.lst (IL (List.replicate n.toNat 0))) hp2)
   have hp20:H2 p2=none:=(Zz5 hp1).free hp2;refine hSS _ _ ⟨s2.trans u2,?_,?_,λA hA=>?_⟩
   ·rw[List.replicate_succ'];exact(hZ.imp λ_ _ ⟨r',e,h⟩=>⟨r',e,u2 _ _ h⟩).snoc ⟨p2,rfl,Zz1⟩
   ·refine YQ.mpr ⟨hnd,by simp,λx hx y hy e=>?_⟩;rw[Yy2.mp hy]at e;obtain⟨_,o,ho⟩:=hnew p2 (e ▸ hx);rw[hp20]at ho;cases ho
   ·rcases Yy7.mp hA with e | e
    ·obtain⟨a1,o,a2⟩:=hnew A e;exact⟨a1,o,u2 _ _ a2⟩
    ·have e':A=p2:=by simpa using e
     rw[e'];exact⟨s2.free hp20,_,Zz1⟩
  rintro zs H2 ⟨s2,hZ,hnd,hnew⟩ tA htA;have s3:=s2.trans (Zz5 (o:=.lst zs) htA)
  have htA0:H tA=none:=s2.free htA;have hT:TabAt H tA n.toNat (upd H2 tA (.lst zs)) zs (List.replicate n.toNat (List.replicate n.toNat 0)):=⟨Zz1,hZ.imp λ_ _ ⟨r',e,h⟩=>⟨r',e,Zz5 htA _ _ h,Zc h htA⟩,YI,λl h=>by rw[Y1b h];exact YI,hnd,λA h=>(hnew A h).1⟩
  have hzero:∀ i j,fnL (List.replicate n.toNat (List.replicate n.toNat 0)) i j=0:=λi j=>by
   have:=Zb10 n.toNat i j
   exact this
  generalize upd H2 tA (.lst zs)=H3 at *;generalize List.replicate n.toNat (List.replicate n.toNat (0:Int))=L0 at *;refine⟨_,rfl,w,_,dx,_,_,rfl,s3 _ _ h1,T.cl_Web,T.n_Web_ties,Zz31 _ _,_,rfl,tl,b,rfl,⟨_,_,SqL.of (s3 _ _ h2),s3.seq hS⟩,ZW11 (K:=K) (a:=tl) (b:=b) (xs:=xs) (ys:=IL ws) (by rw[Zz4];lia) (λi σ H4=>∃(L:List (List Int)) (v3 v4 v5 v6:Option V),σ=[some (.ref w),some (.ref b),some (.ref tA),v3,v4,v5,v6]/\Same H H4/\TabAt H tA n.toNat H4 zs L/\∀ x y,x<n.toNat->y<n.toNat->fnL L x y=lapE (Zz42 (ps.take i) (ws.take i)) x y) ⟨L0,none,none,none,none,rfl,s3,hT,λx y _ _=>hzero x y⟩ (λi σ H4 _ ⟨_,_,_,_,_,_,e,_⟩=>⟨SqL.of (e _ _ h2),e.seq hS⟩) ?_ ?_⟩
  ·rintro i v v' σ H4 pt hpt hi hi' ⟨L,v3,v4,v5,v6,rfl,s4,hT4,hlap⟩;obtain⟨p,hp,tt,rfl,htt⟩:=h3.at hi;obtain⟨wt,rfl,hwt⟩:=Zz71 hi';obtain⟨e1,e2,e3,e4⟩:=g4 p (Yy9 hp);have u1:=Zz5 (o:=.tup [.ref tt,.int wt]) hpt
   refine⟨pt,_,rfl,SqT.of Zz1,rfl,_,_,rfl,_,_,rfl,rfl,?_⟩;have hT5:=hT4.same u1
   have s5:=s4.trans u1;generalize upd H4 pt (.tup [.ref tt,.int wt])=H5 at *;refine⟨_,rfl,tt,_,0,.int p.1,rfl,rfl,SqT.of (s5 _ _ htt),rfl,?_⟩;refine⟨_,rfl,tt,_,1,.int p.2,rfl,rfl,SqT.of (s5 _ _ htt),rfl,?_⟩;refine⟨_,rfl,_,rfl,rfl,_,rfl,?_⟩;rw[Zx];have esn:=Zh10 hp hwt
   refine itn2 (λheq=>?_) (λhne=>?_)
   ·refine⟨L,_,_,_,_,rfl,s5,hT5,λx y hx hy=>?_⟩;rw[esn,ZK4 (by show p.1.toNat=p.2.toNat;rw[heq])];exact hlap x y hx hy
   have hne':p.1.toNat≠p.2.toNat:=λe=>hne (by grind);obtain⟨A1,l1,x1,y1,hA1,hx1,hl1,ex1,hn1,put1⟩:=hT5.get (i:=p.1.toNat) (j:=p.1.toNat) (by grind) (by omega);refine⟨_,rfl,_,rfl,tA,zs,p.1,.ref A1,rfl,rfl,SqL.of hT5.tab,ZK (n:=p.1.toNat) (by lia) y1,_,rfl,A1,_,p.1,.int x1,rfl,rfl,SqL.of hA1,by lia,ZR2 hx1,_,rfl,_,_,rfl,rfl,A1,_,p.1,p.1.toNat,rfl,rfl,hA1,Zz28 (by omega) (by rw[Zz4];grind),?_⟩;obtain⟨L1,hT6,hf1⟩:=put1 (x1+wt);have s6:Same H (upd H5 A1 (.lst ((IL l1).set p.1.toNat (.int (x1+wt))))):=ZG hn1 s5
   generalize upd H5 A1 (.lst ((IL l1).set p.1.toNat (.int (x1+wt))))=H6 at *;rw[ex1]at hf1;obtain⟨A2,l2,x2,y2,hA2,hx2,hl2,ex2,hn2,put2⟩:=hT6.get (i:=p.2.toNat) (j:=p.2.toNat) (by grind) (by omega);refine⟨_,rfl,_,rfl,tA,zs,p.2,.ref A2,rfl,rfl,SqL.of hT6.tab,ZK (n:=p.2.toNat) (by lia) y2,_,rfl,A2,_,p.2,.int x2,rfl,rfl,SqL.of hA2,by lia,ZR2 hx2,_,rfl,_,_,rfl,rfl,A2,_,p.2,p.2.toNat,rfl,rfl,hA2,Zz28 (by omega) (by rw[Zz4];grind),?_⟩;obtain⟨L2,hT7,hf2⟩:=put2 (x2+wt);have s7:Same H (upd H6 A2 (.lst ((IL l2).set p.2.toNat (.int (x2+wt))))):=ZG hn2 s6
   generalize upd H6 A2 (.lst ((IL l2).set p.2.toNat (.int (x2+wt))))=H7 at *;rw[ex2]at hf2;obtain⟨A3,l3,x3,y3,hA3,hx3,hl3,ex3,hn3,put3⟩:=hT7.get (i:=p.1.toNat) (j:=p.2.toNat) (by grind) (by grind);refine⟨_,rfl,_,rfl,tA,zs,p.1,.ref A3,rfl,rfl,SqL.of hT7.tab,ZK (n:=p.1.toNat) (by lia) y3,_,rfl,A3,_,p.2,.int x3,rfl,rfl,SqL.of hA3,by lia,ZR2 hx3,_,rfl,_,_,rfl,rfl,A3,_,p.2,p.2.toNat,rfl,rfl,hA3,Zz28 (by omega) (by rw[Zz4];grind),?_⟩;obtain⟨L3,hT8,hf3⟩:=put3 (x3 - wt);have s8:Same H (upd H7 A3 (.lst ((IL l3).set p.2.toNat (.int (x3 - wt))))):=ZG hn3 s7
   generalize upd H7 A3 (.lst ((IL l3).set p.2.toNat (.int (x3 - wt))))=H8 at *;rw[ex3]at hf3;obtain⟨A4,l4,x4,y4,hA4,hx4,hl4,ex4,hn4,put4⟩:=hT8.get (i:=p.2.toNat) (j:=p.1.toNat) (by grind) (by grind);refine⟨_,rfl,_,rfl,tA,zs,p.2,.ref A4,rfl,rfl,SqL.of hT8.tab,ZK (n:=p.2.toNat) (by lia) y4,_,rfl,A4,_,p.1,.int x4,rfl,rfl,SqL.of hA4,by lia,ZR2 hx4,_,rfl,_,_,rfl,rfl,A4,_,p.1,p.1.toNat,rfl,rfl,hA4,Zz28 (by omega) (by rw[Zz4];grind),?_⟩;obtain⟨L4,hT9,hf4⟩:=put4 (x4 - wt);have s9:Same H (upd H8 A4 (.lst ((IL l4).set p.1.toNat (.int (x4 - wt))))):=ZG hn4 s8
   generalize upd H8 A4 (.lst ((IL l4).set p.1.toNat (.int (x4 - wt))))=H9 at *;rw[ex4]at hf4;refine⟨L4,_,_,_,_,rfl,s9,hT9,λx y hx hy=>?_⟩;rw[esn,Zz93,<- hlap x y hx hy];exact four hne' x y hf1 hf2 hf3 hf4
  ·rintro σ H4 ⟨L,v3,v4,v5,v6,rfl,s4,hT4,hlap⟩;rw[hl,YJ,<- hwl,YJ]at hlap;exact⟨_,rfl,q tA zs L H4 s4 htA0 hT4 hlap⟩
def spZl(K:PySem.W.Frag)(C:Addr):Sp:=λvs H Q _=>∃(w:Addr) (n:Int) (ps:List (Int × Int)),vs=[.ref w]/\WebAt C H w n ps/\Zv n ps /\
 ∀(r:Addr) (ys:List V) (L:List (List Int)) (H':Hp),Same H H'->H r=none->TabAt H r n.toNat H' ys L->(∀ i j,i<n.toNat->j<n.toNat->fnL L i j=lapE (Zz42 ps (List.replicate ps.length 1)) i j)->Q (.ref r) H'
theorem scZl:FnScope ["web"] ["web"] (Zz7 sZl):=⟨rfl,rfl,rfl,by decide +kernel,rfl,by decide +kernel,by decide +kernel⟩
theorem okZl (T:Txt K mg t):FnOk P w K mg base CX0 2 t.aZl t.dZl ["web"] (spZl K t.A_Web):=by
 refine T.fZl.ok scZl (λvs H Q E h=>?_) (λcdv A outer s H vs Q E hr h=>?_)
 ·obtain⟨w,n,ps,rfl,_⟩:=h;rfl
 ·obtain⟨w,n,ps,rfl,hW,hG,q⟩:=h;refine⟨_,(Zz8 (Zh (Zz9 (okZk T) (hr.mono (by decide)) rfl T.mZk T.fZk.kp T.bZk .nil Zs (Zz0 (pv 0) (Zz0 (Zq Zu11 (Zp1 (Zz0 Za Zz3)) (Zg (Zo K) (by rfl) T.n_len Boot.«len» (Zz0 (Zk K (pv 0) rfl) Zz3))) Zz3))))),?_⟩;obtain⟨dx,tl,xs,h1,h2,h3⟩:=id hW;have hl:=h3.1
  have g3:=hG.2.2.1;refine⟨_,rfl,(by show 1<=sizeLine;decide),λp1 hp1=>?_⟩;have u1:=Zz5 (o:=.lst [.int 1]) hp1
  refine⟨_,rfl,w,_,dx,_,_,rfl,u1 _ _ h1,T.cl_Web,T.n_Web_ties,Zz31 _ _,tl,xs,rfl,.inl (SqL.of (u1 _ _ h2)),p1,(xs.length:Int),_,rfl,rfl,Zz1,by lia,by lia,ZN1 (by show 1 * _<=_;lia),λp2 hp2=>?_⟩;have e0:(List.replicate (xs.length:Int).toNat [V.int 1]).flatten=IL (List.replicate ps.length 1):=by
   rw[YA,hl,Zc6];show _=(List.replicate ps.length 1).map V.int
   rw[List.map_replicate]
  rw[e0];have u2:=u1.trans (Zz5 (o:=.lst (IL (List.replicate ps.length 1))) hp2)
  refine⟨w,p2,n,ps,List.replicate ps.length 1,rfl,hW.same u2,hG,SqL.of Zz1,YI,λr ys L H' s hr hT hf=>?_⟩;exact q r ys L H' (u2.trans s) (u2.free hr) ⟨hT.tab,hT.rows,hT.len,hT.all,hT.nd,λA h=>u2.free (hT.new A h)⟩ hf
def spZm(K:PySem.W.Frag)(C:Addr):Sp:=λvs H Q _=>∃(w:Addr) (n:Int) (ps:List (Int × Int)),vs=[.ref w]/\WebAt C H w n ps/\Zv n ps/\∀(c:Nat) (H':Hp),TC n ps c->Same H H'->Q (.int c) H'
theorem ZO8(u v i:Nat):(ind u v i).natAbs<=1:=by unfold ind;split <;> split <;> decide
theorem ZJ8:∀ {E:List Ed},(∀ e∈E,e.2.2=1)->∀ i j,(lapE E i j).natAbs<=E.length
 | [],_,i,j=>Yy8 0
 | e :: E,h,i,j=>by
  have ih:=ZJ8 (λf hf=>h f (Yg _ hf)) i j;have h1:=ZO8 e.1 e.2.1 i
  have h2:=ZO8 e.1 e.2.1 j;have h3:(ind e.1 e.2.1 i * ind e.1 e.2.1 j).natAbs<=1:=by rw[Y3e];exact Yy18 h1 h2
  show(e.2.2 * (ind e.1 e.2.1 i * ind e.1 e.2.1 j)+lapE E i j).natAbs<=(e :: E).length;rw[h e Ye,Y0w,YD]
  have:=Int.natAbs_add_le (ind e.1 e.2.1 i * ind e.1 e.2.1 j) (lapE E i j)
  lia
theorem Zz87{α:Type}{l:List α}{i:Nat}(hi:l.length=i+1):cutz l (i:Int)=l.take i:=by unfold cutz;rw[YA,Y0E (by lia),YG]
theorem scZm:FnScope ["web"] ["web"] (Zz7 sZm):=⟨rfl,rfl,rfl,by decide +kernel,rfl,by decide +kernel,by decide +kernel⟩
theorem okZm (T:Txt K mg t):FnOk P w K mg base CX0 3 t.aZm t.dZm ["web"] (spZm K t.A_Web):=by
 refine T.fZm.ok scZm (λvs H Q E h=>?_) (λcdv A outer s H vs Q E hr h=>?_)
 ·obtain⟨w,n,ps,rfl,_⟩:=h;rfl
 ·obtain⟨w,n,ps,rfl,hW,hG,q⟩:=h;refine⟨_,(Zz8 (Zh (Zz9 (okZ3 T) (hr.mono (by decide)) rfl T.mZ3 T.fZ3.kp T.bZ3 .nil Zs (Zz0 (Zz9 (okZ5 T) (hr.mono (by decide)) rfl T.mZ5 T.fZ5.kp T.bZ5 .nil Zs (Zz0 (Zz9 (okZl T) (hr.mono (by decide)) rfl T.mZl T.fZl.kp T.bZl .nil Zs (Zz0 (pv 0) Zz3)) (Zz0 (Zq ZG1 (Zk K (pv 0) rfl) Za) Zz3))) Zz3)))),?_⟩;obtain⟨g1,g2,g3,g4⟩:=id hG;refine⟨_,rfl,w,n,ps,rfl,hW,hG,λr ys L H1 s1 hr hT hf=>?_⟩;obtain⟨dx,tl,xs,h1,h2,h3⟩:=id hW;refine⟨_,rfl,w,_,dx,_,_,rfl,s1 _ _ h1,T.cl_Web,T.n_Web_places,Zk1 _ _,_,_,rfl,rfl,?_⟩;obtain⟨k,hk⟩:∃ k:Nat,n - 1=(k:Int):=⟨(n - 1).toNat,by omega⟩;have hnk:n.toNat=k+1:=by grind
  have hLl:=hT.len;have hTB:Bears (Zt7 H1) ys L:=hT.rows.imp λ_ _ h=>h.list
  refine⟨r,ys,L,k,?_,SqL.of hT.tab,hTB,by grind,λl h=>by rw[hT.all l h];grind,by lia,λr2 zs H2 s2 hr2 hZ=>?_⟩
  ·show [V.ref r,V.int (n - 1)]=_;rw[hk]
  have w1:∀ e∈Zz42 ps (List.replicate ps.length (1:Int)),e.2.2=1:=λe he=>by
   unfold Zz42 at he;obtain⟨i,hi⟩:=YX he;rw[Y0I]at hi;cases h1:ps[i]? with
   | none=>rw[h1]at hi;cases hi
   | some p =>
    cases h2:(List.replicate ps.length (1:Int))[i]? with
    | none=>rw[h1,h2]at hi;cases hi
    | some w =>
     rw[h1,h2]at hi;obtain rfl:=Yh hi;exact Y1b (Yy9 h2)
  have el:(Zz42 ps (List.replicate ps.length (1:Int))).length<=30:=by unfold Zz42;rw[Y1a,YI];lia
  have hM:(cutz L (k:Int)).map (λl=>cutz l (k:Int))=(L.take k).map λl=>l.take k:=by rw[Zz87 (by lia)];exact YR λl hl=>Zz87 (by rw[hT.all l (Y1G hl)];lia)
  rw[hM]at hZ;have hMl:((L.take k).map λl=>l.take k).length=k:=by rw[Yb,Yz];grind
  have hfn:∀ i j,i<k->j<k->fnL ((L.take k).map λl=>l.take k) i j=lapE (Zz42 ps (List.replicate ps.length 1)) i j:=λi j hi hj=>by
   rw[<- hf i j (by grind) (by grind)];obtain⟨l,hl⟩:∃ l,L[i]?=some l:=⟨_,Yy0 (by grind)⟩;have hll:=hT.all l (Yy9 hl)
   obtain⟨x,hx⟩:∃ x,l[j]?=some x:=⟨_,Yy0 (by grind)⟩;rw[ZH2 hl hx];exact ZH2 (l:=l.take k) (by rw[Yu,Y1h,if_pos hi,hl];rfl) (by rw[Y1h,if_pos hj];exact hx)
  refine⟨r2,false,zs,(L.take k).map λl=>l.take k,rfl,SqL.of hr2,hZ.imp (λ_ _ ⟨r',e,h⟩=>⟨r',false,e,SqL.of h⟩),by rw[hMl];lia,λi j hi hj=>?_,λ_ H3 s3=>?_,λh=>absurd (λl hl=>?_) h⟩
  ·rw[hMl]at hi hj;rw[hfn i j hi hj];exact Yt (ZJ8 w1 i j) (Yt el (Yt (by decide:30<=2 ^ 5) (Y2e (by decide) (by decide))))
  ·have hd:det ((L.take k).map λl=>l.take k).length (fnL ((L.take k).map λl=>l.take k))=det (n - 1).toNat (lapE (Zz42 ps (List.replicate ps.length 1))):=by rw[hMl,show(n - 1).toNat=k by lia];exact Zl λi j hi hj=>hfn i j hi hj
   obtain⟨c,M,a1,a2,a3⟩:∃ c,TC n ps c:=by obtain⟨M,a1,a2,_⟩:=ZD1 _ (n - 1).toNat (Zz42 ps (List.replicate ps.length 1)) rfl (Zz112 hG _);exact⟨M.length,M,a1,λl=>by rw[a2,ZM8 g1 YI],rfl⟩
   rw[hd,Ze9 hG a1 a2,a3];exact q c H3 ⟨M,a1,a2,a3⟩ (s1.trans (s2.trans s3))
  ·obtain⟨l0,h0,rfl⟩:=YC.mp hl;rw[hMl,Yz,hT.all l0 (Y1G h0)];grind
def spZn(K:PySem.W.Frag)(C:Addr):Sp:=λvs H Q _=>∃(w a b:Addr) (n:Int) (ps:List (Int × Int)) (Is Os:List Int),vs=[.ref w,.ref a,.ref b]/\WebAt C H w n ps/\Zv n ps/\SqT K H a (IL Is)/\SqT K H b (IL Os)/\Is.Nodup/\(∀ z∈Is,0<=z/\z<(ps.length:Int))/\Os.length<=30/\(∀ z∈Is,z∉Os)/\∀(c:Nat) (H':Hp),PC n ps Is Os c->Same H H'->Q (.int c) H'
theorem Zb12{K:PySem.W.Frag}{H:Hp}{a b:Addr}{l m:List Int}{Q:VK}(ha:SqT K H a (IL l))(hb:SqT K H b (IL m))(hl:l.length+m.length<=1000)(k:∀(r:Addr) (H':Hp),Same H H'->SqT K H' r (IL (l++m))->Q (.ref r) H'):ZH12 K (.ref a) (.ref b) H Q:=by
 refine⟨a,b,_,_,rfl,rfl,ha,hb,by rw[Zz4,Zz4];exact Yt hl (by decide),λe=>?_,λ_ e=>?_,λ_ _ p hp=>?_⟩
 ·have el:l=[]:=Yy19.mp e;rw[el,Y0t]at k;exact k b H (Same.refl _) hb
 ·have em:m=[]:=Yy19.mp e;rw[em,YG]at k;exact k a H (Same.refl _) ha
 ·refine k p _ (Zz5 hp) (SqT.of ?_);rw[Zz1,ZW1]
theorem ZU6{gone:List Int}(j:Nat):freT (j+1) gone=freT j gone++(if ((j:Int)∈gone) then [] else [(j:Int)]):=by
 unfold freT;rw[Zb6,Y0b];congr 1;by_cases c:(j:Int)∈gone
 ·rw[if_pos c,YO,if_neg (by simp[c])];rfl
 ·rw[if_neg c,YO,if_pos (by simp[c])];rfl
theorem scZn:FnScope ["web","inside","outside","marks","firsts","numbers","gone","free"] ["web","inside","outside"] (Zz7 sZn):=⟨rfl,rfl,rfl,by decide +kernel,rfl,by decide +kernel,by decide +kernel⟩
theorem okZn (T:Txt K mg t):FnOk P w K mg base CX0 4 t.aZn t.dZn ["web","inside","outside"] (spZn K t.A_Web):=by
 refine T.fZn.ok scZn (λvs H Q E h=>?_) (λcdv A outer s H vs Q E hr h=>?_)
 ·obtain⟨w,a,b,n,ps,Is,Os,rfl,_⟩:=h;rfl
 ·obtain⟨w,a,b,n,ps,Is,Os,rfl,hW,hG,hA,hB,hIn,hIb,hO,hIO,q⟩:=h;refine⟨_,(Zz2 (Zj (i:=3) scZn.nd rfl (Or.inl rfl) (Zz9 (okZg T) (hr.mono (by decide)) rfl T.mZg T.fZg.kp T.bZg .nil Zs (Zz0 (pv 0) (Zz0 (pv 1) Zz3))))
   (Zz2 (Zj (i:=4) scZn.nd rfl (Or.inr rfl) (Zz74 K rfl rfl T.n_sorted rfl T.n_set (Zz0 (pv 3) Zz3)))
   (Zz2 (Zn1 (Zf Zx11 (Zq Ze1 (Zg (Zo K) (by rfl) T.n_len Boot.«len» (Zz0 (pv 4) Zz3)) (Zg (Zo K) (by rfl) T.n_len Boot.«len» (Zz0 (pv 1) Zz3))) (Zk K (pv 0) rfl) (Zp _))
   (Zz8 (Zh Za))
   Zn)
   (Zz2 (Zj (i:=5) scZn.nd rfl (Or.inr rfl) (Zz84 rfl (sc0:=Zz7 sZn) (N0:=["web","inside","outside","marks","firsts","numbers","gone","free"]) (N':=["mark","firsts"]) (o:=1) (fr:=[4]) ⟨rfl,by decide +kernel,by decide +kernel,by decide +kernel,rfl,by decide +kernel⟩ (ZZ K (pv 3)) (Zy (by decide)) (λ_ _ _ _=>(Zd (i:=0) (show List.Nodup (["mark","firsts"]:List Str) by decide +kernel) rfl (Or.inl rfl))) (λ_ _ _ _=>Zz91) (λ_ _ _ _=>(Zz52 K YT Y3i Y3h (ZO7 K) (pv 1) (Zz0 (pv 0) Zz3)))))
   (Zz2 (Zj (i:=6) scZn.nd rfl (Or.inr rfl) (Zq (ZP2 K) (pv 1) (pv 2)))
   (Zz2 (Zr7 (i:=7) rfl scZn.nd rfl rfl (sc0:=Zz7 sZn) (N0:=["web","inside","outside","marks","firsts","numbers","gone","free"]) (N':=["tie","ends","gone"]) (o:=2) (fr:=[6]) ⟨rfl,by decide +kernel,by decide +kernel,by decide +kernel,rfl,by decide +kernel⟩ (Zo1 K rfl T.n_enumerate (Zz0 (Zk K (pv 0) rfl) Zz3)) (ZN2 (ZU (by decide) (ZU (by decide) ZO2))) (λ_ _ _ _=>(Zu1 (n:=2) K rfl (Zt (Zd (i:=0) (show List.Nodup (["tie","ends","gone"]:List Str) by decide +kernel) rfl (Or.inl rfl)) (Zt (Zd (i:=1) (show List.Nodup (["tie","ends","gone"]:List Str) by decide +kernel) rfl (Or.inl rfl)) Zc1)))) (λ_ _ _ _=>(Zt1 (Zf (ZB1 K) (pv 0) (pv 2) rfl))) (λ_ _ _ _=>(pv 1)))
   (Zz8 (Zh (Zz9 (okZm T) (hr.mono (by decide)) rfl T.mZm T.fZm.kp T.bZm .nil Zs (Zz0 (ZB3 T.k_Web (okZ8 T) (hr.mono (by decide)) rfl T.c_Web T.bZ8 .nil Zs (Zz0 (Zg (Zo K) (by rfl) T.n_len Boot.«len» (Zz0 (pv 4) Zz3)) (Zz0 (Zz84 rfl (sc0:=Zz7 sZn) (N0:=["web","inside","outside","marks","firsts","numbers","gone","free"]) (N':=["ends","numbers"]) (o:=1) (fr:=[5]) ⟨rfl,by decide +kernel,by decide +kernel,by decide +kernel,rfl,by decide +kernel⟩ (ZZ K (pv 7)) (Zy (by decide)) (λ_ _ _ _=>(Zd (i:=0) (show List.Nodup (["ends","numbers"]:List Str) by decide +kernel) rfl (Or.inl rfl))) (λ_ _ _ _=>Zz91) (λ_ _ _ _=>(Zd1 (Zz0 (ZP (Ze K) (pv 1) (ZP (ZN K) (pv 0) Za (λ_ _=>rfl)) (λ_ _=>rfl)) (Zz0 (ZP (Ze K) (pv 1) (ZP (ZN K) (pv 0) Za (λ_ _=>rfl)) (λ_ _=>rfl)) Zz3))))) Zz3))) Zz3)))))))))),?_⟩
  obtain⟨g1,g2,g3,g4⟩:=id hG;obtain⟨Js,hJ1,hJ2⟩:=Zz26 Is;have hJ:IsSet ps.length Js:=isSet_iff.mpr ⟨λz hz=>hIb z (hJ1.mem_iff.mp hz),(hJ2.and (hJ1.nodup_iff.mpr hIn)).imp λh=>by have:=h.1;have:=h.2;lia⟩
  have hIl:Is.length<=ps.length:=by rw[<- hJ1.length_eq];exact hJ.len
  have hcn:∀ i j,Conn (Zz6 ps Js) i j↔Conn (Zz6 ps Is) i j:=λi j=>Zz51 λy=>hJ1.mem_iff;have hfr:freT ps.length (Js++Os)=freT ps.length (Is++Os):=Y1u λz _=>by simp only [Yy7,hJ1.mem_iff]
  have back:∀ c,PC n ps Js Os c->PC n ps Is Os c:=λc ⟨L,l1,l2,l3⟩=>⟨L,l1,λl=>(l2 l).trans ⟨λh=>⟨h.1,λz hz=>h.2.1 z (hJ1.mem_iff.mpr hz),h.2.2⟩,λh=>⟨h.1,λz hz=>h.2.1 z (hJ1.mem_iff.mp hz),h.2.2⟩⟩,l3⟩;refine⟨_,rfl,_,rfl,w,a,n,ps,Is,rfl,hW,hG,hA,hIb,λmA H1 s1 hm0 hm1=>?_⟩;have hpl:=Zw n.toNat (Zz6 ps Is)
  have hin:=ZJ (ns:=Is) hG hIb;have hel:(Zz6 ps Is).length=Is.length:=Yb ..
  refine nm ?_;refine⟨_,rfl,mA,_,rfl,SqL.of hm1,by grind,λF hF hFm fA hfA=>?_⟩;have s2:=Zz5 (o:=.lst (IL F)) hfA
  have hf2:(upd H1 fA (.lst (IL F))) fA=some (.lst (IL F)):=Zz1;have hm2:=s2 _ _ hm1
  have s02:=s1.trans s2;refine nm ?_;dsimp only;generalize upd H1 fA (.lst (IL F))=H2 at *;obtain⟨g,hfg,hfk,hgg⟩:=ZO9 hin hF hFm;obtain⟨k1,kn,nk⟩:=Zf4 hin (by lia) hF hFm;have hA2:=ZT s02 hA
  have hB2:=ZT s02 hB;obtain⟨dx,tl,xs,h1,h2,h3⟩:=hW.same s02;have hlx:=h3.1
  refine⟨_,rfl,fA,_,rfl,.inl (SqL.of hf2),_,rfl,a,_,rfl,.inr hA2,_,_,rfl,rfl,_,rfl,w,_,dx,_,_,rfl,h1,T.cl_Web,T.n_Web_places,Zk1 _ _,_,_,rfl,rfl,_,rfl,?_⟩;rw[Zz4,Zz4];refine itd2 (λhc=>?_) (λhc=>?_)
  ·exact q 0 H2 (back 0 (Zs11 hG hJ (λi j hi hj=>(hfg i j hi hj).trans (hcn i j).symm) hfk hgg k1 kn (by rw[hJ1.length_eq];lia))) s02
  refine⟨_,rfl,mA,rfl,⟨_,SqL.of hm2⟩,ZH1 (K:=K) (a:=mA) (xs:=IL (pms n.toNat (Zz6 ps Is))) (λi zs H3=>H3=H2/\i<=n.toNat/\zs=IL (((pms n.toNat (Zz6 ps Is)).take i).map λz=>(nix F z:Int))) ⟨rfl,Yl _,rfl⟩ (Zm (by rw[Zz4,hpl];grind)) (λi zs H3 _ ⟨e,hi,ez⟩=>⟨e ▸ SqL.of hm2,by rw[ez,Zz4,Yb,Yz];lia⟩) ?_ ?_⟩
  ·rintro i v zs H3 hi ⟨rfl,hin3,rfl⟩ S hSS;obtain⟨z,rfl,hz⟩:=Zz71 hi;have hzF:z∈F:=(hFm z).mpr (Yy9 hz)
   have hlt:=(Yy1.mp hz).1;refine nm ?_;refine⟨_,rfl,.inl ⟨rfl,_,SqL.of hf2⟩,_,rfl,fA,F,z,nix F z,rfl,rfl,SqL.of hf2,Zr2 hzF,λi hi e=>by have:=ZC1 (ZL1 hF) e (Zr2 hzF);lia,hSS _ _ ⟨rfl,by lia,?_⟩⟩;rw[YU,hz,YL];exact(ZV _ _).symm
  rintro zs H3 ⟨rfl,_,rfl⟩ nA hnA;rw[Zz4,YJ];have s3:=Zz5 (o:=.lst (IL ((pms n.toNat (Zz6 ps Is)).map λz=>(nix F z:Int)))) hnA
  have hn4:(upd H3 nA (.lst (IL ((pms n.toNat (Zz6 ps Is)).map λz=>(nix F z:Int))))) nA=some (.lst (IL ((pms n.toNat (Zz6 ps Is)).map λz=>(nix F z:Int)))):=Zz1;have hf4:=s3 _ _ hf2
  have hA4:=ZT s3 hA2;have hB4:=ZT s3 hB2
  have s04:=s02.trans s3;generalize upd H3 nA (.lst (IL ((pms n.toNat (Zz6 ps Is)).map λz=>(nix F z:Int))))=H4 at *;have nAt:∀ x:Int,0<=x->x<n->((pms n.toNat (Zz6 ps Is)).map λz=>(nix F z:Int))[x.toNat]?=some (nix F (mk (pms n.toNat (Zz6 ps Is)) x.toNat):Int):=λx x0 x1=>by rw[Yu,Yy0 (by grind)];unfold mk;rw[Yy6,Yy0 (by omega)];rfl
  refine nm ?_;dsimp only;refine⟨_,rfl,_,rfl,Zb12 hA4 hB4 (by lia) λgA H5 s5 hg5=>?_⟩;have s05:=s04.trans s5
  obtain⟨dx,tl,xs,h1,h2,h3⟩:=hW.same s05;have hlx:=h3.1
  refine nm ?_;dsimp only;refine⟨_,rfl,w,_,dx,_,_,rfl,h1,T.cl_Web,T.n_Web_ties,Zz31 _ _,tl,rfl,⟨_,SqL.of h2⟩,ZL3 (K:=K) (a:=tl) (xs:=xs) (λj zs H6=>Same H5 H6/\j<=ps.length/\PairsV H6 zs ((freT j (Is++Os)).map λz=>ps.getD z.toNat (0,0))) ⟨Same.refl _,Yl _,PairsV.nil⟩ (Zm (by lia)) (λj zs H6 hj ⟨e,hj2,ez⟩=>⟨e.seq (SqL.of h2),by rw[ez.1,Yb];refine Yt (YF ..) ?_;rw[ZI];exact Yy8 _⟩) ?_ ?_⟩
  ·rintro j v zs H6 pt hpt hj ⟨s6,hjl,hZ⟩ S hSS;obtain⟨p,hp,tt,rfl,ht⟩:=h3.at hj;have hjl':=(Yy1.mp hp).1
   have s7:=Zz5 (o:=.tup [.int j,.ref tt]) hpt;refine⟨pt,_,rfl,SqT.of Zz1,rfl,_,_,rfl,_,_,rfl,rfl,?_⟩;have hZ7:=hZ.same s7
   have s57:=s6.trans s7;generalize upd H6 pt (.tup [.int j,.ref tt])=H7 at *;refine⟨_,rfl,_,rfl,gA,_,rfl,.inr (ZT s57 hg5),rfl,Zz _,_,rfl,?_⟩;rw[ZL];refine itn2 (λhin2=>?_) (λhin2=>?_)
   ·refine hSS _ _ ⟨s57,hjl',?_⟩;rw[ZU6,if_pos hin2,YG];exact hZ7
   ·refine⟨_,rfl,hSS _ _ ⟨s57,hjl',?_⟩⟩;rw[ZU6,if_neg hin2,YL];refine hZ7.app ?_;show PairsV H7 [V.ref tt] [ps.getD ((j:Nat):Int).toNat (0,0)]
    rw[YA,ZO hp];exact PairsV.nil.snoc ⟨tt,rfl,s57 _ _ ht⟩
  rintro zs H6 ⟨s6,_,hZ⟩ rA hrA;rw[hlx]at hZ;have s7:=Zz5 (o:=.lst zs) hrA
  have hr7:(upd H6 rA (.lst zs)) rA=some (.lst zs):=Zz1;have hZ7:=hZ.same s7
  have s57:=s6.trans s7;generalize upd H6 rA (.lst zs)=H7 at *;have hf7:=s57 _ _ (s5 _ _ hf4)
  have hn7:=s57 _ _ (s5 _ _ hn4);have hzl:=hZ7.1
  have hfl:(freT ps.length (Is++Os)).length<=30:=by refine Yt (YF ..) ?_;rw[ZI];lia
  rw[Yb]at hzl;refine nm ?_;dsimp only;refine⟨_,rfl,fA,_,rfl,.inl (SqL.of hf7),_,rfl,rA,rfl,⟨_,SqL.of hr7⟩,ZH1 (K:=K) (a:=rA) (xs:=zs) (λi ws H8=>Same H7 H8/\i<=(freT ps.length (Is++Os)).length/\PairsV H8 ws (((freT ps.length (Is++Os)).take i).map λz=>((nix F (mk (pms n.toNat (Zz6 ps Is)) (Zu ps z).1):Int),(nix F (mk (pms n.toNat (Zz6 ps Is)) (Zu ps z).2):Int)))) ⟨Same.refl _,Yl _,PairsV.nil⟩ (Zm (by lia))
   (λi ws H8 hi ⟨e,hi2,ew⟩=>⟨e.seq (SqL.of hr7),by rw[ew.1,Yb,Yz];lia⟩) ?_ ?_⟩
  ·rintro i v ws H8 hi ⟨s8,hil,hPw⟩ S hSS;obtain⟨p,hp,tt,rfl,ht⟩:=hZ7.at hi;rw[Yu]at hp;obtain⟨z,hz,ez⟩:∃ z,(freT ps.length (Is++Os))[i]?=some z/\ps.getD z.toNat (0,0)=p:=by
    cases hq:(freT ps.length (Is++Os))[i]? with
    | none=>rw[hq]at hp;cases hp
    | some z=>rw[hq]at hp;exact⟨z,rfl,Yh hp⟩
   have hz1:=(freT_mem.mp (Yy9 hz)).1;obtain⟨p',hp'⟩:∃ p,ps[z.toNat]?=some p:=⟨_,Yy0 (by lia)⟩;have epp:p'=p:=by rw[<- ez,ZO hp']
   rw[epp]at hp';obtain⟨e1,e2,e3,e4⟩:=g4 p (Yy9 hp');have ee:Zu ps z=(p.1.toNat,p.2.toNat):=by unfold Zu;rw[ZO hp']
   have ht8:=s8 _ _ ht;have hn8:=s8 _ _ hn7
   refine nm ?_;refine⟨_,rfl,_,rfl,tt,_,0,.int p.1,rfl,rfl,SqT.of ht8,rfl,nA,_,_,_,rfl,rfl,SqL.of hn8,ZK (n:=p.1.toNat) (by lia) (ZR2 (nAt p.1 e1 e2)),?_⟩;refine⟨_,rfl,_,rfl,tt,_,1,.int p.2,rfl,rfl,SqT.of ht8,rfl,nA,_,_,_,rfl,rfl,SqL.of hn8,ZK (n:=p.2.toNat) (by lia) (ZR2 (nAt p.2 e3 e4)),(by show 2<=sizeLine;decide),λpp hpp=>?_⟩;refine hSS _ _ ⟨s8.trans (Zz5 hpp),by have:=(Yy1.mp hz).1;lia,?_⟩;rw[YU,hz,YL];refine(hPw.same (Zz5 hpp)).snoc ⟨pp,rfl,?_⟩;dsimp only;rw[ee];exact Zz1
  rintro ws H8 ⟨s8,_,hPw⟩ la hla;rw[hzl,YJ]at hPw;have s9:=Zz5 (o:=.lst ws) hla
  have hla9:(upd H8 la (.lst ws)) la=some (.lst ws):=Zz1;have hP9:=hPw.same s9
  have s79:=s8.trans s9;generalize upd H8 la (.lst ws)=H9 at *;have hGc:=Zg7 (f:=λi=>nix F (mk (pms n.toNat (Zz6 ps Is)) i)) hG (Is++Os) hfk k1 kn
  intro x dx2 nx ndx nex;have t1:Same H9 (upd (upd H9 dx2 (.own x)) x (.ins t.A_Web dx2 [])):=ZC (Zz5 ndx) (by rw[Zb (YY nex)];exact nx)
  refine⟨x,dx2,(F.length:Int),la,false,ws,_,by rw[Zz4];rfl,Zz1,λo=>?_,hP9.same t1,hGc,λH10 hV k10=>⟨rfl,?_⟩⟩
  ·exact SqL.of (by rw[Zb (Zc hla9 nx),Zb (Zc hla9 nx),Zb (Zc hla9 ndx)];exact hla9)
  have s10:Same H9 H10:=λb o e=>k10 b o (t1 b o e) (Zc e nx);refine⟨x,_,_,rfl,hV,hGc,λc H11 hc s11=>q c H11 (back c (ZG13 hG hJ (λz hz=>hIO z (hJ1.mem_iff.mp hz)) (λi j hi hj=>(hfg i j hi hj).trans (hcn i j).symm) hfk hgg (by rw[hJ1.length_eq];grind) (by rw[hfr];exact hc))) (s05.trans (s57.trans (s79.trans (s10.trans s11))))⟩
def spZo(K:PySem.W.Frag)(C:Addr):Sp:=λvs H Q _=>∃(w a b:Addr) (n:Int) (ps:List (Int × Int)) (Is Os:List Int),vs=[.ref w,.ref a,.ref b]/\WebAt C H w n ps/\Zv n ps/\SqT K H a (IL Is)/\SqT K H b (IL Os)/\IsSet ps.length Is/\IsSet ps.length Os/\∀(c:Nat) (H':Hp),PC n ps Is Os c->Same H H'->Q (.int c) H'
theorem scZo:FnScope ["web","inside","outside"] ["web","inside","outside"] (Zz7 sZo):=⟨rfl,rfl,rfl,by decide +kernel,rfl,by decide +kernel,by decide +kernel⟩
theorem okZo (T:Txt K mg t):FnOk P w K mg base CX0 5 t.aZo t.dZo ["web","inside","outside"] (spZo K t.A_Web):=by
 refine T.fZo.ok scZo (λvs H Q E h=>?_) (λcdv A outer s H vs Q E hr h=>?_)
 ·obtain⟨w,a,b,n,ps,Is,Os,rfl,_⟩:=h;rfl
 ·obtain⟨w,a,b,n,ps,Is,Os,rfl,hW,hG,hA,hB,hI,hO,q⟩:=h;refine⟨_,(Zz2 (Zj (i:=1) scZo.nd rfl (Or.inl rfl) (Zz9 (okZe T) (hr.mono (by decide)) rfl T.mZe T.fZe.kp T.bZe .nil Zs (Zz0 (pv 0) (Zz0 (pv 1) Zz3))))
   (Zz2 (Zj (i:=2) scZo.nd rfl (Or.inl rfl) (Zz9 (okZe T) (hr.mono (by decide)) rfl T.mZe T.fZe.kp T.bZe .nil Zs (Zz0 (pv 0) (Zz0 (pv 2) Zz3))))
   (Zz2 (Zn1 (ZE2 (Zz9 (okZc T) (hr.mono (by decide)) rfl T.mZc T.fZc.kp T.bZc .nil Zs (Zz0 (pv 1) (Zz0 (pv 2) Zz3))))
   (Zz8 (Zh Za))
   Zn)
   (Zz8 (Zh (Zz9 (okZn T) (hr.mono (by decide)) rfl T.mZn T.fZn.kp T.bZn .nil Zs (Zz0 (pv 0) (Zz0 (pv 1) (Zz0 (pv 2) Zz3))))))))),?_⟩
  have g3:=hG.2.2.1;have l1:=hI.len
  have l2:=hO.len;refine⟨_,rfl,_,rfl,w,a,n,ps,true,Is,rfl,hW,hA,hI,λr1 H1 s1 hr1=>?_⟩;refine nm ?_;refine⟨_,rfl,_,rfl,w,b,n,ps,true,Os,rfl,hW.same s1,ZT s1 hB,hO,λr2 H2 s2 hr2=>?_⟩;refine nm ?_;have hr12:=ZT s2 hr1
  have s02:=s1.trans s2;refine⟨_,rfl,_,rfl,r1,r2,Is,Os,rfl,hr12,hr2,by lia,λc H3 hc s3=>⟨_,rfl,?_⟩⟩;have s03:=s02.trans s3
  refine itb (λhb=>?_) (λhb=>?_)
  ·obtain⟨z,h1,h2⟩:=hc.mp hb;exact q 0 H3 (ZI7 h1 h2) s03
  ·exact⟨_,rfl,_,rfl,_,rfl,w,r1,r2,n,ps,Is,Os,rfl,hW.same s03,hG,ZT s3 hr12,ZT s3 hr2,hI.nodup,hI.all,by lia,λz h1 h2=>absurd (hc.mpr ⟨z,h1,h2⟩) (by rw[hb];decide),λc H4 hc4 s4=>q c H4 hc4 (s03.trans s4)⟩
def spZp(K:PySem.W.Frag)(C:Addr):Sp:=λvs H Q _=>∃(w a:Addr) (n:Int) (ps:List (Int × Int)) (kd:Bool) (ns:List Int),vs=[.ref w,.ref a]/\WebAt C H w n ps/\Zv n ps/\SqK kd K H a (IL ns) /\
 ∀(b:Bool) (H':Hp),Same H H'->(b=true↔Zi n ps ns)->Q (.bl b) H'
theorem scZp:FnScope ["web","ties"] ["web","ties"] (Zz7 sZp):=⟨rfl,rfl,rfl,by decide +kernel,rfl,by decide +kernel,by decide +kernel⟩
theorem okZp (T:Txt K mg t):FnOk P w K mg base CX0 6 t.aZp t.dZp ["web","ties"] (spZp K t.A_Web):=by
 refine T.fZp.ok scZp (λvs H Q E h=>?_) (λcdv A outer s H vs Q E hr h=>?_)
 ·obtain⟨w,a,n,ps,kd,ns,rfl,_⟩:=h;rfl
 ·obtain⟨w,a,n,ps,kd,ns,rfl,hW,hG,hS,q⟩:=h;refine⟨_,(Zz8 (Zh (ZH7 (Zz9 (okZd T) (hr.mono (by decide)) rfl T.mZd T.fZd.kp T.bZd .nil Zs (Zz0 (pv 0) (Zz0 (pv 1) Zz3))) (ZH7 (ZF Zq3 (Zg (Zo K) (by rfl) T.n_len Boot.«len» (Zz0 (pv 1) Zz3)) (Zq ZG1 (Zk K (pv 0) rfl) Za) (Zp _)) (ZF9 (Zz9 (okZi T) (hr.mono (by decide)) rfl T.mZi T.fZi.kp T.bZi .nil Zs (Zz0 (pv 0) (Zz0 (pv 1) Zz3)))))))),?_⟩;refine⟨_,rfl,_,rfl,w,a,n,ps,kd,ns,rfl,hW,hS,λb hb=>⟨b,rfl,?_⟩⟩;refine itb (λe=>?_) (λe=>?_)
  ·have hI:=hb.mp e;obtain⟨dx,tl,xs,h1,h2,h3⟩:=id hW;refine⟨_,rfl,a,_,rfl,hS.or,_,rfl,w,_,dx,_,_,rfl,h1,T.cl_Web,T.n_Web_places,Zk1 _ _,_,_,rfl,rfl,rfl,_,rfl,?_⟩;rw[Zz4,Zx];refine itd2 (λhl=>?_) (λhl=>?_)
   ·refine⟨_,rfl,_,rfl,w,a,n,ps,kd,ns,rfl,hW,hG,hS,hI,λb2 H' s hb2=>q b2 H' s ?_⟩;rw[hb2,ZL6 (by have:=hG.1;grind) (ZJ hG hI.all)];exact⟨λz=>⟨hI,hl,z⟩,λz=>z.2.2⟩
   ·exact q false H (Same.refl H) ⟨λz=>(nomatch z),λz=>absurd z.2.1 hl⟩
  ·exact q false H (Same.refl H) ⟨λz=>(nomatch z),λz=>by rw[hb.mpr z.1]at e;cases e⟩
def spZq(K:PySem.W.Frag)(C:Addr):Sp:=λvs H Q _=>∃(w a:Addr) (n:Int) (ps:List (Int × Int)) (kd:Bool) (ns:List Int),vs=[.ref w,.ref a]/\WebAt C H w n ps/\Zv n ps/\SqK kd K H a (IL ns) /\
 (Zi n ps ns->∀ H':Hp,Same H H'->Q .non H')/\(¬ Zi n ps ns->∀ H':Hp,Same H H'->False)
theorem scZq:FnScope ["web","tree"] ["web","tree"] (Zz7 sZq):=⟨rfl,rfl,rfl,by decide +kernel,rfl,by decide +kernel,by decide +kernel⟩
theorem okZq (T:Txt K mg t):FnOk P w K mg base CX0 7 t.aZq t.dZq ["web","tree"] (spZq K t.A_Web):=by
 refine T.fZq.ok scZq (λvs H Q E h=>?_) (λcdv A outer s H vs Q E hr h=>?_)
 ·obtain⟨w,a,n,ps,kd,ns,rfl,_⟩:=h;rfl
 ·obtain⟨w,a,n,ps,kd,ns,rfl,hW,hG,hS,q,qe⟩:=h;refine⟨_,(Zz8 (Zn1 (ZA3 (ZE2 (Zz9 (okZp T) (hr.mono (by decide)) rfl T.mZp T.fZp.kp T.bZp .nil Zs (Zz0 (pv 0) (Zz0 (pv 1) Zz3)))))
   (Zz8 Zz61)
   Zn)),?_⟩
  refine⟨_,rfl,_,rfl,w,a,n,ps,kd,ns,rfl,hW,hG,hS,λb H' s hb=>⟨_,rfl,?_⟩⟩;refine itnb (λz=>?_) (λz=>?_)
  ·exact q (hb.mp z) H' s
  ·exact qe (λg=>by rw[hb.mpr g]at z;cases z) H' s
def spZr(K:PySem.W.Frag)(C:Addr):Sp:=λvs H Q _=>∃(w a b:Addr) (n:Int) (ps:List (Int × Int)) (ka kb:Bool) (ns os:List Int),vs=[.ref w,.ref a,.ref b]/\WebAt C H w n ps/\Zv n ps/\SqK ka K H a (IL ns)/\SqK kb K H b (IL os)/\ns.length<=1000/\os.length<=1000/\(∀ z∈ns++os,0<=z/\z<(ps.length:Int)) /\
 (((grw n.toNat ps (ns++os)).take ns.length≠ns\/((grw n.toNat ps (ns++os)).length:Int)<n - 1)->∀ H':Hp,Same H H'->Q .non H') /\
 ((grw n.toNat ps (ns++os)).take ns.length=ns->¬ ((grw n.toNat ps (ns++os)).length:Int)<n - 1->∀(r:Addr) (ms:List Int) (H':Hp),ms.Perm (grw n.toNat ps (ns++os))->ms.Pairwise (·<=·)->Same H H'->H r=none->H' r=some (.tup (IL ms))->Q (.ref r) H')
theorem scZr:FnScope ["web","inside","order","marks","grown","tie","ends"] ["web","inside","order"] (Zz7 sZr):=⟨rfl,rfl,rfl,by decide +kernel,rfl,by decide +kernel,by decide +kernel⟩
theorem okZr (T:Txt K mg t):FnOk P w K mg base CX0 3 t.aZr t.dZr ["web","inside","order"] (spZr K t.A_Web):=by
 refine T.fZr.ok scZr (λvs H Q E h=>?_) (λcdv A outer s H vs Q E hr h=>?_)
 ·obtain⟨w,a,b,n,ps,ka,kb,ns,os,rfl,_⟩:=h;rfl
 ·obtain⟨w,a,b,n,ps,ka,kb,ns,os,rfl,hW,hG,hS,hS2,hnl,hol,hI,q0,q1⟩:=h;refine⟨_,(Zz2 (Zj (i:=3) scZr.nd rfl (Or.inl rfl) (Zz9 (okZg T) (hr.mono (by decide)) rfl T.mZg T.fZg.kp T.bZg .nil Zs (Zz0 (pv 0) (Zz0 (Zd1 Zz3) Zz3))))
   (Zz2 (Zj (i:=4) scZr.nd rfl (Or.inl rfl) (Zp1 Zz3))
   (Zz2 (ZP1 Yy04 rfl (ZZ K (Zq Zp6 (Zr (Zi1 K) (by rfl) T.n_list Boot.«list» (Zz0 (pv 1) Zz3)) (Zr (Zi1 K) (by rfl) T.n_list Boot.«list» (Zz0 (pv 2) Zz3)))) (Zd (i:=5) scZr.nd rfl (Or.inl rfl))
   (Zz2 (Zj (i:=6) scZr.nd rfl (Or.inl rfl) (ZP (Ze K) (Zk K (pv 0) rfl) (pv 5) (λ_ _=>rfl)))
   (Zz8 (Zn1 (Zf ZK5 (ZP (Ze K) (pv 3) (ZP (ZN K) (pv 6) Za (λ_ _=>rfl)) (λ_ _=>rfl)) (ZP (Ze K) (pv 3) (ZP (ZN K) (pv 6) Za (λ_ _=>rfl)) (λ_ _=>rfl)) (Zp _))
   (Zz2 (Zj (i:=3) scZr.nd rfl (Or.inl rfl) (Zz9 (okZf T) (hr.mono (by decide)) rfl T.mZf T.fZf.kp T.bZf .nil Zs (Zz0 (pv 0) (Zz0 (pv 3) (Zz0 (Zd1 (Zz0 (pv 5) Zz3)) Zz3)))))
   (Zz8 (Za1 (Zz52 K YT Y0O Y0N ZT1 (pv 4) (Zz0 (pv 5) Zz3)))))
   Zn))))
   (Zz2 (Zn1 (PW.pt (ZI12 (Zf (ZF8 K (hu8 hr)) (Zx1 (Zw1 K) (pv 4) Zp2 (ZQ1 (Zg (Zo K) (by rfl) T.n_len Boot.«len» (Zz0 (pv 1) Zz3)))) (Zr (Zi1 K) (by rfl) T.n_list Boot.«list» (Zz0 (pv 1) Zz3)) (Zp _)) (Zw9 (Zf ZI9 (Zg (Zo K) (by rfl) T.n_len Boot.«len» (Zz0 (pv 4) Zz3)) (Zq ZG1 (Zk K (pv 0) rfl) Za) (Zp _)))))
   (Zz8 (Zh ZF2))
   Zn)
   (Zz8 (Zh (Zr (ZA K) (by rfl) T.n_tuple Boot.«tuple» (Zz0 (Zg (Zz21 K) (by rfl) T.n_sorted Boot.«sorted» (Zz0 (pv 4) Zz3)) Zz3)))))))),?_⟩
  obtain⟨g1,g2,g3,g4⟩:=id hG;have one:1<=sizeLine:=by decide
  refine⟨_,rfl,Yl _,λr0 hr0=>?_⟩;have s0:=Zz5 (o:=.tup []) hr0
  refine⟨w,r0,n,ps,[],rfl,hW.same s0,hG,SqT.of Zz1,λ_ e=>(nomatch e),λm H1 s1 hm0 hm1=>?_⟩;have s01:=s0.trans s1
  have hmf:=s0.free hm0;refine⟨Yl _,λgl hgl=>?_⟩;have s2:=Zz5 (o:=.lst []) hgl
  have s02:=s01.trans s2;have hgf:=s01.free hgl
  refine⟨_,rfl,a,_,rfl,(hS.same s02).or,λl1 hl1=>?_⟩;have s3:=Zz5 (o:=.lst (IL ns)) hl1
  have s03:=s02.trans s3;refine⟨_,rfl,b,_,rfl,(hS2.same s03).or,λl2 hl2=>?_⟩;have s4:=Zz5 (o:=.lst (IL os)) hl2
  have s04:=s03.trans s4;refine⟨l1,l2,_,_,rfl,rfl,s4 _ _ Zz1,Zz1,ZN1 (by rw[Zz4,Zz4];lia),λcl hcl=>?_⟩;have s5:=Zz5 (o:=.lst (IL ns++IL os)) hcl
  have s05:=s04.trans s5;have eI:IL ns++IL os=IL (ns++os):=(ZW1 _ _).symm
  have hgl5:=s5 _ _ (s4 _ _ (s3 _ _ (Zz1 (H:=H1) (a:=gl) (o:=.lst []))));have hm5:=s5 _ _ (s4 _ _ (s3 _ _ (s2 _ _ hm1)))
  have hcl5:=Zz1 (H:=upd (upd (upd H1 gl (.lst [])) l1 (.lst (IL ns))) l2 (.lst (IL os))) (a:=cl) (o:=.lst (IL ns++IL os));have ncg:cl≠gl:=λe=>by rw[e]at hcl;exact absurd ((s4 _ _ (s3 _ _ (Zz1 (H:=H1) (a:=gl) (o:=.lst [])))).symm.trans hcl) (by simp)
  have nmg:m≠gl:=λe=>by rw[e]at hm1;exact absurd (hm1.symm.trans hgl) (by simp)
  rw[eI]at s5 s05 hgl5 hm5 hcl5 ⊢;generalize upd (upd (upd (upd H1 gl (.lst [])) l1 (.lst (IL ns))) l2 (.lst (IL os))) cl (.lst (IL (ns++os)))=H5 at *;refine⟨cl,rfl,⟨_,SqL.of hcl5⟩,Ze4 (K:=K) (a:=cl) (xs:=IL (ns++os)) (λi σ H2=>∃(mc:Addr) (v5 v6:Option V),σ=[some (.ref w),some (.ref a),some (.ref b),some (.ref mc),some (.ref gl),v5,v6]/\Same H H2/\mc≠gl /\
    H2 cl=some (.lst (IL (ns++os)))/\H2 mc=some (.lst (IL (pms n.toNat (Zz6 ps (grw n.toNat ps ((ns++os).take i))))))/\H2 gl=some (.lst (IL (grw n.toNat ps ((ns++os).take i)))))
   ⟨m,none,none,rfl,s05,nmg,hcl5,hm5,hgl5⟩ (λi σ H2 _ ⟨_,_,_,_,_,_,e,_⟩=>SqL.of e) ?_ ?_⟩
  ·rintro i x σ H2 hi ⟨mc,v5,v6,rfl,s2,hne,hc2,hm2,hg2⟩;obtain⟨z,rfl,hz⟩:=Zz71 hi;obtain⟨z0,z1⟩:=hI z (Yy9 hz);have hIt:∀ y∈(ns++os).take i,0<=y/\y<(ps.length:Int):=λy hy=>hI y (Y1G hy)
   have est:(ns++os).take (i+1)=(ns++os).take i++[z]:=by rw[YU,hz];rfl
   have eG:grw n.toNat ps ((ns++os).take (i+1))=gst n.toNat ps (grw n.toNat ps ((ns++os).take i)) z:=by rw[est,Zr1]
   have hin:=ZB5 hG hIt;have hgl14:=ZR8 hG hIt
   generalize grw n.toNat ps ((ns++os).take i)=G at *;obtain⟨dx,tl,xs,h1,h2,h3⟩:=hW.same s2;obtain⟨p,hp⟩:∃ p,ps[z.toNat]?=some p:=⟨_,Yy0 (by lia)⟩;obtain⟨v,hv,tt,rfl,htt⟩:=h3.2 z.toNat p hp;obtain⟨e1,e2,e3,e4⟩:=g4 p (Yy9 hp);have ed:Zu ps z=(p.1.toNat,p.2.toNat):=by unfold Zu;rw[ZO hp]
   have hl:(pms n.toNat (Zz6 ps G)).length=n.toNat:=Zw _ _;have iA:atI (IL (pms n.toNat (Zz6 ps G))) p.1=some (.int (mk (pms n.toNat (Zz6 ps G)) p.1.toNat)):=ZK (n:=p.1.toNat) (by lia) (ZR2 (Zy1 (by grind)))
   have iB:atI (IL (pms n.toNat (Zz6 ps G))) p.2=some (.int (mk (pms n.toNat (Zz6 ps G)) p.2.toNat)):=ZK (n:=p.2.toNat) (by lia) (ZR2 (Zy1 (by grind)));have t0:atI ([.int p.1,.int p.2]:List V) 0=some (.int p.1):=rfl
   have t1:atI ([.int p.1,.int p.2]:List V) 1=some (.int p.2):=rfl;have key:mk (pms n.toNat (Zz6 ps G)) p.1.toNat=mk (pms n.toNat (Zz6 ps G)) p.2.toNat↔mk (lms n.toNat (Zz6 ps G)) (Zu ps z).1=mk (lms n.toNat (Zz6 ps G)) (Zu ps z).2:=by rw[ed,Zb1 hin (by grind) (by grind),ZS hin (by grind) (by grind)]
   refine⟨_,rfl,w,_,dx,_,_,rfl,h1,T.cl_Web,T.n_Web_ties,Zz31 _ _,_,rfl,tl,xs,z,.ref tt,rfl,rfl,SqL.of h2,ZK (n:=z.toNat) (by lia) hv,?_⟩;refine⟨_,rfl,_,rfl,tt,_,0,_,rfl,rfl,SqT.of htt,t0,mc,_,p.1,_,rfl,rfl,SqL.of hm2,iA,_,rfl,_,rfl,tt,_,1,_,rfl,rfl,SqT.of htt,t1,mc,_,p.2,_,rfl,rfl,SqL.of hm2,iB,rfl,_,rfl,?_⟩;rw[Zx];refine itn2 (λhe=>?_) (λhe=>?_)
   ·refine⟨mc,_,_,rfl,s2,hne,hc2,?_,?_⟩
    ·rw[eG];unfold gst;rw[if_pos (key.mp he)];exact hm2
    ·rw[eG];unfold gst;rw[if_pos (key.mp he)];exact hg2
   ·have eG2:grw n.toNat ps ((ns++os).take (i+1))=G++[z]:=by rw[eG];unfold gst;rw[if_neg (λe=>he (key.mpr e))]
    refine⟨_,rfl,_,rfl,_,rfl,one,λp2 hp2=>?_⟩;have s6:=Zz5 (o:=.tup [.int z]) hp2
    refine⟨w,mc,p2,n,ps,_,true,[z],rfl,(hW.same s2).same s6,hG,s6 _ _ hm2,hl,SqT.of Zz1,λy hy=>by rw[Yy2.mp hy];exact⟨z0,z1⟩,λm' H7 s7 hf hm7=>?_⟩;have s67:=s6.trans s7
    have hg7:=s67 _ _ hg2;have hc7:=s67 _ _ hc2
    have nm':m'≠gl:=by
     rcases hf with rfl | hf
     ·exact hne
     ·exact λe=>absurd ((s6 _ _ hg2).symm.trans (e ▸ hf)) (by simp)
    refine⟨_,rfl,.inl ⟨rfl,_,SqL.of hg7⟩,_,rfl,gl,_,_,rfl,rfl,hg7,Zm (by rw[Zz4];lia),?_⟩;refine⟨m',_,_,rfl,ZG hgf (s2.trans s67),nm',?_,?_,?_⟩
    ·rw[Zb ncg];exact hc7
    ·rw[Zb nm',hm7,eG2,Zz41,ZC9];rfl
    ·rw[Zz1,eG2,ZV]
  ·rintro σ H2 ⟨mc,v5,v6,rfl,s2,hne,hc2,hm2,hg2⟩;rw[Zz4,YJ]at hg2;have hgl14:=ZR8 hG hI
   generalize grw n.toNat ps (ns++os)=G at *;refine⟨_,rfl,_,rfl,a,_,rfl,(hS.same s2).or,_,rfl,gl,_,rfl,SqL.of hg2,λr1 hr1=>?_⟩;have ec:cutV (IL G) none (some ((IL ns).length:Int))=IL (G.take ns.length):=by rw[Zz97 (by lia),YA,Zz4,ZQ8]
   rw[ec];have s3:=Zz5 (o:=.lst (IL (G.take ns.length))) hr1
   refine⟨_,rfl,a,_,rfl,(hS.same (s2.trans s3)).or,λr2 hr2=>?_⟩;have s4:=Zz5 (o:=.lst (IL ns)) hr2
   refine⟨1,_,r1,r2,rfl,rfl,by decide,Zh4 (SqL.of (s4 _ _ Zz1)) (SqL.of Zz1),_,rfl,?_⟩;have s24:=s2.trans (s3.trans s4)
   refine itn2 (λhe=>?_) (λhe=>?_)
   ·obtain⟨dx,tl,xs,h1,h2,h3⟩:=hW.same s24;have hg4:=s4 _ _ (s3 _ _ hg2)
    refine⟨_,rfl,gl,_,rfl,.inl (SqL.of hg4),_,rfl,w,_,dx,_,_,rfl,h1,T.cl_Web,T.n_Web_places,Zk1 _ _,_,_,rfl,rfl,_,_,rfl,rfl,_,rfl,?_⟩;rw[Zz4];refine itd2 (λhc=>?_) (λhc=>?_)
    ·exact q0 (.inr hc) _ s24
    ·refine⟨_,rfl,gl,G,rfl,SqL.of hg4,by lia,λms hp1 hp2 l hl=>?_⟩;have s5:=Zz5 (o:=.lst (IL ms)) hl
     refine⟨l,_,rfl,.inl ⟨SqL.of Zz1,λr hr=>?_⟩⟩;exact q1 he hc r ms _ hp1 hp2 ((s24.trans s5).trans (Zz5 hr)) ((s24.trans s5).free hr) Zz1
   ·refine iteT ?_;exact q0 (.inl he) _ s24
def spZs(K:PySem.W.Frag)(C:Addr):Sp:=λvs H Q _=>∃(w:Addr) (n:Int) (ps:List (Int × Int)),vs=[.ref w]/\WebAt C H w n ps/\Zv n ps /\
 (¬ ((grd n.toNat ps ps.length).length:Int)<n - 1->∀(r:Addr) (H':Hp),Same H H'->H' r=some (.tup (IL (grd n.toNat ps ps.length)))->Q (.ref r) H') /\
 (((grd n.toNat ps ps.length).length:Int)<n - 1->∀ H':Hp,Same H H'->False)
theorem scZs:FnScope ["web"] ["web"] (Zz7 sZs):=⟨rfl,rfl,rfl,by decide +kernel,rfl,by decide +kernel,by decide +kernel⟩
theorem okZs (T:Txt K mg t):FnOk P w K mg base CX0 7 t.aZs t.dZs ["web"] (spZs K t.A_Web):=by
 refine T.fZs.ok scZs (λvs H Q E h=>?_) (λcdv A outer s H vs Q E hr h=>?_)
 ·obtain⟨w,n,ps,rfl,_⟩:=h;rfl
 ·obtain⟨w,n,ps,rfl,hW,hG,q,q1⟩:=h;refine⟨_,(Zz2 (Za1 (Zz9 (okZj T) (hr.mono (by decide)) rfl T.mZj T.fZj.kp T.bZj .nil Zs (Zz0 (pv 0) Zz3)))
   (Zz8 (Zh (Zz9 (okZr T) (hr.mono (by decide)) rfl T.mZr T.fZr.kp T.bZr .nil Zs (Zz0 (pv 0) (Zz0 (Zd1 Zz3) (Zz0 (Zz9 (okZ9 T) (hr.mono (by decide)) rfl T.mZ9 T.fZ9.kp T.bZ9 .nil Zs (Zz0 (pv 0) Zz3)) Zz3))))))),?_⟩
  have hall:∀ z∈rgL ps.length,0<=z/\z<(ps.length:Int):=λz hz=>rgL_mem.mp hz;have eg:grw n.toNat ps (rgL ps.length)=grd n.toNat ps ps.length:=ZN4 _ _ _
  have hj:=ZY1 hG;refine⟨_,rfl,w,n,ps,rfl,hW,hG,λhJ H1 s1=>?_,λhJ H1 s1=>q1 (by rw[hj]at hJ;omega) H1 s1⟩;have hf:=hj.mp hJ
  refine⟨_,rfl,Yl _,λr0 hr0=>?_⟩;have s0:=Zz5 (o:=.tup []) hr0
  have s10:=s1.trans s0;refine⟨_,rfl,w,n,ps,rfl,hW.same s10,by have:=hG.2.2.1;lia,λr2 H2 s2 hr20 hr2=>?_⟩;refine⟨w,r0,r2,n,ps,true,true,[],rgL ps.length,rfl,(hW.same s10).same s2,hG,SqT.of (s2 _ _ Zz1),SqT.of hr2,Yl _,by rw[ZI];have:=hG.2.2.1;omega,hall,λhx H3 s3=>?_,λ_ _ r3 ms H3 hp1 hp2 s3 hr30 hr3=>?_⟩
  ·rw[Y0t,eg]at hx;rcases hx with hx | hx
   ·exact absurd rfl hx
   ·exact absurd hx hf
  ·rw[Y0t,eg]at hp1;have e:ms=grd n.toNat ps ps.length:=Zz81 hp1 hp2 ((ZO3 _).imp λh=>by lia)
   rw[e]at hr3;exact q hf r3 H3 (s10.trans (s2.trans s3)) hr3
def spZt(K:PySem.W.Frag)(C:Addr):Sp:=λvs H Q _=>∃(w a:Addr) (n:Int) (ps:List (Int × Int)) (kd:Bool) (ns:List Int) (z:Int),vs=[.ref w,.ref a,.int z]/\WebAt C H w n ps/\Zv n ps/\SqK kd K H a (IL ns)/\IsSet ps.length ns /\
 ∀(r:Addr) (H':Hp),Same H H'->H r=none->H' r=some (.tup (IL (unlike (lms n.toNat (Zz6 ps (wo ns z))) ps ps.length)))->Q (.ref r) H'
theorem scZt:FnScope ["web","tree","tie","marks"] ["web","tree","tie"] (Zz7 sZt):=⟨rfl,rfl,rfl,by decide +kernel,rfl,by decide +kernel,by decide +kernel⟩
theorem okZt (T:Txt K mg t):FnOk P w K mg base CX0 3 t.aZt t.dZt ["web","tree","tie"] (spZt K t.A_Web):=by
 refine T.fZt.ok scZt (λvs H Q E h=>?_) (λcdv A outer s H vs Q E hr h=>?_)
 ·obtain⟨w,a,n,ps,kd,ns,z,rfl,_⟩:=h;rfl
 ·obtain⟨w,a,n,ps,kd,ns,z,rfl,hW,hG,hS,hI,q⟩:=h;refine⟨_,(Zz2 (Zj (i:=3) scZt.nd rfl (Or.inr rfl) (Zz9 (okZg T) (hr.mono (by decide)) rfl T.mZg T.fZg.kp T.bZg .nil Zs (Zz0 (pv 0) (Zz0 (Zz9 (okZb T) (hr.mono (by decide)) rfl T.mZb T.fZb.kp T.bZb .nil Zs (Zz0 (pv 1) (Zz0 (pv 2) Zz3))) Zz3))))
   (Zz8 (Zh (Zr (ZA K) (by rfl) T.n_tuple Boot.«tuple» (Zz0 (Zz84 rfl (sc0:=Zz7 sZt) (N0:=["web","tree","tie","marks"]) (N':=["number","ends","marks"]) (o:=2) (fr:=[3]) ⟨rfl,by decide +kernel,by decide +kernel,by decide +kernel,rfl,by decide +kernel⟩ (Zo1 K rfl T.n_enumerate (Zz0 (Zk K (pv 0) rfl) Zz3)) (ZN2 (ZU (by decide) (ZU (by decide) ZO2))) (λ_ _ _ _=>(Zu1 (n:=2) K rfl (Zt (Zd (i:=0) (show List.Nodup (["number","ends","marks"]:List Str) by decide +kernel) rfl (Or.inl rfl)) (Zt (Zd (i:=1) (show List.Nodup (["number","ends","marks"]:List Str) by decide +kernel) rfl (Or.inl rfl)) Zc1)))) (λ_ _ _ _=>(Zt1 (Zf ZK5 (ZP (Ze K) (pv 2) (ZP (ZN K) (pv 1) Za (λ_ _=>rfl)) (λ_ _=>rfl)) (ZP (Ze K) (pv 2) (ZP (ZN K) (pv 1) Za (λ_ _=>rfl)) (λ_ _=>rfl)) (Zp _)))) (λ_ _ _ _=>(pv 0))) Zz3))))),?_⟩
  obtain⟨g1,g2,g3,g4⟩:=id hG;have hln:=hI.len
  have hb:∀ y∈wo ns z,0<=y/\y<(ps.length:Int):=λy hy=>hI.all y (wo_mem.mp hy).1;refine⟨_,rfl,_,rfl,_,rfl,a,kd,ns,z,rfl,hS,by lia,λr1 H1 s1 hr0 hr1=>?_⟩;refine⟨w,r1,n,ps,wo ns z,rfl,hW.same s1,hG,SqT.of hr1,hb,λm H2 s2 hm0 hm2=>?_⟩;have hin:=ZJ hG hb
  have e0:=Zp5 (M:=pms n.toNat (Zz6 ps (wo ns z))) hG (Zw _ _) (ZZ2 hin);have hl:(pms n.toNat (Zz6 ps (wo ns z))).length=n.toNat:=Zw _ _
  rw[<- e0]at q;generalize pms n.toNat (Zz6 ps (wo ns z))=M at *;have s12:=s1.trans s2
  obtain⟨dx,tl,xs,h1,h2,h3⟩:=hW.same s12;have hlx:=h3.1
  refine⟨_,rfl,w,_,dx,_,_,rfl,h1,T.cl_Web,T.n_Web_ties,Zz31 _ _,tl,rfl,⟨_,SqL.of h2⟩,ZL3 (K:=K) (a:=tl) (xs:=xs) (λi ys H3=>Same H2 H3/\i<=xs.length/\ys=IL (unlike M ps i)) ⟨Same.refl _,Yl _,rfl⟩ (Zm (by lia))
   (λi ys H3 _ ⟨e,_,ey⟩=>⟨SqL.of (e _ _ h2),by rw[ey,Zz4];exact ZQ5 _ _ _⟩) ?_ ?_⟩
  ·rintro i x ys H3 pt hpt hi ⟨s3,hil,rfl⟩ S hSS;obtain⟨p,hpi,tt,rfl,htt⟩:=h3.at hi;obtain⟨e1,e2,e3,e4⟩:=g4 p (Yy9 hpi);have hil':i<xs.length:=(Yy1.mp hi).1
   have s4:Same H3 (upd H3 pt (.tup [.int i,.ref tt])):=Zz5 hpt;have s34:=s3.trans s4
   have htt4:=s34 _ _ htt;have hm4:=s34 _ _ hm2
   have ed:ps.getD i (0,0)=p:=ZO hpi;have t0:atI ([.int p.1,.int p.2]:List V) 0=some (.int p.1):=rfl
   have t1:atI ([.int p.1,.int p.2]:List V) 1=some (.int p.2):=rfl;have iA:atI (IL M) p.1=some (.int (mk M p.1.toNat)):=ZK (n:=p.1.toNat) (by lia) (ZR2 (Zy1 (by grind)))
   have iB:atI (IL M) p.2=some (.int (mk M p.2.toNat)):=ZK (n:=p.2.toNat) (by lia) (ZR2 (Zy1 (by grind)));refine⟨pt,_,rfl,SqT.of Zz1,rfl,_,_,rfl,_,_,rfl,rfl,?_⟩;refine⟨_,rfl,_,rfl,tt,_,0,_,rfl,rfl,SqT.of htt4,t0,m,_,p.1,_,rfl,rfl,SqL.of hm4,iA,_,rfl,_,rfl,tt,_,1,_,rfl,rfl,SqT.of htt4,t1,m,_,p.2,_,rfl,rfl,SqL.of hm4,iB,rfl,_,rfl,?_⟩;rw[Zx];refine itn2 (λhe=>?_) (λhe=>?_)
   ·refine hSS _ _ ⟨s34,hil',?_⟩;rw[ZJ2,ed,if_neg (by simpa using he),YG]
   ·refine⟨_,rfl,hSS _ _ ⟨s34,hil',?_⟩⟩;rw[ZJ2,ed,if_pos he,ZV]
  ·rintro ys H3 ⟨s3,_,rfl⟩ p hp;rw[hlx];refine⟨p,_,rfl,.inl ⟨SqL.of Zz1,λr hr=>?_⟩⟩;exact q r _ (s12.trans (s3.trans (ZC (Zz5 hp) hr))) ((s12.trans (s3.trans (Zz5 hp))).free hr) Zz1
def spZu(K:PySem.W.Frag)(C:Addr):Sp:=λvs H Q _=>∃(w a:Addr) (n:Int) (ps:List (Int × Int)) (kd:Bool) (ns:List Int) (z:Int),vs=[.ref w,.ref a,.int z]/\WebAt C H w n ps/\Zv n ps/\SqK kd K H a (IL ns)/\-(10 ^ 70)<z/\z<10 ^ 70 /\
 (Zi n ps ns->z∉ns->0<=z->z<(ps.length:Int)->∀(ms:List Int),ms.Perm (Zp3 n ps ns z ns++[z])->ms.Pairwise (·<=·)->∀(r:Addr) (H':Hp),Same H H'->H r=none->H' r=some (.tup (IL ms))->Q (.ref r) H') /\
 (Zi n ps ns->(z∈ns\/¬ (0<=z/\z<(ps.length:Int)))->∀ H':Hp,Same H H'->False)/\(¬ Zi n ps ns->∀ H':Hp,Same H H'->False)
theorem scZu:FnScope ["web","tree","tie"] ["web","tree","tie"] (Zz7 sZu):=⟨rfl,rfl,rfl,by decide +kernel,rfl,by decide +kernel,by decide +kernel⟩
theorem okZu (T:Txt K mg t):FnOk P w K mg base CX0 8 t.aZu t.dZu ["web","tree","tie"] (spZu K t.A_Web):=by
 refine T.fZu.ok scZu (λvs H Q E h=>?_) (λcdv A outer s H vs Q E hr h=>?_)
 ·obtain⟨w,a,n,ps,kd,ns,z,rfl,_⟩:=h;rfl
 ·obtain⟨w,a,n,ps,kd,ns,z,rfl,hW,hG,hS,z0,z1,q,q1,q2⟩:=h;refine⟨_,(Zz2 (Za1 (Zz9 (okZq T) (hr.mono (by decide)) rfl T.mZq T.fZq.kp T.bZq .nil Zs (Zz0 (pv 0) (Zz0 (pv 1) Zz3))))
   (Zz2 (Zn1 (PW.pt (ZI12 (Zf (Zz43 K) (pv 2) (pv 1) rfl) (Zw9 (ZA3 (ZE2 (Zz9 (okZ6 T) (hr.mono (by decide)) rfl T.mZ6 T.fZ6.kp T.bZ6 .nil Zs (Zz0 (pv 0) (Zz0 (pv 2) Zz3))))))))
   (Zz8 Zz61)
   Zn)
   (Zz8 (Zh (Zr (ZA K) (by rfl) T.n_tuple Boot.«tuple» (Zz0 (Zg (Zz21 K) (by rfl) T.n_sorted Boot.«sorted» (Zz0 (Zq Zp6 (Zz84 rfl (sc0:=Zz7 sZu) (N0:=["web","tree","tie"]) (N':=["out","tie","web","tree"]) (o:=1) (fr:=[2,0,1]) ⟨rfl,by decide +kernel,by decide +kernel,by decide +kernel,rfl,by decide +kernel⟩ (Zz32 K (pv 1)) (Zy (by decide)) (λ_ _ _ _=>(Zd (i:=0) (show List.Nodup (["out","tie","web","tree"]:List Str) by decide +kernel) rfl (Or.inl rfl))) (λ_ _ _ _=>(Zt1 (Zf (Zz43 K) (pv 1) (Zz9 (okZt T) (hr.mono (by decide)) rfl T.mZt T.fZt.kp T.bZt .nil Zs (Zz0 (pv 2) (Zz0 (pv 3) (Zz0 (pv 0) Zz3)))) rfl))) (λ_ _ _ _=>(pv 0))) (Zp1 (Zz0 (pv 2) Zz3))) Zz3)) Zz3)))))),?_⟩
  refine⟨_,rfl,_,rfl,w,a,n,ps,kd,ns,rfl,hW,hG,hS,λhT H1 s1=>?_,q2⟩;have one:1<=sizeLine:=by decide
  have tl:ns.length<=20:=by have:=hT.2.1;have:=hG.2.1;lia
  refine⟨_,rfl,_,rfl,a,_,rfl,(hS.same s1).or,rfl,Zz _,_,rfl,?_⟩;rw[ZL];refine itd2 (λhc=>?_) (λhc=>?_)
  ·exact iteT (q1 hT (.inl hc) H1 s1)
  ·refine⟨_,rfl,_,rfl,w,n,ps,z,rfl,hW.same s1,_,rfl,?_⟩;refine itn2 (λht=>?_) (λht=>?_)
   ·refine⟨_,rfl,a,rfl,ZW7 (k:=kd) (K:=K) (xs:=IL ns) (λi ys H2=>Same H1 H2/\i<=ns.length/\ys=IL (Zp3 n ps ns z (ns.take i))) ⟨Same.refl _,Yl _,rfl⟩ (Zm (by rw[Zz4];lia))
     (λi ys H2 hi ⟨e,hi2,ey⟩=>⟨(hS.same s1).same e,by rw[ey,Zz4];exact Yt (Yz1 ..) (by rw[Yz];lia)⟩) ?_ ?_⟩
    ·rintro i x ys H2 hi ⟨s2,hil,rfl⟩ S hSS;obtain⟨y,rfl,hy⟩:=Zz71 hi;have hil':i<ns.length:=(Yy1.mp hy).1
     have s12:=s1.trans s2;refine nm ?_;refine⟨_,rfl,_,rfl,_,rfl,_,rfl,w,a,n,ps,kd,ns,y,rfl,hW.same s12,hG,hS.same s12,hT.1,λr H3 s3 hr0 hr3=>?_⟩;refine⟨r,_,rfl,.inr (SqT.of hr3),rfl,Zz _,_,rfl,?_⟩;rw[ZL];refine itd2 (λhe=>?_) (λhe=>?_)
     ·refine⟨_,rfl,hSS _ _ ⟨s2.trans s3,hil',?_⟩⟩;rw[Zy3 hy,if_pos he,ZV]
     ·refine hSS _ _ ⟨s2.trans s3,hil',?_⟩;rw[Zy3 hy,if_neg he,YG]
    ·rintro ys H2 ⟨s2,_,rfl⟩ p hp;rw[Zz4,YJ];have rl:=Yz1 n ps ns z ns
     refine⟨_,rfl,one,λp2 hp2=>?_⟩;refine Zb13 (l2:=[z]) (by rw[Zb (Zc Zz1 hp2)];exact Zz1) Zz1 (by simp only [YD,Y1m];lia) λp3 hp3=>?_;refine⟨p3,_,rfl,SqL.of Zz1,by simp only [Yy4,YD,Y1m];lia,λms hpm hpw p4 hp4=>?_⟩;refine⟨p4,IL ms,rfl,.inl ⟨SqL.of Zz1,λr hr=>?_⟩⟩;have s6:=(s1.trans s2).trans (ZC (ZC (Zz5 (o:=.lst (IL (Zp3 n ps ns z ns))) hp) (o:=.lst (IL [z])) hp2) (o:=.lst (IL (Zp3 n ps ns z ns++[z]))) hp3)
     exact q hT hc ht.1 ht.2 ms hpm hpw r _ (s6.trans (ZC (Zz5 hp4) hr)) ((s6.trans (Zz5 hp4)).free hr) Zz1
   ·exact q1 hT (.inr ht) H1 s1
def spZv(K:PySem.W.Frag)(C:Addr):Sp:=λvs H Q _=>∃(w a b:Addr) (n:Int) (ps:List (Int × Int)) (I O:List Int),vs=[.ref w,.ref a,.ref b]/\WebAt C H w n ps/\Zv n ps/\SqT K H a (IL I)/\SqT K H b (IL O)/\I.Nodup/\(∀ z∈I,0<=z/\z<(ps.length:Int))/\(∀ z∈I,z∉O) /\
 (∀ H':Hp,Same H H'->(∀ U,¬ With n ps I O U)->Q .non H') /\
 (∀(r:Addr) (F:List Int) (H':Hp),Same H H'->H' r=some (.tup (IL F))->With n ps I O F->(∀ U,With n ps I O U->HT.lexLt U F=false)->Q (.ref r) H')
theorem scZv:FnScope ["web","inside","outside"] ["web","inside","outside"] (Zz7 sZv):=⟨rfl,rfl,rfl,by decide +kernel,rfl,by decide +kernel,by decide +kernel⟩
theorem okZv (T:Txt K mg t):FnOk P w K mg base CX0 4 t.aZv t.dZv ["web","inside","outside"] (spZv K t.A_Web):=by
 refine T.fZv.ok scZv (λvs H Q E h=>?_) (λcdv A outer s H vs Q E hr h=>?_)
 ·obtain⟨w,a,b,n,ps,I,O,rfl,_⟩:=h;rfl
 ·obtain⟨w,a,b,n,ps,I,O,rfl,hW,hG,hA,hB,hIn,hIb,hd,q0,q1⟩:=h;refine⟨_,(Zz8 (Zh (Zz9 (okZr T) (hr.mono (by decide)) rfl T.mZr T.fZr.kp T.bZr .nil Zs (Zz0 (pv 0) (Zz0 (pv 1) (Zz0 (Zz9 (okZa T) (hr.mono (by decide)) rfl T.mZa T.fZa.kp T.bZa .nil Zs (Zz0 (pv 0) (Zz0 (pv 2) Zz3))) Zz3)))))),?_⟩;have g3:=hG.2.2.1
  refine⟨_,rfl,_,rfl,_,rfl,_,rfl,w,b,n,ps,true,O,rfl,hW,by lia,hB,λD hDa hD dA H1 s1 hdA=>?_⟩;have hDs:IsSet ps.length D:=isSet_iff.mpr ⟨λz hz=>((hD z).mp hz).1,hDa⟩
  have hb:∀ z∈I++D,0<=z/\z<(ps.length:Int):=λz hz=>(Yy7.mp hz).elim (hIb z) λh=>((hD z).mp h).1;have il:I.length<=ps.length:=by
   have:=Zi2 (m:=rgL ps.length) hIn λz hz=>rgL_mem.mpr (hIb z hz)
   rw[ZI]at this;exact this
  have dl:=hDs.len;refine⟨w,a,dA,n,ps,true,true,I,D,rfl,hW.same s1,hG,ZT s1 hA,SqT.of hdA,by lia,by lia,hb,λh H2 s2=>q0 H2 (s1.trans s2) λU hU=>?_,λht hl r ms H2 hpm hpw s2 hr0 hr=>?_⟩
  ·have:=ZU11 hG hU.1 hIn hU.2.1 (hU.sub hD) hb
   rcases h with h | h
   ·exact h this.1
   ·exact this.2 h
  ·have hF:With n ps I O ms:=⟨ZA5 hG hb hl hpm hpw,λz hz=>hpm.mem_iff.mpr (Y1G (ht ▸ hz)),λz hz h=>(Yy7.mp ((ZM4 _ _ _).subset (hpm.mem_iff.mp h))).elim (λh=>hd z h hz) λh=>((hD z).mp h).2 hz⟩;exact q1 r ms H2 (s1.trans s2) hr hF λU hU=>ZM6 hG hU.1 hU.2.1 (hU.sub hD) hb hDa hF.1 hpm hF.2.1
def spZw(K:PySem.W.Frag)(C:Addr):Sp:=λvs H Q _=>∃(w m:Addr) (n:Int) (ps:List (Int × Int)) (M:List Int) (z:Int),vs=[.ref w,.ref m,.int z]/\WebAt C H w n ps/\Zv n ps/\H m=some (.lst (IL M))/\M.length=n.toNat/\0<=z/\z<(ps.length:Int) /\
 ∀(r:Addr) (l:List Int) (H':Hp),l.Perm [mk M (ps.getD z.toNat (0,0)).1.toNat,mk M (ps.getD z.toNat (0,0)).2.toNat]->l.Pairwise (·<=·)->Same H H'->H' r=some (.lst (IL l))->Q (.ref r) H'
theorem scZw:FnScope ["web","marks","tie","ends"] ["web","marks","tie"] (Zz7 sZw):=⟨rfl,rfl,rfl,by decide +kernel,rfl,by decide +kernel,by decide +kernel⟩
theorem okZw (T:Txt K mg t):FnOk P w K mg base CX0 1 t.aZw t.dZw ["web","marks","tie"] (spZw K t.A_Web):=by
 refine T.fZw.ok scZw (λvs H Q E h=>?_) (λcdv A outer s H vs Q E hr h=>?_)
 ·obtain⟨w,m,n,ps,M,z,rfl,_⟩:=h;rfl
 ·obtain⟨w,m,n,ps,M,z,rfl,hW,hG,hM,hMl,z0,z1,q⟩:=h;refine⟨_,(Zz2 (Zj (i:=3) scZw.nd rfl (Or.inl rfl) (ZP (Ze K) (Zk K (pv 0) rfl) (pv 2) (λ_ _=>rfl)))
   (Zz8 (Zh (Zg (Zz21 K) (by rfl) T.n_sorted Boot.«sorted» (Zz0 (Zp1 (Zz0 (ZP (Ze K) (pv 1) (ZP (ZN K) (pv 3) Za (λ_ _=>rfl)) (λ_ _=>rfl)) (Zz0 (ZP (Ze K) (pv 1) (ZP (ZN K) (pv 3) Za (λ_ _=>rfl)) (λ_ _=>rfl)) Zz3))) Zz3))))),?_⟩
  obtain⟨g1,g2,g3,g4⟩:=id hG;obtain⟨dx,tl,xs,h1,h2,h3⟩:=id hW;obtain⟨p,hp⟩:∃ p,ps[z.toNat]?=some p:=⟨_,Yy0 (by lia)⟩;have ep:ps.getD z.toNat (0,0)=p:=ZO hp
  rw[ep]at q;obtain⟨v,hv,tt,rfl,htt⟩:=h3.2 _ p hp;obtain⟨e1,e2,e3,e4⟩:=g4 p (Yy9 hp);have t0:atI ([.int p.1,.int p.2]:List V) 0=some (.int p.1):=rfl
  have t1:atI ([.int p.1,.int p.2]:List V) 1=some (.int p.2):=rfl;have iA:atI (IL M) p.1=some (.int (mk M p.1.toNat)):=ZK (n:=p.1.toNat) (by lia) (ZR2 (Zy1 (by grind)))
  have iB:atI (IL M) p.2=some (.int (mk M p.2.toNat)):=ZK (n:=p.2.toNat) (by lia) (ZR2 (Zy1 (by grind)));refine⟨_,rfl,w,_,dx,_,_,rfl,h1,T.cl_Web,T.n_Web_ties,Zz31 _ _,_,rfl,tl,_,_,.ref tt,rfl,rfl,SqL.of h2,ZK (n:=z.toNat) (by lia) hv,?_⟩;refine nm ?_;refine⟨_,rfl,_,rfl,tt,_,0,_,rfl,rfl,SqT.of htt,t0,m,_,p.1,_,rfl,rfl,SqL.of hM,iA,_,rfl,_,rfl,tt,_,1,_,rfl,rfl,SqT.of htt,t1,m,_,p.2,_,rfl,rfl,SqL.of hM,iB,(by show 2<=sizeLine;decide),λa ha=>?_⟩;have s1:=Zz5 (o:=.lst (IL [mk M p.1.toNat,mk M p.2.toNat])) ha
  refine⟨a,[mk M p.1.toNat,mk M p.2.toNat],rfl,SqL.of Zz1,(by show 2<64;decide),λl hl hs r hr=>?_⟩;exact q r l _ hl hs (s1.trans (Zz5 hr)) Zz1
def spZx(K:PySem.W.Frag)(C:Addr):Sp:=λvs H Q _=>∃(w m a:Addr) (n:Int) (ps:List (Int × Int)) (M g:List Int),vs=[.ref w,.ref m,.ref a]/\WebAt C H w n ps/\Zv n ps/\H m=some (.lst (IL M))/\M.length=n.toNat/\SqT K H a (IL g) /\
 ∀(r:Addr) (H':Hp),Same H H'->H r=none->H' r=some (.lst (IL (opn M ps g ps.length)))->Q (.ref r) H'
theorem scZx:FnScope ["web","marks","gone"] ["web","marks","gone"] (Zz7 sZx):=⟨rfl,rfl,rfl,by decide +kernel,rfl,by decide +kernel,by decide +kernel⟩
theorem okZx (T:Txt K mg t):FnOk P w K mg base CX0 1 t.aZx t.dZx ["web","marks","gone"] (spZx K t.A_Web):=by
 refine T.fZx.ok scZx (λvs H Q E h=>?_) (λcdv A outer s H vs Q E hr h=>?_)
 ·obtain⟨w,m,a,n,ps,M,g,rfl,_⟩:=h;rfl
 ·obtain⟨w,m,a,n,ps,M,g,rfl,hW,hG,hM,hMl,hA,q⟩:=h;refine⟨_,(Zz8 (Zh (Zz84 rfl (sc0:=Zz7 sZx) (N0:=["web","marks","gone"]) (N':=["tie","ends","gone","marks"]) (o:=2) (fr:=[2,1]) ⟨rfl,by decide +kernel,by decide +kernel,by decide +kernel,rfl,by decide +kernel⟩ (Zo1 K rfl T.n_enumerate (Zz0 (Zk K (pv 0) rfl) Zz3)) (ZN2 (ZU (by decide) (ZU (by decide) ZO2))) (λ_ _ _ _=>(Zu1 (n:=2) K rfl (Zt (Zd (i:=0) (show List.Nodup (["tie","ends","gone","marks"]:List Str) by decide +kernel) rfl (Or.inl rfl)) (Zt (Zd (i:=1) (show List.Nodup (["tie","ends","gone","marks"]:List Str) by decide +kernel) rfl (Or.inl rfl)) Zc1)))) (λ_ _ _ _=>(Zt1 (PW.pt (Zx9 (Zf (ZB1 K) (pv 0) (pv 2) rfl) (Zd6 (Zf ZK5 (ZP (Ze K) (pv 3) (ZP (ZN K) (pv 1) Za (λ_ _=>rfl)) (λ_ _=>rfl)) (ZP (Ze K) (pv 3) (ZP (ZN K) (pv 1) Za (λ_ _=>rfl)) (λ_ _=>rfl)) (Zp _))))))) (λ_ _ _ _=>(pv 0))))),?_⟩;obtain⟨g1,g2,g3,g4⟩:=id hG;obtain⟨dx,tl,xs,h1,h2,h3⟩:=id hW;have hlx:=h3.1
  refine⟨_,rfl,w,_,dx,_,_,rfl,h1,T.cl_Web,T.n_Web_ties,Zz31 _ _,tl,rfl,⟨_,SqL.of h2⟩,ZL3 (K:=K) (a:=tl) (xs:=xs) (λi ys H3=>Same H H3/\i<=xs.length/\ys=IL (opn M ps g i)) ⟨Same.refl _,Yl _,rfl⟩ (Zm (by lia))
   (λi ys H3 _ h=>by obtain⟨e,_,ey⟩:=h;exact⟨SqL.of (e _ _ h2),by rw[ey,Zz4];exact ZG3 _ _ _ _⟩) ?_ ?_⟩
  ·rintro i x ys H3 pt hpt hi ⟨s3,hil,rfl⟩ S hSS;obtain⟨p,hpi,tt,rfl,htt⟩:=h3.at hi;obtain⟨e1,e2,e3,e4⟩:=g4 p (Yy9 hpi);have hil':i<xs.length:=(Yy1.mp hi).1
   have s4:Same H3 (upd H3 pt (.tup [.int i,.ref tt])):=Zz5 hpt;have s34:=s3.trans s4
   have htt4:=s34 _ _ htt;have hm4:=s34 _ _ hM
   have hA4:=SqK.same (k:=true) s34 hA;have ed:ps.getD i (0,0)=p:=ZO hpi
   have t0:atI ([.int p.1,.int p.2]:List V) 0=some (.int p.1):=rfl;have t1:atI ([.int p.1,.int p.2]:List V) 1=some (.int p.2):=rfl
   have iA:atI (IL M) p.1=some (.int (mk M p.1.toNat)):=ZK (n:=p.1.toNat) (by lia) (ZR2 (Zy1 (by grind)));have iB:atI (IL M) p.2=some (.int (mk M p.2.toNat)):=ZK (n:=p.2.toNat) (by lia) (ZR2 (Zy1 (by grind)))
   have hs:=Zk6 M ps g i;rw[ed]at hs;refine⟨pt,_,rfl,SqT.of Zz1,rfl,_,_,rfl,_,_,rfl,rfl,?_⟩;refine⟨_,rfl,_,rfl,a,_,rfl,.inr hA4,rfl,Zz _,_,rfl,?_⟩;rw[ZL];refine itn2 (λhe=>?_) (λhe=>?_)
   ·refine hSS _ _ ⟨s34,hil',?_⟩;rw[hs,if_neg (λh=>h.1 he),YG]
   refine⟨_,rfl,_,rfl,tt,_,0,_,rfl,rfl,SqT.of htt4,t0,m,_,p.1,_,rfl,rfl,SqL.of hm4,iA,_,rfl,_,rfl,tt,_,1,_,rfl,rfl,SqT.of htt4,t1,m,_,p.2,_,rfl,rfl,SqL.of hm4,iB,rfl,_,rfl,?_⟩;rw[Zx];refine itn2 (λhx=>?_) (λhx=>?_)
   ·refine hSS _ _ ⟨s34,hil',?_⟩;rw[hs,if_neg (λh=>h.2 hx),YG]
   ·refine⟨_,rfl,hSS _ _ ⟨s34,hil',?_⟩⟩;rw[hs,if_pos ⟨he,hx⟩,ZV]
  ·rintro ys H3 ⟨s3,_,rfl⟩ p hp;rw[hlx];exact q p _ (s3.trans (Zz5 hp)) (s3.free hp) Zz1
def ZK11(st:Stmt):Pos:=match (ZI1 st).getD 9 (.Pass ⟨0,0,0,0⟩) with
 | .Assign _ (.Call _ _ [k] _) _=>(match k.value with
  | .Lambda _ _ _ p=>p
  | _=>⟨0,0,0,0⟩)
 | _=>⟨0,0,0,0⟩
def ZD13:Str:=Str.ofString "Part.__init__"++Str.ofString ".<locals>."++Str.ofString "<lambda>"
abbrev TabP(H:Hp)(Pt:Addr):Prop:=TabH H Pt (ZK11 sZy) ZD13
def Zj2(K:PySem.W.Frag)(CP C Pt:Addr):Sp:=λvs H Q _=>∃(x dx w a b:Addr) (n:Int) (ps:List (Int × Int)) (I O:List Int) (ld:Option Int),vs=[.ref x,.ref w,.ref a,.ref b,optV ld]/\H x=some (.ins CP dx [])/\WebAt C H w n ps/\Zv n ps/\TabP H Pt /\
 SqT K H a (IL I)/\SqT K H b (IL O)/\I.Nodup/\(∀ z∈I,0<=z/\z<(ps.length:Int))/\(∀ z∈I,z∉O)/\O.length<=30/\(∃ U,With n ps I O U)/\(∀ y,ld=some y->0<=y/\y<(ps.length:Int))/\(ld=none->∀ F,With n ps I O F->(∀ U,With n ps I O U->HT.lexLt U F=false)->opL n ps I O F=[]) /\
 ∀(F inc:List Int) (fu:Option Int) (l i:Addr) (H':Hp),With n ps I O F->(∀ U,With n ps I O U->HT.lexLt U F=false)->Zo5 (λz=>PyProof.Rows.b2i (decide (ld=some z))) (alL n ps I O F ld) inc->(fu=none↔unL n ps I O F ld=[])->(∀ y,fu=some y->y∈unL n ps I O F ld/\∀ z∈unL n ps I O F ld,y<=z) ->
  H' x=some (.ins CP dx (pfs (.ref w) (.ref a) (.ref b) (optV ld) (.ref l) (.ref i) (optV fu)))->H' l=some (.tup (IL F))->H' i=some (.lst (IL inc))->(∀ b o,b≠x->b≠Pt->H b=some o->H' b=some o)->TabP H' Pt->Q .non H'
theorem scZy:FnScope ["self","web","kept","shut","lead","marks","opened","alike","unlike"] ["self","web","kept","shut","lead"] (Zz7 sZy):=⟨rfl,rfl,rfl,by decide +kernel,rfl,by decide +kernel,by decide +kernel⟩
theorem okZy {Pt:Addr} (T:Txt K mg t) (hB:Zq7 K mg base t.dZy Pt):FnOk P w K mg base CX0 8 t.aZy t.dZy ["self","web","kept","shut","lead"] (Zj2 K t.A_Part t.A_Web Pt):=by
 obtain⟨cA,hcode,hC,hBa,hPg⟩:=hB;refine T.fZy.okL hcode scZy (λvs H Q E h=>?_) (λA outer s H vs Q E hr h=>?_)
 ·obtain⟨x,dx,w,a,b,n,ps,I,O,ld,rfl,_⟩:=h;rfl
 ·obtain⟨x,dx,w,a,b,n,ps,I,O,ld,rfl,hx,hW,hG,hT,hA,hBo,hIn,hIb,hIO,hOl,⟨U0,hU0⟩,hld,hno,q⟩:=h;refine⟨_,(Zz2 (Zz03 (pv 0) (pv 1) rfl)
   (Zz2 (Zz03 (pv 0) (pv 2) rfl)
   (Zz2 (Zz03 (pv 0) (pv 3) rfl)
   (Zz2 (Zz03 (pv 0) (pv 4) rfl)
   (Zz2 (Zz03 (pv 0) (Zz9 (okZv T) (hr.mono (by decide)) rfl T.mZv T.fZv.kp T.bZv .nil Zs (Zz0 (pv 1) (Zz0 (pv 2) (Zz0 (pv 3) Zz3)))) rfl)
   (Zz2 (Zj (i:=5) scZy.nd rfl (Or.inr rfl) (Zz9 (okZg T) (hr.mono (by decide)) rfl T.mZg T.fZg.kp T.bZg .nil Zs (Zz0 (pv 1) (Zz0 (pv 2) Zz3))))
   (Zz2 (Zj (i:=6) scZy.nd rfl (Or.inl rfl) (Zz9 (okZx T) (hr.mono (by decide)) rfl T.mZx T.fZx.kp T.bZx .nil Zs (Zz0 (pv 1) (Zz0 (pv 5) (Zz0 (Zq (ZP2 K) (Zq (ZP2 K) (pv 2) (pv 3)) (Zk K (pv 0) rfl)) Zz3)))))
   (Zz2 (Zj (i:=7) scZy.nd rfl (Or.inr rfl) (Zz84 rfl (sc0:=Zz7 sZy) (N0:=["self","web","kept","shut","lead","marks","opened","alike","unlike"]) (N':=["tie","web","marks","lead"]) (o:=1) (fr:=[1,5,4]) ⟨rfl,by decide +kernel,by decide +kernel,by decide +kernel,rfl,by decide +kernel⟩ (ZZ K (pv 6)) (Zy (by decide)) (λ_ _ _ _=>(Zd (i:=0) (show List.Nodup (["tie","web","marks","lead"]:List Str) by decide +kernel) rfl (Or.inl rfl))) (λ_ _ _ _=>(Zt1 (Zf (Zo6 K (hu8 hr)) (Zz9 (okZw T) (hr.mono (by decide)) rfl T.mZw T.fZw.kp T.bZw .nil Zs (Zz0 (pv 1) (Zz0 (pv 2) (Zz0 (pv 0) Zz3)))) (Zz9 (okZw T) (hr.mono (by decide)) rfl T.mZw T.fZw.kp T.bZw .nil Zs (Zz0 (pv 1) (Zz0 (pv 2) (Zz0 (pv 3) Zz3)))) (Zp _)))) (λ_ _ _ _=>(pv 0))))
   (Zz2 (Zr7 (i:=8) rfl scZy.nd rfl rfl (sc0:=Zz7 sZy) (N0:=["self","web","kept","shut","lead","marks","opened","alike","unlike"]) (N':=["tie","alike"]) (o:=1) (fr:=[7]) ⟨rfl,by decide +kernel,by decide +kernel,by decide +kernel,rfl,by decide +kernel⟩ (ZZ K (pv 6)) (Zy (by decide)) (λ_ _ _ _=>(Zd (i:=0) (show List.Nodup (["tie","alike"]:List Str) by decide +kernel) rfl (Or.inl rfl))) (λ_ _ _ _=>(Zt1 (Zf (ZB1 K) (pv 0) (pv 1) rfl))) (λ_ _ _ _=>(pv 0)))
   (Zz2 (Zz03 (pv 0) (Zv5 (k:=0) (i:=4) (v:="tie") (x:="lead") (pv 7) (by rfl) T.n_sorted (hr.mono (by decide)) rfl rfl hC hBa hPg (LamScope.of rfl rfl rfl (by first | exact .inl rfl | exact .inr rfl) (by decide)) rfl rfl (λ_ _ _ _=>rfl) rfl rfl rfl (λ_ _ _ _ _ _ hr=>(ZF Zq3 (pv 0) (pv 1) (Zp _)))) rfl)
   (Zz8 (Zz03 (pv 0) (ZB8 rfl (by rfl) T.n_min (pv 8)) rfl)))))))))))),?_⟩
  obtain⟨g1,g2,g3,g4⟩:=id hG;refine⟨_,rfl,_,rfl,x,_,dx,[],rfl,hx,T.cl_Part,T.n_Part_web,(by show 0<1000;decide),?_⟩;refine⟨_,rfl,_,rfl,x,_,dx,_,rfl,Zz1,T.cl_Part,T.n_Part_kept,(by show 1<1000;decide),?_⟩;refine⟨_,rfl,_,rfl,x,_,dx,_,rfl,Zz1,T.cl_Part,T.n_Part_shut,(by show 2<1000;decide),?_⟩;refine⟨_,rfl,_,rfl,x,_,dx,_,rfl,Zz1,T.cl_Part,T.n_Part_lead,(by show 3<1000;decide),?_⟩;change tSeq _ _ _ [some (.ref x),some (.ref w),some (.ref a),some (.ref b),some (optV ld),none,none,none,none] (upd (upd (upd (upd H x (.ins t.A_Part dx (putF "web" (.ref w) []))) x (.ins t.A_Part dx (putF "kept" (.ref a) (putF "web" (.ref w) [])))) x (.ins t.A_Part dx (putF "shut" (.ref b) (putF "kept" (.ref a) (putF "web" (.ref w) []))))) x (.ins t.A_Part dx (putF "lead" (optV ld) (putF "shut" (.ref b) (putF "kept" (.ref a) (putF "web" (.ref w) []))))));have sx4:SameX x H (upd (upd (upd (upd H x (.ins t.A_Part dx (putF "web" (.ref w) []))) x (.ins t.A_Part dx (putF "kept" (.ref a) (putF "web" (.ref w) [])))) x (.ins t.A_Part dx (putF "shut" (.ref b) (putF "kept" (.ref a) (putF "web" (.ref w) []))))) x (.ins t.A_Part dx (putF "lead" (optV ld) (putF "shut" (.ref b) (putF "kept" (.ref a) (putF "web" (.ref w) [])))))):=((samex_upd.trans samex_upd).trans samex_upd).trans samex_upd
  have hx4:(upd (upd (upd (upd H x (.ins t.A_Part dx (putF "web" (.ref w) []))) x (.ins t.A_Part dx (putF "kept" (.ref a) (putF "web" (.ref w) [])))) x (.ins t.A_Part dx (putF "shut" (.ref b) (putF "kept" (.ref a) (putF "web" (.ref w) []))))) x (.ins t.A_Part dx (putF "lead" (optV ld) (putF "shut" (.ref b) (putF "kept" (.ref a) (putF "web" (.ref w) [])))))) x=some (.ins t.A_Part dx [("web",.ref w),("kept",.ref a),("shut",.ref b),("lead",optV ld)]):=Zz1;generalize upd (upd (upd (upd H x (.ins t.A_Part dx (putF "web" (.ref w) []))) x (.ins t.A_Part dx (putF "kept" (.ref a) (putF "web" (.ref w) [])))) x (.ins t.A_Part dx (putF "shut" (.ref b) (putF "kept" (.ref a) (putF "web" (.ref w) []))))) x (.ins t.A_Part dx (putF "lead" (optV ld) (putF "shut" (.ref b) (putF "kept" (.ref a) (putF "web" (.ref w) [])))))=H4 at *;have hW4:=hW.but hx sx4
  have hA4:=Zt3 hA hx sx4;have hB4:=Zt3 hBo hx sx4
  have il:I.length<=ps.length:=by
   have:=Zi2 (m:=rgL ps.length) hIn λz hz=>rgL_mem.mpr (hIb z hz)
   rw[ZI]at this;exact this
  refine⟨_,rfl,_,rfl,_,rfl,w,a,b,n,ps,I,O,rfl,hW4,hG,hA4,hB4,hIn,hIb,hIO,λH5 s5 h=>absurd hU0 (h U0),λl F H5 s5 hl hF hFm=>?_⟩;refine⟨_,rfl,x,_,dx,_,rfl,s5 _ _ hx4,T.cl_Part,T.n_Part_least,(by show 4<1000;decide),?_⟩;have sx5:SameX x H H5:=sx4.trans (SameX.same s5)
  have sx6:SameX x H (upd H5 x (.ins t.A_Part dx (putF "least" (.ref l) [("web",.ref w),("kept",.ref a),("shut",.ref b),("lead",optV ld)]))):=sx5.trans samex_upd;have hx6:(upd H5 x (.ins t.A_Part dx (putF "least" (.ref l) [("web",.ref w),("kept",.ref a),("shut",.ref b),("lead",optV ld)]))) x=some (.ins t.A_Part dx [("web",.ref w),("kept",.ref a),("shut",.ref b),("lead",optV ld),("least",.ref l)]):=Zz1
  have hl6:(upd H5 x (.ins t.A_Part dx (putF "least" (.ref l) [("web",.ref w),("kept",.ref a),("shut",.ref b),("lead",optV ld)]))) l=some (.tup (IL F)):=by rw[Zb (λe=>by rw[e,s5 _ _ hx4]at hl;cases hl)];exact hl
  change tSeq _ _ _ [some (.ref x),some (.ref w),some (.ref a),some (.ref b),some (optV ld),none,none,none,none] (upd H5 x (.ins t.A_Part dx (putF "least" (.ref l) [("web",.ref w),("kept",.ref a),("shut",.ref b),("lead",optV ld)])));generalize upd H5 x (.ins t.A_Part dx (putF "least" (.ref l) [("web",.ref w),("kept",.ref a),("shut",.ref b),("lead",optV ld)]))=H6 at *;refine⟨_,rfl,_,rfl,w,a,n,ps,I,rfl,hW.but hx sx6,hG,Zt3 hA hx sx6,hIb,λm H7 s7 hm0 hm7=>?_⟩;refine nm ?_;dsimp only [List.set];have sx7:SameX x H H7:=sx6.trans (SameX.same s7)
  have hF1:F.length<=ps.length:=hF.1.1.len;have hMl:(pms n.toNat (Zz6 ps I)).length=n.toNat:=Zw _ _
  refine⟨_,rfl,_,rfl,_,rfl,_,rfl,?_⟩;refine ZR3 (l:=I) (m:=O) (Zt3 hA hx sx7) (Zt3 hBo hx sx7) (by lia) λr1 H8 s8 hr1=>?_;have sx8:SameX x H H8:=sx7.trans (SameX.same s8)
  have s68:=s7.trans s8;refine⟨_,rfl,x,_,dx,_,.ref l,rfl,s68 _ _ hx6,T.cl_Part,T.n_Part_least,rfl,?_⟩;refine ZR3 (l:=I++O) (m:=F) hr1 (SqT.of (s68 _ _ hl6)) (by rw[Yy4];lia) λr2 H9 s9 hr2=>?_;have s69:=s68.trans s9
  have sx9:SameX x H H9:=sx8.trans (SameX.same s9);have s79:=s8.trans s9
  refine⟨w,m,r2,n,ps,pms n.toNat (Zz6 ps I),I++O++F,rfl,hW.but hx sx9,hG,s79 _ _ hm7,hMl,hr2,λpA H10 s10 hp0 hp10=>?_⟩;have hp10:H10 pA=some (.lst (IL (opL n ps I O F))):=hp10
  refine nm ?_;dsimp only [List.set];have sxA:SameX x H H10:=sx9.trans (SameX.same s10)
  have s6A:=s69.trans s10;have hmA:=(s79.trans s10) _ _ hm7
  have hob:∀ z∈opL n ps I O F,0<=z/\z<(ps.length:Int):=λz hz=>ZF3 hz;have hol:(opL n ps I O F).length<=ps.length:=ZG3 _ _ _ _
  refine⟨_,rfl,pA,rfl,⟨_,SqL.of hp10⟩,ZH1 (K:=K) (a:=pA) (xs:=IL (opL n ps I O F)) (λi ws H11=>Same H10 H11/\i<=(opL n ps I O F).length/\ws=IL (((opL n ps I O F).take i).filter λz=>decide (∃ y,ld=some y/\eky (pms n.toNat (Zz6 ps I)) ps z=eky (pms n.toNat (Zz6 ps I)) ps y))) ⟨Same.refl _,Yl _,rfl⟩ (Zm (by rw[Zz4];lia))
   (λi ws H11 hi h=>by obtain⟨e,hi2,ew⟩:=h;exact⟨SqL.of (e _ _ hp10),by rw[ew,Zz4];exact Yt (YF ..) (by rw[Yz];lia)⟩) ?_ ?_⟩
  ·rintro i v ws H11 hi ⟨s11,hil,rfl⟩ S hSS;obtain⟨z,rfl,hz⟩:=Zz71 hi;obtain⟨z0,z1⟩:=hob z (Yy9 hz);have hil':i<(opL n ps I O F).length:=(Yy1.mp hz).1
   obtain⟨y,rfl⟩:∃ y,ld=some y:=by
    cases ld with
    | some y=>exact⟨y,rfl⟩
    | none =>
     rw[hno rfl F hF hFm]at hil';exact absurd hil' (YW _)
   obtain⟨y0,y1⟩:=hld y rfl;refine nm ?_;refine⟨_,rfl,_,rfl,_,rfl,w,m,n,ps,_,z,rfl,hW.but hx (sxA.trans (SameX.same s11)),hG,s11 _ _ hmA,hMl,z0,z1,λe1 l1 H12 hl1 hs1 s12 he1=>?_⟩;have s112:=s11.trans s12
   refine⟨_,rfl,_,rfl,_,rfl,w,m,n,ps,_,y,rfl,hW.but hx (sxA.trans (SameX.same s112)),hG,s112 _ _ hmA,hMl,y0,y1,λe2 l2 H13 hl2 hs2 s13 he2=>?_⟩;refine⟨1,_,e1,e2,rfl,rfl,by decide,Zh4 (SqL.of (s13 _ _ he1)) (SqL.of he2),_,rfl,?_⟩;have ed:decide (l1=l2)=decide (∃ y_1,some y=some y_1/\eky (pms n.toNat (Zz6 ps I)) ps z=eky (pms n.toNat (Zz6 ps I)) ps y_1):=by
    rw[Zv1 hl1 hs1,Zv1 hl2 hs2,Y1E];constructor
    ·intro e;injection e with e1 e2
     injection e2 with e2 _;exact⟨y,rfl,Prod.ext e1 e2⟩
    ·rintro⟨y',e,e'⟩;cases e;obtain⟨e1,e2⟩:=Prod.mk.inj e';rw[e1,e2]
   have s113:=s112.trans s13;show(if decide (l1=l2)=true then _ else _)
   rw[ed];refine itd2 (λhc=>?_) (λhc=>?_)
   ·refine⟨_,rfl,hSS _ _ ⟨s113,hil',?_⟩⟩;rw[ZX hz,if_pos (Yx hc),ZV]
   ·refine hSS _ _ ⟨s113,hil',?_⟩;rw[ZX hz,if_neg (by simpa using hc),YG]
  rintro ws H11 ⟨s11,_,rfl⟩ kA hkA;rw[Zz4,YJ];have ea:((opL n ps I O F).filter λz=>decide (∃ y,ld=some y/\eky (pms n.toNat (Zz6 ps I)) ps z=eky (pms n.toNat (Zz6 ps I)) ps y))=alL n ps I O F ld:=rfl
  rw[ea];have hal:(alL n ps I O F ld).length<=ps.length:=Yt (YF ..) hol
  have v1:=Zz5 (o:=.lst (IL (alL n ps I O F ld))) hkA;have kK:(upd H11 kA (.lst (IL (alL n ps I O F ld)))) kA=some (.lst (IL (alL n ps I O F ld))):=Zz1
  refine nm ?_;dsimp only [List.set];have sAB:=s11.trans v1
  change tSeq _ _ _ _ (upd H11 kA (.lst (IL (alL n ps I O F ld))));generalize upd H11 kA (.lst (IL (alL n ps I O F ld)))=H14 at *;have hpB:=sAB _ _ hp10
  refine⟨_,rfl,pA,rfl,⟨_,SqL.of hpB⟩,ZH1 (K:=K) (a:=pA) (xs:=IL (opL n ps I O F)) (λi ws H15=>H15=H14/\i<=(opL n ps I O F).length/\ws=IL (((opL n ps I O F).take i).filter λz=>decide (z∉alL n ps I O F ld))) ⟨rfl,Yl _,rfl⟩ (Zm (by rw[Zz4];lia))
   (λi ws H15 hi h=>by obtain⟨e,hi2,ew⟩:=h;exact⟨e ▸ SqL.of hpB,by rw[ew,Zz4];exact Yt (YF ..) (by rw[Yz];lia)⟩) ?_ ?_⟩
  ·rintro i v ws H15 hi ⟨rfl,hil,rfl⟩ S hSS;obtain⟨z,rfl,hz⟩:=Zz71 hi;have hil':i<(opL n ps I O F).length:=(Yy1.mp hz).1
   refine nm ?_;refine⟨_,rfl,_,rfl,kA,_,rfl,.inl (SqL.of kK),rfl,Zz _,_,rfl,?_⟩;rw[ZL];refine itn2 (λhe=>?_) (λhe=>?_)
   ·refine hSS _ _ ⟨rfl,hil',?_⟩;rw[ZX hz,if_neg (by simpa using he),YG]
   ·refine⟨_,rfl,hSS _ _ ⟨rfl,hil',?_⟩⟩;rw[ZX hz,if_pos (Yx he),ZV]
  rintro ws H15 ⟨rfl,_,rfl⟩ uA huA;rw[Zz4,YJ];have eu:((opL n ps I O F).filter λz=>decide (z∉alL n ps I O F ld))=unL n ps I O F ld:=rfl
  rw[eu];have v2:=Zz5 (o:=.lst (IL (unL n ps I O F ld))) huA
  have kU:(upd H15 uA (.lst (IL (unL n ps I O F ld)))) uA=some (.lst (IL (unL n ps I O F ld))):=Zz1;refine nm ?_;dsimp only [List.set];have s6U:=(s6A.trans sAB).trans v2
  have kKU:=v2 _ _ kK;have sxU:SameX x H (upd H15 uA (.lst (IL (unL n ps I O F ld)))):=sx6.trans (SameX.same s6U)
  have hxU:=s6U _ _ hx6;have hlU:=s6U _ _ hl6
  change tSeq _ _ _ _ (upd H15 uA (.lst (IL (unL n ps I O F ld))));generalize upd H15 uA (.lst (IL (unL n ps I O F ld)))=H16 at *;have tabU:TabP H16 Pt:=ZX10 hT hx sxU
  refine⟨_,rfl,kA,alL n ps I O F ld,optV ld,λz=>decide (ld=some z),rfl,SqL.of kKU,by lia,tabU,rfl,λH17 sx17 z hz=>?_,λinc iA H17 hst sx17 tab17 hi17=>?_⟩
  ·refine⟨_,rfl,_,rfl,(by cases ld <;> rfl),?_,rfl⟩
   show V.bl (decide (V.int z=optV ld))=V.bl (decide (ld=some z));cases ld with
   | none=>rfl
   | some y =>
    show V.bl (decide (V.int z=V.int y))=V.bl (decide (some y=some z));rw[Zx];congr 1;rw[Y1E];exact⟨λe=>by rw[e],λe=>(Yh e).symm⟩
  have hxP:x≠Pt:=tabU.ne hxU (by simp);have v3:=Zz5 (o:=.lst (IL inc)) hi17
  have hx18:=v3 _ _ (sx17 _ _ hxP hxU);have hl18:=v3 _ _ (sx17 _ _ (tabU.ne hlU (by simp)) hlU)
  have kU18:=v3 _ _ (sx17 _ _ (tabU.ne kU (by simp)) kU);have ki18:(upd H17 iA (.lst (IL inc))) iA=some (.lst (IL inc)):=Zz1
  have tab18:TabP (upd H17 iA (.lst (IL inc))) Pt:=tab17.same v3;have keep18:∀ b o,b≠x->b≠Pt->H b=some o->(upd H17 iA (.lst (IL inc))) b=some o:=λb o h1 h2 e=>v3 _ _ (sx17 _ _ h2 (sxU _ _ h1 e))
  change ∃ _,_;generalize upd H17 iA (.lst (IL inc))=H18 at *;refine⟨_,rfl,x,_,dx,_,rfl,hx18,T.cl_Part,T.n_Part_incoming,(by show 5<1000;decide),?_⟩;have ne_x:∀(c:Addr) (o:HO),H18 c=some o->(∀ a b fs,o≠.ins a b fs)->c≠x:=λc o h ho e=>by rw[e,hx18]at h;exact ho _ _ _ (Yh h).symm
  have hU19:(upd H18 x (.ins t.A_Part dx (putF "incoming" (.ref iA) [("web",.ref w),("kept",.ref a),("shut",.ref b),("lead",optV ld),("least",.ref l)]))) uA=some (.lst (IL (unL n ps I O F ld))):=by rw [Zb (ne_x _ _ kU18 (by simp))];exact kU18
  have fin:∀ fu:Option Int,(fu=none↔unL n ps I O F ld=[])->(∀ y,fu=some y->y∈unL n ps I O F ld/\∀ z∈unL n ps I O F ld,y<=z)->Q .non (upd (upd H18 x (.ins t.A_Part dx (putF "incoming" (.ref iA) [("web",.ref w),("kept",.ref a),("shut",.ref b),("lead",optV ld),("least",.ref l)]))) x (.ins t.A_Part dx (pfs (.ref w) (.ref a) (.ref b) (optV ld) (.ref l) (.ref iA) (optV fu)))):=λfu h1 h2=>by
   have up:∀(c:Addr) (o:HO),c≠x->H18 c=some o->(upd (upd H18 x (.ins t.A_Part dx (putF "incoming" (.ref iA) [("web",.ref w),("kept",.ref a),("shut",.ref b),("lead",optV ld),("least",.ref l)]))) x (.ins t.A_Part dx (pfs (.ref w) (.ref a) (.ref b) (optV ld) (.ref l) (.ref iA) (optV fu)))) c=some o:=λc o h e=>by rw [Zb h,Zb h];exact e
   obtain⟨tp,t1,t2,t3⟩:=id tab18;refine q F inc fu l iA _ hF hFm hst h1 h2 Zz1 (up _ _ (ne_x _ _ hl18 (by simp)) hl18) (up _ _ (ne_x _ _ ki18 (by simp)) ki18) (λb o b1 b2 e=>up _ _ b1 (keep18 b o b1 b2 e)) ⟨tp,up _ _ (ne_x _ _ t1 (by simp)) t1,t2,?_⟩;rcases t3 with h | ⟨c,h,h'⟩
   ·exact .inl h
   ·exact .inr ⟨c,h,up _ _ (ne_x _ _ h' (by unfold CdO;simp)) h'⟩
  refine⟨_,rfl,uA,unL n ps I O F ld,rfl,SqL.of hU19,λe=>?_,λmn hm1 hm2=>?_⟩
  ·refine⟨_,rfl,x,_,dx,_,rfl,Zz1,T.cl_Part,T.n_Part_further,(by show 6<1000;decide),?_⟩;exact fin none ⟨λ_=>e,λ_=>rfl⟩ λy h=>by cases h
  ·refine⟨_,rfl,x,_,dx,_,rfl,Zz1,T.cl_Part,T.n_Part_further,(by show 6<1000;decide),?_⟩;exact fin (some mn) ⟨λh=>(by cases h),λh=>(by rw[h]at hm1;cases hm1)⟩ λy h=>(by cases h;exact⟨hm1,hm2⟩)
def spZz(K:PySem.W.Frag)(CP C Pt:Addr):Sp:=λvs H Q _=>∃(w:Addr) (n:Int) (ps:List (Int × Int)),vs=[.ref w]/\WebAt C H w n ps/\Zv n ps/\TabP H Pt/\(∃ U,Zi n ps U) /\
 ∀(x:Addr) (F inc:List Int) (ld fu:Option Int) (H':Hp),PartOk n ps [] [] ld F inc fu->(ld=none↔opL n ps [] [] F=[])->(∀ y,ld=some y->y∈opL n ps [] [] F/\∀ z∈opL n ps [] [] F,y<=z)->PartAt K CP C H' x n ps [] [] F inc ld fu->SameX Pt H H'->TabP H' Pt->Q (.ref x) H'
theorem scZz:FnScope ["web","opened"] ["web"] (Zz7 sZz):=⟨rfl,rfl,rfl,by decide +kernel,rfl,by decide +kernel,by decide +kernel⟩
theorem okZz {Pt:Addr} (T:Txt K mg t) (hB:Zq7 K mg base t.dZy Pt):FnOk P w K mg base CX0 10 t.aZz t.dZz ["web"] (spZz K t.A_Part t.A_Web Pt):=by
 refine T.fZz.ok scZz (λvs H Q E h=>?_) (λcdv A outer s H vs Q E hr h=>?_)
 ·obtain⟨w,n,ps,rfl,_⟩:=h;rfl
 ·obtain⟨w,n,ps,rfl,hW,hG,hT,⟨U0,hU0⟩,q⟩:=h;refine⟨_,(Zz2 (Zj (i:=1) scZz.nd rfl (Or.inl rfl) (Zz9 (okZx T) (hr.mono (by decide)) rfl T.mZx T.fZx.kp T.bZx .nil Zs (Zz0 (pv 0) (Zz0 (Zz9 (okZg T) (hr.mono (by decide)) rfl T.mZg T.fZg.kp T.bZg .nil Zs (Zz0 (pv 0) (Zz0 (Zd1 Zz3) Zz3))) (Zz0 (Zz9 (okZv T) (hr.mono (by decide)) rfl T.mZv T.fZv.kp T.bZv .nil Zs (Zz0 (pv 0) (Zz0 (Zd1 Zz3) (Zz0 (Zd1 Zz3) Zz3)))) Zz3)))))
   (Zz8 (Zh (ZB3 T.k_Part (okZy T hB) (hr.mono (by decide)) rfl T.c_Part T.bZy .nil Zs (Zz0 (pv 0) (Zz0 (Zd1 Zz3) (Zz0 (Zd1 Zz3) (Zz0 (ZB8 rfl (by rfl) T.n_min (pv 1)) Zz3)))))))),?_⟩
  have hU1:With n ps [] [] U0:=⟨hU0,λz h=>(by cases h),λz h=>(by cases h)⟩;refine⟨_,rfl,_,rfl,Yl _,λe1 he1=>?_⟩;have s1:=Zz5 (o:=.tup []) he1
  refine⟨w,e1,n,ps,[],rfl,hW.same s1,hG,SqT.of Zz1,λz h=>(by cases h),λm H2 s2 hm0 hm2=>?_⟩;have s12:=s1.trans s2
  refine⟨_,rfl,Yl _,λe2 he2=>⟨Yl _,λe3 he3=>?_⟩⟩;have s3:=Zz5 (o:=.tup []) he2
  have s4:=Zz5 (o:=.tup []) he3;have s14:=s12.trans (s3.trans s4)
  refine⟨w,e2,e3,n,ps,[],[],rfl,hW.same s14,hG,SqT.of (s4 _ _ Zz1),SqT.of Zz1,.nil,λz h=>(by cases h),λz h=>(by cases h),λH5 s5 h=>absurd hU1 (h U0),λl F H5 s5 hl hF hFm=>?_⟩;have s15:=s14.trans s5
  have hm5:=((s3.trans s4).trans s5) _ _ hm2;have hMl:(pms n.toNat (Zz6 ps [])).length=n.toNat:=Zw _ _
  refine⟨w,m,l,n,ps,pms n.toNat (Zz6 ps []),F,rfl,hW.same s15,hG,hm5,hMl,SqT.of hl,λpA H6 s6 hp0 hp6=>?_⟩;have hp6:H6 pA=some (.lst (IL (opL n ps [] [] F))):=hp6
  refine nm ?_;dsimp only [List.set];have s16:=s15.trans s6
  have hob:∀ z∈opL n ps [] [] F,0<=z/\z<(ps.length:Int):=λz hz=>ZF3 hz;refine⟨_,rfl,Yl _,λf1 hf1=>⟨Yl _,λf2 hf2=>?_⟩⟩;have s7:=Zz5 (o:=.tup []) hf1
  have s8:=Zz5 (o:=.tup []) hf2;have hf1':(upd (upd H6 f1 (.tup [])) f2 (.tup [])) f1=some (.tup []):=s8 _ _ Zz1
  have hf2':(upd (upd H6 f1 (.tup [])) f2 (.tup [])) f2=some (.tup []):=Zz1;have s18:=s16.trans (s7.trans s8)
  have hp8:=(s7.trans s8) _ _ hp6;generalize upd (upd H6 f1 (.tup [])) f2 (.tup [])=H8 at *;have main:∀ ld:Option Int,(ld=none↔opL n ps [] [] F=[])->(∀ y,ld=some y->y∈opL n ps [] [] F/\∀ z∈opL n ps [] [] F,y<=z)->∀ x dx,H8 x=none->H8 dx=none->dx≠x->Zj2 K t.A_Part t.A_Web Pt [.ref x,.ref w,.ref f1,.ref f2,optV ld] (upd (upd H8 dx (.own x)) x (.ins t.A_Part dx [])) (λv H2=>v=.non/\Q (.ref x) H2) E0:=by
   intro ld hn hs x dx nx ndx nex;have s9:Same H8 (upd (upd H8 dx (.own x)) x (.ins t.A_Part dx [])):=ZC (Zz5 ndx) (by rw[Zb (YY nex)];exact nx)
   have s19:=s18.trans s9;refine⟨x,dx,w,f1,f2,n,ps,[],[],ld,rfl,Zz1,hW.same s19,hG,hT.same s19,SqT.of (s9 _ _ hf1'),SqT.of (s9 _ _ hf2'),.nil,λz h=>(by cases h),λz h=>(by cases h),Yl _,⟨U0,hU1⟩,λy hy=>hob y (hs y hy).1,λe F' hF' hFm'=>?_,λF' inc fu l' i' H' hF' hFm' hst h1 h2 hx' hl' hi' keep tab'=>⟨rfl,?_⟩⟩
   ·have eF:F'=F:=ZV1 (hFm F' hF') (hFm' F hF);rw[eF];exact hn.mp e
   ·have eF:F'=F:=ZV1 (hFm F' hF') (hFm' F hF);subst eF;have sx:SameX Pt H8 H':=λb o hb e=>keep b o (Zc e nx) hb (s9 _ _ e)
    have tab8:TabP H8 Pt:=hT.same s18;refine q x F' inc ld fu H' ⟨hF',hFm',hst,h1,h2⟩ hn hs ⟨dx,w,f1,f2,l',i',hx',(hW.same s18).samex tab8 sx,SqT.of (sx _ _ (tab8.ne hf1' (by simp)) hf1'),SqT.of (sx _ _ (tab8.ne hf2' (by simp)) hf2'),hl',hi'⟩ ((SameX.same s18).trans sx) tab'
  refine⟨_,rfl,pA,opL n ps [] [] F,rfl,SqL.of hp8,λe=>?_,λmn h1 h2=>?_⟩
  ·exact main none ⟨λ_=>e,λ_=>rfl⟩ λy h=>by cases h
  ·exact main (some mn) ⟨λh=>(by cases h),λh=>(by rw[h]at h1;cases h1)⟩ λy h=>(by cases h;exact⟨h1,h2⟩)
def spZA(K:PySem.W.Frag)(CP C Pt:Addr):Sp:=λvs H Q _=>∃(x:Addr) (n:Int) (ps:List (Int × Int)) (I O F inc:List Int) (z y:Int),vs=[.ref x]/\PartAt K CP C H x n ps I O F inc (some z) (some y)/\Zv n ps/\TabP H Pt/\(I).Nodup/\(∀ v∈I,0<=v/\v<(ps.length:Int))/\(∀ v∈I,v∉O++[z])/\(O++[z]).length<=30/\(∃ U,With n ps (I) (O++[z]) U)/\0<=y/\y<(ps.length:Int) /\
 ∀(x':Addr) (F' inc':List Int) (fu:Option Int) (H':Hp),PartOk n ps (I) (O++[z]) (some y) F' inc' fu->PartAt K CP C H' x' n ps (I) (O++[z]) F' inc' (some y) fu->SameX Pt H H'->TabP H' Pt->Q (.ref x') H'
theorem scZA:FnScope ["part"] ["part"] (Zz7 sZA):=⟨rfl,rfl,rfl,by decide +kernel,rfl,by decide +kernel,by decide +kernel⟩
theorem okZA {Pt:Addr} (T:Txt K mg t) (hB:Zq7 K mg base t.dZy Pt):FnOk P w K mg base CX0 10 t.aZA t.dZA ["part"] (spZA K t.A_Part t.A_Web Pt):=by
 refine T.fZA.ok scZA (λvs H Q E h=>?_) (λcdv A outer s H vs Q E hr h=>?_)
 ·obtain⟨x,n,ps,I,O,F,inc,z,y,rfl,_⟩:=h;rfl
 ·obtain⟨x,n,ps,I,O,F,inc,z,y,rfl,⟨dx,w,a,b,l,i,hx,hW,hA,hBo,hl,hi⟩,hG,hT,hIn,hIb,hIO,hOl,hex,y0,y1,q⟩:=h;refine⟨_,(Zz8 (Zh (ZB3 T.k_Part (okZy T hB) (hr.mono (by decide)) rfl T.c_Part T.bZy .nil Zs (Zz0 (Zk K (pv 0) rfl) (Zz0 (Zk K (pv 0) rfl) (Zz0 (Zq (ZP2 K) (Zk K (pv 0) rfl) (Zd1 (Zz0 (Zk K (pv 0) rfl) Zz3))) (Zz0 (Zk K (pv 0) rfl) Zz3))))))),?_⟩;have hI30:I.length<=30:=by
   have:=Zi2 (m:=rgL ps.length) hIn λv hv=>rgL_mem.mpr (hIb v hv)
   have e:=hG.2.2.1;rw[ZI]at this
   try simp only [Yy4,Yj]at this
   lia
  have hO30:O.length<=30:=by
   have:=hOl
   try simp only [Yy4,Yj]at this
   lia
  refine⟨_,rfl,x,_,dx,_,.ref w,rfl,hx,T.cl_Part,T.n_Part_web,rfl,_,rfl,x,_,dx,_,.ref a,rfl,hx,T.cl_Part,T.n_Part_kept,rfl,_,rfl,x,_,dx,_,.ref b,rfl,hx,T.cl_Part,T.n_Part_shut,rfl,_,rfl,x,_,dx,_,.int z,rfl,hx,T.cl_Part,T.n_Part_lead,rfl,(by show 1<=sizeLine;decide),λp hp=>?_⟩;have s1:=Zz5 (o:=.tup (IL [z])) hp
  refine ZR3 (l:=O) (m:=[z]) (SqK.same (k:=true) s1 hBo) (SqT.of Zz1) (by rw[Yj];lia) λr1 H2 s2 hr1=>?_;have s12:=s1.trans s2
  refine⟨_,rfl,x,_,dx,_,.int y,rfl,s12 _ _ hx,T.cl_Part,T.n_Part_further,rfl,?_⟩;intro x' dx' nx ndx nex;have s9:Same H2 (upd (upd H2 dx' (.own x')) x' (.ins t.A_Part dx' [])):=ZC (Zz5 ndx) (by rw[Zb (YY nex)];exact nx)
  have tab2:TabP H2 Pt:=hT.same s12;refine⟨x',dx',w,a,r1,n,ps,I,O++[z],some y,rfl,Zz1,hW.same (s12.trans s9),hG,tab2.same s9,SqK.same (k:=true) (s12.trans s9) hA,SqK.same (k:=true) s9 hr1,hIn,hIb,hIO,hOl,hex,λv e=>(by cases e;exact⟨y0,y1⟩),λe=>(by cases e),λF' inc' fu l' i' H' hF' hFm' hst h1 h2 hx' hl' hi' keep tab'=>⟨rfl,?_⟩⟩;have sx:SameX Pt H2 H':=λb o hb e=>keep b o (Zc e nx) hb (s9 _ _ e)
  exact q x' F' inc' fu H' ⟨hF',hFm',hst,h1,h2⟩ ⟨dx',w,a,r1,l',i',hx',(hW.same s12).samex tab2 sx,SqK.samex (kd:=true) (SqK.same (k:=true) s12 hA) tab2 sx,SqK.samex (kd:=true) (hr1) tab2 sx,hl',hi'⟩ ((SameX.same s12).trans sx) tab'
def spZB(K:PySem.W.Frag)(CP C Pt:Addr):Sp:=λvs H Q _=>∃(x:Addr) (n:Int) (ps:List (Int × Int)) (I O F inc:List Int) (z y:Int),vs=[.ref x]/\PartAt K CP C H x n ps I O F inc (some z) (some y)/\Zv n ps/\TabP H Pt/\(I++[z]).Nodup/\(∀ v∈I++[z],0<=v/\v<(ps.length:Int))/\(∀ v∈I++[z],v∉O)/\(O).length<=30/\(∃ U,With n ps (I++[z]) (O) U)/\0<=y/\y<(ps.length:Int) /\
 ∀(x':Addr) (F' inc':List Int) (fu:Option Int) (H':Hp),PartOk n ps (I++[z]) (O) (some y) F' inc' fu->PartAt K CP C H' x' n ps (I++[z]) (O) F' inc' (some y) fu->SameX Pt H H'->TabP H' Pt->Q (.ref x') H'
theorem scZB:FnScope ["part"] ["part"] (Zz7 sZB):=⟨rfl,rfl,rfl,by decide +kernel,rfl,by decide +kernel,by decide +kernel⟩
theorem okZB {Pt:Addr} (T:Txt K mg t) (hB:Zq7 K mg base t.dZy Pt):FnOk P w K mg base CX0 10 t.aZB t.dZB ["part"] (spZB K t.A_Part t.A_Web Pt):=by
 refine T.fZB.ok scZB (λvs H Q E h=>?_) (λcdv A outer s H vs Q E hr h=>?_)
 ·obtain⟨x,n,ps,I,O,F,inc,z,y,rfl,_⟩:=h;rfl
 ·obtain⟨x,n,ps,I,O,F,inc,z,y,rfl,⟨dx,w,a,b,l,i,hx,hW,hA,hBo,hl,hi⟩,hG,hT,hIn,hIb,hIO,hOl,hex,y0,y1,q⟩:=h;refine⟨_,(Zz8 (Zh (ZB3 T.k_Part (okZy T hB) (hr.mono (by decide)) rfl T.c_Part T.bZy .nil Zs (Zz0 (Zk K (pv 0) rfl) (Zz0 (Zq (ZP2 K) (Zk K (pv 0) rfl) (Zd1 (Zz0 (Zk K (pv 0) rfl) Zz3))) (Zz0 (Zk K (pv 0) rfl) (Zz0 (Zk K (pv 0) rfl) Zz3))))))),?_⟩;have hI30:I.length<=30:=by
   have:=Zi2 (m:=rgL ps.length) hIn λv hv=>rgL_mem.mpr (hIb v hv)
   have e:=hG.2.2.1;rw[ZI]at this
   try simp only [Yy4,Yj]at this
   lia
  have hO30:O.length<=30:=by
   have:=hOl
   try simp only [Yy4,Yj]at this
   lia
  refine⟨_,rfl,x,_,dx,_,.ref w,rfl,hx,T.cl_Part,T.n_Part_web,rfl,_,rfl,x,_,dx,_,.ref a,rfl,hx,T.cl_Part,T.n_Part_kept,rfl,_,rfl,x,_,dx,_,.int z,rfl,hx,T.cl_Part,T.n_Part_lead,rfl,(by show 1<=sizeLine;decide),λp hp=>?_⟩;have s1:=Zz5 (o:=.tup (IL [z])) hp
  refine ZR3 (l:=I) (m:=[z]) (SqK.same (k:=true) s1 hA) (SqT.of Zz1) (by rw[Yj];lia) λr1 H2 s2 hr1=>?_;have s12:=s1.trans s2
  refine⟨_,rfl,x,_,dx,_,.ref b,rfl,s12 _ _ hx,T.cl_Part,T.n_Part_shut,rfl,_,rfl,x,_,dx,_,.int y,rfl,s12 _ _ hx,T.cl_Part,T.n_Part_further,rfl,?_⟩;intro x' dx' nx ndx nex;have s9:Same H2 (upd (upd H2 dx' (.own x')) x' (.ins t.A_Part dx' [])):=ZC (Zz5 ndx) (by rw[Zb (YY nex)];exact nx)
  have tab2:TabP H2 Pt:=hT.same s12;refine⟨x',dx',w,r1,b,n,ps,I++[z],O,some y,rfl,Zz1,hW.same (s12.trans s9),hG,tab2.same s9,SqK.same (k:=true) s9 hr1,SqK.same (k:=true) (s12.trans s9) hBo,hIn,hIb,hIO,hOl,hex,λv e=>(by cases e;exact⟨y0,y1⟩),λe=>(by cases e),λF' inc' fu l' i' H' hF' hFm' hst h1 h2 hx' hl' hi' keep tab'=>⟨rfl,?_⟩⟩;have sx:SameX Pt H2 H':=λb o hb e=>keep b o (Zc e nx) hb (s9 _ _ e)
  exact q x' F' inc' fu H' ⟨hF',hFm',hst,h1,h2⟩ ⟨dx',w,r1,b,l',i',hx',(hW.same s12).samex tab2 sx,SqK.samex (kd:=true) (hr1) tab2 sx,SqK.samex (kd:=true) (SqK.same (k:=true) s12 hBo) tab2 sx,hl',hi'⟩ ((SameX.same s12).trans sx) tab'
def spZC(K:PySem.W.Frag)(CP C:Addr):Sp:=λvs H Q _=>∃(x:Addr) (n:Int) (ps:List (Int × Int)) (I O F inc:List Int) (ld fu:Option Int),vs=[.ref x]/\PartAt K CP C H x n ps I O F inc ld fu/\Zv n ps/\I.Nodup/\(∀ z∈I,0<=z/\z<(ps.length:Int))/\O.length<=30/\(∀ z∈I,z∉O)/\∀(c:Nat) (H':Hp),PC n ps I O c->Same H H'->Q (.int c) H'
theorem scZC:FnScope ["part"] ["part"] (Zz7 sZC):=⟨rfl,rfl,rfl,by decide +kernel,rfl,by decide +kernel,by decide +kernel⟩
theorem okZC (T:Txt K mg t):FnOk P w K mg base CX0 8 t.aZC t.dZC ["part"] (spZC K t.A_Part t.A_Web):=by
 refine T.fZC.ok scZC (λvs H Q E h=>?_) (λcdv A outer s H vs Q E hr h=>?_)
 ·obtain⟨x,n,ps,I,O,F,inc,ld,fu,rfl,_⟩:=h;rfl
 ·obtain⟨x,n,ps,I,O,F,inc,ld,fu,rfl,⟨dx,w,a,b,l,i,hx,hW,hA,hBo,hl,hi⟩,hG,hI,hIb,hO,hIO,q⟩:=h;refine⟨_,(Zz8 (Zh (Zz9 (okZn T) (hr.mono (by decide)) rfl T.mZn T.fZn.kp T.bZn .nil Zs (Zz0 (Zk K (pv 0) rfl) (Zz0 (Zk K (pv 0) rfl) (Zz0 (Zk K (pv 0) rfl) Zz3)))))),?_⟩;refine⟨_,rfl,x,_,dx,_,.ref w,rfl,hx,T.cl_Part,T.n_Part_web,rfl,_,rfl,x,_,dx,_,.ref a,rfl,hx,T.cl_Part,T.n_Part_kept,rfl,_,rfl,x,_,dx,_,.ref b,rfl,hx,T.cl_Part,T.n_Part_shut,rfl,?_⟩;exact⟨w,a,b,n,ps,I,O,rfl,hW,hG,hA,hBo,hI,hIb,hO,hIO,q⟩
theorem ZJ13{n:Int}{ps:List (Int × Int)}{I F ms:List Int}{z:Int}(hF:Zi n ps F)(hz:z∉F)(hp:ms.Perm (Zp3 n ps F z F++[z]))(hs:ms.Pairwise (·<=·)):(ms.filter λt=>decide (t≠z/\t∉I))=lvT n ps I F z:=by
 refine Zz81 ((hp.filter _).trans ?_) (hs.filter _) ?_
 ·rw[Y0b,List.filter_cons_of_neg (by simp),Y2V,YG];refine List.Perm.of_eq (Y1u λt ht=>?_)
  have:t≠z:=λe=>hz (e ▸ (ringA_mem.mp ht).1)
  simp[this]
 ·exact((isSet_iff.mp hF.1).2.filter _).filter _ |>.imp λh=>by lia
def spZD(K:PySem.W.Frag)(CP C:Addr):Sp:=λvs H Q _=>∃(x:Addr) (n:Int) (ps:List (Int × Int)) (I O F inc:List Int) (ld fu:Option Int) (z:Int),vs=[.ref x,.int z]/\PartAt K CP C H x n ps I O F inc ld fu/\Zv n ps/\Zi n ps F/\z∉F/\0<=z/\z<(ps.length:Int) /\
 ∀(r:Addr) (xs:List V) (H':Hp),Same H H'->H r=none->H' r=some (.lst xs)->Bears (TupV H') xs ((lvT n ps I F z).map λo=>xchT F o z)->Q (.ref r) H'
theorem scZD:FnScope ["part","into","leaving"] ["part","into"] (Zz7 sZD):=⟨rfl,rfl,rfl,by decide +kernel,rfl,by decide +kernel,by decide +kernel⟩
theorem okZD (T:Txt K mg t):FnOk P w K mg base CX0 9 t.aZD t.dZD ["part","into"] (spZD K t.A_Part t.A_Web):=by
 refine T.fZD.ok scZD (λvs H Q E h=>?_) (λcdv A outer s H vs Q E hr h=>?_)
 ·obtain⟨x,n,ps,I,O,F,inc,ld,fu,z,rfl,_⟩:=h;rfl
 ·obtain⟨x,n,ps,I,O,F,inc,ld,fu,z,rfl,⟨dx,w,a,b,l,i,hx,hW,hA,hBo,hl,hi⟩,hG,hF,hz,z0,z1,q⟩:=h;refine⟨_,(Zz2 (Zr7 (i:=2) rfl scZD.nd rfl rfl (sc0:=Zz7 sZD) (N0:=["part","into","leaving"]) (N':=["tie","into","part"]) (o:=1) (fr:=[1,0]) ⟨rfl,by decide +kernel,by decide +kernel,by decide +kernel,rfl,by decide +kernel⟩ (Zi6 K (Zz9 (okZu T) (hr.mono (by decide)) rfl T.mZu T.fZu.kp T.bZu .nil Zs (Zz0 (Zk K (pv 0) rfl) (Zz0 (Zk K (pv 0) rfl) (Zz0 (pv 1) Zz3))))) (Zy (by decide)) (λ_ _ _ _=>(Zd (i:=0) (show List.Nodup (["tie","into","part"]:List Str) by decide +kernel) rfl (Or.inl rfl))) (λ_ _ _ _=>(Zt1 (PW.pt (Zx9 (Zf ZK5 (pv 0) (pv 1) (Zp _)) (Zd6 (Zf (ZB1 K) (pv 0) (Zk K (pv 2) rfl) rfl)))))) (λ_ _ _ _=>(pv 0)))
   (Zz8 (Zh (Zz84 rfl (sc0:=Zz7 sZD) (N0:=["part","into","leaving"]) (N':=["out","part","into"]) (o:=1) (fr:=[0,1]) ⟨rfl,by decide +kernel,by decide +kernel,by decide +kernel,rfl,by decide +kernel⟩ (ZZ K (pv 2)) (Zy (by decide)) (λ_ _ _ _=>(Zd (i:=0) (show List.Nodup (["out","part","into"]:List Str) by decide +kernel) rfl (Or.inl rfl))) (λ_ _ _ _=>Zz91) (λ_ _ _ _=>(Zr (ZA K) (by rfl) T.n_tuple Boot.«tuple» (Zz0 (Zg (ZM1 K) (by rfl) T.n_sorted Boot.«sorted» (Zz0 (Zq (ZP2 K) (Zz9 (okZb T) (hr.mono (by decide)) rfl T.mZb T.fZb.kp T.bZb .nil Zs (Zz0 (Zk K (pv 1) rfl) (Zz0 (pv 0) Zz3))) (Zd1 (Zz0 (pv 2) Zz3))) Zz3)) Zz3))))))),?_⟩
  have big:(30:Int)<10 ^ 70:=by decide
  have g3:=hG.2.2.1;refine⟨_,rfl,x,_,dx,_,.ref w,rfl,hx,T.cl_Part,T.n_Part_web,rfl,_,rfl,x,_,dx,_,.ref l,rfl,hx,T.cl_Part,T.n_Part_least,rfl,_,rfl,?_⟩;refine⟨w,l,n,ps,true,F,z,rfl,hW,hG,SqT.of hl,by omega,by lia,λ_ _ _ _ ms hm1 hm2 rA H1 s1 hr0 hrA=>?_,λ_ h=>absurd h (λh=>h.elim hz λh=>h ⟨z0,z1⟩),λh=>absurd hF h⟩;have hm30:ms.length<=40:=by
   rw[hm1.length_eq,Yy4,Yj]
   have:=Yz1 n ps F z F
   have:=hF.1.len
   lia
  refine⟨rA,rfl,⟨_,SqT.of hrA⟩,ZW9 (K:=K) (a:=rA) (xs:=IL ms) (λj ws H2=>H2=H1/\j<=ms.length/\ws=IL ((ms.take j).filter λt=>decide (t≠z/\t∉I))) ⟨rfl,Yl _,rfl⟩ (Zm (by rw[Zz4];lia))
   (λj ws H2 hj h=>by obtain⟨e,hj2,ew⟩:=h;exact⟨e ▸ SqT.of hrA,by rw[ew,Zz4];exact Yt (YF ..) (by rw[Yz];lia)⟩) ?_ ?_⟩
  ·rintro j v ws H2 hj ⟨rfl,hjl,rfl⟩ S hSS;obtain⟨y,rfl,hy⟩:=Zz71 hj;have hjl':j<ms.length:=(Yy1.mp hy).1
   refine nm ?_;refine⟨_,rfl,_,rfl,rfl,_,rfl,?_⟩;rw[Zx];refine itn2 (λhe=>?_) (λhe=>?_)
   ·refine hSS _ _ ⟨rfl,hjl',?_⟩;rw[ZX hy,if_neg (by simp[he]),YG]
   refine⟨_,rfl,_,rfl,x,_,dx,_,.ref a,rfl,s1 _ _ hx,T.cl_Part,T.n_Part_kept,rfl,a,_,rfl,.inr (SqK.same (k:=true) s1 hA),rfl,Zz _,_,rfl,?_⟩;rw[ZL];refine itn2 (λhc=>?_) (λhc=>?_)
   ·refine hSS _ _ ⟨rfl,hjl',?_⟩;rw[ZX hy,if_neg (by simp[hc]),YG]
   ·refine⟨_,rfl,hSS _ _ ⟨rfl,hjl',?_⟩⟩;rw[ZX hy,if_pos (Yx ⟨he,hc⟩),ZV]
  rintro ws H2 ⟨rfl,_,rfl⟩ lA hlA;rw[Zz4,YJ,ZJ13 hF hz hm1 hm2];have u1:=Zz5 (o:=.lst (IL (lvT n ps I F z))) hlA
  have kL:(upd H2 lA (.lst (IL (lvT n ps I F z)))) lA=some (.lst (IL (lvT n ps I F z))):=Zz1;refine nm ?_;dsimp only [List.set];have s2:=s1.trans u1
  change tRet _ _ _ (upd H2 lA (.lst (IL (lvT n ps I F z))));generalize upd H2 lA (.lst (IL (lvT n ps I F z)))=H3 at *;have lvl:(lvT n ps I F z).length<=30:=Yt (YF ..) (by have:=Yz1 n ps F z F;have:=hF.1.len;lia)
  have hFl:F.length<=30:=by have:=hF.1.len;lia
  refine⟨_,rfl,lA,rfl,⟨_,SqL.of kL⟩,ZH1 (K:=K) (a:=lA) (xs:=IL (lvT n ps I F z)) (λj ys H4=>Same H3 H4/\j<=(lvT n ps I F z).length/\Bears (TupV H4) ys (((lvT n ps I F z).take j).map λo=>xchT F o z)) ⟨Same.refl _,Yl _,⟨rfl,λi l e=>by simp at e⟩⟩ (Zm (by rw[Zz4];lia))
   (λj ys H4 hj h=>by obtain⟨e,hj2,ey⟩:=h;exact⟨SqL.of (e _ _ kL),by rw[ey.1,Yb,Yz];lia⟩) ?_ ?_⟩
  ·rintro j v ys H4 hj ⟨s4,hjl,hY⟩ S hSS;obtain⟨o,rfl,ho⟩:=Zz71 hj;have hjl':j<(lvT n ps I F z).length:=(Yy1.mp ho).1
   have s24:=s2.trans s4;refine nm ?_;refine⟨_,rfl,x,_,dx,_,.ref l,rfl,s24 _ _ hx,T.cl_Part,T.n_Part_least,rfl,_,rfl,l,true,F,o,rfl,SqT.of (s24 _ _ hl),by lia,λr1 H5 s5 hr10 hr1=>?_⟩;have wl:=ZL10 F o
   refine⟨_,rfl,(by show 1<=sizeLine;decide),λp2 hp2=>?_⟩;have s6:=Zz5 (o:=.tup (IL [z])) hp2
   refine ZR3 (l:=wo F o) (m:=[z]) (SqT.of (s6 _ _ hr1)) (SqT.of Zz1) (by rw[Yj];lia) λr3 H7 s7 hr3=>?_;refine⟨r3,wo F o++[z],rfl,hr3,by rw[Yy4,Yj];lia,λns hn1 hn2 p4 hp4=>?_⟩;have en:ns=xchT F o z:=Zz81 (hn1.trans (Zf2 F o z).symm) hn2 (ZU2 F o z)
   subst en;have s8:=Zz5 (o:=.lst (IL (xchT F o z))) hp4
   refine⟨p4,_,rfl,.inl ⟨SqL.of Zz1,λp5 hp5=>?_⟩⟩;have s9:=Zz5 (o:=.tup (IL (xchT F o z))) hp5
   have sA:=(s5.trans s6).trans (s7.trans (s8.trans s9));refine hSS _ _ ⟨s4.trans sA,hjl',?_⟩;rw[YU,ho,YL];exact(hY.imp λ_ _ h=>by obtain⟨q,e,hq⟩:=h;exact⟨q,e,sA _ _ hq⟩).snoc ⟨p5,rfl,Zz1⟩
  ·rintro ys H4 ⟨s4,_,hY⟩ d hd;rw[Zz4,YJ]at hY;have s5:=Zz5 (o:=.lst ys) hd
   exact q d ys _ (s2.trans (s4.trans s5)) ((s2.trans s4).free hd) Zz1 (hY.imp λ_ _ h=>by obtain⟨q,e,hq⟩:=h;exact⟨q,e,s5 _ _ hq⟩)
theorem Zl5{α:Type}{R:V->α->Prop}{xs ys:List V}{l m:List α}(h1:Bears R xs l)(h2:Bears R ys m):Bears R (xs++ys) (l++m):=by
 refine⟨by rw[Yy4,Yy4,h1.1,h2.1],λi a e=>?_⟩;by_cases c:i<l.length
 ·rw[Yp c]at e;obtain⟨v,hv,r⟩:=h1.2 i a e;exact⟨v,by rw[Yp (by rw[h1.1];exact c)];exact hv,r⟩
 ·rw[Yq (by lia)]at e;obtain⟨v,hv,r⟩:=h2.2 _ a e;exact⟨v,by rw[Yq (by rw[h1.1];omega),h1.1];exact hv,r⟩
theorem Zk5{α:Type}{R:V->α->Prop}{xs:List V}{l:List α}(h:Bears R xs l):Bears R xs.reverse l.reverse:=by
 refine⟨by rw[YS,YS,h.1],λi a e=>?_⟩;have hi:i<l.length:=by have:=(Yy1.mp e).1;rw[YS]at this;exact this
 rw[Y0X hi]at e;obtain⟨v,hv,r⟩:=h.2 _ a e;exact⟨v,by rw[Y0X (by rw[h.1];exact hi),h.1];exact hv,r⟩
def spZE(K:PySem.W.Frag)(CP C:Addr):Sp:=λvs H Q _=>∃(x:Addr) (n:Int) (ps:List (Int × Int)) (I O F inc:List Int) (ld fu:Option Int),vs=[.ref x]/\PartAt K CP C H x n ps I O F inc ld fu/\Zv n ps/\Zi n ps F/\inc.length<=30/\(∀ z∈inc,z∉F/\0<=z/\z<(ps.length:Int)) /\
 ∀(r:Addr) (xs:List V) (H':Hp),Same H H'->H r=none->H' r=some (.lst xs)->Bears (TupV H') xs (udL n ps I F inc)->Q (.ref r) H'
theorem scZE:FnScope ["part","row","ascending","into","trees"] ["part"] (Zz7 sZE):=⟨rfl,rfl,rfl,by decide +kernel,rfl,by decide +kernel,by decide +kernel⟩
theorem okZE (T:Txt K mg t):FnOk P w K mg base CX0 10 t.aZE t.dZE ["part"] (spZE K t.A_Part t.A_Web):=by
 refine T.fZE.ok scZE (λvs H Q E h=>?_) (λcdv A outer s H vs Q E hr h=>?_)
 ·obtain⟨x,n,ps,I,O,F,inc,ld,fu,rfl,_⟩:=h;rfl
 ·obtain⟨x,n,ps,I,O,F,inc,ld,fu,rfl,hPt,hG,hF,hil,hinc,q⟩:=h;refine⟨_,(Zz2 (Zj (i:=1) scZE.nd rfl (Or.inl rfl) (Zp1 (Zz0 (Zk K (pv 0) rfl) Zz3)))
   (Zz2 (Zj (i:=2) scZE.nd rfl (Or.inl rfl) (ZF Zq3 (Zq ZQ (Zg (Zo K) (by rfl) T.n_len Boot.«len» (Zz0 (Zk K (pv 0) rfl) Zz3)) Za) Za (Zp _)))
   (Zz2 (ZP1 Yy04 rfl (ZZ K (Zk K (pv 0) rfl)) (Zd (i:=3) scZE.nd rfl (Or.inl rfl))
   (Zz2 (Zj (i:=4) scZE.nd rfl (Or.inl rfl) (Zz9 (okZD T) (hr.mono (by decide)) rfl T.mZD T.fZD.kp T.bZD .nil Zs (Zz0 (pv 0) (Zz0 (pv 3) Zz3))))
   (Zz2 (Za1 (Zz52 K YT Yy39 Yy38 ZF4 (pv 1) (Zz0 (Zj6 (ZE2 (pv 2)) (pv 4) (ZC3 K rfl rfl T.n_list rfl T.n_reversed (Zz0 (pv 4) Zz3))) Zz3)))
   (Zz8 (Zj (i:=2) scZE.nd rfl (Or.inl rfl) (ZP12 (pv 2)))))))
   (Zz8 (Zh (pv 1)))))),?_⟩
  obtain⟨dx,w,a,b,l,i,hx,hW,hA,hBo,hl,hi⟩:=id hPt;refine⟨_,rfl,x,_,dx,_,.ref l,rfl,hx,T.cl_Part,T.n_Part_least,rfl,(by show 1<=sizeLine;decide),λr hr=>?_⟩;have s1:=Zz5 (o:=.lst [.ref l]) hr
  refine nm ?_;dsimp only [List.set];refine⟨_,rfl,x,_,dx,_,.ref i,rfl,s1 _ _ hx,T.cl_Part,T.n_Part_incoming,rfl,i,_,rfl,.inl (SqL.of (s1 _ _ hi)),_,_,rfl,rfl,(by show(0:Int)<2;decide),rfl,?_⟩;refine nm ?_;dsimp only [List.set];have ea:decide (V.int ((IL inc).length % 2:Int)=V.int 1)=(inc.length % 2 == 1):=by rw[Zx,Zz4,Y0o,Yy00,Y0U];omega
  change tSeq _ _ _ [some (.ref x),some (.ref r),some (.bl (decide (V.int ((IL inc).length % 2:Int)=V.int 1))),none,none] (upd H r (.lst [.ref l]));rw[ea];generalize hasc:(inc.length % 2 == 1)=asc at *;have kr:(upd H r (.lst [.ref l])) r=some (.lst [.ref l]):=Zz1
  generalize upd H r (.lst [.ref l])=H1 at *;have hi1:=s1 _ _ hi
  have fresh:∀ b o,H b=some o->b≠r:=λb o e=>Zc e hr;refine⟨_,rfl,x,_,dx,_,.ref i,rfl,s1 _ _ hx,T.cl_Part,T.n_Part_incoming,rfl,i,rfl,⟨_,SqL.of hi1⟩,Ze4 (K:=K) (a:=i) (xs:=IL inc) (λj σ H2=>∃(xs:List V) (v3 v4:Option V),σ=[some (.ref x),some (.ref r),some (.bl (asc != (j % 2 == 1))),v3,v4]/\Same H H2/\H2 r=some (.lst xs)/\Bears (TupV H2) xs (F :: udR n ps I F (inc.take j) asc)) ⟨[.ref l],none,none,by cases asc <;> rfl,s1,kr,⟨rfl,λj m e=>by
   match j,e with
   | 0,e=>exact⟨_,rfl,l,rfl,by rw[<- Yh e];exact s1 _ _ hl⟩⟩⟩ (λj σ H2 _ h=>by obtain⟨_,_,_,_,e,_⟩:=h;exact SqL.of (e _ _ hi)) ?_ ?_⟩
  rotate_left
  ·rintro σ H2 ⟨xs,v3,v4,rfl,s2,hr2,hX⟩;rw[Zz4,YJ]at hX;refine ZE4 ?_;refine⟨_,rfl,?_⟩;rw[<- hasc]at hX;exact q r xs H2 s2 hr hr2 hX
  rintro j v σ H2 hj ⟨xs,v3,v4,rfl,s2,hr2,hX⟩;obtain⟨z,rfl,hz⟩:=Zz71 hj;obtain⟨zF,z0,z1⟩:=hinc z (Yy9 hz);have hj':j<inc.length:=(Yy1.mp hz).1
  refine nm ?_;dsimp only [List.set];refine⟨_,rfl,_,rfl,x,n,ps,I,O,F,inc,ld,fu,z,rfl,⟨dx,w,a,b,l,i,s2 _ _ hx,hW.same s2,SqK.same (k:=true) s2 hA,SqK.same (k:=true) s2 hBo,s2 _ _ hl,s2 _ _ hi⟩,hG,hF,zF,z0,z1,λtA ys H3 s3 ht0 htA hY=>?_⟩;refine nm ?_;dsimp only [List.set];have hr3:=s3 _ _ hr2
  have hF30:F.length<=30:=by have:=hF.1.len;have:=hG.2.2.1;lia
  have xl:xs.length<=1000:=by
   rw[hX.1,YD];have h1:=Zp8 n ps I F (inc.take j) asc
   have h2:(inc.take j).length * F.length<=30 * 30:=Yy18 (by rw[Yz];grind) hF30;lia
  have yl:ys.length<=30:=by rw[hY.1,Yb];exact Yt (YF ..) (Yt (Yz1 n ps F z F) hF30)
  have hudr:udR n ps I F (inc.take (j+1)) asc=udR n ps I F (inc.take j) asc++lvR n ps I F (asc != (j % 2 == 1)) z:=by
   have e:inc.take (j+1)=inc.take j++[z]:=by rw[YU,hz];rfl
   have el:(inc.take j).length=j:=by rw[Yz];lia
   rw[e,ZT5,el]
  have flip:(!(asc != (j % 2 == 1)))=(asc != ((j+1) % 2 == 1)):=by rcases(by grind:j % 2=0/\(j+1) % 2=1\/j % 2=1/\(j+1) % 2=0) with ⟨a,b⟩ | ⟨a,b⟩ <;> rw[a,b] <;> cases asc <;> rfl
  have fin:∀(zs:List V) (H4:Hp),Same H3 H4->zs.length=ys.length->Bears (TupV H4) zs (lvR n ps I F (asc != (j % 2 == 1)) z)->Same H (upd H4 r (.lst (xs++zs)))/\Bears (TupV (upd H4 r (.lst (xs++zs)))) (xs++zs) (F :: udR n ps I F (inc.take (j+1)) asc):=λzs H4 s4 hzl hZ=>by
   have hr4:=s4 _ _ hr3;refine⟨ZG hr ((s2.trans s3).trans s4),?_⟩;rw[hudr];have hX4:Bears (TupV H4) xs (F :: udR n ps I F (inc.take j) asc):=hX.imp λ_ _ h=>by obtain⟨c,e,hc⟩:=h;exact⟨c,e,(s3.trans s4) _ _ hc⟩
   exact(Zl5 hX4 hZ).imp λ_ _ h=>by obtain⟨c,e,hc⟩:=h;exact⟨c,e,by rw[Zb (Zs7 hc hr4 (by simp))];exact hc⟩
  refine⟨_,rfl,.inl ⟨rfl,_,SqL.of hr3⟩,?_⟩;cases hb:(asc != (j % 2 == 1)) with
  | true =>
   rw[hb]at fin flip;refine⟨_,rfl,_,rfl,?_⟩;refine iteT ?_;refine⟨_,rfl,?_⟩;obtain⟨f1,f2⟩:=fin ys H3 (Same.refl _) rfl hY;refine⟨r,tA,xs,ys,rfl,rfl,hr3,htA,ZN1 (by lia),?_⟩;refine⟨_,rfl,_,rfl,?_⟩;exact⟨xs++ys,_,_,by rw[<- flip];rfl,f1,Zz1,f2⟩
  | false =>
   rw[hb]at fin flip;refine⟨_,rfl,_,rfl,?_⟩;refine iteF ?_;refine⟨_,rfl,tA,ys,rfl,SqL.of htA,λd hd=>?_⟩;have s4:=Zz5 (o:=.lst ys.reverse) hd
   obtain⟨f1,f2⟩:=fin ys.reverse _ s4 (YS) (Zk5 (hY.imp λ_ _ h=>by obtain⟨c,e,hc⟩:=h;exact⟨c,e,s4 _ _ hc⟩));refine⟨r,d,xs,ys.reverse,rfl,rfl,s4 _ _ hr3,Zz1,ZN1 (by rw[YS];omega),?_⟩;refine⟨_,rfl,_,rfl,?_⟩;exact⟨xs++ys.reverse,_,_,by rw[<- flip];rfl,f1,Zz1,f2⟩
def spZF(K:PySem.W.Frag)(CP C Pt:Addr)(d:Nat):Sp:=λvs H Q _=>∃(x:Addr) (n:Int) (ps:List (Int × Int)) (I O F inc:List Int) (ld fu:Option Int) (R:List (List Int)) (size start stop:Int),vs=[.ref x,.int size,.int start,.int stop]/\PartAt K CP C H x n ps I O F inc ld fu/\PartOk n ps I O ld F inc fu/\Zv n ps/\TabP H Pt/\RowR n ps d I O ld R/\size=R.length/\0<=start/\stop<=size/\stop - start<=100000 /\
 ∀(r:Addr) (xs:List V) (H':Hp),SameX Pt H H'->TabP H' Pt->H r=none->H' r=some (.lst xs)->Bears (TupV H') xs ((R.drop start.toNat).take (stop - start).toNat)->Q (.ref r) H'
theorem Zo10(xs:List V){a b:Nat}(h2:b<=xs.length):cutV xs (some (a:Int)) (some (b:Int))=(xs.drop a).take (b - a):=by
 have e1:HT.sIx xs.length 0 (some (a:Int))=min a xs.length:=rfl;have e2:HT.sIx xs.length xs.length (some (b:Int))=min b xs.length:=rfl
 unfold cutV;rw[e1,e2,Y1O h2];rcases Nat.le_total a xs.length with c | c
 ·rw[Y1O c]
 ·rw[Y2J c,Yy25 (Yy8 _),Yy25 c,Y3r,Y3r]
theorem Zj8{α:Type}{R:V->α->Prop}{xs:List V}{l:List α}(h:Bears R xs l)(a b:Nat):Bears R ((xs.drop a).take b) ((l.drop a).take b):=by
 refine⟨by rw[Yz,Yz,Y0h,Y0h,h.1],λi x e=>?_⟩;rw[Y1h]at e;by_cases c:i<b
 ·rw[if_pos c,Y2r]at e;obtain⟨v,hv,r⟩:=h.2 _ x e;exact⟨v,by rw[Y1h,if_pos c,Y2r];exact hv,r⟩
 ·rw[if_neg c]at e;cases e
theorem Zz912{α:Type}(A B:List α){a b:Nat}(h:b<=A.length):((A++B).drop a).take (b - a)=(A.drop a).take (b - a):=by
 rcases Nat.le_total a A.length with c | c
 ·rw[Y1A c,Y1z (by rw[Y0h];exact Nat.sub_le_sub_right h a)]
 ·rw[Nat.sub_eq_zero_of_le (Yt h c),Y3c,Y3c]
theorem Zb7{α:Type}(B:List α){i k:Nat}(h:i+k<=B.length):((B.reverse).drop i).take k=((B.drop (B.length - i - k)).take k).reverse:=by rw[List.drop_reverse,List.take_reverse,Yz,Y1O (Nat.sub_le _ _),List.drop_take,Nat.sub_sub_self (Nat.le_sub_of_add_le' h)]
theorem Zn10{α:Type}(A B:List α){a b c:Nat}(hc:(a<=A.length/\c=A.length)\/(A.length<=a/\c=a))(hcb:c<=b)(hb:b<=A.length+B.length):((A++B.reverse).drop a).take (b - a)=A.drop a++((B.drop (A.length+B.length - b)).take (b - c)).reverse:=by
 rcases hc with ⟨h,rfl⟩ | ⟨h,rfl⟩
 ·rw[Y1A h,List.take_append,Yy07 (by rw[Y0h];exact Nat.sub_le_sub_right hcb a),Y0h,Nat.sub_sub_sub_cancel_right h]
  have:=Zb7 B (i:=0) (k:=b - A.length) (by grind)
  rw[List.drop_zero]at this;rw[this,show B.length - 0 - (b - A.length)=A.length+B.length - b by grind]
 ·rw[List.drop_append,Yy25 h,Y0t,Y0t,Zb7 B (by grind),show B.length - (c - A.length) - (b - c)=A.length+B.length - b by grind]
theorem ZW12{x y:Int}:∃ m,(if x<y then x else y)=m/\m<=x/\m<=y/\(x<y->m=x)/\(¬ x<y->m=y):=by
 by_cases c:x<y
 ·exact⟨x,if_pos c,Y1j _,Y1k c,λ_=>rfl,λh=>absurd c h⟩
 ·exact⟨y,if_neg c,Y2N.mp c,Y1j _,λh=>absurd h c,λ_=>rfl⟩
theorem Zx3{H H2:Hp}{Pt r:Addr}{pos:Pos}{qual:Str}(t:TabH H2 Pt pos qual)(s:SameX Pt H H2)(h:H2 r=none):H r=none:=by
 cases e:H r with
 | none=>rfl
 | some o =>
  have hne:r≠Pt:=λe'=>by obtain⟨p,h1,_⟩:=t;rw[<- e',h]at h1;cases h1
  rw[s _ _ hne e]at h;cases h
theorem scZF:FnScope ["part","size","start","stop","first","middle","trees","turned"] ["part","size","start","stop"] (Zz7 sZF):=⟨rfl,rfl,rfl,by decide +kernel,rfl,by decide +kernel,by decide +kernel⟩
theorem okZF {Pt:Addr} (T:Txt K mg t) (hB:Zq7 K mg base t.dZy Pt) (d:Nat):FnOk P w K mg base CX0 (11+d) t.aZF t.dZF ["part","size","start","stop"] (spZF K t.A_Part t.A_Web Pt d):=by
 have key:∀(d k:Nat) (sp:Sp),FnOk P w K mg base CX0 k t.aZF t.dZF ["part","size","start","stop"] sp->k<=10+d->(∀ e,d=e+1->sp=spZF K t.A_Part t.A_Web Pt e)->FnOk P w K mg base CX0 (11+d) t.aZF t.dZF ["part","size","start","stop"] (spZF K t.A_Part t.A_Web Pt d):=by
  intro d k sp ih hk hsp;rw[show 11+d=10+d+1 by lia];refine T.fZF.ok scZF (λvs H Q E h=>?_) (λcdv A outer s H vs Q E hr h=>?_)
  ·obtain⟨x,n,ps,I,O,F,inc,ld,fu,R,size,start,stop,rfl,_⟩:=h;rfl
  ·obtain⟨x,n,ps,I,O,F,inc,ld,fu,R,size,start,stop,rfl,hPt,hPo,hG,hT,hR,hsz,st0,st1,st2,q⟩:=h;refine⟨_,(Zz2 (Zn1 (Zf Zy11 (pv 2) (pv 3) (Zp _))
   (Zz8 (Zh (Zp1 Zz3)))
   Zn)
   (Zz2 (Zn1 (Zf Zn6 (Zk K (pv 0) rfl) ZF2 (Zp _))
   (Zz8 (Zh (Zx1 (Zw1 K) (Zz9 (okZE T) (hr.mono (by omega)) rfl T.mZE T.fZE.kp T.bZE .nil Zs (Zz0 (pv 0) Zz3)) (ZQ1 (pv 2)) (ZQ1 (pv 3)))))
   Zn)
   (Zz2 (Zj (i:=4) scZF.nd rfl (Or.inl rfl) (Zz9 (okZA T hB) (hr.mono (by omega)) rfl T.mZA T.fZA.kp T.bZA .nil Zs (Zz0 (pv 0) Zz3)))
   (Zz2 (Zj (i:=5) scZF.nd rfl (Or.inl rfl) (Zz9 (okZC T) (hr.mono (by omega)) rfl T.mZC T.fZC.kp T.bZC .nil Zs (Zz0 (pv 4) Zz3)))
   (Zz2 (Zj (i:=6) scZF.nd rfl (Or.inl rfl) (Zz9 ih (hr.mono (by omega)) rfl T.mZF T.fZF.kp T.bZF .nil Zs (Zz0 (pv 4) (Zz0 (pv 5) (Zz0 (pv 2) (Zz0 (Zg (Zk3 rfl) (by rfl) T.n_min Boot.«min» (Zz0 (pv 3) (Zz0 (pv 5) Zz3))) Zz3))))))
   (Zz2 (Zn1 (Zf Zx11 (pv 3) (pv 5) (Zp _))
   (Zz2 (Zj (i:=7) scZF.nd rfl (Or.inl rfl) (Zz9 ih (hr.mono (by omega)) rfl T.mZF T.fZF.kp T.bZF .nil Zs (Zz0 (Zz9 (okZB T hB) (hr.mono (by omega)) rfl T.mZB T.fZB.kp T.bZB .nil Zs (Zz0 (pv 0) Zz3)) (Zz0 (Zq ZG1 (pv 1) (pv 5)) (Zz0 (Zq ZG1 (pv 1) (pv 3)) (Zz0 (Zq ZG1 (pv 1) (Zg (Ze5 rfl) (by rfl) T.n_max Boot.«max» (Zz0 (pv 2) (Zz0 (pv 5) Zz3)))) Zz3))))))
   (Zz8 (Za1 (Zz52 K YT Yy39 Yy38 ZF4 (pv 6) (Zz0 (ZC3 K rfl rfl T.n_list rfl T.n_reversed (Zz0 (pv 7) Zz3)) Zz3)))))
   Zn)
   (Zz8 (Zh (pv 6))))))))),?_⟩
   obtain⟨dx,w0,a,b,l,i,hx,hW,hA,hBo,hl,hi⟩:=id hPt;refine⟨_,rfl,_,rfl,_,_,rfl,rfl,_,rfl,?_⟩;refine itd2 (λhge=>?_) (λhlt=>?_)
   ·refine⟨Yl _,λr hr=>?_⟩;have s1:=Zz5 (o:=.lst []) hr
    refine q r [] _ (SameX.same s1) (hT.same s1) hr Zz1 ?_;rw[show(stop - start).toNat=0 by lia,Y3c];exact⟨rfl,λi l e=>by simp at e⟩
   show(_:Prop);refine ZE4 ?_;obtain⟨a0,rfl⟩:=Y3l st0;obtain⟨b0,rfl⟩:=Y3l (show 0<=stop by lia);have hab:a0<=b0:=by lia
   have hbR:b0<=R.length:=by rw[hsz]at st1;exact Int.ofNat_le.mp st1
   have e0:((b0:Int) - (a0:Int)).toNat=b0 - a0:=Int.toNat_sub _ _;rw[YA,e0]at q;subst hsz;refine⟨_,rfl,x,_,dx,_,optV fu,rfl,hx,T.cl_Part,T.n_Part_further,rfl,rfl,_,rfl,?_⟩;cases hR with
   | und hPo' hil hiz =>
    obtain⟨rfl,rfl,rfl⟩:=hPo.uniq hPo';refine iteT ?_;refine⟨_,rfl,x,n,ps,I,O,F,inc,ld,none,rfl,hPt,hG,hPo.tr.1,hil,hiz,λr xs H1 s1 hr0 hr1 hX=>?_⟩;have hxl:=hX.1
    refine⟨_,rfl,_,rfl,_,rfl,_,rfl,r,xs,rfl,SqL.of hr1,λq1 hq1=>?_⟩;rw[Zo10 xs (by rw[hxl];exact hbR)];have s2:=Zz5 (o:=.lst ((xs.drop a0).take (b0 - a0))) hq1
    have s12:=s1.trans s2;refine q q1 _ _ (SameX.same s12) (hT.same s12) (s1.free hq1) Zz1 ?_;exact(Zj8 hX _ _).imp λ_ _ h=>by obtain⟨c,e,hc⟩:=h;exact⟨c,e,s2 _ _ hc⟩
   | div hPo' hIn hIb hIO hOl hexW hexO y0 y1 hpc hRA hRB =>
    rename_i e F' inc' z y A' B;obtain⟨rfl,rfl,rfl⟩:=hPo.uniq hPo';have esp:=hsp e rfl
    subst esp;refine iteF ?_;show(_:Prop)
    refine ZE4 ?_;have hnd:=YQ.mp hIn
    have hIn1:I.Nodup:=hnd.1;have hIb1:∀ v∈I,0<=v/\v<(ps.length:Int):=λv hv=>hIb v (Yc _ hv)
    have hIO1:∀ v∈I,v∉O++[z]:=λv hv h=>(Yy7.mp h).elim (hIO v (Yc _ hv)) λh=>hnd.2.2 v hv z (by simp) (Yy2.mp h);have hO30:O.length<=30:=by rw[Yy4,Yj]at hOl;lia
    rw[Yy4,YS]at hbR;have hRl:(((A'++B.reverse).length:Nat):Int)=(A'.length:Int)+B.length:=by rw[Yy4,YS,Int.natCast_add]
    obtain⟨m,em,m1,m2,m3,m4⟩:=ZW12 (x:=(A'.length:Int)) (y:=(b0:Int));refine⟨_,rfl,x,n,ps,I,O,F,inc,z,y,rfl,hPt,hG,hT,hIn1,hIb1,hIO1,hOl,hexO,y0,y1,λx1 F1 inc1 fu1 H1 hP1 hA1 sx1 tab1=>?_⟩;refine nm ?_;dsimp only [List.set];refine⟨_,rfl,x1,n,ps,I,O++[z],F1,inc1,some y,fu1,rfl,hA1,hG,hIn1,hIb1,hOl,hIO1,λc H2 hc s2=>?_⟩;have ec:=hc.uniq hpc
    subst ec;refine nm ?_;dsimp only [List.set];have sx2:SameX Pt H H2:=sx1.trans (SameX.same s2)
    have tab2:=tab1.same s2;refine⟨_,rfl,_,rfl,_,rfl,_,rfl,_,rfl,_,_,rfl,?_⟩;refine⟨x1,n,ps,I,O++[z],F1,inc1,some y,fu1,A',_,_,_,rfl,hA1.samex tab1 (SameX.same s2),hP1,hG,tab2,hRA,rfl,st0,(by rw[em];exact m1),(by rw[em];exact Y1X (Int.sub_le_sub_right m2 _) st2),λr xs H3 sx3 tab3 hr0 hr3 hX=>?_⟩;refine nm ?_;dsimp only [List.set];have sx03:=sx2.trans sx3
    have hrH:H r=none:=Zx3 tab2 sx2 hr0;rw[YA,em]at hX;refine⟨_,rfl,_,rfl,_,_,rfl,rfl,_,rfl,?_⟩;refine itd2 (λhgt=>?_) (λhle=>?_);rotate_left
    ·show(_:Prop);refine ZE4 ?_;refine⟨_,rfl,?_⟩;have hle':¬ (A'.length:Int)<(b0:Int):=hle
     rw[m4 hle',e0]at hX;rw[Zz912 A' B.reverse (by lia)]at q;exact q r xs H3 sx03 tab3 hrH hr3 hX
    have hgt':(A'.length:Int)<(b0:Int):=hgt;rw[m3 hgt',Int.toNat_sub,Yy07 (by rw[Y0h];exact Yy8 _)]at hX;clear m1 m2 m3 m4 em m;refine⟨_,rfl,x,n,ps,I,O,F,inc,z,y,rfl,hPt.samex hT sx03,hG,tab3,hIn,hIb,hIO,hO30,hexW,y0,y1,λx2 F2 inc2 fu2 H4 hP2 hA2 sx4 tab4=>?_⟩;refine⟨_,rfl,_,rfl,_,_,rfl,rfl,_,rfl,_,rfl,_,_,rfl,rfl,_,rfl,_,rfl,_,rfl,_,_,rfl,_,_,rfl,rfl,?_⟩;obtain⟨c0,ec,hc0,hcb⟩:∃ c0:Nat,(if (A'.length:Int) > (a0:Int) then (A'.length:Int) else (a0:Int))=(c0:Int)/\((a0<=A'.length/\c0=A'.length)\/(A'.length<=a0/\c0=a0))/\c0<=b0:=by
     by_cases c:(A'.length:Int) > (a0:Int)
     ·exact⟨A'.length,if_pos c,.inl ⟨Yy15 (Int.ofNat_lt.mp c),rfl⟩,Yy15 (Int.ofNat_lt.mp hgt')⟩
     ·exact⟨a0,if_neg c,.inr ⟨Int.ofNat_le.mp (Y2N.mp c),rfl⟩,hab⟩
    rw[Zn10 A' B hc0 hcb hbR]at q;have hAc:A'.length<=c0:=by rcases hc0 with h | h <;> lia
    have hac:a0<=c0:=by rcases hc0 with h | h <;> lia
    clear hc0;refine⟨x2,n,ps,I++[z],O,F2,inc2,some y,fu2,B,_,_,_,rfl,hA2,hP2,hG,tab4,hRB,(by rw[hRl];lia),(by rw[hRl];lia),(by rw[ec,hRl];lia),(by rw[ec,hRl];lia),λr2 ys H5 sx5 tab5 hr20 hr5 hY=>?_⟩;refine nm ?_;dsimp only [List.set];have hr4:=sx4 _ _ (tab3.ne hr3 (by simp)) hr3
    have hr35:=sx5 _ _ (tab4.ne hr4 (by simp)) hr4;have sx05:=(sx03.trans sx4).trans sx5
    have e2:((A'.length:Int)+B.length - (b0:Int)).toNat=A'.length+B.length - b0:=by grind
    have e3:((A'.length:Int)+B.length - (c0:Int) - ((A'.length:Int)+B.length - (b0:Int))).toNat=b0 - c0:=by grind
    rw[ec,hRl,e2,e3]at hY;have hxl:xs.length<=100000:=by rw[hX.1,Y0h];lia
    have hyl:ys.length<=100000:=by rw[hY.1,Yz];lia
    refine⟨_,rfl,.inl ⟨rfl,_,SqL.of hr35⟩,_,rfl,r2,ys,rfl,SqL.of hr5,λdA hd=>?_⟩;have s6:=Zz5 (o:=.lst ys.reverse) hd
    have hr6:=s6 _ _ hr35;have z1:1000000<=sizeLine:=by decide
    refine⟨r,dA,xs,ys.reverse,rfl,rfl,hr6,Zz1,(by rw[YS];lia),?_⟩;refine⟨_,rfl,?_⟩;refine q r (xs++ys.reverse) _ (λb o hb e=>?_) ((tab5.same s6).put hr6) hrH Zz1 ?_
    ·rw[Zb (Zc e hrH)];exact s6 _ _ (sx05 _ _ hb e)
    ·have f1:Bears (TupV (upd H5 dA (.lst ys.reverse))) xs (A'.drop a0):=hX.imp λ_ _ h=>by
      obtain⟨c,e,hc⟩:=h;have hc4:=sx4 _ _ (tab3.ne hc (by simp)) hc
      exact⟨c,e,s6 _ _ (sx5 _ _ (tab4.ne hc4 (by simp)) hc4)⟩
     have f2:Bears (TupV (upd H5 dA (.lst ys.reverse))) ys.reverse ((B.drop (A'.length+B.length - b0)).take (b0 - c0)).reverse:=Zk5 (hY.imp λ_ _ h=>by obtain⟨c,e,hc⟩:=h;exact⟨c,e,s6 _ _ hc⟩)
     exact(Zl5 f1 f2).imp λ_ _ h=>by obtain⟨c,e,hc⟩:=h;exact⟨c,e,by rw[Zb (Zs7 hc hr6 (by simp))];exact hc⟩
 induction d with
 | zero=>exact key 0 0 _ ZY8 (by lia) λe h=>(by cases h)
 | succ d ih=>exact key (d+1) (11+d) _ ih (by lia) λe h=>(by cases h;rfl)
def spZG:Sp:=λvs H Q _=>∃ z:Int,vs=[.int z]/\-(10 ^ 70)<z/\z<10 ^ 70/\(0<=z->Q .non H)/\(z<0->False)
theorem scZG:FnScope ["number"] ["number"] (Zz7 sZG):=⟨rfl,rfl,rfl,by decide +kernel,rfl,by decide +kernel,by decide +kernel⟩
theorem okZG (T:Txt K mg t):FnOk P w K mg base CX0 1 t.aZG t.dZG ["number"] spZG:=by
 refine T.fZG.ok scZG (λvs H Q E h=>?_) (λcdv A outer s H vs Q E hr h=>?_)
 ·obtain⟨z,rfl,_⟩:=h;rfl
 ·obtain⟨z,rfl,z0,z1,q,qe⟩:=h;refine⟨_,(Zz8 (Zn1 (Zf ZI9 (pv 0) Za (Zp _))
   (Zz8 Zz61)
   Zn)),?_⟩
  refine⟨_,rfl,_,_,rfl,rfl,_,rfl,?_⟩;refine itd2 (λh=>?_) (λh=>?_)
  ·exact qe h
  ·exact q (by lia)
def spZH(K:PySem.W.Frag)(CP C Pt:Addr):Sp:=λvs H Q _=>∃(w:Addr) (n:Int) (ps:List (Int × Int)) (num most:Int) (R:List (List Int)),vs=[.ref w,.int num,.int most]/\WebAt C H w n ps/\Zv n ps/\TabP H Pt/\0<=num/\num<10 ^ 70/\0<=most/\most<=100000/\((∃ U,Zi n ps U)->RowW n ps R)/\((∀ U,¬ Zi n ps U)->R=[]) /\
 ∀(r:Addr) (xs:List V) (H':Hp),SameX Pt H H'->TabP H' Pt->H r=none->H' r=some (.lst xs)->Bears (TupV H') xs ((R.drop num.toNat).take most.toNat)->Q (.ref r) H'
theorem scZH:FnScope ["web","number","most","size"] ["web","number","most"] (Zz7 sZH):=⟨rfl,rfl,rfl,by decide +kernel,rfl,by decide +kernel,by decide +kernel⟩
theorem okZH {Pt:Addr} (T:Txt K mg t) (hB:Zq7 K mg base t.dZy Pt):FnOk P w K mg base CX0 44 t.aZH t.dZH ["web","number","most"] (spZH K t.A_Part t.A_Web Pt):=by
 refine T.fZH.ok scZH (λvs H Q E h=>?_) (λcdv A outer s H vs Q E hr h=>?_)
 ·obtain⟨w,n,ps,num,most,R,rfl,_⟩:=h;rfl
 ·obtain⟨w,n,ps,num,most,R,rfl,hW,hG,hT,n0,n1,m0,m1,hRw,hRn,q⟩:=h;refine⟨_,(Zz2 (Za1 (Zz9 (okZG T) (hr.mono (by decide)) rfl T.mZG T.fZG.kp T.bZG .nil Zs (Zz0 (pv 1) Zz3)))
   (Zz2 (Zj (i:=3) scZH.nd rfl (Or.inl rfl) (Zz9 (okZm T) (hr.mono (by decide)) rfl T.mZm T.fZm.kp T.bZm .nil Zs (Zz0 (pv 0) Zz3)))
   (Zz2 (Zn1 (Zf Zy11 (pv 1) (pv 3) (Zp _))
   (Zz8 (Zh (Zp1 Zz3)))
   Zn)
   (Zz8 (Zh (Zz9 (okZF T hB 31) (hr.mono (by decide)) rfl T.mZF T.fZF.kp T.bZF .nil Zs (Zz0 (Zz9 (okZz T hB) (hr.mono (by decide)) rfl T.mZz T.fZz.kp T.bZz .nil Zs (Zz0 (pv 0) Zz3)) (Zz0 (pv 3) (Zz0 (pv 1) (Zz0 (Zg (Zk3 rfl) (by rfl) T.n_min Boot.«min» (Zz0 (Zq Ze1 (pv 1) (pv 2)) (Zz0 (pv 3) Zz3))) Zz3)))))))))),?_⟩
  have big:(0:Int)<10 ^ 70:=by decide
  refine⟨_,rfl,num,rfl,by lia,n1,λ_=>?_,λh=>absurd h (by lia)⟩;refine⟨_,rfl,w,n,ps,rfl,hW,hG,λc H1 hc s1=>?_⟩;refine nm ?_;dsimp only [List.set];have hRl:R.length=c:=by
   by_cases hex:∃ U,Zi n ps U
   ·obtain⟨_,_,_,_,_,_,_,_,h⟩:=hRw hex;exact h.uniq hc
   ·have hno:∀ U,¬ Zi n ps U:=λU hU=>hex ⟨U,hU⟩;rw[hRn hno,(Zv4 hc).mpr hno];rfl
  refine⟨_,rfl,_,rfl,_,_,rfl,rfl,_,rfl,?_⟩;refine itd2 (λhge=>?_) (λhlt=>?_)
  ·refine⟨Yl _,λr hr=>?_⟩;have s2:=Zz5 (o:=.lst []) hr
   have s12:=s1.trans s2;refine q r [] _ (SameX.same s12) (hT.same s12) (s1.free hr) Zz1 ?_;rw[Y0E (by lia),Y3r];exact⟨rfl,λi l e=>by simp at e⟩
  show(_:Prop);refine ZE4 ?_;obtain⟨U0,hU0⟩:∃ U,Zi n ps U:=Yy λno=>by
   have:=(Zv4 hc).mpr λU hU=>no ⟨U,hU⟩
   lia
  obtain⟨ld,F,inc,fu,hPo,hn,hs,hRR,_⟩:=hRw ⟨U0,hU0⟩;have tab1:=hT.same s1
  refine⟨_,rfl,w,n,ps,rfl,hW.same s1,hG,tab1,⟨U0,hU0⟩,λx F' inc' ld' fu' H2 hPo' hn' hs' hPt sx2 tab2=>?_⟩;have eF:F'=F:=ZV1 (hPo.least F' hPo'.tr) (hPo'.least F hPo.tr)
  subst eF;have el:=Zz73 hn' hs' hn hs
  subst el;refine⟨_,rfl,_,rfl,_,rfl,_,rfl,_,_,rfl,rfl,_,rfl,_,_,rfl,?_⟩;refine⟨x,n,ps,[],[],F',inc',ld',fu',R,_,_,_,rfl,hPt,hPo',hG,tab2,hRR,by lia,n0,(by split <;> lia),(by split <;> lia),λr xs H3 sx3 tab3 hr0 hr3 hX=>?_⟩
  have e1:((R.drop num.toNat).take ((if (c:Int)<num+most then (c:Int) else num+most) - num).toNat)=(R.drop num.toNat).take most.toNat:=by rw[List.take_eq_take_iff,Y0h];split <;> grind
  rw[e1]at hX;exact q r xs H3 ((SameX.same s1).trans (sx2.trans sx3)) tab3 (Zx3 tab2 ((SameX.same s1).trans sx2) hr0) hr3 hX
def spZI(K:PySem.W.Frag)(CP C Pt:Addr):Sp:=λvs H Q _=>∃(w:Addr) (n:Int) (ps:List (Int × Int)) (num:Int) (R:List (List Int)),vs=[.ref w,.int num]/\WebAt C H w n ps/\Zv n ps/\TabP H Pt/\0<=num/\num<R.length/\RowW n ps R /\
 ∀(r:Addr) (T:List Int) (H':Hp),R[num.toNat]?=some T->SameX Pt H H'->TabP H' Pt->H' r=some (.tup (IL T))->Q (.ref r) H'
theorem ZA11{R:List (List Int)}{j:Nat}{T:List Int}(h:R[j]?=some T):(R.drop j).take 1=[T]:=by have hj:=(Yy1.mp h);rw[Yy33 hj.1,hj.2];rfl
theorem scZI:FnScope ["web","number","trees"] ["web","number"] (Zz7 sZI):=⟨rfl,rfl,rfl,by decide +kernel,rfl,by decide +kernel,by decide +kernel⟩
theorem okZI {Pt:Addr} (T:Txt K mg t) (hB:Zq7 K mg base t.dZy Pt):FnOk P w K mg base CX0 45 t.aZI t.dZI ["web","number"] (spZI K t.A_Part t.A_Web Pt):=by
 refine T.fZI.ok scZI (λvs H Q E h=>?_) (λcdv A outer s H vs Q E hr h=>?_)
 ·obtain⟨w,n,ps,num,R,rfl,_⟩:=h;rfl
 ·obtain⟨w,n,ps,num,R,rfl,hW,hG,hT,n0,n1,hR,q⟩:=h;refine⟨_,(Zz2 (Zj (i:=2) scZI.nd rfl (Or.inl rfl) (Zz9 (okZH T hB) (hr.mono (by decide)) rfl T.mZH T.fZH.kp T.bZH .nil Zs (Zz0 (pv 0) (Zz0 (pv 1) (Zz0 Za Zz3)))))
   (Zz2 (Zn1 (Zf Zq3 (Zg (Zo K) (by rfl) T.n_len Boot.«len» (Zz0 (pv 2) Zz3)) Za (Zp _))
   (Zz8 Zz61)
   Zn)
   (Zz8 (Zh (ZP (Ze K) (pv 2) Za (λ_ _=>rfl)))))),?_⟩
  obtain⟨ld,F,inc,fu,hPo,_,_,_,hTC⟩:=id hR;have c20:=ZY5 hG hTC
  obtain⟨U,hU⟩:∃ U,R[num.toNat]?=some U:=⟨_,Yy0 (by lia)⟩;refine⟨_,rfl,_,rfl,w,n,ps,num,1,R,rfl,hW,hG,hT,n0,by lia,by decide,by decide,λ_=>hR,λno=>absurd hPo.tr.1 (no F),λr xs H1 sx1 tab1 hr0 hr1 hX=>?_⟩;refine nm ?_;dsimp only [List.set];rw[show(1:Int).toNat=1 from rfl,ZA11 hU]at hX;obtain⟨v,hv,c,rfl,hc⟩:=hX.2 0 U rfl;have hl:xs.length=1:=hX.1
  refine⟨_,rfl,r,xs,rfl,.inl (SqL.of hr1),rfl,_,rfl,?_⟩;rw[Zx];refine itd2 (λh0=>by lia) (λ_=>?_);show(_:Prop)
  refine ZE4 ?_;exact⟨_,rfl,r,xs,0,.ref c,rfl,rfl,SqL.of hr1,ZK (n:=0) rfl hv,q c U H1 hU sx1 tab1 hc⟩
def spZJ(K:PySem.W.Frag)(CP C Pt:Addr)(d:Nat):Sp:=λvs H Q _=>∃(x a:Addr) (n:Int) (ps:List (Int × Int)) (I O F inc T:List Int) (ld fu:Option Int) (R:List (List Int)) (size:Int),vs=[.ref x,.int size,.ref a]/\PartAt K CP C H x n ps I O F inc ld fu/\PartOk n ps I O ld F inc fu/\Zv n ps/\TabP H Pt/\RowR n ps d I O ld R/\size=R.length/\SqT K H a (IL T)/\T∈R /\
 ∀(j:Nat) (H':Hp),R[j]?=some T->SameX Pt H H'->TabP H' Pt->Q (.int j) H'
theorem scZJ:FnScope ["part","size","tree","first","middle"] ["part","size","tree"] (Zz7 sZJ):=⟨rfl,rfl,rfl,by decide +kernel,rfl,by decide +kernel,by decide +kernel⟩
theorem okZJ {Pt:Addr} (T:Txt K mg t) (hB:Zq7 K mg base t.dZy Pt) (d:Nat):FnOk P w K mg base CX0 (11+d) t.aZJ t.dZJ ["part","size","tree"] (spZJ K t.A_Part t.A_Web Pt d):=by
 have key:∀(d k:Nat) (sp:Sp),FnOk P w K mg base CX0 k t.aZJ t.dZJ ["part","size","tree"] sp->k<=10+d->(∀ e,d=e+1->sp=spZJ K t.A_Part t.A_Web Pt e)->FnOk P w K mg base CX0 (11+d) t.aZJ t.dZJ ["part","size","tree"] (spZJ K t.A_Part t.A_Web Pt d):=by
  intro d k sp ih hk hsp;rw[show 11+d=10+d+1 by lia];refine T.fZJ.ok scZJ (λvs H Q E h=>?_) (λcdv A outer s H vs Q E hr h=>?_)
  ·obtain⟨x,a,n,ps,I,O,F,inc,U,ld,fu,R,size,rfl,_⟩:=h;rfl
  ·obtain⟨x,ta,n,ps,I,O,F,inc,U,ld,fu,R,size,rfl,hPt,hPo,hG,hT,hR,hsz,hta,hU,q⟩:=h;refine⟨_,(Zz2 (Zn1 (Zf Zn6 (Zk K (pv 0) rfl) ZF2 (Zp _))
   (Zz8 (Zh (Zz52 K YT Y3i Y3h (ZN7 K (hu8 hr)) (Zz9 (okZE T) (hr.mono (by omega)) rfl T.mZE T.fZE.kp T.bZE .nil Zs (Zz0 (pv 0) Zz3)) (Zz0 (pv 2) Zz3))))
   Zn)
   (Zz2 (Zj (i:=3) scZJ.nd rfl (Or.inl rfl) (Zz9 (okZA T hB) (hr.mono (by omega)) rfl T.mZA T.fZA.kp T.bZA .nil Zs (Zz0 (pv 0) Zz3)))
   (Zz2 (Zj (i:=4) scZJ.nd rfl (Or.inl rfl) (Zz9 (okZC T) (hr.mono (by omega)) rfl T.mZC T.fZC.kp T.bZC .nil Zs (Zz0 (pv 3) Zz3)))
   (Zz2 (Zn1 (Zf (Zz43 K) (Zk K (pv 0) rfl) (pv 2) rfl)
   (Zz8 (Zh (Zq ZG1 (Zq ZG1 (pv 1) Za) (Zz9 ih (hr.mono (by omega)) rfl T.mZJ T.fZJ.kp T.bZJ .nil Zs (Zz0 (Zz9 (okZB T hB) (hr.mono (by omega)) rfl T.mZB T.fZB.kp T.bZB .nil Zs (Zz0 (pv 0) Zz3)) (Zz0 (Zq ZG1 (pv 1) (pv 4)) (Zz0 (pv 2) Zz3)))))))
   Zn)
   (Zz8 (Zh (Zz9 ih (hr.mono (by omega)) rfl T.mZJ T.fZJ.kp T.bZJ .nil Zs (Zz0 (pv 3) (Zz0 (pv 4) (Zz0 (pv 2) Zz3)))))))))),?_⟩
   obtain⟨dx,w0,a,b,l,i,hx,hW,hA,hBo,hl,hi⟩:=id hPt;refine⟨_,rfl,x,_,dx,_,optV fu,rfl,hx,T.cl_Part,T.n_Part_further,rfl,rfl,_,rfl,?_⟩;have hwith:=Zm1 hG hR
   cases hR with
   | und hPo' hil hiz =>
    obtain⟨rfl,rfl,rfl⟩:=hPo.uniq hPo';refine iteT ?_;refine⟨_,rfl,x,n,ps,I,O,F,inc,ld,none,rfl,hPt,hG,hPo.tr.1,hil,hiz,λr xs H1 s1 hr0 hr1 hX=>?_⟩;obtain⟨e,j,c,h1,h2,h3,h4,h5⟩:=Zw7 (K:=K) hX (SqK.same (k:=true) s1 hta) hU;refine⟨.inl ⟨rfl,_,SqL.of hr1⟩,_,rfl,1,r,xs,.ref ta,e,j,c,rfl,rfl,hr1,by decide,h1,h2,h3,h4,?_⟩;exact q j H1 h5 (SameX.same s1) (hT.same s1)
   | div hPo' hIn hIb hIO hOl hexW hexO y0 y1 hpc hRA hRB =>
    rename_i e F' inc' z y A' B;obtain⟨rfl,rfl,rfl⟩:=hPo.uniq hPo';have esp:=hsp e rfl
    subst esp;refine iteF ?_;show(_:Prop)
    refine ZE4 ?_;have hnd:=YQ.mp hIn
    have hIn1:I.Nodup:=hnd.1;have hIb1:∀ v∈I,0<=v/\v<(ps.length:Int):=λv hv=>hIb v (Yc _ hv)
    have hIO1:∀ v∈I,v∉O++[z]:=λv hv h=>(Yy7.mp h).elim (hIO v (Yc _ hv)) λh=>hnd.2.2 v hv z (by simp) (Yy2.mp h);have hO30:O.length<=30:=by rw[Yy4,Yj]at hOl;lia
    have hRl:size=(A'.length:Int)+B.length:=by rw[hsz,Yy4,YS];lia
    refine⟨_,rfl,x,n,ps,I,O,F,inc,z,y,rfl,hPt,hG,hT,hIn1,hIb1,hIO1,hOl,hexO,y0,y1,λx1 F1 inc1 fu1 H1 hP1 hA1 sx1 tab1=>?_⟩;refine nm ?_;dsimp only [List.set];refine⟨_,rfl,x1,n,ps,I,O++[z],F1,inc1,some y,fu1,rfl,hA1,hG,hIn1,hIb1,hOl,hIO1,λc H2 hc s2=>?_⟩;have ec:=hc.uniq hpc
    subst ec;refine nm ?_;dsimp only [List.set];have sx2:SameX Pt H H2:=sx1.trans (SameX.same s2)
    have tab2:=tab1.same s2;have hx2:=sx2 _ _ (hT.ne hx (by simp)) hx
    have hta2:SqT K H2 ta (IL U):=SqK.samex (kd:=true) hta hT sx2;refine⟨_,rfl,x,_,dx,_,.int z,rfl,hx2,T.cl_Part,T.n_Part_lead,rfl,_,rfl,ta,_,rfl,.inr hta2,rfl,Zz _,_,rfl,?_⟩;rw[ZL];refine itd2 (λhz=>?_) (λhz=>?_)
    ·have hUB:U∈B:=by
      rcases Yy7.mp hU with h | h
      ·exact absurd hz ((Zm1 hG hRA U h).2.2 z (by simp))
      ·exact Y0y.mp h
     refine⟨_,rfl,_,_,rfl,rfl,_,rfl,x,n,ps,I,O,F,inc,z,y,rfl,hPt.samex hT sx2,hG,tab2,hIn,hIb,hIO,hO30,hexW,y0,y1,λx2 F2 inc2 fu2 H4 hP2 hA2 sx4 tab4=>?_⟩;refine⟨_,rfl,_,rfl,_,_,rfl,rfl,_,rfl,?_⟩;refine⟨x2,ta,n,ps,I++[z],O,F2,inc2,U,some y,fu2,B,_,rfl,hA2,hP2,hG,tab4,hRB,by lia,SqK.samex (kd:=true) hta2 tab2 sx4,hUB,λj H5 hj sx5 tab5=>?_⟩;have hjl:=(Yy1.mp hj).1
     refine⟨_,_,rfl,rfl,?_⟩;have e:size - 1 - (j:Int)=((A'.length+(B.length - 1 - j):Nat):Int):=by grind
     show Q (.int (size - 1 - (j:Int))) H5;rw[e];refine q _ H5 ?_ ((sx2.trans sx4).trans sx5) tab5;rw[Yq (by lia),Y0X (by lia),show B.length - 1 - (A'.length+(B.length - 1 - j) - A'.length)=j by lia];exact hj
    ·have hUA:U∈A':=by
      rcases Yy7.mp hU with h | h
      ·exact h
      ·exact absurd ((Zm1 hG hRB U (Y0y.mp h)).2.1 z (by simp)) hz
     show(_:Prop);refine ZE4 ?_;refine⟨_,rfl,_,rfl,_,rfl,?_⟩;refine⟨x1,ta,n,ps,I,O++[z],F1,inc1,U,some y,fu1,A',_,rfl,hA1.samex tab1 (SameX.same s2),hP1,hG,tab2,hRA,rfl,hta2,hUA,λj H3 hj sx3 tab3=>?_⟩;refine q j H3 ?_ (sx2.trans sx3) tab3;rw[Yp (Yy1.mp hj).1];exact hj
 induction d with
 | zero=>exact key 0 0 _ ZY8 (by lia) λe h=>(by cases h)
 | succ d ih=>exact key (d+1) (11+d) _ ih (by lia) λe h=>(by cases h;rfl)
def spZK(K:PySem.W.Frag)(CP C Pt:Addr):Sp:=λvs H Q _=>∃(w a:Addr) (n:Int) (ps:List (Int × Int)) (U:List Int) (R:List (List Int)),vs=[.ref w,.ref a]/\WebAt C H w n ps/\Zv n ps/\TabP H Pt/\SqT K H a (IL U)/\Zi n ps U/\RowW n ps R/\U∈R /\
 ∀(j:Nat) (H':Hp),R[j]?=some U->SameX Pt H H'->TabP H' Pt->Q (.int j) H'
theorem scZK:FnScope ["web","tree"] ["web","tree"] (Zz7 sZK):=⟨rfl,rfl,rfl,by decide +kernel,rfl,by decide +kernel,by decide +kernel⟩
theorem okZK {Pt:Addr} (T:Txt K mg t) (hB:Zq7 K mg base t.dZy Pt):FnOk P w K mg base CX0 44 t.aZK t.dZK ["web","tree"] (spZK K t.A_Part t.A_Web Pt):=by
 refine T.fZK.ok scZK (λvs H Q E h=>?_) (λcdv A outer s H vs Q E hr h=>?_)
 ·obtain⟨w,a,n,ps,U,R,rfl,_⟩:=h;rfl
 ·obtain⟨w,a,n,ps,U,R,rfl,hW,hG,hT,hA,hU,⟨ld,F,inc,fu,hPo,hn,hs,hRR,hTC⟩,hUR,q⟩:=h;refine⟨_,(Zz2 (Za1 (Zz9 (okZq T) (hr.mono (by decide)) rfl T.mZq T.fZq.kp T.bZq .nil Zs (Zz0 (pv 0) (Zz0 (pv 1) Zz3))))
   (Zz8 (Zh (Zz9 (okZJ T hB 31) (hr.mono (by decide)) rfl T.mZJ T.fZJ.kp T.bZJ .nil Zs (Zz0 (Zz9 (okZz T hB) (hr.mono (by decide)) rfl T.mZz T.fZz.kp T.bZz .nil Zs (Zz0 (pv 0) Zz3)) (Zz0 (Zz9 (okZm T) (hr.mono (by decide)) rfl T.mZm T.fZm.kp T.bZm .nil Zs (Zz0 (pv 0) Zz3)) (Zz0 (Zr (ZA K) (by rfl) T.n_tuple Boot.«tuple» (Zz0 (pv 1) Zz3)) Zz3))))))),?_⟩
  refine⟨_,rfl,_,rfl,w,a,n,ps,true,U,rfl,hW,hG,hA,λ_ H1 s1=>?_,λh=>absurd hU h⟩;have tab1:=hT.same s1
  refine⟨_,rfl,w,n,ps,rfl,hW.same s1,hG,tab1,⟨U,hU⟩,λx F' inc' ld' fu' H2 hPo' hn' hs' hPt sx2 tab2=>?_⟩;have eF:F'=F:=ZV1 (hPo.least F' hPo'.tr) (hPo'.least F hPo.tr)
  subst eF;have el:=Zz73 hn' hs' hn hs
  subst el;have sx02:SameX Pt H H2:=(SameX.same s1).trans sx2
  refine⟨_,rfl,w,n,ps,rfl,hW.samex hT sx02,hG,λc H3 hc s3=>?_⟩;have ec:=hc.uniq hTC
  have sx03:=sx02.trans (SameX.same s3);have tab3:=tab2.same s3
  have hA3:SqT K H3 a (IL U):=SqK.samex (kd:=true) hA hT sx03;refine⟨_,rfl,a,_,rfl,.inr ⟨hA3,?_⟩⟩;exact⟨x,a,n,ps,[],[],F',inc',U,ld',fu',R,_,rfl,hPt.samex tab2 (SameX.same s3),hPo',hG,tab3,hRR,by rw[ec],hA3,hUR,λj H4 hj sx4 tab4=>q j H4 hj (sx03.trans sx4) tab4⟩
def spZL(K:PySem.W.Frag):Sp:=λvs H Q _=>∃(a:Addr) (ns:List Int) (k:Int),vs=[.ref a,.int k]/\SqL K H a (IL ns)/\0<=k/\∀ r:Int,Q (.int r) H
theorem scZL:FnScope ["script","k"] ["script","k"] (Zz7 sZL):=⟨rfl,rfl,rfl,by decide +kernel,rfl,by decide +kernel,by decide +kernel⟩
theorem okZL (T:Txt K mg t):FnOk P w K mg base CX0 1 t.aZL t.dZL ["script","k"] (spZL K):=by
 refine T.fZL.ok scZL (λvs H Q E h=>?_) (λcdv A outer s H vs Q E hr h=>?_)
 ·obtain⟨a,ns,k,rfl,_⟩:=h;rfl
 ·obtain⟨a,ns,k,rfl,hS,hk,q⟩:=h;refine⟨_,(Zz2 (Zn1 (Zf ZI9 (pv 1) (Zg (Zo K) (by rfl) T.n_len Boot.«len» (Zz0 (pv 0) Zz3)) (Zp _))
   (Zz8 (Zh (ZP (Ze K) (pv 0) (pv 1) (λ_ _=>rfl))))
   Zn)
   (Zz8 (Zh Za))),?_⟩
  refine⟨_,rfl,_,rfl,a,_,rfl,.inl hS,_,_,rfl,rfl,_,rfl,?_⟩;refine ite2 (λhc=>?_) (λ_=>?_)
  ·have hc:=Yw hc;rw[Zz4]at hc;obtain⟨z,hz⟩:∃ z,ns[k.toNat]?=some z:=⟨_,Yy0 (by lia)⟩;exact⟨_,rfl,_,rfl,a,_,k,.int z,rfl,rfl,hS,ZK (n:=k.toNat) (by lia) (by rw[Yu,hz];rfl),q z⟩
  ·exact q 0
def spZM:Sp:=λvs H Q _=>∃(c k:Int),vs=[.int c,.int k]/\0<=k/\k<1000000000/\∀ r:Int,0<=r->Q (.int r) H
theorem scZM:FnScope ["cell","k","big"] ["cell","k"] (Zz7 sZM):=⟨rfl,rfl,rfl,by decide +kernel,rfl,by decide +kernel,by decide +kernel⟩
theorem okZM (T:Txt K mg t):FnOk P w K mg base CX0 1 t.aZM t.dZM ["cell","k"] spZM:=by
 refine T.fZM.ok scZM (λvs H Q E h=>?_) (λcdv A outer s H vs Q E hr h=>?_)
 ·obtain⟨c,k,rfl,_⟩:=h;rfl
 ·obtain⟨c,k,rfl,k0,k1,q⟩:=h;refine⟨_,(Zz2 (Zj (i:=2) scZM.nd rfl (Or.inl rfl) (Zq ZH3 (Zq Ze1 (Zq ZQ (pv 0) (Zq Zz33 Za Za)) Za) (Zq Ze1 Za (Zq ZH3 (Zq ZH3 Za (pv 1)) (pv 1)))))
   (Zz2 (Zj (i:=2) scZM.nd rfl (Or.inl rfl) (Zq Ze1 (pv 2) (Zq ZH3 Za (pv 1))))
   (Zz8 (Zh (Zq ZQ (Zq ZH3 (pv 2) (pv 2)) (Zq Ze1 (Zq Zz33 Za Za) Za)))))),?_⟩
  have a0:0<=c % 10 ^ (60:Int).toNat:=Yy02 _ (by decide);have a1:c % 10 ^ (60:Int).toNat<10 ^ 60:=Yy01 _ (by decide)
  have b:=Yz8 (M:=10 ^ 20) (N:=10 ^ 20) (a:=2 * k) (b:=k) (by lia) (by lia) k0 (by lia);have d:=Yz8 (M:=10 ^ 70) (N:=10 ^ 70) (a:=c % 10 ^ (60:Int).toNat+3) (b:=16180339887498948482045868343656381177203+2 * k * k) (by lia) (by lia) (by grind) (by omega)
  refine⟨_,rfl,_,_,rfl,rfl,⟨by decide,by decide,by decide⟩,_,_,rfl,rfl,(by show(0:Int)<10 ^ 60;decide),_,_,rfl,rfl,_,rfl,_,_,rfl,rfl,⟨⟨by decide,by decide⟩,by lia,by lia⟩,_,rfl,_,_,rfl,rfl,⟨⟨by lia,by lia⟩,by omega,by omega⟩,_,_,rfl,rfl,_,_,rfl,rfl,⟨⟨by lia,by lia⟩,by omega,by omega⟩,?_⟩;refine⟨_,rfl,_,rfl,_,_,rfl,rfl,⟨⟨by decide,by decide⟩,by omega,by omega⟩,_,_,rfl,rfl,?_⟩;refine⟨_,rfl,_,rfl,_,_,rfl,rfl,⟨⟨by omega,by omega⟩,by omega,by omega⟩,_,_,rfl,rfl,⟨by decide,by decide,by decide⟩,_,_,rfl,rfl,_,_,rfl,rfl,(by show(0:Int)<10 ^ 60+33;decide),?_⟩;exact q _ (Yy02 _ (by decide))
def spZN(K:PySem.W.Frag):Sp:=λvs H Q _=>∃(a:Addr) (ns:List Int) (size:Int),vs=[.ref a,.int size]/\SqL K H a (IL ns)/\0<=size/\size<=200 /\
 ∀(l:Addr) (L:List Int) (H':Hp),Same H H'->H' l=some (.lst (IL L))->(L.length:Int)=size->(∀ z∈L,0<=z)->Q (.ref l) H'
theorem scZN:FnScope ["script","size","rest","told","k"] ["script","size"] (Zz7 sZN):=⟨rfl,rfl,rfl,by decide +kernel,rfl,by decide +kernel,by decide +kernel⟩
theorem okZN (T:Txt K mg t):FnOk P w K mg base CX0 2 t.aZN t.dZN ["script","size"] (spZN K):=by
 refine T.fZN.ok scZN (λvs H Q E h=>?_) (λcdv A outer s H vs Q E hr h=>?_)
 ·obtain⟨a,ns,size,rfl,_⟩:=h;rfl
 ·obtain⟨a,ns,size,rfl,hS,s0,s2,q⟩:=h;refine⟨_,(Zz2 (Zj (i:=2) scZN.nd rfl (Or.inl rfl) (Zq ZQ (Zz9 (okZL T) (hr.mono (by decide)) rfl T.mZL T.fZL.kp T.bZL .nil Zs (Zz0 (pv 0) (Zz0 Za Zz3))) (Zq Zz33 Za Za)))
   (Zz2 (Zj (i:=3) scZN.nd rfl (Or.inl rfl) (Zp1 Zz3))
   (Zz2 (ZP1 Yy04 rfl (ZA1 rfl T.n_range (Zz0 (pv 1) Zz3)) (Zd (i:=4) scZN.nd rfl (Or.inl rfl))
   (Zz2 (Zn1 (Zf Zq3 (pv 4) Za (Zp _))
   (Zz8 (Zj (i:=2) scZN.nd rfl (Or.inl rfl) (Zq ZQ (Zz9 (okZL T) (hr.mono (by decide)) rfl T.mZL T.fZL.kp T.bZL .nil Zs (Zz0 (pv 0) (Zz0 Za Zz3))) (Zq Zz33 Za Za))))
   Zn)
   (Zz2 (Zn1 (Zf Zq3 (pv 2) Za (Zp _))
   (Zz8 (Zj (i:=2) scZN.nd rfl (Or.inl rfl) (Zz9 (okZM T) (hr.mono (by decide)) rfl T.mZM T.fZM.kp T.bZM .nil Zs (Zz0 (Zz9 (okZL T) (hr.mono (by decide)) rfl T.mZL T.fZL.kp T.bZL .nil Zs (Zz0 (pv 0) (Zz0 Za Zz3))) (Zz0 Za Zz3)))))
   Zn)
   (Zz2 (Za1 (Zz52 K YT Y0O Y0N ZT1 (pv 3) (Zz0 (Zq ZQ (pv 2) Za) Zz3)))
   (Zz8 (Zj (i:=2) scZN.nd rfl (Or.inl rfl) (Zq ZS1 (pv 2) Za)))))))
   (Zz8 (Zh (pv 3)))))),?_⟩
  refine⟨_,rfl,a,ns,2,rfl,hS,by decide,λc1=>⟨_,_,rfl,rfl,⟨by decide,by decide,by decide⟩,_,_,rfl,rfl,(by show(0:Int)<10 ^ 60;decide),?_⟩⟩;refine nm ?_;dsimp only;refine⟨Yl _,λtd htd=>?_⟩;have u0:=Zz5 (o:=.lst []) htd
  have k0:=Zz1 (H:=H) (a:=td) (o:=.lst []);generalize upd H td (.lst [])=H0 at *;refine nm ?_;dsimp only;refine⟨_,rfl,_,rfl,by lia,by omega,ZW4 (lo:=0) (n:=size.toNat) (λi σ H2=>∃(L:List Int) (rs:Int) (v4:Option V),σ=[some (.ref a),some (.int size),some (.int rs),some (.ref td),v4]/\Same H H2/\H2 td=some (.lst (IL L))/\L.length=i/\∀ z∈L,0<=z) ⟨[],_,_,rfl,u0,k0,rfl,λz h=>(by cases h)⟩ ?_ ?_⟩
  ·rintro i σ H2 hi ⟨L,rs,v4,rfl,s2,h2,hl,hp⟩;refine nm ?_;dsimp only;refine Zq12 (λσ H3=>∃ rs':Int,H3=H2/\σ=[some (.ref a),some (.int size),some (.int rs'),some (.ref td),some (.int (0+(i:Int)))]) ?_ ?_
   ·rintro σ H3 ⟨rs',rfl,rfl⟩;refine Zq12 (λσ H4=>∃ rs':Int,H4=H3/\σ=[some (.ref a),some (.int size),some (.int rs'),some (.ref td),some (.int (0+(i:Int)))]) ?_ ?_
    ·rintro σ H4 ⟨rs',rfl,rfl⟩;refine⟨_,rfl,.inl ⟨rfl,_,SqL.of h2⟩,_,rfl,_,_,rfl,rfl,(by show(0:Int)<12;decide),td,_,_,rfl,rfl,h2,Zm (by rw[Zz4];lia),?_⟩;refine⟨_,rfl,_,_,rfl,rfl,⟨by decide,by decide⟩,?_⟩;refine⟨L++[rs' % 12],_,_,rfl,ZG htd s2,by rw[Zz1,ZV],by rw[Yy4,Yj,hl],λz hz=>?_⟩;rcases Yy7.mp hz with e | e
     ·exact hp z e
     ·rw[Yy2.mp e];exact Yy02 _ (by decide)
    ·intro Kn hK;refine⟨_,rfl,rfl,_,rfl,?_⟩;rw[Zx];refine itd2 (λ_=>?_) (λ_=>hK _ _ ⟨rs',rfl,rfl⟩);exact⟨_,rfl,a,ns,2,rfl,s2.seq hS,by decide,λc3=>⟨c3,38,rfl,by decide,by decide,λr3 _=>hK _ _ ⟨r3,rfl,rfl⟩⟩⟩
   ·intro Kn hK;refine⟨_,rfl,rfl,_,rfl,?_⟩;rw[Zx];refine itd2 (λ_=>?_) (λ_=>hK _ _ ⟨rs,rfl,rfl⟩);exact⟨_,rfl,a,ns,3,rfl,s2.seq hS,by decide,λc3=>⟨_,_,rfl,rfl,⟨by decide,by decide,by decide⟩,_,_,rfl,rfl,(by show(0:Int)<10 ^ 60;decide),hK _ _ ⟨_,rfl,rfl⟩⟩⟩
  ·rintro σ H2 ⟨L,rs,v4,rfl,s2,h2,hl,hp⟩;exact⟨_,rfl,q td L H2 s2 h2 (by lia) hp⟩
def spZO(K:PySem.W.Frag):Sp:=λvs H Q _=>∃(a:Addr) (ns:List Int) (size:Int),vs=[.ref a,.int size]/\SqL K H a (IL ns)/\ns.length<=63/\1<=size/\size<=200 /\
 ∀(l:Addr) (L:List Int) (H':Hp),Same H H'->H' l=some (.lst (IL L))->(L.length:Int)=size->(∀ z∈L,0<=z)->Q (.ref l) H'
theorem scZO:FnScope ["script","size","told","k","cell","at"] ["script","size"] (Zz7 sZO):=⟨rfl,rfl,rfl,by decide +kernel,rfl,by decide +kernel,by decide +kernel⟩
theorem okZO (T:Txt K mg t):FnOk P w K mg base CX0 2 t.aZO t.dZO ["script","size"] (spZO K):=by
 refine T.fZO.ok scZO (λvs H Q E h=>?_) (λcdv A outer s H vs Q E hr h=>?_)
 ·obtain⟨a,ns,size,rfl,_⟩:=h;rfl
 ·obtain⟨a,ns,size,rfl,hS,hn,s0,s2,q⟩:=h;refine⟨_,(Zz2 (Zr7 (i:=2) rfl scZO.nd rfl rfl (sc0:=Zz7 sZO) (N0:=["script","size","told","k","cell","at"]) (N':=["k","script"]) (o:=1) (fr:=[0]) ⟨rfl,by decide +kernel,by decide +kernel,by decide +kernel,rfl,by decide +kernel⟩ (ZA1 rfl T.n_range (Zz0 (pv 1) Zz3)) (Zy (by decide)) (λ_ _ _ _=>(Zd (i:=0) (show List.Nodup (["k","script"]:List Str) by decide +kernel) rfl (Or.inl rfl))) (λ_ _ _ _=>Zz91) (λ_ _ _ _=>(Zz9 (okZM T) (hr.mono (by decide)) rfl T.mZM T.fZM.kp T.bZM .nil Zs (Zz0 (Zq Ze1 (pv 0) (Zq Zm6 Za (Zg (Zo K) (by rfl) T.n_len Boot.«len» (Zz0 (pv 1) Zz3)))) (Zz0 Za Zz3)))))
   (Zz2 (ZP1 Yy04 rfl (Zo1 K rfl T.n_enumerate (Zz0 (Zx1 (Zw1 K) (pv 0) (ZQ1 Za) Zp2) Zz3)) (Zu1 (n:=2) K rfl (Zt (Zd (i:=3) scZO.nd rfl (Or.inl rfl)) (Zt (Zd (i:=4) scZO.nd rfl (Or.inl rfl)) Zc1)))
   (Zz2 (Zj (i:=5) scZO.nd rfl (Or.inl rfl) (Zq ZQ (pv 3) (pv 1)))
   (Zz8 (ZA9 (Zz9 (okZM T) (hr.mono (by decide)) rfl T.mZM T.fZM.kp T.bZM .nil Zs (Zz0 (Zq Ze1 (ZP (Ze K) (pv 2) (pv 5) (λ_ _=>rfl)) (Zq ZQ (pv 4) (Zq Zz33 Za Za))) (Zz0 (Zq ZQ (pv 3) Za) Zz3))) (ZM12 (pv 2) (pv 5) Zm2)))))
   (Zz8 (Zh (Zz84 rfl (sc0:=Zz7 sZO) (N0:=["script","size","told","k","cell","at"]) (N':=["m"]) (o:=1) (fr:=[]) ⟨rfl,by decide +kernel,by decide +kernel,by decide +kernel,rfl,by decide +kernel⟩ (ZZ K (pv 2)) (Zy (by decide)) (λ_ _ _ _=>(Zd (i:=0) (show List.Nodup (["m"]:List Str) by decide +kernel) rfl (Or.inl rfl))) (λ_ _ _ _=>Zz91) (λ_ _ _ _=>(Zq ZQ (Zq ZS1 (pv 0) Za) Za))))))),?_⟩
  refine⟨_,rfl,_,rfl,by lia,by lia,Zz83 (lo:=0) (n:=size.toNat) (λi ys H3=>H3=H/\∃ L:List Int,ys=IL L/\L.length=i) ⟨rfl,[],rfl,rfl⟩ (Zm (by lia)) (λi ys H3 _ ⟨_,L,e,l⟩=>by rw[e,Zz4,l];exact Yy8 _) ?_ ?_⟩
  ·rintro i ys H3 hi ⟨rfl,L,rfl,hl⟩ S hSS;refine⟨_,rfl,_,rfl,a,_,rfl,.inl hS,_,_,rfl,rfl,.inl ⟨by decide,by decide⟩,_,_,rfl,rfl,_,40,rfl,by decide,by decide,λm m0=>?_⟩;exact hSS _ _ ⟨rfl,L++[m],by rw[ZV],by rw[Yy4,Yj,hl]⟩
  ·rintro ys H3 ⟨rfl,L,rfl,hl⟩ td htd;have u0:=Zz5 (o:=.lst (IL L)) htd
   have k0:=Zz1 (H:=H3) (a:=td) (o:=.lst (IL L));generalize hH0:upd H3 td (.lst (IL L))=H0 at *;clear hH0;refine nm ?_;dsimp only;refine⟨_,rfl,_,rfl,a,_,rfl,u0.seq hS,λp1 hp1=>?_⟩;rw[Zz65];have cl:(cutI ns (some 3) none).length<=63:=by
    have:=Zh1 (IL ns) (some 3) none
    rw[Zz65,Zz4,Zz4]at this;lia
   generalize cutI ns (some 3) none=cs at *;have u1:=Zz5 (o:=.lst (IL cs)) hp1
   have hpt:p1≠td:=λe=>by rw[e,k0]at hp1;cases hp1
   refine⟨p1,rfl,⟨_,SqL.of Zz1⟩,Zd3 (K:=K) (a:=p1) (xs:=IL cs) (λi σ H2=>∃(L:List Int) (v3 v4 v5:Option V),σ=[some (.ref a),some (.int size),some (.ref td),v3,v4,v5]/\Same H3 H2/\H2 p1=some (.lst (IL cs))/\H2 td=some (.lst (IL L))/\(L.length:Int)=size) ⟨L,none,none,none,rfl,u0.trans u1,Zz1,u1 _ _ k0,by grind⟩ (λi σ H2 _ ⟨_,_,_,_,_,_,e,_⟩=>SqL.of e) ?_ ?_⟩
   ·rintro i v σ H2 pt hpt2 hi ⟨L,v3,v4,v5,rfl,s2',hp2,h2,hl'⟩;obtain⟨c,rfl,hc⟩:=Zz71 hi;have hi63:=(Yy1.mp hc).1
    have u2:=Zz5 (o:=.tup [.int i,.int c]) hpt2;refine⟨pt,_,rfl,SqT.of Zz1,rfl,_,_,rfl,_,_,rfl,rfl,?_⟩;have hp3:=u2 _ _ hp2
    have h3:=u2 _ _ h2;have s3:=s2'.trans u2
    generalize upd H2 pt (.tup [.int i,.int c])=H4 at *;have at0:0<=(i:Int) % size:=Yy02 _ (by lia)
    have at1:(i:Int) % size<size:=Yy01 _ (by grind);obtain⟨z,hz⟩:∃ z,L[((i:Int) % size).toNat]?=some z:=⟨_,Yy0 (by lia)⟩;refine⟨_,rfl,_,rfl,_,_,rfl,rfl,(by show(0:Int)<size;omega),?_⟩;refine⟨_,rfl,_,rfl,td,_,(i:Int) % size,.int z,rfl,rfl,SqL.of h3,ZK (n:=((i:Int) % size).toNat) (by lia) (ZR2 hz),_,rfl,_,_,rfl,rfl,⟨by decide,by decide,by decide⟩,_,_,rfl,rfl,(by show(0:Int)<10 ^ 60;decide),_,_,rfl,rfl,_,rfl,_,_,rfl,rfl,(by show(0:Int)<37;decide),_,_,rfl,Yy02 _ (by decide),Int.lt_trans (Yy01 _ (by decide)) (by decide),λm' m0'=>?_⟩;refine⟨_,rfl,_,rfl,td,_,_,((i:Int) % size).toNat,rfl,rfl,h3,?_,?_⟩
    ·unfold ixN;rw[Zz4,if_pos (by lia),if_pos (by grind)]
    ·refine⟨L.set ((i:Int) % size).toNat m',_,_,_,rfl,ZG htd s3,by rw[Zb hpt];exact hp3,by rw[Zz1,Zz413],by rw[Y0Z];exact hl'⟩
   ·rintro σ H2 ⟨L,v3,v4,v5,rfl,s2',hp2,h2,hl'⟩;refine⟨_,rfl,td,rfl,⟨_,SqL.of h2⟩,ZH1 (K:=K) (a:=td) (xs:=IL L) (λi ys H4=>H4=H2/\∃ M:List Int,ys=IL M/\M.length=i/\∀ z∈M,0<=z) ⟨rfl,[],rfl,rfl,λz h=>(by cases h)⟩ (Zm (by rw[Zz4];lia)) (λi ys H4 _ ⟨e,M,ey,l,_⟩=>⟨e ▸ SqL.of h2,by rw[ey,Zz4,l];exact Yy8 _⟩) ?_ ?_⟩
    ·rintro i v ys H4 hi ⟨rfl,M,rfl,hm,hp⟩ S hSS;obtain⟨c,rfl,hc⟩:=Zz71 hi;refine⟨_,rfl,_,_,rfl,rfl,⟨by decide,by decide⟩,_,_,rfl,rfl,(by show(0:Int)<1000;decide),?_⟩;refine hSS _ _ ⟨rfl,M++[c / 8 % 1000],by rw[ZV],by rw[Yy4,Yj,hm],λz hz=>?_⟩;rcases Yy7.mp hz with e | e
     ·exact hp z e
     ·rw[Yy2.mp e];exact Yy02 _ (by decide)
    ·rintro ys H4 ⟨rfl,M,rfl,hm,hp⟩ p hp4;exact q p M _ (s2'.trans (Zz5 hp4)) Zz1 (by rw[Zz4]at hm;lia) hp
def spZP(K:PySem.W.Frag):Sp:=λvs H Q _=>∃(a:Addr) (ns:List Int),vs=[.ref a]/\SqL K H a (IL ns)/\∀ b:Bool,Q (.bl b) H
theorem scZP:FnScope ["script"] ["script"] (Zz7 sZP):=⟨rfl,rfl,rfl,by decide +kernel,rfl,by decide +kernel,by decide +kernel⟩
theorem okZP (T:Txt K mg t):FnOk P w K mg base CX0 2 t.aZP t.dZP ["script"] (spZP K):=by
 refine T.fZP.ok scZP (λvs H Q E h=>?_) (λcdv A outer s H vs Q E hr h=>?_)
 ·obtain⟨a,ns,rfl,_⟩:=h;rfl
 ·obtain⟨a,ns,rfl,hS,q⟩:=h;refine⟨_,(Zz8 (Zh (ZF Zq3 (Zq ZQ (Zq ZS1 (Zq ZQ (Zz9 (okZL T) (hr.mono (by decide)) rfl T.mZL T.fZL.kp T.bZL .nil Zs (Zz0 (pv 0) (Zz0 Za Zz3))) (Zq Zz33 Za Za)) (Zq Zz33 Za Za)) Za) Za (Zp _)))),?_⟩;refine⟨_,rfl,a,ns,0,rfl,hS,by decide,λc=>⟨_,_,rfl,rfl,⟨by decide,by decide,by decide⟩,_,_,rfl,rfl,(by show(0:Int)<10 ^ 30;decide),_,_,rfl,rfl,⟨by decide,by decide,by decide⟩,_,_,rfl,rfl,⟨by decide,by decide⟩,_,_,rfl,rfl,(by show(0:Int)<8;decide),rfl,q _⟩⟩
def spZQ(K:PySem.W.Frag):Sp:=λvs H Q _=>∃(a:Addr) (ns:List Int) (most:Int),vs=[.ref a,.int most]/\SqL K H a (IL ns)/\ns.length<=63 /\
 ∀(r:Addr) (cs:List Int) (H':Hp),Same H H'->H' r=some (.lst (IL cs))->cs.length<=64->Q (.ref r) H'
theorem scZQ:FnScope ["script","most"] ["script","most"] (Zz7 sZQ):=⟨rfl,rfl,rfl,by decide +kernel,rfl,by decide +kernel,by decide +kernel⟩
theorem okZQ (T:Txt K mg t):FnOk P w K mg base CX0 3 t.aZQ t.dZQ ["script","most"] (spZQ K):=by
 refine T.fZQ.ok scZQ (λvs H Q E h=>?_) (λcdv A outer s H vs Q E hr h=>?_)
 ·obtain⟨a,ns,most,rfl,_⟩:=h;rfl
 ·obtain⟨a,ns,most,rfl,hS,hn,q⟩:=h;refine⟨_,(Zz2 (Zn1 (ZE2 (Zz9 (okZP T) (hr.mono (by decide)) rfl T.mZP T.fZP.kp T.bZP .nil Zs (Zz0 (pv 0) Zz3)))
   (Zz8 (Zh (Zp1 (Zz0 (Zz9 (okZL T) (hr.mono (by decide)) rfl T.mZL T.fZL.kp T.bZL .nil Zs (Zz0 (pv 0) (Zz0 Za Zz3))) Zz3))))
   Zn)
   (Zz8 (Zh (Zq Zp6 (Zp1 (Zz0 Za Zz3)) (Zx1 (Zw1 K) (pv 0) Zp2 (ZQ1 (pv 1))))))),?_⟩
  refine⟨_,rfl,a,ns,rfl,hS,λb=>⟨_,rfl,?_⟩⟩;have one:1<=sizeLine:=by decide
  refine itb (λ_=>?_) (λ_=>?_)
  ·refine⟨_,rfl,a,ns,2,rfl,hS,by decide,λc=>⟨one,λr hr=>?_⟩⟩;exact q r [c] _ (Zz5 hr) Zz1 (by show 1<=64;decide)
  ·refine⟨one,λp1 hp1=>?_⟩;have u1:=Zz5 (o:=.lst (IL [0])) hp1
   refine⟨_,rfl,_,rfl,_,rfl,a,_,rfl,u1.seq hS,λp2 hp2=>?_⟩;rw[Zz65];have cl:(cutI ns none (some most)).length<=63:=by
    have:=Zh1 (IL ns) none (some most)
    rw[Zz65,Zz4,Zz4]at this;lia
   generalize cutI ns none (some most)=cs at *;have u2:=Zz5 (o:=.lst (IL cs)) hp2
   refine⟨p1,p2,_,_,rfl,rfl,u2 _ _ Zz1,Zz1,ZN1 (by rw[Zz4];show 1+_<=_;lia),λp3 hp3=>?_⟩;have u3:=Zz5 (o:=.lst (IL [0]++IL cs)) hp3
   refine q p3 ([0]++cs) _ (u1.trans (u2.trans u3)) ?_ (by rw[Yy4];show 1+_<=_;lia);rw[Zz1,ZW1];rfl
def spZR(K:PySem.W.Frag):Sp:=λvs H Q _=>∃(a:Addr) (ns:List Int),vs=[.ref a]/\SqL K H a (IL ns)/\ns.length<=63 /\
 ∀(r l:Addr) (n:Int) (xs:List V) (ps:List (Int × Int)) (H':Hp),Same H H'->H' r=some (.tup [.int n,.ref l])->H l=none->H' l=some (.lst xs)->PairsV H' xs ps->Zv n ps->2<=n->ZI2 n ps->Q (.ref r) H'
def OkP(n:Int)(p:Int × Int):Prop:=0<=p.1/\p.1<n/\0<=p.2/\p.2<n
def LkP(n:Int)(P:Int × Int->Prop):Prop:=∀ j:Nat,(j:Int)+1<n->∃ p,P p/\p.2=(j:Int)+1/\0<=p.1/\p.1<(j:Int)+1
theorem ZU7{n:Int}{ps:List (Int × Int)}(h:LkP n λp=>p∈ps):ZI2 n ps:=by
 have key:∀(m i:Nat),i<=m->i<n.toNat->Conn (edN ps) i 0:=by
  intro m
  induction m with
  | zero=>intro i hi _;rw[show i=0 by lia];exact .refl _
  | succ m ih =>
   intro i hi hn;by_cases c:i=0
   ·rw[c];exact .refl _
   obtain⟨p,hp,e,p0,p1⟩:=h (i - 1) (by grind);have c2:=ih p.1.toNat (by lia) (by grind)
   have ed:Conn (edN ps) p.1.toNat p.2.toNat:=.edge (YC.mpr ⟨p,hp,rfl⟩);rw[show i=p.2.toNat by grind];exact ed.symm.trans c2
 exact joined_ed.mpr λi j hi hj=>(key i i (Yy8 _) hi).trans (key j j (Yy8 _) hj).symm
theorem Zt11{rs:List (Int × Int)}{i:Nat}{g p:Int × Int}(h:rs[i]?=some g)(hp:p∈rs):p∈rs.eraseIdx i\/p=g:=by
 obtain⟨hi,e⟩:=Yy1.mp h;rw[List.eraseIdx_eq_take_drop_succ];rw[<- List.take_append_drop i rs,Yy33 hi,e,Yy7,Yf]at hp;rw[Yy7];rcases hp with q | q | q
 ·exact .inl (.inl q)
 ·exact .inr q
 ·exact .inl (.inr q)
theorem Zr6{n:Int}{ps:List (Int × Int)}{g:Int × Int}(h:∀ p∈ps,OkP n p)(hg:OkP n g):∀ p∈ps++[g],OkP n p:=λp hp=>by
 rcases Yy7.mp hp with e | e
 ·exact h p e
 ·rw[Yy2.mp e];exact hg
theorem scZR:FnScope ["script","head","count","more","numbers","ties","k","told","m"] ["script"] (Zz7 sZR):=⟨rfl,rfl,rfl,by decide +kernel,rfl,by decide +kernel,by decide +kernel⟩
theorem okZR (T:Txt K mg t):FnOk P w K mg base CX0 4 t.aZR t.dZR ["script"] (spZR K):=by
 refine T.fZR.ok scZR (λvs H Q E h=>?_) (λcdv A outer s H vs Q E hr h=>?_)
 ·obtain⟨a,ns,rfl,_⟩:=h;rfl
 ·obtain⟨a,ns,rfl,hS,hn63,q⟩:=h;refine⟨_,(Zz2 (Zj (i:=1) scZR.nd rfl (Or.inl rfl) (Zq ZQ (Zz9 (okZL T) (hr.mono (by decide)) rfl T.mZL T.fZL.kp T.bZL .nil Zs (Zz0 (pv 0) (Zz0 Za Zz3))) (Zq Zz33 Za Za)))
   (Zz2 (Zj (i:=2) scZR.nd rfl (Or.inl rfl) (Zq Ze1 Za (Zq ZQ (pv 1) Za)))
   (Zz2 (Zj (i:=3) scZR.nd rfl (Or.inl rfl) (Zq ZQ (Zq ZS1 (pv 1) Za) Za))
   (Zz2 (Zn1 (ZE2 (Zz9 (okZP T) (hr.mono (by decide)) rfl T.mZP T.fZP.kp T.bZP .nil Zs (Zz0 (pv 0) Zz3)))
   (Zz2 (Zj (i:=2) scZR.nd rfl (Or.inl rfl) (Zq Ze1 Za (Zq ZQ (pv 1) Za)))
   (Zz8 (Zj (i:=3) scZR.nd rfl (Or.inl rfl) (Zq ZQ (Zq ZS1 (pv 1) Za) (Zq ZG1 Za (pv 2))))))
   Zn)
   (Zz2 (Zj (i:=4) scZR.nd rfl (Or.inr rfl) (Zz9 (okZO T) (hr.mono (by decide)) rfl T.mZO T.fZO.kp T.bZO .nil Zs (Zz0 (pv 0) (Zz0 (Zq Zm6 Za (Zq Ze1 (pv 2) (pv 3))) Zz3))))
   (Zz2 (Zn1 (Zf Zq3 (Zq ZQ (Zz9 (okZL T) (hr.mono (by decide)) rfl T.mZL T.fZL.kp T.bZL .nil Zs (Zz0 (pv 0) (Zz0 Za Zz3))) Za) Za (Zp _))
   (Zz8 (Zj (i:=4) scZR.nd rfl (Or.inr rfl) (Zz9 (okZN T) (hr.mono (by decide)) rfl T.mZN T.fZN.kp T.bZN .nil Zs (Zz0 (pv 0) (Zz0 (Zq Zm6 Za (Zq Ze1 (pv 2) (pv 3))) Zz3)))))
   Zn)
   (Zz2 (Zr7 (i:=5) rfl scZR.nd rfl rfl (sc0:=Zz7 sZR) (N0:=["script","head","count","more","numbers","ties","k","told","m"]) (N':=["k","numbers"]) (o:=1) (fr:=[4]) ⟨rfl,by decide +kernel,by decide +kernel,by decide +kernel,rfl,by decide +kernel⟩ (ZA1 rfl T.n_range (Zz0 (Zq ZG1 (pv 2) Za) Zz3)) (Zy (by decide)) (λ_ _ _ _=>(Zd (i:=0) (show List.Nodup (["k","numbers"]:List Str) by decide +kernel) rfl (Or.inl rfl))) (λ_ _ _ _=>Zz91) (λ_ _ _ _=>(Zd1 (Zz0 (Zq ZQ (ZP (Ze K) (pv 1) (pv 0) (λ_ _=>rfl)) (Zq Ze1 (pv 0) Za)) (Zz0 (Zq Ze1 (pv 0) Za) Zz3)))))
   (Zz2 (ZP1 Yy04 rfl (ZA1 rfl T.n_range (Zz0 (pv 3) Zz3)) (Zd (i:=6) scZR.nd rfl (Or.inl rfl))
   (Zz8 (Za1 (Zz52 K YT Y0O Y0N ZT1 (pv 5) (Zz0 (Zd1 (Zz0 (Zq ZQ (ZP (Ze K) (pv 4) (Zq Ze1 (pv 2) (Zq Zm6 Za (pv 6))) (λ_ _=>rfl)) (pv 2)) (Zz0 (Zq ZQ (ZP (Ze K) (pv 4) (Zq Ze1 (Zq Ze1 (pv 2) (Zq Zm6 Za (pv 6))) Za) (λ_ _=>rfl)) (pv 2)) Zz3))) Zz3)))))
   (Zz2 (Zj (i:=7) scZR.nd rfl (Or.inl rfl) (Zp1 Zz3))
   (Zz2 (Zj (i:=8) scZR.nd rfl (Or.inl rfl) (Zz9 (okZM T) (hr.mono (by decide)) rfl T.mZM T.fZM.kp T.bZM .nil Zs (Zz0 (Zq ZQ (Zz9 (okZL T) (hr.mono (by decide)) rfl T.mZL T.fZL.kp T.bZL .nil Zs (Zz0 (pv 0) (Zz0 Za Zz3))) (Zq Zz33 Za Za)) (Zz0 Za Zz3))))
   (Zz2 (Zg6 Yy04 (Zf Zx11 (Zg (Zo K) (by rfl) T.n_len Boot.«len» (Zz0 (pv 5) Zz3)) Za (Zp _))
   (Zz2 (Zj (i:=8) scZR.nd rfl (Or.inl rfl) (Zz9 (okZM T) (hr.mono (by decide)) rfl T.mZM T.fZM.kp T.bZM .nil Zs (Zz0 (pv 8) (Zz0 Za Zz3))))
   (Zz8 (Za1 (Zz52 K YT Y0O Y0N ZT1 (pv 7) (Zz0 (Zz52 K YT Y3u Y3t Zu6 (pv 5) (Zz0 (Zq ZQ (Zq ZS1 (pv 8) Za) (Zg (Zo K) (by rfl) T.n_len Boot.«len» (Zz0 (pv 5) Zz3))) Zz3)) Zz3))))))
   (Zz8 (Zh (Zd1 (Zz0 (pv 2) (Zz0 (pv 7) Zz3)))))))))))))))),?_⟩
  have two:2<=sizeLine:=by decide
  refine⟨_,rfl,a,ns,0,rfl,hS,by decide,λc1=>⟨_,_,rfl,rfl,⟨by decide,by decide,by decide⟩,_,_,rfl,rfl,(by show(0:Int)<10 ^ 30;decide),?_⟩⟩;refine nm ?_;dsimp only;obtain⟨hd,ehd⟩:∃ hd,hd=c1 % 10 ^ (30:Int).toNat:=⟨_,rfl⟩;rw[<- ehd];refine⟨_,rfl,_,_,rfl,rfl,(by show(0:Int)<7;decide),_,_,rfl,rfl,?_⟩;refine⟨_,rfl,_,_,rfl,rfl,⟨by decide,by decide⟩,_,_,rfl,rfl,(by show(0:Int)<12;decide),?_⟩;refine nm ?_;dsimp only [List.set];refine Zq12 (λσ H1=>∃ n mo:Int,H1=H/\2<=n/\n<=12/\0<=mo/\n - 1+mo<=30/\σ=[some (.ref a),some (.int hd),some (.int n),some (.int mo),none,none,none,none,none]) ?_ ?_;rotate_left
  ·intro Kn hK;refine⟨_,rfl,a,ns,rfl,hS,λb=>⟨_,rfl,?_⟩⟩;have a0:=Yy02 hd (show(7:Int)≠0 by decide)
   have a1:=Yy01 hd (show(0:Int)<7 by decide);have b0:=Yy02 (hd / 11) (show(12:Int)≠0 by decide)
   have b1:=Yy01 (hd / 11) (show(0:Int)<12 by decide);have d0:=Yy02 hd (show(11:Int)≠0 by decide)
   have d1:=Yy01 hd (show(0:Int)<11 by decide);have e0:=Yy02 (hd / 11) (show 32 - (2+hd % 11)≠0 by lia)
   have e1:=Yy01 (hd / 11) (show 0<32 - (2+hd % 11) by grind);refine itb (λ_=>?_) (λ_=>hK _ _ ⟨_,_,rfl,by grind,by grind,b0,by lia,rfl⟩);refine⟨_,rfl,_,_,rfl,rfl,(by show(0:Int)<11;decide),_,_,rfl,rfl,?_⟩;refine⟨_,rfl,_,_,rfl,rfl,⟨by decide,by decide⟩,_,rfl,_,_,rfl,rfl,_,_,rfl,rfl,(by show(0:Int)<32 - (2+hd % 11);omega),?_⟩;exact hK _ _ ⟨_,_,rfl,by grind,by grind,e0,by grind,rfl⟩
  rintro σ H1 ⟨n,mo,rfl,n2,n12,m0,nm30,rfl⟩;refine⟨_,rfl,_,rfl,_,rfl,_,_,rfl,rfl,_,_,rfl,rfl,.inl ⟨by decide,by decide⟩,a,ns,_,rfl,hS,hn63,by lia,by lia,λnl L H2 s2 hnl hLl hL0=>?_⟩;refine nm ?_;dsimp only [List.set];refine Zq12 (λσ H3=>∃(nl:Addr) (L:List Int),Same H1 H3/\H3 nl=some (.lst (IL L))/\(L.length:Int)=2 * (n+mo)/\(∀ z∈L,0<=z)/\σ=[some (.ref a),some (.int hd),some (.int n),some (.int mo),some (.ref nl),none,none,none,none]) ?_ ?_;rotate_left
  ·intro Kn hK;refine⟨_,rfl,a,ns,1,rfl,s2.seq hS,by decide,λc2=>⟨_,_,rfl,rfl,(by show(0:Int)<2;decide),rfl,_,rfl,?_⟩⟩;rw[Zx];refine itd2 (λ_=>?_) (λ_=>hK _ _ ⟨nl,L,s2,hnl,hLl,hL0,rfl⟩);exact⟨_,rfl,_,rfl,_,rfl,_,_,rfl,rfl,_,_,rfl,rfl,.inl ⟨by decide,by decide⟩,a,ns,_,rfl,s2.seq hS,by lia,by lia,λdl M H3 s3 hdl hMl hM0=>hK _ _ ⟨dl,M,s2.trans s3,hdl,hMl,hM0,rfl⟩⟩
  clear hnl hLl hL0 s2;rintro σ H3 ⟨nl,L,s3,hnl,hLl,hL0,rfl⟩;have at_:∀ i:Int,0<=i->i<2 * (n+mo)->∃ z,atI (IL L) i=some (.int z):=λi i0 i1=>by obtain⟨z,hz⟩:∃ z,L[i.toNat]?=some z:=⟨_,Yy0 (by lia)⟩;exact⟨z,ZK (n:=i.toNat) (by lia) (ZR2 hz)⟩
  refine⟨_,rfl,_,_,rfl,rfl,_,rfl,by lia,by lia,Zz83 (lo:=0) (n:=(n - 1).toNat) (λi ys H4=>Same H3 H4/\∃ ps:List (Int × Int),PairsV H4 ys ps/\ps.length=i/\(∀ p∈ps,OkP n p)/\LkP ((i:Int)+1) λp=>p∈ps) ⟨Same.refl _,[],PairsV.nil,rfl,λp h=>(by cases h),λj h=>absurd h (by lia)⟩ (Zm (by lia)) (λi ys H4 _ ⟨_,ps,hP,l,_⟩=>by rw[hP.1,l];exact Yy8 _) ?_ ?_⟩
  ·rintro i ys H4 hi ⟨s4,ps,hP,hl,hok,hlk⟩ S hSS;obtain⟨z,hz⟩:=at_ (0+(i:Int)) (by lia) (by grind);have z0:=Yy02 z (show 0+(i:Int)+1≠0 by lia)
   have z1:=Yy01 z (show 0<0+(i:Int)+1 by lia);refine⟨_,rfl,_,rfl,nl,_,_,_,rfl,rfl,SqL.of (s4 _ _ hnl),hz,_,rfl,_,_,rfl,rfl,_,_,rfl,rfl,(by show 0<0+(i:Int)+1;omega),_,rfl,_,_,rfl,rfl,two,λtp htp=>?_⟩;have u5:=Zz5 (o:=.tup [.int (z % (0+(i:Int)+1)),.int (0+(i:Int)+1)]) htp
   refine hSS _ _ ⟨s4.trans u5,ps++[(z % (0+(i:Int)+1),0+(i:Int)+1)],(hP.same u5).snoc ⟨tp,rfl,Zz1⟩,by rw[Yy4,Yj,hl],Zr6 hok ⟨z0,by show z % (0+(i:Int)+1)<n;grind,by show 0<=0+(i:Int)+1;lia,by show 0+(i:Int)+1<n;grind⟩,λj hj=>?_⟩;by_cases c:j=i
   ·exact⟨_,Yd _ (Yy2.mpr rfl),by show 0+(i:Int)+1=_;lia,z0,by show z % (0+(i:Int)+1)<_;lia⟩
   ·obtain⟨p,h1,h2⟩:=hlk j (by lia);exact⟨p,Yc _ h1,h2⟩
  rintro ys0 H4 ⟨s4,ps0,hP0,hl0,hok0,hlk0⟩ tA htA;have htA0:H1 tA=none:=s3.free (s4.free htA)
  have u5:=Zz5 (o:=.lst ys0) htA;have k5:=Zz1 (H:=H4) (a:=tA) (o:=.lst ys0)
  have hP5:=hP0.same u5;have s5:=s3.trans (s4.trans u5)
  have hnl5:=u5 _ _ (s4 _ _ hnl);have nt:nl≠tA:=λe=>by rw[e,s4.free htA]at hnl;cases hnl
  generalize upd H4 tA (.lst ys0)=H5 at *;refine nm ?_;dsimp only [List.set];have elk:((n - 1).toNat:Int)+1=n:=by grind
  rw[elk]at hlk0;refine⟨_,rfl,_,rfl,by lia,by lia,ZW4 (lo:=0) (n:=mo.toNat) (λi σ H6=>∃(xs:List V) (ps:List (Int × Int)) (v6:Option V),σ=[some (.ref a),some (.int hd),some (.int n),some (.int mo),some (.ref nl),some (.ref tA),v6,none,none]/\Same H1 H6/\H6 nl=some (.lst (IL L))/\H6 tA=some (.lst xs)/\PairsV H6 xs ps/\ps.length=(n - 1).toNat+i/\(∀ p∈ps,OkP n p)/\LkP n λp=>p∈ps) ⟨ys0,ps0,none,rfl,s5,hnl5,k5,hP5,by lia,hok0,hlk0⟩ ?_ ?_⟩
  ·rintro i σ H6 hi ⟨xs,ps,v6,rfl,s6,hnl6,k6,hP,hl,hok,hlk⟩;refine nm ?_;dsimp only [List.set];obtain⟨x,hx⟩:=at_ (n+2 * (0+(i:Int))) (by lia) (by lia);obtain⟨y,hy⟩:=at_ (n+2 * (0+(i:Int))+1) (by lia) (by lia);have np:(0:Int)<n:=by lia
   have x0:=Yy02 x (show n≠0 by lia);have x1:=Yy01 x np
   have y0:=Yy02 y (show n≠0 by lia);have y1:=Yy01 y np
   refine⟨_,rfl,.inl ⟨rfl,_,SqL.of k6⟩,_,rfl,_,rfl,_,rfl,_,_,rfl,rfl,.inl ⟨by decide,by decide⟩,_,_,rfl,rfl,nl,_,_,_,rfl,rfl,SqL.of hnl6,hx,_,rfl,_,_,rfl,rfl,np,_,rfl,_,rfl,_,rfl,_,_,rfl,rfl,.inl ⟨by decide,by decide⟩,_,_,rfl,rfl,_,_,rfl,rfl,nl,_,_,_,rfl,rfl,SqL.of hnl6,hy,_,rfl,_,_,rfl,rfl,np,two,λtp htp=>?_⟩;have u7:=Zz5 (o:=.tup [.int (x % n),.int (y % n)]) htp
   have k7:=u7 _ _ k6;refine⟨tA,xs,_,rfl,rfl,k7,Zm (by rw[hP.1];lia),?_⟩;refine⟨_,ps++[(x % n,y % n)],_,rfl,ZG htA0 (s6.trans u7),by rw[Zb nt];exact u7 _ _ hnl6,Zz1,((hP.same u7).snoc ⟨tp,rfl,Zz1⟩).mut k7,by rw[Yy4,Yj,hl];lia,Zr6 hok ⟨x0,x1,y0,y1⟩,λj hj=>?_⟩;obtain⟨p,h1,h2⟩:=hlk j hj;exact⟨p,Yc _ h1,h2⟩
  rintro σ H6 ⟨xs,ps,v6,rfl,s6,hnl6,k6,hP,hl,hok,hlk⟩;refine⟨Yl _,λtd htd=>?_⟩;have u7:=Zz5 (o:=.lst []) htd
  have k7:=Zz1 (H:=H6) (a:=td) (o:=.lst []);have kA7:=u7 _ _ k6
  have rt:tA≠td:=Zc k6 htd;have hP7:=hP.same u7
  have s7:=s6.trans u7;have htd0:H1 td=none:=s6.free htd
  generalize upd H6 td (.lst [])=H7 at *;refine nm ?_;dsimp only [List.set];refine⟨_,rfl,a,ns,1,rfl,s7.seq hS,by decide,λc3=>⟨_,_,rfl,rfl,⟨by decide,by decide,by decide⟩,_,_,rfl,rfl,(by show(0:Int)<10 ^ 60;decide),_,44,rfl,by decide,by decide,λm m0'=>?_⟩⟩;refine nm ?_;dsimp only [List.set];refine⟨λk σ H8=>∃(xs ys:List V) (rs ts:List (Int × Int)) (mm:Int),σ=[some (.ref a),some (.int hd),some (.int n),some (.int mo),some (.ref nl),some (.ref tA),v6,some (.ref td),some (.int mm)]/\Same H1 H8/\H8 tA=some (.lst xs)/\PairsV H8 xs rs/\H8 td=some (.lst ys)/\PairsV H8 ys ts/\rs.length=k/\ts.length+k<=30/\(∀ p∈rs,OkP n p)/\(∀ p∈ts,OkP n p)/\LkP n λp=>p∈rs\/p∈ts,
   ⟨ps.length,xs,[],ps,[],m,rfl,s7,kA7,hP7,k7,PairsV.nil,rfl,by show 0+_<=30;lia,hok,λp h=>(by cases h),λj hj=>by obtain⟨p,h1,h2⟩:=hlk j hj;exact⟨p,.inl h1,h2⟩⟩,?_⟩
  clear hP hl hok hlk hP7 kA7 k6;rintro k σ H8 ⟨xs,ys,rs,ts,mm,rfl,s8,kr,hP,kt,hT,hrk,htk,hro,hto,hlk⟩;have xl:=hP.1
  have yl:=hT.1;refine⟨_,rfl,tA,xs,rfl,.inl (SqL.of kr),_,_,rfl,rfl,_,rfl,?_⟩;refine itd2 (λhpos=>?_) (λhpos=>?_)
  ·refine⟨_,λσ' H' h=>h,?_⟩;refine⟨_,rfl,mm,45,rfl,by decide,by decide,λm2 m20=>?_⟩;refine nm ?_;dsimp only [List.set];have l0:(0:Int)<(xs.length:Int):=by lia
   have a0:=Yy02 (m2 / 8) (show(xs.length:Int)≠0 by lia);have a1:=Yy01 (m2 / 8) l0
   obtain⟨at',hat⟩:∃ at',m2 / 8 % (xs.length:Int)=at':=⟨_,rfl⟩;rw[hat]at a0 a1;obtain⟨g,hg⟩:∃ g,rs[at'.toNat]?=some g:=⟨_,Yy0 (by grind)⟩;obtain⟨y1,hy1,tt,rfl,htt⟩:=hP.2 _ _ hg;have gi:=hro g (Yy9 hg)
   have ttA:tt≠tA:=Zs7 htt kr (λz=>nomatch z);refine⟨_,rfl,.inl ⟨rfl,_,SqL.of kt⟩,_,rfl,.inl ⟨rfl,_,SqL.of kr⟩,_,rfl,_,_,rfl,rfl,⟨by decide,by decide⟩,_,rfl,tA,xs,rfl,.inl (SqL.of kr),_,_,rfl,rfl,l0,?_⟩;refine⟨tA,xs,at',at'.toNat,.ref tt,rfl,by rw[<- hat],kr,by lia,by lia,Za11 a0 (by grind),hy1,?_⟩;have hP9:PairsV (upd H8 tA (.lst (xs.eraseIdx at'.toNat))) (xs.eraseIdx at'.toNat) (rs.eraseIdx at'.toNat):=(show Bears (PairV _) _ _ from hP.mut (l:=tA) (zs:=xs.eraseIdx at'.toNat) kr).erase at'.toNat
   have hT9:=hT.mut (l:=tA) (zs:=xs.eraseIdx at'.toNat) kr;have kr9:=Zz1 (H:=H8) (a:=tA) (o:=.lst (xs.eraseIdx at'.toNat))
   have kt9:(upd H8 tA (.lst (xs.eraseIdx at'.toNat))) td=some (.lst ys):=by rw[Zb (YY rt)];exact kt
   have ht9:(upd H8 tA (.lst (xs.eraseIdx at'.toNat))) tt=some (.tup [.int g.1,.int g.2]):=by rw[Zb ttA];exact htt
   have s9:Same H1 (upd H8 tA (.lst (xs.eraseIdx at'.toNat))):=ZG htA0 s8;generalize upd H8 tA (.lst (xs.eraseIdx at'.toNat))=H9 at *;have elen:(rs.eraseIdx at'.toNat).length+1=rs.length:=by
    rw[Y1H,if_pos (Yy1.mp hg).1]
    have:=(Yy1.mp hg).1
    lia
   refine⟨td,ys,_,rfl,rfl,kt9,Zm (by lia),k - 1,by lia,?_⟩;refine⟨xs.eraseIdx at'.toNat,ys++[.ref tt],rs.eraseIdx at'.toNat,ts++[g],m2,rfl,ZG htd0 s9,by rw[Zb rt];exact kr9,hP9.mut (l:=td) (zs:=ys++[.ref tt]) kt9,Zz1,(hT9.snoc ⟨tt,rfl,ht9⟩).mut (l:=td) (zs:=ys++[.ref tt]) kt9,by lia,by rw[Yy4,Yj];lia,λp hp=>hro p (Y1U hp),Zr6 hto gi,λj hj=>?_⟩;obtain⟨p,h1,h2⟩:=hlk j hj;refine⟨p,?_,h2⟩;rcases h1 with h1 | h1
   ·rcases Zt11 hg h1 with e | e
    ·exact .inl e
    ·exact .inr (Yd _ (Yy2.mpr e))
   ·exact .inr (Yc _ h1)
  ·have k00:k=0:=by lia
   subst k00;have r0:rs=[]:=YN.mp hrk
   subst r0;refine⟨_,rfl,_,rfl,two,λr hr'=>?_⟩;have u9:=Zz5 (o:=.tup [.int n,.ref td]) hr'
   refine q r td n ys ts _ (s8.trans u9) Zz1 htd0 (u9 _ _ kt) (hT.same u9) ⟨by lia,by lia,by lia,λp hp=>hto p hp⟩ n2 (ZU7 λj hj=>?_);obtain⟨p,h1,h2⟩:=hlk j hj;exact⟨p,h1.resolve_left (λe=>by cases e),h2⟩
def spZS(K:PySem.W.Frag)(C:Addr):Sp:=λvs H Q _=>∃(w:Addr) (n:Int) (ps:List (Int × Int)),vs=[.ref w]/\WebAt C H w n ps/\Zv n ps/\ZI2 n ps /\
 ∀(r:Addr) (H':Hp),Same H H'->H' r=some (.lst (IL (opL n ps [] [] (grd n.toNat ps ps.length))))->Q (.ref r) H'
theorem scZS:FnScope ["web","base"] ["web"] (Zz7 sZS):=⟨rfl,rfl,rfl,by decide +kernel,rfl,by decide +kernel,by decide +kernel⟩
theorem okZS (T:Txt K mg t):FnOk P w K mg base CX0 8 t.aZS t.dZS ["web"] (spZS K t.A_Web):=by
 refine T.fZS.ok scZS (λvs H Q E h=>?_) (λcdv A outer s H vs Q E hr h=>?_)
 ·obtain⟨w,n,ps,rfl,_⟩:=h;rfl
 ·obtain⟨w,n,ps,rfl,hW,hG,hJ,q⟩:=h;refine⟨_,(Zz2 (Zj (i:=1) scZS.nd rfl (Or.inr rfl) (Zz9 (okZs T) (hr.mono (by decide)) rfl T.mZs T.fZs.kp T.bZs .nil Zs (Zz0 (pv 0) Zz3)))
   (Zz8 (Zh (Zz84 rfl (sc0:=Zz7 sZS) (N0:=["web","base"]) (N':=["tie","pair","base"]) (o:=2) (fr:=[1]) ⟨rfl,by decide +kernel,by decide +kernel,by decide +kernel,rfl,by decide +kernel⟩ (Zo1 K rfl T.n_enumerate (Zz0 (Zk K (pv 0) rfl) Zz3)) (ZN2 (ZU (by decide) (ZU (by decide) ZO2))) (λ_ _ _ _=>(Zu1 (n:=2) K rfl (Zt (Zd (i:=0) (show List.Nodup (["tie","pair","base"]:List Str) by decide +kernel) rfl (Or.inl rfl)) (Zt (Zd (i:=1) (show List.Nodup (["tie","pair","base"]:List Str) by decide +kernel) rfl (Or.inl rfl)) Zc1)))) (λ_ _ _ _=>(Zt1 (PW.pt (Zx9 (Zf ZK5 (ZP (ZN K) (pv 1) Za (λ_ _=>rfl)) (ZP (ZN K) (pv 1) Za (λ_ _=>rfl)) (Zp _)) (Zd6 (Zf (ZB1 K) (pv 0) (pv 2) rfl)))))) (λ_ _ _ _=>(pv 0)))))),?_⟩
  obtain⟨g1,g2,g3,g4⟩:=id hG;have hf:=(ZY1 hG).mp hJ
  refine⟨_,rfl,w,n,ps,rfl,hW,hG,λ_ b H1 s1 hb1=>?_,λh=>absurd h hf⟩;refine nm ?_;dsimp only [List.set];unfold opL at q;generalize grd n.toNat ps ps.length=F at *;have hW1:=hW.same s1
  obtain⟨dx,tl,xs,h1,h2,h3⟩:=id hW1;have hlx:=h3.1
  refine⟨_,rfl,w,_,dx,_,_,rfl,h1,T.cl_Web,T.n_Web_ties,Zz31 _ _,tl,rfl,⟨_,SqL.of h2⟩,ZL3 (K:=K) (a:=tl) (xs:=xs) (λi ys H3=>Same H1 H3/\i<=xs.length/\ys=IL (opn (pms n.toNat (Zz6 ps [])) ps ([]++[]++F) i)) ⟨Same.refl _,Yl _,rfl⟩ (Zm (by lia))
   (λi ys H3 _ h=>by obtain⟨e,_,ey⟩:=h;exact⟨SqL.of (e _ _ h2),by rw[ey,Zz4];exact ZG3 _ _ _ _⟩) ?_ ?_⟩
  ·rintro i x ys H3 pt hpt hi ⟨s3,hil,rfl⟩ S hSS;obtain⟨p,hpi,tt,rfl,htt⟩:=h3.at hi;have hil':i<xs.length:=(Yy1.mp hi).1
   have s4:Same H3 (upd H3 pt (.tup [.int i,.ref tt])):=Zz5 hpt;have s34:=s3.trans s4
   have htt4:=s34 _ _ htt;have hb4:=s34 _ _ hb1
   have ed:ps.getD i (0,0)=p:=ZO hpi;have me:=Zv6 (z:=(i:Int)) hG (by lia) (by lia)
   rw[YA,ed]at me;have t0:atI ([.int p.1,.int p.2]:List V) 0=some (.int p.1):=rfl
   have t1:atI ([.int p.1,.int p.2]:List V) 1=some (.int p.2):=rfl;have hs:=Zk6 (pms n.toNat (Zz6 ps [])) ps ([]++[]++F) i
   rw[ed]at hs;rw[show Zz6 ps []=[] from rfl,me.1,me.2]at hs;refine⟨pt,_,rfl,SqT.of Zz1,rfl,_,_,rfl,_,_,rfl,rfl,?_⟩;refine⟨_,rfl,tt,_,0,_,rfl,rfl,SqT.of htt4,t0,_,rfl,tt,_,1,_,rfl,rfl,SqT.of htt4,t1,rfl,_,rfl,?_⟩;rw[Zx];refine itn2 (λhx=>?_) (λhx=>?_)
   ·refine hSS _ _ ⟨s34,hil',?_⟩;rw[show Zz6 ps []=[] from rfl,hs,if_neg (λh=>h.2 hx)];exact(YV IL (YG _)).symm
   refine⟨_,rfl,_,rfl,b,_,rfl,.inr (SqT.of hb4),rfl,Zz _,_,rfl,?_⟩;rw[ZL];refine itn2 (λhe=>?_) (λhe=>?_)
   ·refine hSS _ _ ⟨s34,hil',?_⟩;rw[show Zz6 ps []=[] from rfl,hs,if_neg (λh=>h.1 he)];exact(YV IL (YG _)).symm
   ·refine⟨_,rfl,hSS _ _ ⟨s34,hil',?_⟩⟩;rw[show Zz6 ps []=[] from rfl,hs,if_pos ⟨he,hx⟩,ZV]
  ·rintro ys H3 ⟨s3,_,rfl⟩ p hp;rw[hlx];exact q p _ (s1.trans (s3.trans (Zz5 hp))) Zz1
def spZT(K:PySem.W.Frag)(C:Addr):Sp:=λvs H Q _=>∃(w:Addr) (n:Int) (ps:List (Int × Int)),vs=[.ref w]/\WebAt C H w n ps/\Zv n ps/\ZI2 n ps /\
 ∀(r:Addr) (ld fu:Option Int) (H':Hp),Same H H'->H' r=some (.lst [optV ld,optV fu])->(ld=none↔opL n ps [] [] (grd n.toNat ps ps.length)=[])->(∀ y,ld=some y->y∈opL n ps [] [] (grd n.toNat ps ps.length)/\∀ z∈opL n ps [] [] (grd n.toNat ps ps.length),y<=z) ->
  (∀ z,ld=some z->(fu=none↔unL n ps [] [] (grd n.toNat ps ps.length) (some z)=[])/\∀ y,fu=some y->y∈unL n ps [] [] (grd n.toNat ps ps.length) (some z)/\∀ v∈unL n ps [] [] (grd n.toNat ps ps.length) (some z),y<=v)->Q (.ref r) H'
theorem ZM3{l:List Int}{y:Int}(h:l.Pairwise (· < ·))(e:l[0]?=some y):y∈l/\∀ z∈l,y<=z:=by
 cases l with
 | nil=>cases e
 | cons x l =>
  cases e;refine⟨Ye,λz hz=>?_⟩;rcases Yf.mp hz with e | e
  ·rw[e];exact Y1j _
  ·exact Y1k ((YK.mp h).1 z e)
theorem scZT:FnScope ["web","free","ends","others"] ["web"] (Zz7 sZT):=⟨rfl,rfl,rfl,by decide +kernel,rfl,by decide +kernel,by decide +kernel⟩
theorem okZT (T:Txt K mg t):FnOk P w K mg base CX0 9 t.aZT t.dZT ["web"] (spZT K t.A_Web):=by
 refine T.fZT.ok scZT (λvs H Q E h=>?_) (λcdv A outer s H vs Q E hr h=>?_)
 ·obtain⟨w,n,ps,rfl,_⟩:=h;rfl
 ·obtain⟨w,n,ps,rfl,hW,hG,hJ,q⟩:=h;refine⟨_,(Zz2 (Zj (i:=1) scZT.nd rfl (Or.inl rfl) (Zz9 (okZS T) (hr.mono (by decide)) rfl T.mZS T.fZS.kp T.bZS .nil Zs (Zz0 (pv 0) Zz3)))
   (Zz2 (Zn1 (Zf Zq3 (Zg (Zo K) (by rfl) T.n_len Boot.«len» (Zz0 (pv 1) Zz3)) Za (Zp _))
   (Zz8 (Zh (Zp1 (Zz0 ZF2 (Zz0 ZF2 Zz3)))))
   Zn)
   (Zz2 (Zj (i:=2) scZT.nd rfl (Or.inr rfl) (Zg (ZM1 K) (by rfl) T.n_sorted Boot.«sorted» (Zz0 (ZP (Ze K) (Zk K (pv 0) rfl) (ZP (Ze K) (pv 1) Za (λ_ _=>rfl)) (λ_ _=>rfl)) Zz3)))
   (Zz2 (Zr7 (i:=3) rfl scZT.nd rfl rfl (sc0:=Zz7 sZT) (N0:=["web","free","ends","others"]) (N':=["tie","web","ends"]) (o:=1) (fr:=[0,2]) ⟨rfl,by decide +kernel,by decide +kernel,by decide +kernel,rfl,by decide +kernel⟩ (ZZ K (pv 1)) (Zy (by decide)) (λ_ _ _ _=>(Zd (i:=0) (show List.Nodup (["tie","web","ends"]:List Str) by decide +kernel) rfl (Or.inl rfl))) (λ_ _ _ _=>(Zt1 (Zf (ZF8 K (hu8 hr)) (Zg (ZM1 K) (by rfl) T.n_sorted Boot.«sorted» (Zz0 (ZP (Ze K) (Zk K (pv 1) rfl) (pv 0) (λ_ _=>rfl)) Zz3)) (pv 2) (Zp _)))) (λ_ _ _ _=>(pv 0)))
   (Zz8 (Zh (Zp1 (Zz0 (ZP (Ze K) (pv 1) Za (λ_ _=>rfl)) (Zz0 (ZP (Ze K) (Zq Zp6 (pv 3) (Zp1 (Zz0 ZF2 Zz3))) Za (λ_ _=>rfl)) Zz3))))))))),?_⟩
  obtain⟨g1,g2,g3,g4⟩:=id hG;have one:1<=sizeLine:=by decide
  have two:2<=sizeLine:=by decide
  refine⟨_,rfl,w,n,ps,rfl,hW,hG,hJ,λfA H1 s1 hf1=>?_⟩;refine nm ?_;dsimp only [List.set];generalize grd n.toNat ps ps.length=F at *;have hob:∀ z∈opL n ps [] [] F,0<=z/\z<(ps.length:Int):=λz hz=>ZF3 hz
  have hol:(opL n ps [] [] F).length<=ps.length:=ZG3 _ _ _ _;have hasc:(opL n ps [] [] F).Pairwise (· < ·):=(Yz3 _).filter _
  have huasc:=Zo8 n ps [] [] F;obtain⟨op,hop⟩:∃ op,opL n ps [] [] F=op:=⟨_,rfl⟩;rw[hop]at hf1 hob hol hasc q;refine⟨_,rfl,fA,_,rfl,.inl (SqL.of hf1),rfl,_,rfl,?_⟩;rw[Zx,Zz4];refine itd2 (λh0=>?_) (λh0=>?_)
  ·refine⟨two,λr hr=>?_⟩;have e:op=[]:=YN.mp (by lia)
   exact q r none none _ (s1.trans (Zz5 hr)) Zz1 ⟨λ_=>e,λ_=>rfl⟩ (λy h=>by cases h) (λz h=>by cases h)
  show(_:Prop);refine ZE4 ?_;obtain⟨z,hz⟩:∃ z,op[0]?=some z:=⟨_,Yy0 (by lia)⟩;have zop:=Yy9 hz
  obtain⟨z0,z1⟩:=hob z zop;have hW1:=hW.same s1
  obtain⟨dx,tl,xs,h1,h2,h3⟩:=id hW1;have tie:∀ v:Int,0<=v->v<(ps.length:Int)->∃ tt,atI xs v=some (.ref tt)/\H1 tt=some (.tup (IL [(ps.getD v.toNat (0,0)).1,(ps.getD v.toNat (0,0)).2])):=λv v0 v1=>by obtain⟨p,hp⟩:∃ p,ps[v.toNat]?=some p:=⟨_,Yy0 (by lia)⟩;obtain⟨u,hu,tt,rfl,htt⟩:=h3.2 _ p hp;rw[ZO hp];exact⟨tt,ZK (n:=v.toNat) (by lia) hu,htt⟩
  obtain⟨tt,hat,htt⟩:=tie z z0 z1;refine⟨_,rfl,w,_,dx,_,_,rfl,h1,T.cl_Web,T.n_Web_ties,Zz31 _ _,_,rfl,fA,_,0,.int z,rfl,rfl,SqL.of hf1,ZK (n:=0) rfl (ZR2 hz),tl,_,_,.ref tt,rfl,rfl,SqL.of h2,hat,?_⟩;refine⟨tt,[(ps.getD z.toNat (0,0)).1,(ps.getD z.toNat (0,0)).2],rfl,SqT.of htt,(by show 2<64;decide),λe1 he1 hs1 eA heA=>?_⟩;have u2:=Zz5 (o:=.lst (IL e1)) heA
  have k2:=Zz1 (H:=H1) (a:=eA) (o:=.lst (IL e1));generalize upd H1 eA (.lst (IL e1))=H2 at *;refine nm ?_;dsimp only [List.set];have hf2:=u2 _ _ hf1
  refine⟨_,rfl,fA,rfl,⟨_,SqL.of hf2⟩,ZH1 (K:=K) (a:=fA) (xs:=IL op) (λi ws H3=>Same H2 H3/\i<=op.length/\ws=IL ((op.take i).filter λv=>decide (v∉alL n ps [] [] F (some z)))) ⟨Same.refl _,Yl _,rfl⟩ (Zm (by rw[Zz4];lia))
   (λi ws H3 hi h=>by obtain⟨e,hi2,ew⟩:=h;exact⟨SqL.of (e _ _ hf2),by rw[ew,Zz4];exact Yt (YF ..) (by rw[Yz];lia)⟩) ?_ ?_⟩
  ·rintro i v ws H3 hi ⟨s3,hil,rfl⟩ S hSS;obtain⟨v,rfl,hv⟩:=Zz71 hi;have vop:=Yy9 hv
   obtain⟨v0,v1⟩:=hob v vop;have hil':i<op.length:=(Yy1.mp hv).1
   obtain⟨t2,hat2,ht2⟩:=tie v v0 v1;have s13:=u2.trans s3
   refine nm ?_;refine⟨_,rfl,w,_,dx,_,_,rfl,s13 _ _ h1,T.cl_Web,T.n_Web_ties,Zz31 _ _,_,rfl,tl,_,_,.ref t2,rfl,rfl,SqL.of (s13 _ _ h2),hat2,?_⟩;refine⟨t2,[(ps.getD v.toNat (0,0)).1,(ps.getD v.toNat (0,0)).2],rfl,SqT.of (s13 _ _ ht2),(by show 2<64;decide),λe2 he2 hs2 e2A he2A=>?_⟩;have u4:=Zz5 (o:=.lst (IL e2)) he2A
   refine⟨_,rfl,1,_,e2A,eA,rfl,rfl,by decide,Zh4 (SqL.of Zz1) (SqL.of (u4 _ _ (s3 _ _ k2))),_,rfl,?_⟩;have ed:decide (e2=e1)=decide (v∈alL n ps [] [] F (some z)):=by
    rw[Zv1 he1 hs1,Zv1 he2 hs2,Y1E];have mz:=Zv6 (z:=z) hG z0 z1
    have mv:=Zv6 (z:=v) hG v0 v1;have al:v∈alL n ps [] [] F (some z)↔eky (pms n.toNat (Zz6 ps [])) ps v=eky (pms n.toNat (Zz6 ps [])) ps z:=by
     unfold alL;rw[Yk,Yy00,hop];constructor
     ·rintro⟨_,y,e,h⟩;cases e;exact h
     ·exact λh=>⟨vop,z,rfl,h⟩
    rw[al];unfold eky;rw[show Zz6 ps []=[] from rfl,mz.1,mz.2,mv.1,mv.2];constructor
    ·intro e;injection e with e1 e2
     injection e2 with e2 _;exact Prod.ext e1 e2
    ·intro e';obtain⟨e1,e2⟩:=Prod.mk.inj e';rw[e1,e2]
   have s34:=s3.trans u4;show(if (!decide (e2=e1))=true then _ else _)
   rw[ed];refine itn2 (λhc=>?_) (λhc=>?_)
   ·refine hSS _ _ ⟨s34,hil',?_⟩;rw[ZX hv,if_neg (by simpa using hc),YG]
   ·refine⟨_,rfl,hSS _ _ ⟨s34,hil',?_⟩⟩;rw[ZX hv,if_pos (Yx hc),ZV]
  rintro ws H3 ⟨s3,_,rfl⟩ oA hoA;rw[Zz4,YJ];have eu:(op.filter λv=>decide (v∉alL n ps [] [] F (some z)))=unL n ps [] [] F (some z):=by rw[<- hop];rfl
  rw[eu];have hul:(unL n ps [] [] F (some z)).length<=30:=by rw[<- eu];exact Yt (YF ..) (by lia)
  have huasc:=huasc (some z);obtain⟨un,hun⟩:∃ un,unL n ps [] [] F (some z)=un:=⟨_,rfl⟩;rw[hun]at hul huasc ⊢;have u4:=Zz5 (o:=.lst (IL un)) hoA
  have k4:=Zz1 (H:=H3) (a:=oA) (o:=.lst (IL un));have s14:=u2.trans (s3.trans u4)
  have hf4:=s14 _ _ hf1;change tSeq _ _ _ _ (upd H3 oA (.lst (IL un)));generalize upd H3 oA (.lst (IL un))=H4 at *;refine nm ?_;dsimp only [List.set];refine⟨_,rfl,fA,_,0,.int z,rfl,rfl,SqL.of hf4,ZK (n:=0) rfl (ZR2 hz),?_⟩;refine⟨_,rfl,one,λnA hnA=>?_⟩;have u5:=Zz5 (o:=.lst [.non]) hnA
  refine⟨oA,nA,_,_,rfl,rfl,u5 _ _ k4,Zz1,ZN1 (by rw[Zz4];show _+1<=_;lia),λcA hcA=>?_⟩;have u6:=Zz5 (o:=.lst (IL un++[.non])) hcA
  obtain⟨fu,hfu,f1,f2⟩:∃ fu:Option Int,atI (IL un++[.non]) 0=some (optV fu)/\(fu=none↔un=[])/\∀ y,fu=some y->y∈un/\∀ v∈un,y<=v:=by
   cases un with
   | nil=>exact⟨none,rfl,⟨λ_=>rfl,λ_=>rfl⟩,λy h=>by cases h⟩
   | cons y l=>exact⟨some y,ZK (n:=0) rfl rfl,⟨λh=>(by cases h),λh=>(by cases h)⟩,λv h=>by cases h;exact ZM3 huasc rfl⟩
  refine⟨cA,_,0,optV fu,rfl,rfl,SqL.of Zz1,hfu,two,λr hr'=>?_⟩;refine q r (some z) fu _ (s1.trans (s14.trans (u5.trans (u6.trans (Zz5 hr'))))) Zz1 ⟨λh=>(by cases h),λh=>(by rw[h]at zop;cases zop)⟩ (λy h=>by cases h;exact ZM3 hasc hz) (λv h=>by cases h;rw[hun];exact⟨f1,f2⟩)
def spZU(K:PySem.W.Frag)(CP C Pt:Addr):Sp:=λvs H Q _=>∃(w l:Addr) (n:Int) (ps:List (Int × Int)) (z:Int) (fu:Option Int) (num:Int) (R:List (List Int)),vs=[.ref w,.ref l,.int R.length,.int num]/\WebAt C H w n ps/\Zv n ps/\ZI2 n ps/\TabP H Pt/\H l=some (.lst [.int z,optV fu]) /\
 z∈opL n ps [] [] (grd n.toNat ps ps.length)/\(∀ v∈opL n ps [] [] (grd n.toNat ps ps.length),z<=v)/\(fu=none↔unL n ps [] [] (grd n.toNat ps ps.length) (some z)=[])/\(∀ y,fu=some y->y∈unL n ps [] [] (grd n.toNat ps ps.length) (some z)/\∀ v∈unL n ps [] [] (grd n.toNat ps ps.length) (some z),y<=v) /\
 RowW n ps R/\RowAll n ps [] [] R/\0<=num/\num<R.length/\∀ H':Hp,SameX Pt H H'->TabP H' Pt->Q (.bl true) H'
theorem Zn2{p q:Prop}[Decidable p][Decidable q](h:p↔q):decide (V.bl (decide p)=V.bl (decide q))=true:=Yx (by rw[Y1E.mpr h])
theorem Zx8{m:Nat}{z y:Int}(h0:0<=z)(h1:z<y)(h2:y<(m:Int)):IsSet m [z,y]:=isSet_iff.mpr ⟨λv hv=>by
 simp only [Yf,Y1F,or_false]at hv
 grind,by simpa using h1⟩
theorem Zz811{m:Nat}{z:Int}(h0:0<=z)(h1:z<(m:Int)):IsSet m [z]:=isSet_iff.mpr ⟨λv hv=>by
 simp only [Yf,Y1F,or_false]at hv
 lia,by simp⟩
theorem Zz76{m:Nat}:IsSet m []:=isSet_iff.mpr ⟨λv hv=>(by cases hv),.nil⟩
theorem scZU:FnScope ["web","leads","total","number","one","other","tree","with_it","ahead"] ["web","leads","total","number"] (Zz7 sZU):=⟨rfl,rfl,rfl,by decide +kernel,rfl,by decide +kernel,by decide +kernel⟩
theorem okZU {Pt:Addr} (T:Txt K mg t) (hB:Zq7 K mg base t.dZy Pt):FnOk P w K mg base CX0 46 t.aZU t.dZU ["web","leads","total","number"] (spZU K t.A_Part t.A_Web Pt):=by
 refine T.fZU.ok scZU (λvs H Q E h=>?_) (λcdv A outer s H vs Q E hr h=>?_)
 ·obtain⟨w,l,n,ps,z,fu,num,R,rfl,_⟩:=h;rfl
 ·obtain⟨w,l,n,ps,z,fu,num,R,rfl,hW,hG,hJ,hT,hl,hz,hzm,hf0,hf1,hR,hAll,n0,n1,q⟩:=h;refine⟨_,(Zz2 (ZA9 (pv 1) (Zq11 (n:=2) K rfl (Zt (Zd (i:=4) scZU.nd rfl (Or.inl rfl)) (Zt (Zd (i:=5) scZU.nd rfl (Or.inl rfl)) Zc1))))
   (Zz2 (Zj (i:=6) scZU.nd rfl (Or.inl rfl) (Zz9 (okZI T hB) (hr.mono (by decide)) rfl T.mZI T.fZI.kp T.bZI .nil Zs (Zz0 (pv 0) (Zz0 (pv 3) Zz3))))
   (Zz2 (Zn1 (Zf ZK5 (Zz9 (okZK T hB) (hr.mono (by decide)) rfl T.mZK T.fZK.kp T.bZK .nil Zs (Zz0 (pv 0) (Zz0 (pv 6) Zz3))) (pv 3) (Zp _))
   (Zz8 (Zh ZF10))
   Zn)
   (Zz2 (Zj (i:=7) scZU.nd rfl (Or.inl rfl) (Zz9 (okZo T) (hr.mono (by decide)) rfl T.mZo T.fZo.kp T.bZo .nil Zs (Zz0 (pv 0) (Zz0 (Zd1 (Zz0 (pv 4) Zz3)) (Zz0 (Zd1 Zz3) Zz3)))))
   (Zz2 (Zn1 (Zf Zn6 (pv 5) ZF2 (Zp _))
   (Zz8 (Zh (ZH7 (ZF Zq3 (ZF (Zz43 K) (pv 4) (pv 6) rfl) (ZF Zy11 (pv 3) (Zq ZG1 (pv 2) (pv 7)) (Zp _)) (Zp _)) (ZF9 (ZF Zq3 (ZF Zq3 (pv 3) Za (Zp _)) (ZF (Zo6 K (hu8 hr)) (pv 6) (Zz9 (okZs T) (hr.mono (by decide)) rfl T.mZs T.fZs.kp T.bZs .nil Zs (Zz0 (pv 0) Zz3)) (Zp _)) (Zp _))))))
   Zn)
   (Zz2 (Zn1 (Zf ZK5 (ZF (Zz43 K) (pv 4) (pv 6) rfl) (ZF Zy11 (pv 3) (Zq ZG1 (pv 2) (pv 7)) (Zp _)) (Zp _))
   (Zz8 (Zh ZF10))
   Zn)
   (Zz2 (Zn1 (Zf (Zz43 K) (pv 4) (pv 6) rfl)
   (Zz2 (Zj (i:=8) scZU.nd rfl (Or.inl rfl) (Zq Ze1 (Zq ZG1 (pv 2) (pv 7)) (Zz9 (okZo T) (hr.mono (by decide)) rfl T.mZo T.fZo.kp T.bZo .nil Zs (Zz0 (pv 0) (Zz0 (Zr (ZA K) (by rfl) T.n_tuple Boot.«tuple» (Zz0 (Zg (Zz21 K) (by rfl) T.n_sorted Boot.«sorted» (Zz0 (Zp1 (Zz0 (pv 4) (Zz0 (pv 5) Zz3))) Zz3)) Zz3)) (Zz0 (Zd1 Zz3) Zz3))))))
   (Zz8 (Zh (ZF Zq3 (ZF (Zz43 K) (pv 5) (pv 6) rfl) (ZF ZI9 (pv 3) (pv 8) (Zp _)) (Zp _)))))
   Zn)
   (Zz8 (Zh (ZF Zq3 (ZF (Zz43 K) (pv 5) (pv 6) rfl) (ZF Zy11 (pv 3) (Zz9 (okZo T) (hr.mono (by decide)) rfl T.mZo T.fZo.kp T.bZo .nil Zs (Zz0 (pv 0) (Zz0 (Zd1 Zz3) (Zz0 (Zr (ZA K) (by rfl) T.n_tuple Boot.«tuple» (Zz0 (Zg (Zz21 K) (by rfl) T.n_sorted Boot.«sorted» (Zz0 (Zp1 (Zz0 (pv 4) (Zz0 (pv 5) Zz3))) Zz3)) Zz3)) Zz3)))) (Zp _)) (Zp _))))))))))),?_⟩
  have one:1<=sizeLine:=by decide
  have two:2<=sizeLine:=by decide
  have hg:=(ZY1 hG).mp hJ;have hF:=Zd4 hG hg
  have hFm:∀ U,Zi n ps U->HT.lexLt U (grd n.toNat ps ps.length)=false:=λU hU=>ZR4 hG hU;obtain⟨z0,z1⟩:=(show 0<=z/\z<(ps.length:Int) from ZF3 hz);refine⟨_,rfl,l,_,rfl,SqL.of hl,rfl,_,_,rfl,_,_,rfl,rfl,?_⟩;refine nm ?_;dsimp only [List.set];refine⟨_,rfl,_,rfl,w,n,ps,num,R,rfl,hW,hG,hT,n0,n1,hR,λr U H1 hU sx1 tab1 hr1=>?_⟩;refine nm ?_;dsimp only [List.set];have hUR:=Yy9 hU
  have hUt:=((hAll.2 U).mp hUR).1;refine⟨_,rfl,_,rfl,w,r,n,ps,U,R,rfl,hW.samex hT sx1,hG,tab1,SqT.of hr1,hUt,hR,hUR,λj H2 hj sx2 tab2=>?_⟩;have ej:(j:Int)=num:=by
   have:=(Y2A (Yy1.mp hj).1 hAll.1).mp (hj.trans hU.symm)
   lia
  rw[show num.toNat=j by lia]at hU;refine⟨_,rfl,rfl,_,rfl,?_⟩;rw[Zx];refine itn2 (λ_=>?_) (λh=>absurd ej h);show(_:Prop)
  refine ZE4 ?_;have sx02:=sx1.trans sx2
  have hr2:=sx2 _ _ (tab1.ne hr1 (by simp)) hr1;have hW2:=hW.samex hT sx02
  refine⟨_,rfl,_,rfl,one,λtA htA=>⟨Yl _,λeA heA=>?_⟩⟩;have u3:=(Zz5 (o:=.tup [.int z]) htA).trans (Zz5 (o:=.tup []) heA)
  refine⟨w,tA,eA,n,ps,[z],[],rfl,hW2.same u3,hG,SqT.of ((Zz5 (o:=.tup []) heA) _ _ Zz1),SqT.of Zz1,Zz811 z0 z1,Zz76,λc1 H3 hc1 s3=>?_⟩;refine nm ?_;dsimp only [List.set];have s23:=u3.trans s3
  have sx03:=sx02.trans (SameX.same s23);have tab3:=tab2.same s23
  have hr3:=s23 _ _ hr2;have hW3:=hW2.same s23
  clear htA heA u3;obtain⟨hin,hfirst,hoth⟩:=Za6 hG hF hFm hz hzm hf0 hf1 hR hAll hU hc1;rw[ej]at hin hfirst hoth;refine⟨_,rfl,rfl,_,rfl,?_⟩;cases fu with
  | none =>
   refine iteT ?_;refine⟨_,rfl,_,rfl,r,_,rfl,.inr (SqT.of hr3),rfl,Zz _,_,rfl,_,rfl,_,rfl,_,_,rfl,rfl,_,_,rfl,rfl,rfl,_,rfl,?_⟩;rw[ZL,Zn2 hin,if_pos rfl];refine⟨_,rfl,rfl,_,rfl,_,rfl,w,n,ps,rfl,hW3,hG,λ_ b H4 s4 hb=>?_,λh=>absurd h hg⟩;refine⟨1,_,r,b,rfl,rfl,by decide,Ze3 (SqT.of (s4 _ _ hr3)) (SqT.of hb),rfl,?_⟩;have e:decide (V.bl (decide (V.int num=V.int 0))=V.bl (decide (U=grd n.toNat ps ps.length)))=true:=by rw[Zx];exact Zn2 hfirst
   show Q (.bl (decide (V.bl (decide (V.int num=V.int 0))=V.bl (decide (U=grd n.toNat ps ps.length))))) H4;rw[e];exact q H4 (sx03.trans (SameX.same s4)) (tab3.same s4)
  | some y =>
   refine iteF ?_;show(_:Prop)
   refine ZE4 ?_;obtain⟨zy,h1,h2⟩:=hoth y rfl;obtain⟨y0,y1⟩:=(show 0<=y/\y<(ps.length:Int) from ZF3 (Yk.mp (hf1 y rfl).1).1);refine⟨_,rfl,_,rfl,r,_,rfl,.inr (SqT.of hr3),rfl,Zz _,_,rfl,_,rfl,_,rfl,_,_,rfl,rfl,_,_,rfl,rfl,rfl,_,rfl,?_⟩;rw[ZL,Zn2 hin];refine iteF ?_;show(_:Prop)
   refine ZE4 ?_;have srt:∀ l:List Int,l.Perm [z,y]->l.Pairwise (·<=·)->l=[z,y]:=λl hp hs=>by rw[Zv1 hp hs,Y2d (by lia),Yy27 (by omega)]
   refine⟨_,rfl,_,rfl,r,_,rfl,.inr (SqT.of hr3),rfl,Zz _,_,rfl,?_⟩;rw[ZL];refine itd2 (λhzU=>?_) (λhzU=>?_)
   ·refine⟨_,rfl,_,rfl,_,_,rfl,rfl,_,rfl,_,rfl,_,rfl,two,λlA hlA=>?_⟩;have u4:=Zz5 (o:=.lst (IL [z,y])) hlA
    refine⟨lA,[z,y],rfl,SqL.of Zz1,(by show 2<64;decide),λl4 hl4 hs4 sA hsA=>?_⟩;obtain rfl:=srt l4 hl4 hs4;have u5:=Zz5 (o:=.lst (IL [z,y])) hsA
    refine⟨sA,_,rfl,.inl ⟨SqL.of Zz1,λtB htB=>⟨Yl _,λeB heB=>?_⟩⟩⟩;have u6:=Zz5 (o:=.tup (IL [z,y])) htB
    have u7:=Zz5 (o:=.tup []) heB;have s47:=u4.trans (u5.trans (u6.trans u7))
    refine⟨w,tB,eB,n,ps,[z,y],[],rfl,hW3.same s47,hG,SqT.of (u7 _ _ Zz1),SqT.of Zz1,Zx8 z0 zy y1,Zz76,λc2 H5 hc2 s5=>?_⟩;refine⟨_,_,rfl,rfl,?_⟩;refine nm ?_;dsimp only [List.set];have s35:=s47.trans s5
    refine⟨_,rfl,_,rfl,r,_,rfl,.inr (SqT.of (s35 _ _ hr3)),rfl,Zz _,_,rfl,_,rfl,_,_,rfl,rfl,rfl,?_⟩;show Q (.bl (decide (V.bl (inV (.int y) (IL U))=V.bl (decide (num<(R.length:Int) - c1+c2))))) H5
    rw[ZL,Zn2 (h1 hzU c2 hc2)];exact q H5 (sx03.trans (SameX.same s35)) (tab3.same s35)
   ·show(_:Prop);refine ZE4 ?_;refine⟨_,rfl,_,rfl,r,_,rfl,.inr (SqT.of hr3),rfl,Zz _,_,rfl,_,rfl,Yl _,λeB heB=>?_⟩;have u4:=Zz5 (o:=.tup []) heB
    refine⟨_,rfl,_,rfl,two,λlA hlA=>?_⟩;have u5:=Zz5 (o:=.lst (IL [z,y])) hlA
    refine⟨lA,[z,y],rfl,SqL.of Zz1,(by show 2<64;decide),λl4 hl4 hs4 sA hsA=>?_⟩;obtain rfl:=srt l4 hl4 hs4;have u6:=Zz5 (o:=.lst (IL [z,y])) hsA
    refine⟨sA,_,rfl,.inl ⟨SqL.of Zz1,λtB htB=>?_⟩⟩;have u7:=Zz5 (o:=.tup (IL [z,y])) htB
    have u57:=u5.trans (u6.trans u7);have s47:=u4.trans u57
    refine⟨w,eB,tB,n,ps,[],[z,y],rfl,hW3.same s47,hG,SqT.of (u57 _ _ Zz1),SqT.of Zz1,Zz76,Zx8 z0 zy y1,λc2 H5 hc2 s5=>?_⟩;have s35:=s47.trans s5
    refine⟨_,_,rfl,rfl,rfl,?_⟩;show Q (.bl (decide (V.bl (inV (.int y) (IL U))=V.bl (decide ((c2:Int)<=num))))) H5
    rw[ZL,Zn2 (h2 hzU c2 hc2)];exact q H5 (sx03.trans (SameX.same s35)) (tab3.same s35)
def spZV(K:PySem.W.Frag)(Pt:Addr):Sp:=λvs H Q _=>∃(a:Addr) (ns:List Int),vs=[.ref a]/\SqL K H a (IL ns)/\ns.length<=63/\TabP H Pt/\∀ H',Q (.bl true) H'
theorem scZV:FnScope ["script","count","ties","web","leads","total","k","cell","m"] ["script"] (Zz7 sZV):=⟨rfl,rfl,rfl,by decide +kernel,rfl,by decide +kernel,by decide +kernel⟩
theorem okZV {Pt:Addr} (T:Txt K mg t) (hB:Zq7 K mg base t.dZy Pt):FnOk P w K mg base CX0 47 t.aZV t.dZV ["script"] (spZV K Pt):=by
 refine T.fZV.ok scZV (λvs H Q E h=>?_) (λcdv A outer s H vs Q E hr h=>?_)
 ·obtain⟨a,ns,rfl,_⟩:=h;rfl
 ·obtain⟨a,ns,rfl,hS,hn63,hT,k⟩:=h;refine⟨_,(Zz2 (ZA9 (Zz9 (okZR T) (hr.mono (by decide)) rfl T.mZR T.fZR.kp T.bZR .nil Zs (Zz0 (pv 0) Zz3)) (Zu1 (n:=2) K rfl (Zt (Zd (i:=1) scZV.nd rfl (Or.inl rfl)) (Zt (Zd (i:=2) scZV.nd rfl (Or.inl rfl)) Zc1))))
   (Zz2 (Zj (i:=3) scZV.nd rfl (Or.inl rfl) (ZB3 T.k_Web (okZ8 T) (hr.mono (by decide)) rfl T.c_Web T.bZ8 .nil Zs (Zz0 (pv 1) (Zz0 (pv 2) Zz3))))
   (Zz2 (Zj (i:=4) scZV.nd rfl (Or.inl rfl) (Zz9 (okZT T) (hr.mono (by decide)) rfl T.mZT T.fZT.kp T.bZT .nil Zs (Zz0 (pv 3) Zz3)))
   (Zz2 (Zj (i:=5) scZV.nd rfl (Or.inl rfl) (Zz9 (okZm T) (hr.mono (by decide)) rfl T.mZm T.fZm.kp T.bZm .nil Zs (Zz0 (pv 3) Zz3)))
   (Zz2 (Zn1 (Zf Zn6 (ZP (Ze K) (pv 4) Za (λ_ _=>rfl)) ZF2 (Zp _))
   (Zz8 (Zh (ZH7 (ZF Zq3 (pv 5) Za (Zp _)) (ZF9 (ZF (Zo6 K (hu8 hr)) (Zz9 (okZI T hB) (hr.mono (by decide)) rfl T.mZI T.fZI.kp T.bZI .nil Zs (Zz0 (pv 3) (Zz0 Za Zz3))) (Zz9 (okZs T) (hr.mono (by decide)) rfl T.mZs T.fZs.kp T.bZs .nil Zs (Zz0 (pv 3) Zz3)) (Zp _))))))
   Zn)
   (Zz2 (ZP1 Yy04 rfl (Zo1 K rfl T.n_enumerate (Zz0 (Zz9 (okZQ T) (hr.mono (by decide)) rfl T.mZQ T.fZQ.kp T.bZQ .nil Zs (Zz0 (pv 0) (Zz0 Za Zz3))) Zz3)) (Zu1 (n:=2) K rfl (Zt (Zd (i:=6) scZV.nd rfl (Or.inl rfl)) (Zt (Zd (i:=7) scZV.nd rfl (Or.inl rfl)) Zc1)))
   (Zz2 (Zj (i:=8) scZV.nd rfl (Or.inl rfl) (Zz9 (okZM T) (hr.mono (by decide)) rfl T.mZM T.fZM.kp T.bZM .nil Zs (Zz0 (pv 7) (Zz0 (Zq Ze1 Za (pv 6)) Zz3))))
   (Zz8 (Zn1 (ZA3 (ZE2 (Zz9 (okZU T hB) (hr.mono (by decide)) rfl T.mZU T.fZU.kp T.bZU .nil Zs (Zz0 (pv 3) (Zz0 (pv 4) (Zz0 (pv 5) (Zz0 (ZP (Ze K) (Zp1 (Zz0 Za (Zz0 (Zq ZG1 (pv 5) Za) (Zz0 (Zq ZQ (Zq ZS1 (pv 8) Za) (pv 5)) (Zz0 (Zq ZQ (Zq ZS1 (pv 8) Za) (pv 5)) (Zz0 (Zq ZQ (Zq ZS1 (pv 8) Za) (pv 5)) Zz3)))))) (Zq ZQ (pv 8) Za) (λ_ _=>rfl)) Zz3)))))))
   (Zz8 (Zh ZF10))
   Zn))))
   (Zz8 (Zh ZF10)))))))),?_⟩
  have one:1<=sizeLine:=by decide
  have two:2<=sizeLine:=by decide
  refine⟨_,rfl,a,ns,rfl,hS,hn63,λr l n xs ps H1 s1 hr1 hl0 hl1 hP hG hn2 hJ=>?_⟩;refine⟨r,_,rfl,SqT.of hr1,rfl,_,_,rfl,_,_,rfl,rfl,?_⟩;refine nm ?_;dsimp only [List.set];refine⟨_,rfl,_,rfl,?_⟩;intro x dx nx ndx nex;have t1:Same H1 (upd (upd H1 dx (.own x)) x (.ins t.A_Web dx [])):=ZC (Zz5 ndx) (by rw[Zb (YY nex)];exact nx)
  refine⟨x,dx,n,l,false,xs,ps,rfl,Zz1,λo=>?_,hP.same t1,hG,λH3 hW k3=>⟨rfl,?_⟩⟩
  ·exact SqL.of (by rw[Zb (Zc hl1 nx),Zb (Zc hl1 nx),Zb (Zc hl1 ndx)];exact hl1)
  have t03:Same H1 H3:=λb o e=>k3 b o (t1 b o e) (Zc e nx);have s3:=s1.trans t03
  refine nm ?_;dsimp only [List.set];refine⟨_,rfl,x,n,ps,rfl,hW,hG,hJ,λlA ld fu H4 s4 hlA h1 h2 h3=>?_⟩;refine nm ?_;dsimp only [List.set];have hg:=(ZY1 hG).mp hJ
  have hF:=Zd4 hG hg;have hFm:∀ U,Zi n ps U->HT.lexLt U (grd n.toNat ps ps.length)=false:=λU hU=>ZR4 hG hU
  obtain⟨R,hR,hRn,hRm⟩:=Zc11 hG ⟨_,hF⟩;have hAll:RowAll n ps [] [] R:=⟨hRn,λU=>(hRm U).trans with_none.symm⟩
  obtain⟨_,_,_,_,_,_,_,_,hTC⟩:=id hR;refine⟨_,rfl,x,n,ps,rfl,hW.same s4,hG,λc H5 hc s5=>?_⟩;obtain rfl:=hc.uniq hTC;refine nm ?_;dsimp only [List.set];have s45:=s4.trans s5
  have s05:=s3.trans s45;have hlA5:=s5 _ _ hlA
  have tab5:=hT.same s05;have c20:=ZY5 hG hc
  have c0:0<R.length:=Y1q ((hRm _).mpr hF);have hW5:=hW.same s45
  refine⟨_,rfl,lA,_,0,optV ld,rfl,rfl,SqL.of hlA5,rfl,rfl,_,rfl,?_⟩;cases ld with
  | none =>
   refine iteT ?_;have eo:=h1.mp rfl
   obtain⟨inc,fu',hP',hRR⟩:=Zy8 (ld:=none) hR hF hFm h1 h2;have first:=Zy4 hG hRR _ (with_none.mpr hF) (λU hU=>hFm U hU.1) λv e=>by cases e
   have eR:R=[grd n.toNat ps ps.length]:=by
    cases hRR with
    | und hP'' _ _ =>
     obtain⟨rfl,rfl,rfl⟩:=hP'.uniq hP'';have e:inc=[]:=Y1v.mpr λz hz=>by
      have:=(Yk.mp ((ZW2 hP'.inc).mem_iff.mp hz)).1
      rw[eo]at this;cases this
     subst e;rfl
   refine⟨_,rfl,rfl,_,rfl,?_⟩;rw[Zx,eR];refine iteT ?_;rw[eR]at hR;refine⟨_,rfl,x,n,ps,0,_,rfl,hW5,hG,tab5,by decide,(by show(0:Int)<1;decide),hR,λr1 U H6 hU sx6 tab6 hr6=>?_⟩;refine⟨_,rfl,x,n,ps,rfl,hW5.samex tab5 sx6,hG,λ_ b H7 s7 hb=>?_,λh=>absurd h hg⟩;refine⟨1,_,r1,b,rfl,rfl,by decide,Ze3 (SqT.of (s7 _ _ hr6)) (SqT.of hb),?_⟩;have eU:U=grd n.toNat ps ps.length:=(Yh hU).symm
   show Q (.bl (decide (U=grd n.toNat ps ps.length))) H7;rw[Yx eU];exact k _
  | some z =>
   refine iteF ?_;show(_:Prop)
   refine ZE4 ?_;obtain⟨hz,hzm⟩:=h2 z rfl;obtain⟨f0,f1⟩:=h3 z rfl;refine⟨_,rfl,a,ns,4,rfl,s05.seq hS,hn63,λcA cs H6 s6 hcA hcl=>?_⟩;have hlA6:=s6 _ _ hlA5
   have s06:=s05.trans s6;have tab6:=tab5.same s6
   have hW6:=hW5.same s6;refine⟨cA,rfl,⟨_,SqL.of hcA⟩,Zd3 (K:=K) (a:=cA) (xs:=IL cs) (λi σ H7=>∃(v6 v7 v8:Option V),σ=[some (.ref a),some (.int n),some (.ref l),some (.ref x),some (.ref lA),some (.int R.length),v6,v7,v8]/\SameX Pt H6 H7/\TabP H7 Pt) ⟨none,none,none,rfl,SameX.same (Same.refl _),tab6⟩ (λi σ H7 _ h=>by obtain⟨_,_,_,_,e,_⟩:=h;exact SqL.of (e _ _ (tab6.ne hcA (by simp)) hcA)) ?_ ?_⟩
   ·rintro i v σ H7 pt hpt hi ⟨v6,v7,v8,rfl,sx7,tab7⟩;obtain⟨c,rfl,hc'⟩:=Zz71 hi;have hil:=(Yy1.mp hc').1
    have u8:=Zz5 (o:=.tup [.int i,.int c]) hpt;refine⟨pt,_,rfl,SqT.of Zz1,rfl,_,_,rfl,_,_,rfl,rfl,?_⟩;have sx8:=sx7.trans (SameX.same u8)
    have tab8:=tab7.same u8;generalize upd H7 pt (.tup [.int i,.int c])=H8 at *;refine nm ?_;dsimp only [List.set];refine⟨_,rfl,_,rfl,_,_,rfl,rfl,c,_,rfl,by omega,by omega,λm m0=>?_⟩;refine nm ?_;dsimp only [List.set];have cp:(0:Int)<(R.length:Int):=by omega
    have b0:=Yy02 (m / 8) (show(R.length:Int)≠0 by omega);have b1:=Yy01 (m / 8) cp
    have d0:=Yy02 m (show(5:Int)≠0 by decide);have d1:=Yy01 m (show(0:Int)<5 by decide)
    refine⟨_,rfl,_,rfl,_,rfl,_,rfl,_,_,rfl,rfl,_,rfl,_,_,rfl,rfl,⟨by decide,by decide⟩,_,rfl,_,_,rfl,rfl,cp,_,rfl,_,_,rfl,rfl,⟨by decide,by decide⟩,_,rfl,_,_,rfl,rfl,cp,_,rfl,_,_,rfl,rfl,⟨by decide,by decide⟩,_,rfl,_,_,rfl,rfl,cp,(by show 5<=sizeLine;decide),λqA hqA=>?_⟩;have u9:=Zz5 (o:=.lst (IL [0,(R.length:Int) - 1,m / 8 % (R.length:Int),m / 8 % (R.length:Int),m / 8 % (R.length:Int)])) hqA
    obtain⟨num,hnum,n0,n1⟩:∃ num:Int,[0,(R.length:Int) - 1,m / 8 % (R.length:Int),m / 8 % (R.length:Int),m / 8 % (R.length:Int)][(m % 5).toNat]?=some num/\0<=num/\num<(R.length:Int):=by
     rcases(show m % 5=0\/m % 5=1\/m % 5=2\/m % 5=3\/m % 5=4 by omega) with e | e | e | e | e <;> rw[e]
     ·exact⟨_,rfl,by omega,by omega⟩
     ·exact⟨_,rfl,by omega,by omega⟩
     ·exact⟨_,rfl,b0,b1⟩
     ·exact⟨_,rfl,b0,b1⟩
     ·exact⟨_,rfl,b0,b1⟩
    have sx9:=sx8.trans (SameX.same u9);refine⟨_,rfl,_,_,rfl,rfl,(by show(0:Int)<5;decide),qA,_,_,.int num,rfl,rfl,SqL.of Zz1,ZK (n:=(m % 5).toNat) (by omega) (ZR2 hnum),?_⟩;refine⟨x,lA,n,ps,z,fu,num,R,rfl,hW6.samex tab6 sx9,hG,hJ,tab8.same u9,sx9 _ _ (tab6.ne hlA6 (by simp)) hlA6,hz,hzm,f0,f1,hR,hAll,n0,n1,λH9 sx10 tab10=>⟨_,rfl,?_⟩⟩;refine iteF ?_;exact⟨_,_,_,rfl,sx9.trans sx10,tab10⟩
   ·rintro σ H7 ⟨v6,v7,v8,rfl,_⟩;exact k _
end
end My
namespace My
open PySem L2
theorem law_binds {K:PySem.W.Frag} {f:Addr} {fd:FuncData} (F:Fun K "law" "law" sZV f fd) (s:Shared) (u:Value):BindsTo s fd ⟨[u],[]⟩ [("script",u)]:=by obtain⟨oc,od,kV,doc,pm,an,cdv,ct,osl,rfl,lk,hcd⟩:=F.ex;exact .of_eq rfl
end My
open PySem PySem.W PyProof.Rows
set_option maxRecDepth 100000 in
set_option maxHeartbeats 0 in
theorem PySem.Challenge.cw_spanrow_k43_whole_halves_of_the_row_holds : PySem.Challenge.rw_spanrow_k43_whole_halves_of_the_row.Holds := by
 w_on;o_law;k_head;(case hw=>w_witness2)
 k_fill
 refine L2.walk_ofT (l:=PySem.Challenge.rw_spanrow_k43_whole_halves_of_the_row) (n:=63) (k:=47) (x:="script") (CX:=L2.CX0) (sp:=λK=>My.spZV K 353) (c:=355) (Pt:=353) rfl (by decide) rfl ⟨rfl,by decide,by decide⟩ (λw h Y=>⟨PySem.W.km_in_of Y,PySem.W.km_tabs_of Y 353 (Yy2.mpr rfl)⟩) ?C ?P ?F (λ_ H a ns hl hO hS=>⟨a,ns,rfl,hS,hl,⟨#[],hO.1,trivial,.inl rfl⟩,λ_=>rfl⟩) (λ_ _ _ _ z=>z)
 case C=>intro w;kernel_rfl
 case P=>intro w;kernel_rfl
 case F =>
  intro w mg fa h KX G hmg;obtain⟨aZ0,dZ0,mZ0,fZ0⟩:My.FX (L2.KOf KX) mg "refuse_not_square" "refuse_not_square" My.sZ0:=by dsimp only [L2.KOf];refine' My.fx_mk KX G ?a ?l ?c ?k;case a | l | c | k=>k_is
  obtain⟨aZ1,dZ1,mZ1,fZ1⟩:My.FX (L2.KOf KX) mg "row_taken_off" "row_taken_off" My.sZ1:=by dsimp only [L2.KOf];refine' My.fx_mk KX G ?a ?l ?c ?k;case a | l | c | k=>k_is
  obtain⟨aZ2,dZ2,mZ2,fZ2⟩:My.FX (L2.KOf KX) mg "first_with_some" "first_with_some" My.sZ2:=by dsimp only [L2.KOf];refine' My.fx_mk KX G ?a ?l ?c ?k;case a | l | c | k=>k_is
  obtain⟨aZ3,dZ3,mZ3,fZ3⟩:My.FX (L2.KOf KX) mg "determinant" "determinant" My.sZ3:=by dsimp only [L2.KOf];refine' My.fx_mk KX G ?a ?l ?c ?k;case a | l | c | k=>k_is
  obtain⟨aZ4,dZ4,mZ4,fZ4⟩:My.FX (L2.KOf KX) mg "row_without" "row_without" My.sZ4:=by dsimp only [L2.KOf];refine' My.fx_mk KX G ?a ?l ?c ?k;case a | l | c | k=>k_is
  obtain⟨aZ5,dZ5,mZ5,fZ5⟩:My.FX (L2.KOf KX) mg "table_without" "table_without" My.sZ5:=by dsimp only [L2.KOf];refine' My.fx_mk KX G ?a ?l ?c ?k;case a | l | c | k=>k_is
  obtain⟨aZ6,dZ6,mZ6,fZ6⟩:My.FX (L2.KOf KX) mg "is_tie" "is_tie" My.sZ6:=by dsimp only [L2.KOf];refine' My.fx_mk KX G ?a ?l ?c ?k;case a | l | c | k=>k_is
  obtain⟨aZ7,dZ7,mZ7,fZ7⟩:My.FX (L2.KOf KX) mg "refuse_bad_web" "refuse_bad_web" My.sZ7:=by dsimp only [L2.KOf];refine' My.fx_mk KX G ?a ?l ?c ?k;case a | l | c | k=>k_is
  obtain⟨aZ9,dZ9,mZ9,fZ9⟩:My.FX (L2.KOf KX) mg "all_ties" "all_ties" My.sZ9:=by dsimp only [L2.KOf];refine' My.fx_mk KX G ?a ?l ?c ?k;case a | l | c | k=>k_is
  obtain⟨aZa,dZa,mZa,fZa⟩:My.FX (L2.KOf KX) mg "ties_beside" "ties_beside" My.sZa:=by dsimp only [L2.KOf];refine' My.fx_mk KX G ?a ?l ?c ?k;case a | l | c | k=>k_is
  obtain⟨aZb,dZb,mZb,fZb⟩:My.FX (L2.KOf KX) mg "ties_without" "ties_without" My.sZb:=by dsimp only [L2.KOf];refine' My.fx_mk KX G ?a ?l ?c ?k;case a | l | c | k=>k_is
  obtain⟨aZc,dZc,mZc,fZc⟩:My.FX (L2.KOf KX) mg "have_common" "have_common" My.sZc:=by dsimp only [L2.KOf];refine' My.fx_mk KX G ?a ?l ?c ?k;case a | l | c | k=>k_is
  obtain⟨aZd,dZd,mZd,fZd⟩:My.FX (L2.KOf KX) mg "is_set" "is_set" My.sZd:=by dsimp only [L2.KOf];refine' My.fx_mk KX G ?a ?l ?c ?k;case a | l | c | k=>k_is
  obtain⟨aZe,dZe,mZe,fZe⟩:My.FX (L2.KOf KX) mg "made_set" "made_set" My.sZe:=by dsimp only [L2.KOf];refine' My.fx_mk KX G ?a ?l ?c ?k;case a | l | c | k=>k_is
  obtain⟨aZf,dZf,mZf,fZf⟩:My.FX (L2.KOf KX) mg "merged_marks" "merged_marks" My.sZf:=by dsimp only [L2.KOf];refine' My.fx_mk KX G ?a ?l ?c ?k;case a | l | c | k=>k_is
  obtain⟨aZg,dZg,mZg,fZg⟩:My.FX (L2.KOf KX) mg "piece_marks" "piece_marks" My.sZg:=by dsimp only [L2.KOf];refine' My.fx_mk KX G ?a ?l ?c ?k;case a | l | c | k=>k_is
  obtain⟨aZh,dZh,mZh,fZh⟩:My.FX (L2.KOf KX) mg "pieces_of" "pieces_of" My.sZh:=by dsimp only [L2.KOf];refine' My.fx_mk KX G ?a ?l ?c ?k;case a | l | c | k=>k_is
  obtain⟨aZi,dZi,mZi,fZi⟩:My.FX (L2.KOf KX) mg "is_joined" "is_joined" My.sZi:=by dsimp only [L2.KOf];refine' My.fx_mk KX G ?a ?l ?c ?k;case a | l | c | k=>k_is
  obtain⟨aZj,dZj,mZj,fZj⟩:My.FX (L2.KOf KX) mg "refuse_parted" "refuse_parted" My.sZj:=by dsimp only [L2.KOf];refine' My.fx_mk KX G ?a ?l ?c ?k;case a | l | c | k=>k_is
  obtain⟨aZk,dZk,mZk,fZk⟩:My.FX (L2.KOf KX) mg "weighted_table" "weighted_table" My.sZk:=by dsimp only [L2.KOf];refine' My.fx_mk KX G ?a ?l ?c ?k;case a | l | c | k=>k_is
  obtain⟨aZl,dZl,mZl,fZl⟩:My.FX (L2.KOf KX) mg "pull_table" "pull_table" My.sZl:=by dsimp only [L2.KOf];refine' My.fx_mk KX G ?a ?l ?c ?k;case a | l | c | k=>k_is
  obtain⟨aZm,dZm,mZm,fZm⟩:My.FX (L2.KOf KX) mg "tree_count" "tree_count" My.sZm:=by dsimp only [L2.KOf];refine' My.fx_mk KX G ?a ?l ?c ?k;case a | l | c | k=>k_is
  obtain⟨aZn,dZn,mZn,fZn⟩:My.FX (L2.KOf KX) mg "part_count" "part_count" My.sZn:=by dsimp only [L2.KOf];refine' My.fx_mk KX G ?a ?l ?c ?k;case a | l | c | k=>k_is
  obtain⟨aZo,dZo,mZo,fZo⟩:My.FX (L2.KOf KX) mg "count_with" "count_with" My.sZo:=by dsimp only [L2.KOf];refine' My.fx_mk KX G ?a ?l ?c ?k;case a | l | c | k=>k_is
  obtain⟨aZp,dZp,mZp,fZp⟩:My.FX (L2.KOf KX) mg "is_tree" "is_tree" My.sZp:=by dsimp only [L2.KOf];refine' My.fx_mk KX G ?a ?l ?c ?k;case a | l | c | k=>k_is
  obtain⟨aZq,dZq,mZq,fZq⟩:My.FX (L2.KOf KX) mg "refuse_no_tree" "refuse_no_tree" My.sZq:=by dsimp only [L2.KOf];refine' My.fx_mk KX G ?a ?l ?c ?k;case a | l | c | k=>k_is
  obtain⟨aZr,dZr,mZr,fZr⟩:My.FX (L2.KOf KX) mg "grown_tree" "grown_tree" My.sZr:=by dsimp only [L2.KOf];refine' My.fx_mk KX G ?a ?l ?c ?k;case a | l | c | k=>k_is
  obtain⟨aZs,dZs,mZs,fZs⟩:My.FX (L2.KOf KX) mg "least_tree" "least_tree" My.sZs:=by dsimp only [L2.KOf];refine' My.fx_mk KX G ?a ?l ?c ?k;case a | l | c | k=>k_is
  obtain⟨aZt,dZt,mZt,fZt⟩:My.FX (L2.KOf KX) mg "tree_cut" "tree_cut" My.sZt:=by dsimp only [L2.KOf];refine' My.fx_mk KX G ?a ?l ?c ?k;case a | l | c | k=>k_is
  obtain⟨aZu,dZu,mZu,fZu⟩:My.FX (L2.KOf KX) mg "ring_of" "ring_of" My.sZu:=by dsimp only [L2.KOf];refine' My.fx_mk KX G ?a ?l ?c ?k;case a | l | c | k=>k_is
  obtain⟨aZv,dZv,mZv,fZv⟩:My.FX (L2.KOf KX) mg "least_in" "least_in" My.sZv:=by dsimp only [L2.KOf];refine' My.fx_mk KX G ?a ?l ?c ?k;case a | l | c | k=>k_is
  obtain⟨aZw,dZw,mZw,fZw⟩:My.FX (L2.KOf KX) mg "end_pieces" "end_pieces" My.sZw:=by dsimp only [L2.KOf];refine' My.fx_mk KX G ?a ?l ?c ?k;case a | l | c | k=>k_is
  obtain⟨aZx,dZx,mZx,fZx⟩:My.FX (L2.KOf KX) mg "open_ties" "open_ties" My.sZx:=by dsimp only [L2.KOf];refine' My.fx_mk KX G ?a ?l ?c ?k;case a | l | c | k=>k_is
  obtain⟨aZz,dZz,mZz,fZz⟩:My.FX (L2.KOf KX) mg "whole_part" "whole_part" My.sZz:=by dsimp only [L2.KOf];refine' My.fx_mk KX G ?a ?l ?c ?k;case a | l | c | k=>k_is
  obtain⟨aZA,dZA,mZA,fZA⟩:My.FX (L2.KOf KX) mg "half_without" "half_without" My.sZA:=by dsimp only [L2.KOf];refine' My.fx_mk KX G ?a ?l ?c ?k;case a | l | c | k=>k_is
  obtain⟨aZB,dZB,mZB,fZB⟩:My.FX (L2.KOf KX) mg "half_with" "half_with" My.sZB:=by dsimp only [L2.KOf];refine' My.fx_mk KX G ?a ?l ?c ?k;case a | l | c | k=>k_is
  obtain⟨aZC,dZC,mZC,fZC⟩:My.FX (L2.KOf KX) mg "part_size" "part_size" My.sZC:=by dsimp only [L2.KOf];refine' My.fx_mk KX G ?a ?l ?c ?k;case a | l | c | k=>k_is
  obtain⟨aZD,dZD,mZD,fZD⟩:My.FX (L2.KOf KX) mg "trees_with_tie" "trees_with_tie" My.sZD:=by dsimp only [L2.KOf];refine' My.fx_mk KX G ?a ?l ?c ?k;case a | l | c | k=>k_is
  obtain⟨aZE,dZE,mZE,fZE⟩:My.FX (L2.KOf KX) mg "undivided_row" "undivided_row" My.sZE:=by dsimp only [L2.KOf];refine' My.fx_mk KX G ?a ?l ?c ?k;case a | l | c | k=>k_is
  obtain⟨aZF,dZF,mZF,fZF⟩:My.FX (L2.KOf KX) mg "trees_between" "trees_between" My.sZF:=by dsimp only [L2.KOf];refine' My.fx_mk KX G ?a ?l ?c ?k;case a | l | c | k=>k_is
  obtain⟨aZG,dZG,mZG,fZG⟩:My.FX (L2.KOf KX) mg "refuse_below_nought" "refuse_below_nought" My.sZG:=by dsimp only [L2.KOf];refine' My.fx_mk KX G ?a ?l ?c ?k;case a | l | c | k=>k_is
  obtain⟨aZH,dZH,mZH,fZH⟩:My.FX (L2.KOf KX) mg "row_from" "row_from" My.sZH:=by dsimp only [L2.KOf];refine' My.fx_mk KX G ?a ?l ?c ?k;case a | l | c | k=>k_is
  obtain⟨aZI,dZI,mZI,fZI⟩:My.FX (L2.KOf KX) mg "row_at" "row_at" My.sZI:=by dsimp only [L2.KOf];refine' My.fx_mk KX G ?a ?l ?c ?k;case a | l | c | k=>k_is
  obtain⟨aZJ,dZJ,mZJ,fZJ⟩:My.FX (L2.KOf KX) mg "number_in" "number_in" My.sZJ:=by dsimp only [L2.KOf];refine' My.fx_mk KX G ?a ?l ?c ?k;case a | l | c | k=>k_is
  obtain⟨aZK,dZK,mZK,fZK⟩:My.FX (L2.KOf KX) mg "row_number" "row_number" My.sZK:=by dsimp only [L2.KOf];refine' My.fx_mk KX G ?a ?l ?c ?k;case a | l | c | k=>k_is
  obtain⟨aZL,dZL,mZL,fZL⟩:My.FX (L2.KOf KX) mg "_law_at" "_law_at" My.sZL:=by dsimp only [L2.KOf];refine' My.fx_mk KX G ?a ?l ?c ?k;case a | l | c | k=>k_is
  obtain⟨aZM,dZM,mZM,fZM⟩:My.FX (L2.KOf KX) mg "_law_mixed" "_law_mixed" My.sZM:=by dsimp only [L2.KOf];refine' My.fx_mk KX G ?a ?l ?c ?k;case a | l | c | k=>k_is
  obtain⟨aZN,dZN,mZN,fZN⟩:My.FX (L2.KOf KX) mg "_law_digits" "_law_digits" My.sZN:=by dsimp only [L2.KOf];refine' My.fx_mk KX G ?a ?l ?c ?k;case a | l | c | k=>k_is
  obtain⟨aZO,dZO,mZO,fZO⟩:My.FX (L2.KOf KX) mg "_law_stirred" "_law_stirred" My.sZO:=by dsimp only [L2.KOf];refine' My.fx_mk KX G ?a ?l ?c ?k;case a | l | c | k=>k_is
  obtain⟨aZP,dZP,mZP,fZP⟩:My.FX (L2.KOf KX) mg "_law_large" "_law_large" My.sZP:=by dsimp only [L2.KOf];refine' My.fx_mk KX G ?a ?l ?c ?k;case a | l | c | k=>k_is
  obtain⟨aZQ,dZQ,mZQ,fZQ⟩:My.FX (L2.KOf KX) mg "_law_cells" "_law_cells" My.sZQ:=by dsimp only [L2.KOf];refine' My.fx_mk KX G ?a ?l ?c ?k;case a | l | c | k=>k_is
  obtain⟨aZR,dZR,mZR,fZR⟩:My.FX (L2.KOf KX) mg "_law_far_web" "_law_far_web" My.sZR:=by dsimp only [L2.KOf];refine' My.fx_mk KX G ?a ?l ?c ?k;case a | l | c | k=>k_is
  obtain⟨aZS,dZS,mZS,fZS⟩:My.FX (L2.KOf KX) mg "_law_free" "_law_free" My.sZS:=by dsimp only [L2.KOf];refine' My.fx_mk KX G ?a ?l ?c ?k;case a | l | c | k=>k_is
  obtain⟨aZT,dZT,mZT,fZT⟩:My.FX (L2.KOf KX) mg "_law_leads" "_law_leads" My.sZT:=by dsimp only [L2.KOf];refine' My.fx_mk KX G ?a ?l ?c ?k;case a | l | c | k=>k_is
  obtain⟨aZU,dZU,mZU,fZU⟩:My.FX (L2.KOf KX) mg "_law_good" "_law_good" My.sZU:=by dsimp only [L2.KOf];refine' My.fx_mk KX G ?a ?l ?c ?k;case a | l | c | k=>k_is
  obtain⟨aZV,dZV,mZV,fZV⟩:My.FX (L2.KOf KX) mg "law" "law" My.sZV:=by dsimp only [L2.KOf];refine' My.fx_mk KX G ?a ?l ?c ?k;case a | l | c | k=>k_is
  have h_Web:My.CXF (L2.KOf KX) mg "Web" "Web.__init__" My.sZ8 ["places","ties"]:=by
   dsimp only [L2.KOf];refine' My.cx_mk KX G ?aC ?a ?i ?l ?c ?k ?pg ?hd ?po ?sa ?mk ?kc ?na
   (case aC=>k_is);(case a=>k_is);(case i=>k_is);(case l=>k_is);(case c=>k_is);(case k=>k_is)
   (case pg=>k_is);(case hd=>k_is);(case po=>k_is);(case sa=>k_is);(case mk=>k_is);(case kc=>k_is)
   (case na=>(intro f hf;simp only [Yf,Y1F,or_false]at hf;rcases hf with rfl | rfl <;> k_is))
  have h_Part:My.CXFL (L2.KOf KX) mg "Part" "Part.__init__" My.sZy ["web","kept","shut","lead","least","incoming","further"] 353:=by
   dsimp only [L2.KOf];refine' My.cxl_mk KX G ?aC ?a ?i ?l ?c ?k ?pg ?hd ?po ?sa ?mk ?kc ?na ?z
   (case aC=>k_is);(case a=>k_is);(case i=>k_is);(case l=>k_is);(case c=>k_is);(case k=>k_is)
   (case pg=>k_is);(case hd=>k_is);(case po=>k_is);(case sa=>k_is);(case mk=>k_is);(case kc=>k_is)
   (case na=>(intro f hf;simp only [Yf,Y1F,or_false]at hf;rcases hf with rfl | rfl | rfl | rfl | rfl | rfl | rfl <;> k_is))
   (case z=>kernel_rfl)
  have h_MOST_PLACES:∃ tk,mg "MOST_PLACES"=some (.int 14 tk):=by
   refine' My.const_mk KX G ?a ?b
   (case a=>k_is);(case b=>exact⟨_,rfl⟩)
  have h_MOST_TIES:∃ tk,mg "MOST_TIES"=some (.int 30 tk):=by
   refine' My.const_mk KX G ?a ?b
   (case a=>k_is);(case b=>exact⟨_,rfl⟩)
  have h_any:mg "any"=none:=by refine' Yy05 KX G ?a;case a=>k_is
  have h_enumerate:mg "enumerate"=none:=by refine' Yy05 KX G ?a;case a=>k_is
  have h_len:mg "len"=none:=by refine' Yy05 KX G ?a;case a=>k_is
  have h_list:mg "list"=none:=by refine' Yy05 KX G ?a;case a=>k_is
  have h_max:mg "max"=none:=by refine' Yy05 KX G ?a;case a=>k_is
  have h_min:mg "min"=none:=by refine' Yy05 KX G ?a;case a=>k_is
  have h_range:mg "range"=none:=by refine' Yy05 KX G ?a;case a=>k_is
  have h_reversed:mg "reversed"=none:=by refine' Yy05 KX G ?a;case a=>k_is
  have h_set:mg "set"=none:=by refine' Yy05 KX G ?a;case a=>k_is
  have h_sorted:mg "sorted"=none:=by refine' Yy05 KX G ?a;case a=>k_is
  have h_tuple:mg "tuple"=none:=by refine' Yy05 KX G ?a;case a=>k_is
  have h_zip:mg "zip"=none:=by refine' Yy05 KX G ?a;case a=>k_is
  obtain⟨A_Web,aZ8,dZ8,c_Web,fZ8,cl_Web,k_Web,na_Web⟩:=h_Web;obtain⟨A_Part,aZy,dZy,c_lam,c_Part,fZy,cl_Part,k_Part,na_Part,e_lam,z_lam⟩:=h_Part;have T:My.Txt (L2.KOf KX) mg ⟨aZ0,dZ0,aZ1,dZ1,aZ2,dZ2,aZ3,dZ3,aZ4,dZ4,aZ5,dZ5,aZ6,dZ6,aZ7,dZ7,aZ8,dZ8,aZ9,dZ9,aZa,dZa,aZb,dZb,aZc,dZc,aZd,dZd,aZe,dZe,aZf,dZf,aZg,dZg,aZh,dZh,aZi,dZi,aZj,dZj,aZk,dZk,aZl,dZl,aZm,dZm,aZn,dZn,aZo,dZo,aZp,dZp,aZq,dZq,aZr,dZr,aZs,dZs,aZt,dZt,aZu,dZu,aZv,dZv,aZw,dZw,aZx,dZx,aZy,dZy,aZz,dZz,aZA,dZA,aZB,dZB,aZC,dZC,aZD,dZD,aZE,dZE,aZF,dZF,aZG,dZG,aZH,dZH,aZI,dZI,aZJ,dZJ,aZK,dZK,aZL,dZL,aZM,dZM,aZN,dZN,aZO,dZO,aZP,dZP,aZQ,dZQ,aZR,dZR,aZS,dZS,aZT,dZT,aZU,dZU,aZV,dZV,A_Web,A_Part⟩:=⟨fZ0,fZ0.binds (λ_ _ _ _ _ _=>My.un1 λ_=>rfl),mZ0,fZ1,fZ1.binds (λ_ _ _ _ _ _=>My.un3 λ_ _ _=>rfl),mZ1,fZ2,fZ2.binds (λ_ _ _ _ _ _=>My.un1 λ_=>rfl),mZ2,fZ3,fZ3.binds (λ_ _ _ _ _ _=>My.un1 λ_=>rfl),mZ3,fZ4,fZ4.binds (λ_ _ _ _ _ _=>My.un2 λ_ _=>rfl),mZ4,fZ5,fZ5.binds (λ_ _ _ _ _ _=>My.un2 λ_ _=>rfl),mZ5,fZ6,fZ6.binds (λ_ _ _ _ _ _=>My.un2 λ_ _=>rfl),mZ6,fZ7,fZ7.binds (λ_ _ _ _ _ _=>My.un2 λ_ _=>rfl),mZ7,fZ8,fZ8.binds (λ_ _ _ _ _ _=>My.un3 λ_ _ _=>rfl),fZ9,fZ9.binds (λ_ _ _ _ _ _=>My.un1 λ_=>rfl),mZ9,fZa,fZa.binds (λ_ _ _ _ _ _=>My.un2 λ_ _=>rfl),mZa,fZb,fZb.binds (λ_ _ _ _ _ _=>My.un2 λ_ _=>rfl),mZb,fZc,fZc.binds (λ_ _ _ _ _ _=>My.un2 λ_ _=>rfl),mZc,fZd,fZd.binds (λ_ _ _ _ _ _=>My.un2 λ_ _=>rfl),mZd,fZe,fZe.binds (λ_ _ _ _ _ _=>My.un2 λ_ _=>rfl),mZe,fZf,fZf.binds (λ_ _ _ _ _ _=>My.un3 λ_ _ _=>rfl),mZf,fZg,fZg.binds (λ_ _ _ _ _ _=>My.un2 λ_ _=>rfl),mZg,fZh,fZh.binds (λ_ _ _ _ _ _=>My.un2 λ_ _=>rfl),mZh,fZi,fZi.binds (λ_ _ _ _ _ _=>My.un2 λ_ _=>rfl),mZi,fZj,fZj.binds (λ_ _ _ _ _ _=>My.un1 λ_=>rfl),mZj,fZk,fZk.binds (λ_ _ _ _ _ _=>My.un2 λ_ _=>rfl),mZk,fZl,fZl.binds (λ_ _ _ _ _ _=>My.un1 λ_=>rfl),mZl,fZm,fZm.binds (λ_ _ _ _ _ _=>My.un1 λ_=>rfl),mZm,fZn,fZn.binds (λ_ _ _ _ _ _=>My.un3 λ_ _ _=>rfl),mZn,fZo,fZo.binds (λ_ _ _ _ _ _=>My.un3 λ_ _ _=>rfl),mZo,fZp,fZp.binds (λ_ _ _ _ _ _=>My.un2 λ_ _=>rfl),mZp,fZq,fZq.binds (λ_ _ _ _ _ _=>My.un2 λ_ _=>rfl),mZq,fZr,fZr.binds (λ_ _ _ _ _ _=>My.un3 λ_ _ _=>rfl),mZr,fZs,fZs.binds (λ_ _ _ _ _ _=>My.un1 λ_=>rfl),mZs,fZt,fZt.binds (λ_ _ _ _ _ _=>My.un3 λ_ _ _=>rfl),mZt,fZu,fZu.binds (λ_ _ _ _ _ _=>My.un3 λ_ _ _=>rfl),mZu,fZv,fZv.binds (λ_ _ _ _ _ _=>My.un3 λ_ _ _=>rfl),mZv,fZw,fZw.binds (λ_ _ _ _ _ _=>My.un3 λ_ _ _=>rfl),mZw,fZx,fZx.binds (λ_ _ _ _ _ _=>My.un3 λ_ _ _=>rfl),mZx,fZy,fZy.binds (λ_ _ _ _ _ _=>My.un5 λ_ _ _ _ _=>rfl),fZz,fZz.binds (λ_ _ _ _ _ _=>My.un1 λ_=>rfl),mZz,fZA,fZA.binds (λ_ _ _ _ _ _=>My.un1 λ_=>rfl),mZA,fZB,fZB.binds (λ_ _ _ _ _ _=>My.un1 λ_=>rfl),mZB,fZC,fZC.binds (λ_ _ _ _ _ _=>My.un1 λ_=>rfl),mZC,fZD,fZD.binds (λ_ _ _ _ _ _=>My.un2 λ_ _=>rfl),mZD,fZE,fZE.binds (λ_ _ _ _ _ _=>My.un1 λ_=>rfl),mZE,fZF,fZF.binds (λ_ _ _ _ _ _=>My.un4 λ_ _ _ _=>rfl),mZF,fZG,fZG.binds (λ_ _ _ _ _ _=>My.un1 λ_=>rfl),mZG,fZH,fZH.binds (λ_ _ _ _ _ _=>My.un3 λ_ _ _=>rfl),mZH,fZI,fZI.binds (λ_ _ _ _ _ _=>My.un2 λ_ _=>rfl),mZI,fZJ,fZJ.binds (λ_ _ _ _ _ _=>My.un3 λ_ _ _=>rfl),mZJ,fZK,fZK.binds (λ_ _ _ _ _ _=>My.un2 λ_ _=>rfl),mZK,fZL,fZL.binds (λ_ _ _ _ _ _=>My.un2 λ_ _=>rfl),mZL,fZM,fZM.binds (λ_ _ _ _ _ _=>My.un2 λ_ _=>rfl),mZM,fZN,fZN.binds (λ_ _ _ _ _ _=>My.un2 λ_ _=>rfl),mZN,fZO,fZO.binds (λ_ _ _ _ _ _=>My.un2 λ_ _=>rfl),mZO,fZP,fZP.binds (λ_ _ _ _ _ _=>My.un1 λ_=>rfl),mZP,fZQ,fZQ.binds (λ_ _ _ _ _ _=>My.un2 λ_ _=>rfl),mZQ,fZR,fZR.binds (λ_ _ _ _ _ _=>My.un1 λ_=>rfl),mZR,fZS,fZS.binds (λ_ _ _ _ _ _=>My.un1 λ_=>rfl),mZS,fZT,fZT.binds (λ_ _ _ _ _ _=>My.un1 λ_=>rfl),mZT,fZU,fZU.binds (λ_ _ _ _ _ _=>My.un4 λ_ _ _ _=>rfl),mZU,fZV,fZV.binds (λ_ _ _ _ _ _=>My.un1 λ_=>rfl),mZV,c_Web,cl_Web,k_Web,na_Web _ (by simp),na_Web _ (by simp),c_Part,cl_Part,k_Part,na_Part _ (by simp),na_Part _ (by simp),na_Part _ (by simp),na_Part _ (by simp),na_Part _ (by simp),na_Part _ (by simp),na_Part _ (by simp),h_MOST_PLACES,h_MOST_TIES,h_any,h_enumerate,h_len,h_list,h_max,h_min,h_range,h_reversed,h_set,h_sorted,h_tuple,h_zip⟩
  have e0:=hmg.symm.trans mZV;cases e0;exact⟨dZV,λs u=>My.law_binds fZV s u,λbase _ _ HB=>My.okZV T ⟨c_lam,e_lam,z_lam,HB,by decide⟩⟩
#print axioms PySem.Challenge.cw_spanrow_k43_whole_halves_of_the_row_holds
