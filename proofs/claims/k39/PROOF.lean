import PyProof.Rows.All
import Wide.All
import OpenK.AllK
import Wide.FinOn
import Lean
import PyProof.EqAt
import PyProof.EqKinds
import PyProof.TupleCall
import PySem.Challenge.RW_spanrow_k39_whole_numbers_there_and_back
set_option Elab.async false
set_option linter.all false
set_option maxRecDepth 100000
namespace PySem.W.Fast
def tw8311819508127263750:=0
def tw13113750775630391876:=0
def tw15744111979860776291:=0
def tw17158923680609245786:=0
def tw6936045856985135849:=0
def tw11867474352450082572:=0
def tw5551011582022971880:=0
def tw5582991356840285623:=0
def tw18439948208097977305:=0
def tw18428492613266478830:=0
def tw4271239053666926164:=0
def tw5463406062614426129:=0
def tw9644552587925285138:=0
def tw11184900157075280040:=0
def tw11116392684501122044:=0
def tw5054769151713921353:=0
def tw16470277553590181120:=0
def tw17084714027730233346:=0
def tw8812787539904889498:=0
def tw18094663611973025722:=0
def tw15799696818746627167:=0
def tw8725532370275529439:=0
def tw13613338226354111338:=0
def tw3498658603844602341:=0
def tw3305507639295521982:=0
def tw15245951223375464054:=0
def tw1779620219662268272:=0
def tw16521562058332205046:=0
def tw7015444864056636968:=0
def tw13827365865007524228:=0
def tw2019781661657014770:=0
def tw7238717228785026342:=0
def tw3540991773863309014:=0
def tw5336370434133151692:=0
def tw3248131327817559226:=0
def tw3455498777437493065:=0
def tw14521342184926878733:=0
def tw6502433722005903780:=0
def tw6235406232288854556:=0
def tw6703909770982771274:=0
def tw9770700615219850146:=0
def tw15974859824413773018:=0
def tw8422148511169594144:=0
def tw256127407367966467:=0
def tw12850021353006320089:=0
def tw13040087459790080076:=0
def tw6950461771439735111:=0
def tw2653669674644181590:=0
def tw3479692814273862244:=0
def tw12334378439882452161:=0
def tw17228334185807248933:=0
def tw6973687627768442272:=0
def tw5355786079108479033:=0
def tw11094421675774094368:=0
def tw15768625466111168461:=0
def tw9605727721157600719:=0
def tw4206075982565788479:=0
def tw16054763702558066392:=0
def tw2119248009485840760:=0
def tw2234551227092226260:=0
def tw18207577578132998724:=0
def tw17941413035280825929:=0
def tw8985339804691601007:=0
def tw2246185093797178753:=0
def tw12634835692076149520:=0
def tw16312145186979058845:=0
def tw17370949390984843916:=0
def tw16774401494534466720:=0
def tw10161984290641396580:=0
def tw9457099103094536029:=0
def tw1852500952501505884:=0
def tw11026847591132503471:=0
def tw5054518686194744502:=0
def tw6197163288025117670:=0
def tw9835506500571603505:=0
def tw234853025943868757:=0
def tw16502923617278805748:=0
def tw12629830332912599527:=0
def tw9629513552533572955:=0
def tw11566163759405385881:=0
def tw17357358145682954437:=0
def tw14659090100181232424:=0
def tw4799938641170062251:=0
def tw9980568292347725993:=0
def tw11269383254519975594:=0
def tw12866008040148118529:=0
def tw7565558897151875812:=0
def tw7514635539986969502:=0
def tw7154955335207053873:=0
def tw1352892250942279998:=0
def tw1256297450285365413:=0
def tw13565361102176652959:=0
def tw12979045926090769198:=0
def tw17422239280521631065:=0
def tw12587486490380092107:=0
def tw4583809704638641183:=0
def tw6729961801524993966:=0
def tw16090293537067904940:=0
def tw14881503624565502052:=0
def tw5274097518645577305:=0
def tw4778804433127225983:=0
def tw1016561874075535841:=0
def tw5222495171504784324:=0
def tw11901843349007617568:=0
def tw1173833556472185056:=0
def tw8272620129246731135:=0
def tw16643917855410871285:=0
def tw6494240908898580513:=0
def tw10583765722962963226:=0
def tw10173455333798896049:=0
def tw17162876849708400080:=0
def tw17677304014366391263:=0
def tw10794173229032208451:=0
def tw14390104083354525521:=0
def tw728136257936408140:=0
def tw12050836818306554506:=0
def tw16601740460205461593:=0
def tw15416624416140917258:=0
def tw11599306694386817484:=0
def tw16581231375113077326:=0
def tw6671829364360167477:=0
def tw320926730711631941:=0
def tw354642163759931399:=0
def tw501561476991969733:=0
def tw18087942117104877240:=0
def tw9645754327137056887:=0
def tw18291679939175975086:=0
def tw8474934578000643125:=0
def tw13062900754660209804:=0
def tw7835785493928615583:=0
def tw5258031046368991748:=0
def tw5148024377324130721:=0
def tw16604465809945473733:=0
def tw3585449786950729:=0
def tw16120172405159892453:=0
def tw4899548484894846585:=0
def tw3128899667622300717:=0
def tw12112703288012024670:=0
def tw13381041201626945448:=0
def tw10801750268475086569:=0
def tw9444729208220001960:=0
def tw4181562809948165072:=0
def tw16796202262978303683:=0
def tw2390617309100482993:=0
def tw7431731218222149726:=0
def tw4237284981457788350:=0
def tw17530671108098238619:=0
def tw3264312718648574183:=0
def tw13720186621358955359:=0
def tw7426548726090689757:=0
def tw1913713587930156316:=0
def tw2819298482593460848:=0
def tw13836551033499542069:=0
def tw974931827161590078:=0
def tw16133406122724118304:=0
def tw4739807226956022822:=0
def tw8424545326548518695:=0
def tw3431968740222589761:=0
def tw9599994842996266321:=0
def tw6379023643509950832:=0
def tw4523053902799683323:=0
def tw5510097045114631084:=0
def tw18158590857111027200:=0
def tw16665578233179826354:=0
def tw16941493801328479962:=0
def tw18072869864012828820:=0
def tw15947454759285893178:=0
def tw1033783389607390237:=0
def tw10482358529589617595:=0
def tw8957791861344306004:=0
def tw3041607525887358846:=0
def tw1883862212096845215:=0
def tw1672317892094332127:=0
def tw11132744016149492824:=0
def tw10990291589091522840:=0
def tw15749089769367393401:=0
def tw11827411292377588123:=0
def tw769722804844203153:=0
def tw18426735954675273907:=0
def tw5762682110487619743:=0
def tw7599664775010943226:=0
def tw9722781253543780265:=0
def tw17079204349963915437:=0
def tw9134167105099449629:=0
def tw5722694597880289001:=0
def tw3770574126081013557:=0
def tw3692601104882975320:=0
def tw1561399339071072905:=0
def tw11173699367203578996:=0
def tw4453035056355904313:=0
def tw8204854847660150137:=0
def tw10029178766235400431:=0
def tw9989986884918488709:=0
def tw13391895315802966790:=0
def tw9760606672770889349:=0
def tw2150885026882125854:=0
def tw207399347453438663:=0
def tw3286797032530063538:=0
def tw14709610034595730822:=0
def tw13225853082873339735:=0
def tw14706242361294922286:=0
def tw9107829071377071731:=0
def tw4431314165431893690:=0
def tw13043950997428429238:=0
def tw12903118611206766715:=0
def tw15618278387646918198:=0
def tw6123315878494871154:=0
def tw16816953456134358946:=0
def tw6936026662007001024:=0
def tw4672908579097805984:=0
def tw10368913597410496486:=0
def tw14908353568432057511:=0
def tw11413375856920602329:=0
def tw11105620154407414065:=0
def tw18121081809967984647:=0
def tw17588558265566641348:=0
def tw17261767018503747167:=0
def tw3656182286382298399:=0
def tw8693306227298894139:=0
def tw3157493394084123264:=0
def tw2730177893619743328:=0
def tw15453848971248540347:=0
def tw10677442345407990852:=0
def tw5601813266432680106:=0
def tw16209197982439707097:=0
def tw6820671724872256485:=0
def tw11877353975898344099:=0
def tw9238317128473995215:=0
def tw4540670924220492601:=0
def tw3747736028791557759:=0
def tw17189083165300559217:=0
def tw10104135054114123833:=0
def tw7913492665772145387:=0
def tw3691120487170133835:=0
def tw2085413159045721415:=0
def tw13558108977194557687:=0
def tw13228875178154883620:=0
def tw14895859621538881594:=0
def tw3523512420680873925:=0
def tw16565699337047123154:=0
def tw14217197493875144148:=0
def tw14825720949279009633:=0
def tw7521230039448839048:=0
def tw15585838123157736794:=0
def tw14915515832011563322:=0
def tw8870041067057653598:=0
def tw15024449484101360217:=0
def tw8037339545138145332:=0
def tw4068198568228208424:=0
def tw15809030188497672885:=0
def tw11969913523801032637:=0
def tw14210284272721740433:=0
def tw11164584218821617859:=0
def tw14474298806984443986:=0
def tw14058204065430026511:=0
def tw4206340947597474025:=0
def tw13664942130929087035:=0
def tw13266897831963295688:=0
def tw5597600534655321066:=0
def tw3438522367888678459:=0
def tw4491778590746185186:=0
def tw14436364508555722443:=0
def tw16318733422923937947:=0
def tw6968728206915835409:=0
def tw4297456934920449916:=0
def tw2283584721108559992:=0
def tw16714269372697286644:=0
def tw6378912718373921721:=0
def tw11754810597165225821:=0
def tw8833510569796269111:=0
def tw17228331526876378863:=0
def tw16164916013773082366:=0
def tw9394691522241780370:=0
def tw14534386327468068776:=0
def tw13405787946245122467:=0
def tw18009716403026794716:=0
def tw12643015561301268373:=0
def tw6240656591847841023:=0
def tw13424074824702700823:=0
def tw11415775553155933085:=0
def tw18404544141340066929:=0
def tw11636976450820648724:=0
def tw143960790536400494:=0
def tw2503262264649931937:=0
def tw1777552264528561189:=0
def tw4001936200340003475:=0
def tw17308120929038593830:=0
def tw5091826705097930543:=0
def tw4942600689660576303:=0
def tw2473024542929045599:=0
def tw625617145497496851:=0
def tw10011520090832611795:=0
def tw14986196279854396164:=0
def tw13761820672297427172:=0
def tw11280070255413735966:=0
def tw8702696797505487176:=0
def tw4372133782318140935:=0
def tw3535613635445123097:=0
def tw3209849612069755915:=0
def tw18287637812548549718:=0
def tw16301124332045631217:=0
def tw16003851496321428268:=0
def tw1368265819323285186:=0
def tw10947095618236400778:=0
def tw12184843288315036114:=0
def tw370780438269244993:=0
def tw813456407084396056:=0
def tw7267094227561094265:=0
def tw7109279726593972382:=0
def tw13486666273013604523:=0
def tw6001185522573953220:=0
def tw2181776378744656641:=0
def tw8616406042127399121:=0
def tw483120243308879940:=0
def tw3797878361313812110:=0
def tw8696882015417166376:=0
def tw11981517138495422286:=0
def tw4739841003451671429:=0
def tw9219496038553831510:=0
def tw8947897361748356984:=0
def tw8904297945908677010:=0
def tw4606803745976291024:=0
def tw4412620102730808862:=0
def tw14215087943306890323:=0
def tw13652746770658779271:=0
def tw11204093262570262043:=0
def tw9598611735265953610:=0
def tw9173323285242005879:=0
def tw8893835195886110134:=0
def tw4931301356374174186:=0
def tw18274545090661058573:=0
def tw17779204530695313904:=0
def tw15884104979740002882:=0
def tw14652527231570510547:=0
def tw13353319180728460553:=0
def tw10707683876516460944:=0
end PySem.W.Fast
abbrev Aa:=List (Int × Int)
abbrev Ab:=List (List Int)
abbrev Ac:=List Int
abbrev Ad:=PySem.W.Frag
abbrev Ae:=PySem.Value->PySem.Shared->Prop
abbrev Af:=PySem.Str->Option PySem.Value
abbrev Ag:=List PySem.Value
def Xp:=@List.getElem?_eq_some_iff
def Xo:=@List.getElem?_eq_getElem
def XD:=@List.mem_singleton
def XU:=@PySem.wpAny_bind
def Xs:=@List.length_append
def Xc:=@PySem.Heap.get?_push_of_some
def Xy:=@List.mem_append
def Xd:=@List.mem_of_getElem?
def XO:=@Nat.le_refl
def WI:=@List.getD_eq_getElem?_getD
def Ya:=@List.mem_append_left
def Yb:=@List.size_toArray
def Yc:=@List.mem_append_right
def Yd:=@List.length_map
def Ye:=@List.mem_cons_self
def Yf:=@List.mem_filter
def Yg:=@List.mem_cons
def Yh:=@List.mem_cons_of_mem
def Yi:=@Option.some.inj
def Yj:=@PySem.wpAny_pure
def Yk:=@List.length_singleton
def Yl:=@PySem.Heap.lt_size
def Ym:=@PySem.Heap.get?_push_size
def Yn:=@Nat.lt_of_lt_of_le
def Yo:=@Nat.zero_le
def Yp:=@List.getElem?_map
def Yq:=@List.getElem?_append_right
def Yr:=@Nat.le_trans
def Ys:=@List.getElem?_append_left
def Yt:=@Nat.ne_of_lt
def Yu:=@of_decide_eq_true
def Yv:=@Bool.false_ne_true
def Yw:=@decide_eq_true
def Yx:=@Classical.byContradiction
def Yy:=@Array.getD_eq_getD_getElem?
def Yz:=@List.length_cons
def YA:=@Int.toNat_natCast
def YB:=@List.length_take
def YC:=@List.mem_map
def YD:=@Array.length_toList
def YE:=@Array.getElem?_eq_getElem
def YF:=@List.append_nil
def YG:=@List.length_replicate
def YH:=@List.length_filter_le
def YI:=@List.mem_range
def YJ:=@List.length_reverse
def YK:=@List.take_length
def YL:=@List.filter_cons
def YM:=@PySem.Heap.get?_update_other
def YN:=@List.pairwise_cons
def YO:=@Int.emod_lt_of_pos
def QP:=@List.map_append
def YQ:=@List.length_eq_zero_iff
def YR:=@Int.emod_nonneg
def YS:=@List.nodup_append
def YT:=@Array.getElem?_toList
def YU:=@decide_eq_true_iff
def YV:=@PySem.W.mg_none_of
def YW:=@List.map_congr_left
def YX:=@PySem.F.plainAttrs_list
def YY:=@Ne.symm
def YZ:=@Nat.not_lt_zero
def VH:=@List.getElem?_of_mem
def WA:=@List.take_succ
def Vy:=@List.getElem?_eq_none
def Xw:=@congrArg
def Vx:=@PySem.Heap.get?_update_self
def Ws:=@PySem.PassesOwn.never
def Wh:=@decide_eq_false
def Wz:=@List.map_cons
def Wg:=@PySem.codeAny_builtin
def UH:=@List.take_of_length_le
def Pe:=@List.pairwise_append
def QW:=@List.filter_append
def Lw:=@PyProof.Rows.callWith_type1
def QV:=@PySem.wpAny_Call_Name_kw
def Lv:=@List.perm_ext_iff_of_nodup
def QU:=@List.append_assoc
def Rl:=@List.nodup_cons
def Pd:=@PySem.Obj.data_mapFields
def QT:=@List.length_drop
def QS:=@List.all_eq_true
def Um:=@Nat.le_succ
def Pc:=@List.length_range
def Sw:=@Int.mul_assoc
def Sv:=@PySem.wpAny_holding
def QR:=@PySem.W.kia_one
def Pb:=@Nat.lt_succ_self
def Lu:=@List.drop_eq_nil_of_le
def Ue:=@PySem.sizeLine_eq
def Ir:=@List.pairwise_iff_getElem
def Su:=@Int.mul_zero
def UG:=@PySem.wpAny_mono
def Ls:=@List.getElem?_reverse
def Rk:=@Nat.lt_irrefl
def MG:=@PySem.Heap.SameBut.update
def Pa:=@Bool.eq_iff_iff
def OB:=@PySem.wpAny_truthy_bool
def OA:=@PySem.wpAny_newObj_type
def SX:=@Int.one_mul
def Sb:=@Nat.ne_of_gt
def Sa:=@Int.add_zero
def Iq:=@List.pairwise_singleton
def MF:=@List.pairwise_map
def ME:=@List.filter_congr
def Lr:=@PySem.mem_of_lookup
def Lq:=@List.replicate_succ
def Oz:=@PySem.F.plain_min_loop
def Lp:=@PySem.Around.under_plainId
def Ip:=@List.getElem?_zipWith
def SW:=@beq_iff_eq
def MD:=@List.lookup_cons
def MC:=@List.getElem_mem
def MB:=@Bool.and_eq_true
def Hj:=@PySem.F.type_list_append
def Hi:=@PySem.F.slot_list_append
def QQ:=@Int.mul_comm
def Io:=@PySem.builtinLookup_eq_fast
def MA:=@PySem.wpAny_call_entry
def Lo:=@decide_eq_true_eq
def AO:=@List.eq_nil_iff_forall_not_mem
def Mz:=@List.nil_append
def Oy:=@PySem.Heap.size_push
def Hh:=@List.pairwise_lt_range
def QO:=@List.length_pos_of_mem
def UE:=@PySem.plainId_quiet
def SV:=@List.length_set
def Ox:=@Array.perm_iff_toList_perm
def RZ:=@Nat.lt_succ_of_lt
def RY:=@List.ext_getElem?
def UD:=@Nat.succ.inj
def UC:=@Nat.sub_self
def UB:=@Nat.le_of_lt
def Ud:=@PySem.W.mg_of
def Ln:=@PySem.wpAny_passesOwn
def Hg:=@beq_eq_false_iff_ne
def Lm:=@Nat.mul_le_mul
def Im:=@List.mem_reverse
def Hf:=@List.map_eq_nil_iff
def He:=@List.length_zipWith
def Hd:=@List.filterMap_cons
def AN:=@List.eq_of_mem_replicate
def Il:=@PySem.wpAny_setState_of
def Ow:=@PySem.codeAny_mono
def AM:=@List.getElem?_replicate
def Mw:=@Nat.zero_add
def Mv:=@List.map_map
def Hc:=@List.getElem?_take
def Ov:=@Int.mul_one
def Ou:=@Int.le_refl
def Hb:=@Bool.false_eq_true
def Ik:=@List.length_nil
def Ha:=@PySem.wpAny_setEntries_of
def Ll:=@PySem.wpAny_seqItems
def Ij:=@PySem.wpAny_askSetting
def AL:=@Array.getElem?_eq_none
def GZ:=@List.getElem?_set
def GY:=@List.flatten_cons
def AK:=@PySem.wpAny_callSpecial?_slot
def Ot:=@PySem.wpAny_of_eq
def xP:=@List.take_append_of_le_length
def xO:=@List.drop_append_of_le_length
def Mu:=@PySem.F.called_set
def GX:=@PySem.Code.quiet_builtin
def Ii:=@PySem.typeLookup_type
def Lk:=@PySem.wpAny_newList
def AJ:=@List.mem_of_mem_take
def AI:=@List.length_eraseIdx
def GW:=@List.cons_append
def Lj:=@Int.pow_zero
def Li:=@Int.le_of_lt
def AH:=@PySem.Obj.isFreed_of_fields
def Ih:=@PySem.wpAny_setField
def GV:=@Nat.min_eq_left
def GU:=@List.range_succ
def AG:=@PySem.codeAny_call_builtin
def AF:=@Nat.lt_of_le_of_lt
def AE:=@List.mem_filterMap
def Lh:=@Int.mul_add
def Lg:=@PyProof.Rows.listUpdate_at
def xN:=@PySem.F.args_tuple_add_2
def xM:=@Option.isSome_iff_exists
def xK:=@List.mem_of_mem_eraseIdx
def xJ:=@List.length_erase_of_mem
def Ig:=@Int.zero_add
def Ie:=@Int.le_trans
def Oq:=@List.foldl_append
def Oo:=@Int.mul_left_comm
def QN:=@PySem.wpAny_execs_nil
def Lf:=@PySem.F.entry_tuple_add
def Le:=@Int.eq_ofNat_of_zero_le
def Ld:=@PySem.Calls.Name_function_global
def Om:=@beq_self_eq_true
def Lc:=@PySem.F.slot_tuple_add
def Ol:=@Nat.le_of_not_lt
def QM:=@List.sum_cons
def xH:=@List.getElem?_set_self
def xG:=@List.getElem?_eraseIdx
def xF:=@List.drop_of_length_le
def GS:=@List.any_cons
def GR:=@PySem.wpAny_tryCatch
def AD:=@List.foldl_cons
def AB:=@List.find?_cons
def xE:=@PySem.W.hideAll_none
def xD:=@Nat.pow_le_pow_right
def xC:=@List.mem_of_getLast?
def xB:=@List.mem_erase_of_ne
def xA:=@List.getElem?_set_ne
def GQ:=@Int.zero_mul
def GP:=@Int.pow_succ
def AA:=@PySem.wpAny_isInstance
def GO:=@PySem.wpAny_attempt
def Lb:=@PySem.call_meets
def xy:=@Nat.mul_le_mul_left
def xx:=@List.getElem_of_mem
def xw:=@List.getElem?_range
def xu:=@List.filter_eq_self
def Az:=@PySem.F.entry_min_loop
def Ic:=@PySem.wpAny_letGo
def xt:=@PySem.W.callWith_K
def xr:=@Nat.add_sub_cancel
def xq:=@List.getElem?_drop
def Ay:=@PySem.wpAny_updateSeq
def OZ:=@if_true
def Ax:=@List.take_nil
def GN:=@PySem.wpAny_typeOf
def jN:=@PyProof.Rows.callWith_builtin1
def xp:=@List.reverse_cons
def xn:=@List.getElem?_inj
def xm:=@Array.toList_push
def xk:=@PyProof.Rows.F.plain_set_update_loop
def Aw:=@PySem.wpAny_runValue
def Av:=@PySem.wpAny_fieldsOf
def Ib:=@PySem.wpAny_call
def Au:=@PySem.isSubtype_type
def La:=@if_false
def xj:=@decide_eq_decide
def jM:=@PySem.F.slot_dict_setdefault
def As:=@Nat.mul_comm
def xi:=@Nat.min_eq_right
def Ar:=@Nat.lt_trans
def xh:=@List.not_mem_nil
def jL:=@List.dropLast_concat_getLast
def xg:=@List.any_eq_true
def Aq:=@Int.sub_zero
def GL:=@Int.not_lt
def xf:=@Int.min_eq_right
def xc:=@Int.max_eq_right
def KZ:=@beq_false_of_ne
def KY:=@PySem.SeqAt.EqAt.of_refs
def GK:=@PySem.F.excBase_ValueError
def KW:=@Option.map_some
def KU:=@Nat.le_antisymm
def KS:=@List.of_mem_zip
def GJ:=@List.length_eraseIdx_of_lt
def KR:=@List.filter_nil
def KQ:=@Int.min_eq_left
def KP:=@Int.max_eq_left
def xb:=@PySem.Calls.spliced_cons
def xa:=@Bool.or_eq_true
def jK:=@PySem.F.plain_extend_loop
def jJ:=@List.getElem?_eq_none_iff
def jI:=@List.drop_eq_getElem_cons
def Ap:=@Int.neg_mul
def jH:=@Int.eq_of_mul_eq_mul_left
def Ao:=@Int.add_mul
def w9:=@PySem.wpAny_pyIter_list
def An:=@PyProof.Rows.get?_update_seq
def jG:=@PySem.F.type_list_extend
def jF:=@PySem.F.slot_list_extend
def jE:=@PySem.F.slot_dict_values
def w6:=@PySem.Obj.cls_mapFields
def w5:=@List.take_zero
def jD:=@List.Pairwise.imp_of_mem
def w4:=@Int.natAbs_mul
def wZ:=@PySem.Calls.spliced_nil
def wY:=@PyProof.Rows.entry_proto_collect'
def jC:=@PySem.F.type_list_index
def jB:=@PySem.F.slot_list_index
def jA:=@PySem.F.plainAttrs_dict
def jz:=@PySem.F.attr_ValueError
def jy:=@List.pairwise_mergeSort
def GI:=@PySem.wpAny_rule
def GH:=@PySem.wpAny_load
def wX:=@PySem.noFill_tuple_add
def jx:=@PySem.W.funFrames_hide
def jw:=@PySem.W.cellsFrom_some
def jv:=@PySem.F.type_list_pop
def ju:=@PySem.F.slot_list_pop
def jt:=@List.getElem?_toArray
def js:=@List.Pairwise.sublist
def jr:=@Bool.beq_eq_decide_eq
/-! THE bM jq,for ints,bools,texts,own classes,jo and tuples (index,wW,in,append,pop ..),calls,loops. jn it whole ahead of wV own text;what wV proof bL not reach may be deleted. -/
namespace L2
open PySem PySem.Spec PyProof.Rows
abbrev Key:=Sum Int Str
def UR:Key->Value->Bool
 | .inl k,v=>Value.isInt k v
 | .inr x,v=>Value.isStrOf x v
def wU(w:World):Key->Int
 | .inl k=>hashInt k
 | .inr x=>hashStr w x
theorem ZD:∀ {k:Key} {v:Value},UR k v=true->(∃ i t,k=Sum.inl i/\v=Value.int i t)\/(∃ x t,k=Sum.inr x/\v=Value.str x t)
 | .inl i,v,h=>by obtain⟨t,e⟩:=Value.isInt_shape (k:=i) (v:=v) h;exact .inl ⟨i,t,rfl,e⟩
 | .inr x,v,h=>by obtain⟨t,e⟩:=Value.isStrOf_shape (x:=x) (v:=v) h;exact .inr ⟨x,t,rfl,e⟩
theorem bK(i:Int)(t:Tok):UR (.inl i) (.int i t)=true:=by simp[UR,Value.isInt]
theorem bJ(x:Str)(t:Tok):UR (.inr x) (.str x t)=true:=by simp[UR,Value.isStrOf]
theorem wR(a b:Int):decide ((Sum.inl a:Key)=Sum.inl b)=(a == b):=by
 by_cases e:a=b
 .subst e;simp
 .have h:¬ (Sum.inl a:Key)=Sum.inl b:=λq=>e (Sum.inl.inj q);rw[Wh h];exact(Hg.mpr e).symm
theorem wQ(a b:Str):decide ((Sum.inr a:Key)=Sum.inr b)=decide (a=b):=by
 by_cases e:a=b
 .subst e;simp
 .have h:¬ (Sum.inr a:Key)=Sum.inr b:=λq=>e (Sum.inr.inj q);rw[Wh h,Wh e]
theorem wO(a:Int)(b:Str):decide ((Sum.inl a:Key)=Sum.inr b)=false:=Wh (λq=>nomatch q)
theorem wN(a:Str)(b:Int):decide ((Sum.inr a:Key)=Sum.inl b)=false:=Wh (λq=>nomatch q)
def VQ(prog:Program)(w:World):PySem.KeyKind prog w Key where
 is:=UR
 hash:=wU w
 inj:=λv a b ha hb=>by
  rcases ZD ha with ⟨i,t,rfl,rfl⟩ | ⟨x,t,rfl,rfl⟩
  .rcases ZD hb with ⟨j,u,rfl,e⟩ | ⟨y,u,rfl,e⟩
   .injection e with e1 _;rw[e1]
   .exact nomatch e
  .rcases ZD hb with ⟨j,u,rfl,e⟩ | ⟨y,u,rfl,e⟩
   .exact nomatch e
   .injection e with e1 _;rw[e1]
 byValue:=λk v h=>by rcases ZD h with ⟨i,t,rfl,rfl⟩ | ⟨x,t,rfl,rfl⟩ <;> rfl
 pyHash:=λhv h=>by
  rcases ZD hv with ⟨i,t,rfl,rfl⟩ | ⟨x,t,rfl,rfl⟩
  .exact wpAny_pyHash_int h
  .exact wpAny_pyHash_str h
 eqBool:=λhu hv h=>by
  rcases ZD hu with ⟨i,t,rfl,rfl⟩ | ⟨x,t,rfl,rfl⟩
  .rcases ZD hv with ⟨j,u,rfl,rfl⟩ | ⟨y,u,rfl,rfl⟩
   .rw[wR]at h;exact wpAny_eqBool_int h
   .rw[wO]at h;exact SeqAt.EqAt.int_str i t y u _ _ _ _ h
  .rcases ZD hv with ⟨j,u,rfl,rfl⟩ | ⟨y,u,rfl,rfl⟩
   .rw[wN]at h;exact SeqAt.EqAt.str_int x t j u _ _ _ _ h
   .rw[wQ]at h;exact wpAny_eqBool_str h
 «strs»:=λk x t v h=>by
  rcases ZD h with ⟨i,u,rfl,e⟩ | ⟨y,u,rfl,e⟩
  .exact nomatch e
  .injection e with e1 _;subst e1;cases v <;> rfl
theorem bI(prog:Program)(w:World)(i:Int)(t:Tok):(VQ prog w).is (.inl i) (.int i t)=true:=bK i t
theorem bH(prog:Program)(w:World)(x:Str)(t:Tok):(VQ prog w).is (.inr x) (.str x t)=true:=bJ x t
inductive V where
 | non | bl (b:Bool) | int (i:Int) | str (x:Str) | byt (b:Array UInt8) | flt (b:UInt64) | ref (a:Addr) | ty (n:String)
 deriving DecidableEq
def RelV:V->Value->Prop
 | .non,u=>u=Value.none
 | .bl b,u=>u=Value.bool b
 | .int i,u=>∃ t,u=Value.int i t
 | .str x,u=>∃ t,u=Value.str x t
 | .byt b,u=>∃ t,u=Value.bytes b t
 | .flt b,u=>∃ t,u=Value.float b t
 | .ref a,u=>u=Value.ref a
 | .ty n,u=>u=Value.type n
abbrev Vals:List V->List Value->Prop:=Paired RelV
theorem Vals.length{xs:List V}{us:Ag}(r:Vals xs us):xs.length=us.length:=Paired.length r
theorem Vals.get:∀ {xs:List V} {us:Ag} {i:Nat} {x:V},Vals xs us->xs[i]?=some x->∃ u,us[i]?=some u/\RelV x u
 | _,_,_,_,.nil,e=>by simp at e
 | _,_,0,_,.cons r _,e=>by simp at e;subst e;exact⟨_,rfl,r⟩
 | _,_,i+1,x,.cons _ t,e=>by obtain⟨u,h1,h2⟩:=Vals.get (i:=i) (x:=x) t (by simpa using e);exact⟨u,by simpa using h1,h2⟩
theorem Vals.set{x:V}{u:Value}(r:RelV x u):∀ {xs:List V} {us:Ag} (i:Nat),Vals xs us->Vals (xs.set i x) (us.set i u)
 | _,_,_,.nil=>.nil
 | _,_,0,.cons _ t=>.cons r t
 | _,_,i+1,.cons q t=>.cons q (Vals.set r i t)
theorem Vals.append:∀ {xs ys:List V} {us ws:Ag},Vals xs us->Vals ys ws->Vals (xs++ys) (us++ws)
 | _,_,_,_,.nil,s=>s
 | _,_,_,_,.cons r t,s=>.cons r (Vals.append t s)
theorem Vals.take:∀ {xs:List V} {us:Ag} (n:Nat),Vals xs us->Vals (xs.take n) (us.take n)
 | _,_,0,_=>.nil
 | _,_,_+1,.nil=>.nil
 | _,_,n+1,.cons r t=>.cons r (Vals.take n t)
theorem Vals.drop:∀ {xs:List V} {us:Ag} (n:Nat),Vals xs us->Vals (xs.drop n) (us.drop n)
 | _,_,0,r=>r
 | _,_,_+1,.nil=>.nil
 | _,_,n+1,.cons _ t=>Vals.drop n t
def RelO:Option V->Option Value->Prop
 | some v,some u=>RelV v u
 | none,none=>True
 | _,_=>False
def KV{κ:Type}:List (κ × V)->List (κ × Value)->Prop:=Paired λ(p:κ × V) (q:κ × Value)=>p.1=q.1/\RelV p.2 q.2
def kV:Key->V
 | .inl i=>.int i
 | .inr x=>.str x
inductive HO where
 | lst (xs:List V)
 | tup (xs:List V)
 | dK (kvs:List (Key × V)) | dT (kvs:List (List Key × V))
 | set (S:Int->Bool) (n:Nat)
 | ins (C dx:Addr) (fs:List (Str × V))
 | own (x:Addr)
 | xd (fs:List (Str × V))
 | met (f x:Addr)
 | rng (lo hi:Int)
 | frz (o:Obj) (u:HO)
 | tbl (ps:Array Value)
 | ext (φ:Heap->Prop)
abbrev Hp:=Addr->Option HO
def upd(H:Hp)(a:Addr)(o:HO):Hp:=λb=>if b=a then some o else H b
theorem XR{H:Hp}{a:Addr}{o:HO}:upd H a o a=some o:=by unfold upd;rw[if_pos rfl]
theorem Zb{H:Hp}{a b:Addr}{o:HO}(h:b≠a):upd H a o b=H b:=by unfold upd;rw[if_neg h]
theorem OY{H:Hp}{a b:Addr}{o u:HO}(h:H a=some o)(h':H b=some u)(d:o≠u):a≠b:=by intro e;subst e;rw[h]at h';exact d (Yi h')
theorem Zc{H:Hp}{a b:Addr}{o:HO}(h:H a=some o)(h':H b=none):a≠b:=by intro e;subst e;rw[h]at h';cases h'
section
variable(P:Program)(w:World)
def ObjOk(H:Hp)(h:Heap)(a:Addr):HO->Prop
 | .lst xs=>xs.length<=sizeLine/\∃(XW:Ag) (n:Nat),Vals xs XW/\h.get? a=some { cls:=.type "list",data:=.seq XW.toArray n }
 | .tup xs=>xs.length<=sizeLine/\∃ XW:Ag,Vals xs XW/\IsTup h a XW.toArray
 | .dK kvs=>kvs.length<=sizeLine/\(a == sysModules)=false/\∃ vs,KV kvs vs/\h.DictOf (VQ P w) a vs
 | .dT kvs=>kvs.length<=sizeLine/\(a == sysModules)=false/\∃ xs:List (List Key × Addr × Value),
   Paired (λ(p:List Key × V) (q:List Key × Addr × Value)=>p.1=q.1/\H q.2.1=some (.tup (p.1.map kV))/\RelV p.2 q.2.2) kvs xs /\
   ∃ o es ep,h.get? a=some o/\o.ExactDict/\o.data=.dict es ep/\es.toList=xs.map (entryOfKey (tupleKind (VQ P w)))/\(xs.map (·.1)).Nodup
 | .set S n=>h.SetOf (intKind P w) a S n
 | .ins C dx fs=>H dx=some (.own a)/\fs.length<=1000/\dx≠a/\h.get? a=some (PySem.W.instObj C dx) /\
   ∃ mA,h.Ns1 dx mA/\(∀ f,RelO (fs.lookup f) (mA f))/\PySem.Within mA (fs.map (·.1))
 | .own _=>∃ o,h.get? a=some o
 | .xd fs=>∃ mA,h.Ns1 a mA/\∀ f,RelO (fs.lookup f) (mA f)
 | .rng lo hi=>∃ t u v,h.get? a=some { cls:=.type "range",data:=.fields #[.int lo t,.int hi u,.int 1 v] }
 | .frz o u=>h.get? a=some o/\ObjOk H h a u
 | .tbl ps=>h.get? a=some { cls:=.none,data:=.fields ps }
 | .met f x=>h.get? a=some (PySem.W.methodObj (.ref f) (.ref x))
 | .ext φ=>φ h/\(∃ o,h.get? a=some o)/\∀ h1 h2:Heap,φ h1->(∀ o,h1.get? a=some o->h2.get? a=some o)->φ h2
def HOk(H:Hp)(h:Heap):Prop:=∀ a o,H a=some o->ObjOk P w H h a o
end
section
variable{P:Program}{w:World}{H H':Hp}{h h':Heap}{a:Addr}{o:HO}
theorem ObjOk.lt(x:ObjOk P w H h a o):a<h.objs.size:=by
 cases o with
 | lst xs=>obtain⟨_,_,_,_,e⟩:=x;exact Yl e
 | tup xs=>obtain⟨_,_,_,p⟩:=x;exact p.lt
 | dK kvs=>obtain⟨_,_,_,_,o,_,_,e,_⟩:=x;exact Yl e
 | dT kvs=>obtain⟨_,_,_,_,o,_,_,e,_⟩:=x;exact Yl e
 | set S n=>obtain⟨o,_,_,_,e,_⟩:=x;exact Yl e
 | ins C dx fs=>obtain⟨_,_,_,e,_⟩:=x;exact Yl e
 | own y=>obtain⟨_,e⟩:=x;exact Yl e
 | xd fs=>obtain⟨_,⟨_,_,_,e,_⟩,_⟩:=x;exact Yl e
 | rng lo hi=>obtain⟨_,_,_,e⟩:=x;exact Yl e
 | frz ob u=>obtain⟨e,_⟩:=x;exact Yl e
 | tbl ps=>exact Yl (show h.get? a=some _ from x)
 | met f y=>exact Yl (show h.get? a=some _ from x)
 | ext φ=>obtain⟨_,⟨_,e⟩,_⟩:=x;exact Yl e
theorem Paired.mapP{α β:Type}{F G:α->β->Prop}:∀ {l₁:List α} {l₂:List β},Paired F l₁ l₂->(∀ a b,F a b->G a b)->Paired G l₁ l₂
 | _,_,.nil,_=>.nil
 | _,_,.cons r t,f=>.cons (f _ _ r) (Paired.mapP t f)
theorem ObjOk.stay(x:ObjOk P w H h a o)(k:∀ b u,(b=a\/H b=some (.own a))->h.get? b=some u->h'.get? b=some u)
  (ho:∀ b,H b=some (.own a)->H' b=some (.own a)) (ht:∀ b xs,H b=some (.tup xs)->H' b=some (.tup xs)):ObjOk P w H' h' a o:=by
 induction o with
 | lst xs=>obtain⟨z,XW,n,r,e⟩:=x;exact⟨z,XW,n,r,k _ _ (.inl rfl) e⟩
 | tup xs=>obtain⟨z,XW,r,ob,e,c⟩:=x;exact⟨z,XW,r,ob,k _ _ (.inl rfl) e,c⟩
 | dK kvs=>obtain⟨z,y,vs,r,ob,es,ep,e,c⟩:=x;exact⟨z,y,vs,r,ob,es,ep,k _ _ (.inl rfl) e,c⟩
 | dT kvs =>
  obtain⟨z,y,xs,r,ob,es,ep,e,c⟩:=x;exact⟨z,y,xs,Paired.mapP r λp q z=>⟨z.1,ht _ _ z.2.1,z.2.2⟩,ob,es,ep,k _ _ (.inl rfl) e,c⟩
 | set S n=>obtain⟨ob,es,ep,t,e,c⟩:=x;exact⟨ob,es,ep,t,k _ _ (.inl rfl) e,c⟩
 | ins C dx fs =>
  obtain⟨d,z,ne,e,mA,⟨od,es,ep,e2,c⟩,r⟩:=x;exact⟨ho _ d,z,ne,k _ _ (.inl rfl) e,mA,⟨od,es,ep,k _ _ (.inr d) e2,c⟩,r⟩
 | own y=>obtain⟨ob,e⟩:=x;exact⟨ob,k _ _ (.inl rfl) e⟩
 | xd fs=>obtain⟨mA,⟨od,es,ep,e,c⟩,r⟩:=x;exact⟨mA,⟨od,es,ep,k _ _ (.inl rfl) e,c⟩,r⟩
 | rng lo hi=>obtain⟨t,u,v,e⟩:=x;exact⟨t,u,v,k _ _ (.inl rfl) e⟩
 | frz ob u ih=>obtain⟨e,q⟩:=x;exact⟨k _ _ (.inl rfl) e,ih q⟩
 | tbl ps =>
  have e:h.get? a=some { cls:=.none,data:=.fields ps }:=x;show h'.get? a=some { cls:=.none,data:=.fields ps }
  exact k a _ (.inl rfl) e
 | met f y =>
  have e:h.get? a=some (PySem.W.methodObj (.ref f) (.ref y)):=x;show h'.get? a=some (PySem.W.methodObj (.ref f) (.ref y))
  exact k a _ (.inl rfl) e
 | ext φ=>obtain⟨p,⟨o,e⟩,st⟩:=x;exact⟨st _ _ p λo q=>k _ _ (.inl rfl) q,⟨o,k _ _ (.inl rfl) e⟩,st⟩
theorem HOk.lt(x:HOk P w H h)(e:H a=some o):a<h.objs.size:=(x a o e).lt
theorem HOk.fresh(x:HOk P w H h)(e:h.objs.size<=a):H a=none:=by
 cases q:H a with
 | none=>rfl
 | some u=>exact absurd (Yn (x.lt q) e) (Rk _)
theorem HOk.kept(x:HOk P w H h)(k:∀ b u,h.get? b=some u->h'.get? b=some u):HOk P w H h':=λa o e =>
 (x a o e).stay (λb u _ q=>k b u q) (λ_ q=>q) λ_ _ q=>q
theorem HOk.laid(x:HOk P w H h)(k:∀ b u,h.get? b=some u->h'.get? b=some u)(hp:h.objs.size<=a)(new:ObjOk P w (upd H a o) h' a o):HOk P w (upd H a o) h':=λb u e=>by
 have hn:=x.fresh hp;by_cases hb:b=a
 .subst hb;rw[XR]at e;cases e;exact new
 .rw[Zb hb]at e;exact(x b u e).stay (λc v _ q=>k c v q) (λc q=>by rw[Zb (Zc q hn)];exact q) λc xs q=>by rw[Zb (Zc q hn)];exact q
end
def Rd(H:Hp)(a:Addr)(u:HO):Prop:=H a=some u\/∃ o,H a=some (.frz o u)
theorem Rd.ok{P:Program}{w:World}{H:Hp}{h:Heap}{a:Addr}{u:HO}(r:Rd H a u)(x:HOk P w H h):ObjOk P w H h a u:=by
 rcases r with r | ⟨o,r⟩
 .exact x a u r
 .obtain⟨_,q⟩:=x a _ r;exact q
def GG:Option HO->Prop
 | some (.lst _)=>True
 | some (.dK _)=>True
 | some (.dT _)=>True
 | some (.set _ _)=>True
 | some (.ins _ _ _)=>True
 | some (.ext _)=>True
 | _=>False
section
variable{P:Program}{w:World}{H:Hp}{h h':Heap}{x e:Addr}{o':HO}
theorem HOk.write(ok:HOk P w H h)(mu:GG (H x))(he:e=x\/H e=some (.own x))(k:∀ b u,b≠e->h.get? b=some u->h'.get? b=some u)(Ia:∃ u,h'.get? e=some u)
  (new:ObjOk P w (upd H x o') h' x o'):HOk P w (upd H x o') h':=λb u q=>by
 have GF:∀ c y,H c=some (.own y)->c≠x:=λc y r z=>by subst z;rw[r]at mu;exact mu
 have wM:∀ c xs,H c=some (.tup xs)->c≠x:=λc xs r z=>by subst z;rw[r]at mu;exact mu
 by_cases hb:b=x
 .subst hb;rw[XR]at q;cases q;exact new
 .rw[Zb hb]at q;by_cases KO:b=e
  .have q':H b=some (.own x):=by
    rcases he with z | z
    .exact absurd (KO.trans z) hb
    .rw[KO];exact z
   rw[q]at q';cases q';obtain⟨v,hv⟩:=Ia;exact⟨v,by rw[KO];exact hv⟩
  .refine(ok b u q).stay (λc v hc r=>k c v ?_ r) (λc r=>by rw[Zb (GF c b r)];exact r) λc xs r=>by rw[Zb (wM c xs r)];exact r
   rcases hc with rfl | hc
   .exact KO
   .rintro rfl;rcases he with z | z
    .exact GF c b hc z
    .rw[hc]at z;cases z;exact hb rfl
end
structure Un (fs ex:List Addr) (H H':Hp) (h h':Heap):Prop where
 keep:∀ b o,h.get? b=some o->H b=none->b∉fs->b∉ex->h'.get? b=some o
 slot:∀ b o,h.get? b=some o->H b=none->b∈fs->b∉ex->∃ sl,h'.get? b=some { o with slots:=sl }
 free:∀ b o,h.get? b=some o->H b=none->b∉ex->H' b=none
 there:∀ b o,h.get? b=some o->b∉ex->∃ o',h'.get? b=some o'
 tups:∀ b xs,H b=some (.tup xs)->H' b=some (.tup xs)
 frzs:∀ b o u,H b=some (.frz o u)->H' b=some (.frz o u)
 tbls:∀ b ps,H b=some (.tbl ps)->∃ more,H' b=some (.tbl (ps++more))
section
variable{fs ex:List Addr}{H H1:Hp}{h h1 h':Heap}{a x e:Addr}{o:HO}
theorem Un.any(u:Un fs ex H H1 h h1){b:Addr}{ob:Obj}(q:h.get? b=some ob)(n:H b=none)(hx:b∉ex):∃ sl,h1.get? b=some { ob with slots:=sl }:=by
 by_cases hb:b∈fs
 .exact u.slot b ob q n hb hx
 .exact⟨ob.slots,u.keep b ob q n hb hx⟩
theorem Un.kept(k:∀ b u,h.get? b=some u->h'.get? b=some u):Un fs ex H H h h' :=
 ⟨λb ob q _ _ _=>k b ob q,λb ob q _ _ _=>⟨ob.slots,k b ob q⟩,λ_ _ _ n _=>n,λb ob q _=>⟨ob,k b ob q⟩,λ_ _ q=>q,λ_ _ _ q=>q,λ_ ps q=>⟨#[],by rw[q];simp⟩⟩
theorem Un.refl:Un fs ex H H h h:=Un.kept λ_ _ q=>q
theorem Un.laid(k:∀ b u,h.get? b=some u->h'.get? b=some u)(hp:h.objs.size<=a)(hn:H a=none):Un fs ex H (upd H a o) h h' where
 keep:=λb u q _ _ _=>k b u q
 slot:=λb u q _ _ _=>⟨u.slots,k b u q⟩
 free:=λb u q n _=>by rw[Zb (Yt (Yn (Yl q) hp))];exact n
 there:=λb u q _=>⟨u,k b u q⟩
 tups:=λb xs q=>by rw[Zb (Zc q hn)];exact q
 frzs:=λb u xs q=>by rw[Zb (Zc q hn)];exact q
 tbls:=λb ps q=>⟨#[],by rw[Zb (Zc q hn),q];simp⟩
theorem Un.write(mu:GG (H x))(he:e=x\/H e=some (.own x))(k:∀ b u,b≠e->h.get? b=some u->h'.get? b=some u)(Ia:∃ u,h'.get? e=some u):Un fs ex H (upd H x o) h h':=by
 have hx:∀ b,H b=none->b≠x:=λb n z=>by subst z;rw[n]at mu;exact mu
 have hb:∀ b,H b=none->b≠e:=λb n z=>by
  subst z;rcases he with r | r
  .exact hx b n r
  .rw[n]at r;cases r
 have hm:∀ b u,H b=some u->¬ GG (some u)->b≠x:=λb u q nm z=>by subst z;rw[q]at mu;exact nm mu
 refine⟨λb u q n _ _=>k b u (hb b n) q,λb u q n _ _=>⟨u.slots,k b u (hb b n) q⟩,λb u q n _=>by rw[Zb (hx b n)];exact n,λb u q _=>?_,
  λb xs q=>by rw[Zb (hm b _ q λz=>z)];exact q,λb u xs q=>by rw[Zb (hm b _ q λz=>z)];exact q,λb ps q=>⟨#[],by rw[Zb (hm b _ q λz=>z),q];simp⟩⟩
 by_cases KO:b=e
 .subst KO;exact Ia
 .exact⟨u,k b u KO q⟩
end
def Am(h:Heap)(H:Hp):List Addr:=(List.range h.objs.size).filter λa=>(H a).isSome
def Vf(h:Heap)(H:Hp):Heap:=PySem.W.hideAll h (Am h H)
theorem bG(h:Heap)(H:Hp):(Vf h H).objs.size=h.objs.size:=PySem.W.hideAll_size _ _
theorem wL{h:Heap}{H:Hp}{b:Addr}{o:Obj}(e:h.get? b=some o)(n:H b=none):(Vf h H).get? b=some o :=
 PySem.W.hideAll_get _ e λhm=>by have q:(H b).isSome=true:=(Yf.mp hm).2;rw[n]at q;simp at q
theorem GD{h:Heap}{H:Hp}{b:Addr}{o:Obj}(e:(Vf h H).get? b=some o):h.get? b=some o/\H b=none:=by
 have e':h.get? b=some o:=PySem.W.of_hideAll (Am h H) e;refine⟨e',?_⟩;cases q:H b with
 | none=>rfl
 | some x =>
  have hm:b∈Am h H:=Yf.mpr ⟨YI.mpr (Yl e'),by simp[q]⟩;have z:(Vf h H).get? b=none:=xE (Am h H) hm
  rw[z]at e;cases e
def wK(g h:Heap)(L:Addr):List (Addr × Obj):=(List.range h.objs.size).filterMap λa=>if a=L\/(g.get? a).isSome=true then none else (h.get? a).map λo=>(a,o)
def rest(g h:Heap)(L d:Addr):List (Addr × Obj):=(wK g h L).filter λp=>decide (p.1≠d)
structure Mod (K:Ad) (mg:Af) (base:Heap):Prop where
 kin:K.In base
 glob:base.Ns mainGlobals mg
 blt:∃ mb,base.Ns builtinsNs mb/\∀ x:Str,x≠"__name__"->mb x=bootBuiltins x
 nolimit:base.NoLimit
structure Cx where
 prog:Program
 w:World
 K:Ad
 mg:Af
 base:Heap
 A:Around
 N:List Str
 s₀:Shared
 H₀:Hp
 env:Env
 outer:List Env
 stack:List Env
 ex:List Addr
 fn:Str->Bool
 calm:Bool
 pn:List (Addr × Obj)
 xe:Ae
def Wj(l:List Env):List Addr:=l.filterMap (·.frame)
abbrev Cx.fs(X:Cx):List Addr:=Wj X.outer
def wJ(sc:Scope)(x:Str):Prop:=sc.names.lookup x=some .local\/sc.names.lookup x=some .cell\/sc.names.lookup x=some .free
def Loc(sc:Scope)(x:Str):Prop:=sc.names.lookup x=some .local\/sc.names.lookup x=some .cell
def Look(env:Env)(h:Heap)(m:Af)(x:Str)(u:Value):Prop :=
 (env.kindOf x=some .local/\m x=some u)\/((env.kindOf x=some .cell\/env.kindOf x=some .free)/\∃ c,env.cells.lookup x=some c/\h.IsCell c (some u))
structure Cx.Ok (X:Cx):Prop where
 mod:Mod X.K X.mg X.base
 kind:X.env.scope.kind=.function
 glob:X.env.globals=mainGlobals
 blt:X.env.builtins=builtinsNs
 above:X.s₀.heap.objs.size<=X.env.locals
 inj:∀ x y c,X.env.cells.lookup x=some c->X.env.cells.lookup y=some c->x=y
 has:∀ x,(X.env.kindOf x=some .cell\/X.env.kindOf x=some .free)->∃ c,X.env.cells.lookup x=some c
 cab:∀ x c,X.fn x=true->X.env.cells.lookup x=some c->X.s₀.heap.objs.size<=c
 hd:X.calm=true->X.A.handled=none
 frames:X.A.frames=some X.stack
 stk:X.stack=X.outer\/(X.stack=X.env :: X.outer/\X.env.frame=some X.env.locals)
 exf:∀ b∈X.ex,b≠X.env.locals/\∀ x c,X.env.cells.lookup x=some c->c≠b
 bs:∀ b o,X.base.get? b=some o->X.s₀.heap.get? b=some o/\X.H₀ b=none
 bsz:X.base.objs.size<=X.s₀.heap.objs.size
 noex:∀ b o,X.base.get? b=some o->b∉X.ex
 exfs:∀ b∈X.ex,b∉X.fs
 funs:X.s₀.heap.FunFrames X.base X.outer
 frf:∀ b∈X.fs,X.H₀ b=none
structure Inv (X:Cx) (pins:List (Addr × Obj)) (σ:List (Option V)) (H:Hp) (s:Shared):Prop where
 ok:X.Ok
 os:s.os=X.s₀.os
 bare:AllBare s.gens
 base:Un X.fs X.ex X.H₀ H X.s₀.heap s.heap
 loc:∃ m,s.heap.Ns X.env.locals m/\∀(i:Nat) (x:Str) (v:V),X.N[i]?=some x->σ[i]?=some (some v)->wJ X.env.scope x->∃ u,RelV v u/\Look X.env s.heap m x u
 cell:∀ x c,X.env.cells.lookup x=some c->∃ v,s.heap.IsCell c v
 free:H X.env.locals=none
 freeC:∀ x c,X.env.cells.lookup x=some c->H c=none
 pin:∀ p∈X.pn++pins,s.heap.get? p.1=some p.2/\H p.1=none/\p.1≠X.env.locals/\p.1∉X.fs/\∀ v,p.2.data≠.cell v
 hok:HOk X.prog X.w H s.heap
 len:σ.length=X.N.length
section
variable{X:Cx}{pins:List (Addr × Obj)}{σ:List (Option V)}{H H':Hp}{s:Shared}{h':Heap}
theorem Cx.Ok.nofr(ok:X.Ok){b:Addr}{o:Obj}(e:X.base.get? b=some o):b∉X.fs:=λhb=>by
 have:=(ok.funs.mem hb).1
 rw[e]at this;cases this
theorem Inv.bs(I:Inv X pins σ H s):∀ b o,X.base.get? b=some o->s.heap.get? b=some o/\H b=none:=λb o e =>
 ⟨I.base.keep b o (I.ok.bs b o e).1 (I.ok.bs b o e).2 (I.ok.nofr e) (I.ok.noex b o e),I.base.free b o (I.ok.bs b o e).1 (I.ok.bs b o e).2 (I.ok.noex b o e)⟩
theorem Inv.bk(I:Inv X pins σ H s):∀ b o,X.base.get? b=some o->s.heap.get? b=some o:=λb o e=>(I.bs b o e).1
theorem Inv.mod(I:Inv X pins σ H s):Mod X.K X.mg X.base:=I.ok.mod
theorem Inv.kIn(I:Inv X pins σ H s):X.K.In s.heap:=I.ok.mod.kin.keeps I.bk
theorem Inv.lt(I:Inv X pins σ H s):X.env.locals<s.heap.objs.size:=let ⟨_,hn,_⟩:=I.loc;hn.lt
theorem Inv.sz(I:Inv X pins σ H s):X.s₀.heap.objs.size<=s.heap.objs.size:=Yr I.ok.above (UB I.lt)
theorem Inv.nofs(I:Inv X pins σ H s){a:Addr}(h:s.heap.objs.size<=a):a∉X.fs:=λhb=>by obtain⟨_,o,ho,_⟩:=I.ok.funs.mem hb;exact absurd (Yn (Yl ho) (Yr I.sz h)) (Rk _)
theorem Inv.cne(I:Inv X pins σ H s):∀ x c,X.env.cells.lookup x=some c->c≠X.env.locals:=λx c e z=>by obtain⟨v,o,ho,hd⟩:=I.cell x c e;obtain⟨m,⟨o',es,ep,WR,Uc,_⟩,_⟩:=I.loc;rw[z,WR]at ho;cases ho;rw[Uc]at hd;cases hd
theorem Inv.funs(I:Inv X pins σ H s):s.heap.FunFrames X.base X.outer:=by
 have all:∀(l:List Env),(∀ b∈Wj l,b∈X.fs)->X.s₀.heap.FunFrames X.base l->s.heap.FunFrames X.base l:=by
  intro l
  induction l with
  | nil=>intro _ _;trivial
  | cons env r ih =>
   intro hs hl;obtain⟨hk,⟨L,o,hf,hn,ho,hd⟩,hr⟩:=hl;have hL:L∈X.fs:=hs L (by unfold Wj;rw[Hd,hf];exact Ye)
   obtain⟨sl,e⟩:=I.base.slot L o ho (I.ok.frf L hL) hL λz=>I.ok.exfs L z hL;exact⟨hk,⟨L,_,hf,hn,e,hd⟩,ih (λb hb=>hs b (by unfold Wj;rw[Hd,hf];exact Yh _ hb)) hr⟩
 exact all X.outer (λ_ hb=>hb) I.ok.funs
theorem Inv.stack(I:Inv X pins σ H s):s.heap.FunFrames X.base X.stack:=by
 rcases I.ok.stk with e | ⟨e,hf⟩
 .rw[e];exact I.funs
 .rw[e];obtain⟨m,hn,_⟩:=I.loc;refine .cons (by rw[I.ok.kind];decide) hf hn ?_ I.funs;exact Heap.get?_none_of_le (Yr I.ok.bsz I.ok.above)
theorem Inv.stkSub(I:Inv X pins σ H s):∀ b∈Wj X.stack,b∈X.env.locals :: X.fs:=λb hb=>by
 rcases I.ok.stk with e | ⟨e,hf⟩
 .rw[e]at hb;exact Yh _ hb
 .rw[e]at hb;unfold Wj at hb;rw[Hd,hf]at hb;exact hb
theorem Inv.stkFree(I:Inv X pins σ H s):∀ b∈Wj X.stack,H b=none:=λb hb=>by
 rcases Yg.mp (I.stkSub b hb) with e | hb
 .rw[e];exact I.free
 .obtain⟨_,o,ho,_⟩:=I.ok.funs.mem hb;exact I.base.free b o ho (I.ok.frf b hb) λz=>I.ok.exfs b z hb
theorem Inv.step{g':Array GenState}{t':Nat}{d':Drawn}{ch:List Addr}(I:Inv X pins σ H s)
  (OX:∀ b∈ch,(b∈X.ex\/X.s₀.heap.objs.size<=b)/\b≠X.env.locals/\(∀ x c,X.env.cells.lookup x=some c->c≠b)/\∀ p∈X.pn++pins,p.1≠b)
  (keep:∀ b o,b≠X.env.locals->b∉X.fs->b∉ch->s.heap.get? b=some o->H b=none->h'.get? b=some o)
  (slot:∀ b o,b≠X.env.locals->b∈X.fs->b∉ch->s.heap.get? b=some o->H b=none->∃ sl,h'.get? b=some { o with slots:=sl }) (free:∀ b o,b∉ch->s.heap.get? b=some o->H b=none->H' b=none)
  (there:∀ b o,b∉ch->s.heap.get? b=some o->∃ o',h'.get? b=some o')
  (tups:∀ b xs,H b=some (.tup xs)->H' b=some (.tup xs)) (frzs:∀ b o u,H b=some (.frz o u)->H' b=some (.frz o u)) (tbls:∀ b ps,H b=some (.tbl ps)->∃ more,H' b=some (.tbl (ps++more)))
  (ns:∀ m,s.heap.Ns X.env.locals m->h'.Ns X.env.locals m) (hok:HOk X.prog X.w H' h') (hg:AllBare g') :
  Inv X pins σ H' { s with heap:=h',gens:=g',drawn:=d',toks:=t' }:=by
 have GC:∀ b o,X.s₀.heap.get? b=some o->b≠X.env.locals:=λb o e=>Yt (Yn (Yl e) I.ok.above);have Al:∀ b o,X.s₀.heap.get? b=some o->b∉X.ex->b∉ch:=λb o e hx hb=>by
  rcases(OX b hb).1 with z | z
  .exact hx z
  .exact absurd (Yn (Yl e) z) (Rk _)
 have cellK:∀ x c,X.env.cells.lookup x=some c->∀ v,s.heap.IsCell c v->h'.IsCell c v:=λx c e v ⟨o,ho,hd⟩=>by
  have GB:c∉ch:=λz=>(OX c z).2.2.1 x c e rfl;by_cases hc:c∈X.fs
  .obtain⟨sl,q⟩:=slot c o (I.cne x c e) hc GB ho (I.freeC x c e);exact⟨_,q,hd⟩
  .exact⟨o,keep c o (I.cne x c e) hc GB ho (I.freeC x c e),hd⟩
 refine⟨I.ok,I.os,hg,⟨λb o e n hb hx=>?_,λb o e n hb hx=>?_,λb o e n hx=>?_,λb o e hx=>?_,λb xs e=>tups b xs (I.base.tups b xs e),λb o xs e=>frzs b o xs (I.base.frzs b o xs e),λb ps e=>?_⟩,?_,λx c e=>?_,?_,λx c e=>?_,λp hp=>?_,hok,I.len⟩
 .exact keep b o (GC b o e) hb (Al b o e hx) (I.base.keep b o e n hb hx) (I.base.free b o e n hx)
 .obtain⟨sl,e1⟩:=I.base.slot b o e n hb hx;obtain⟨KN,e2⟩:=slot b _ (GC b o e) hb (Al b o e hx) e1 (I.base.free b o e n hx);exact⟨KN,e2⟩
 .obtain⟨o',e1⟩:=I.base.there b o e hx;exact free b o' (Al b o e hx) e1 (I.base.free b o e n hx)
 .obtain⟨o',e1⟩:=I.base.there b o e hx;exact there b o' (Al b o e hx) e1
 .obtain⟨m1,e1⟩:=I.base.tbls b ps e;obtain⟨m2,e2⟩:=tbls b _ e1;exact⟨m1++m2,by rw[e2,Array.append_assoc]⟩
 .obtain⟨m,hn,hl⟩:=I.loc;refine⟨m,ns m hn,λi x v e1 e2 e3=>?_⟩;obtain⟨u,r,l⟩:=hl i x v e1 e2 e3;refine⟨u,r,?_⟩;rcases l with l | ⟨k,c,e,z⟩
  .exact .inl l
  .exact .inr ⟨k,c,e,cellK x c e _ z⟩
 .obtain⟨v,z⟩:=I.cell x c e;exact⟨v,cellK x c e v z⟩
 .obtain⟨m,⟨o,_,_,ho,_⟩,_⟩:=I.loc;exact free _ o (λz=>(OX _ z).2.1 rfl) ho I.free
 .obtain⟨v,o,ho,hd⟩:=I.cell x c e;exact free c o (λz=>(OX c z).2.2.1 x c e rfl) ho (I.freeC x c e)
 .obtain⟨e,n,ne,nf,d⟩:=I.pin p hp;have GB:p.1∉ch:=λz=>(OX p.1 z).2.2.2 p hp rfl
  exact⟨keep p.1 p.2 ne nf GB e n,free p.1 p.2 GB e n,ne,nf,d⟩
theorem Inv.un{t':Nat}(I:Inv X pins σ H s)(u:Un X.fs [] H H' s.heap h')(hok:HOk X.prog X.w H' h'):Inv X pins σ H' { s with heap:=h',toks:=t' }:=by
 obtain⟨m,⟨o,es,ep,ho,r⟩,_⟩:=id I.loc;obtain⟨sl,hL⟩:=u.any ho I.free (by simp);exact I.step (g':=s.gens) (d':=s.drawn) (ch:=[]) (λ_ z=>nomatch z) (λb o _ hb _ e n=>u.keep b o e n hb (by simp)) (λb o _ hb _ e n=>u.slot b o e n hb (by simp)) (λb o _ e n=>u.free b o e n (by simp)) (λb o _ e=>u.there b o e (by simp)) u.tups u.frzs u.tbls (λm' hm=>by obtain⟨o',Ak,Aj,WR,r'⟩:=hm;rw[ho]at WR;cases WR;exact⟨_,Ak,Aj,hL,r'⟩) hok I.bare
theorem Inv.call{g':Array GenState}{t':Nat}{d':Drawn}{ch:List Addr}(I:Inv X pins σ H s)(u:Un (Wj X.stack) ch H H' s.heap h')(hok:HOk X.prog X.w H' h')(hg:AllBare g')
  (OX:∀ b∈ch,(b∈X.ex\/X.s₀.heap.objs.size<=b)/\b≠X.env.locals/\(∀ x c,X.env.cells.lookup x=some c->c≠b)/\∀ p∈X.pn++pins,p.1≠b) :
  Inv X pins σ H' { s with heap:=h',gens:=g',drawn:=d',toks:=t' }:=by
 obtain⟨m,⟨o,es,ep,ho,r⟩,_⟩:=id I.loc;obtain⟨sl,hL⟩:=u.any ho I.free λz=>(OX _ z).2.1 rfl;exact I.step (ch:=ch) OX (λb o hL hb hc e n=>u.keep b o e n (λz=>(Yg.mp (I.stkSub b z)).elim hL hb) hc) (λb o _ _ hc e n=>u.any e n hc) (λb o hc e n=>u.free b o e n hc) (λb o hc e=>u.there b o e hc) u.tups u.frzs u.tbls (λm' hm=>by obtain⟨o',Ak,Aj,WR,r'⟩:=hm;rw[ho]at WR;cases WR;exact⟨_,Ak,Aj,hL,r'⟩) hok hg
theorem Inv.turned{t':Nat}{it:Addr}(I:Inv X pins σ H s)(k:∀ b o,b≠it->s.heap.get? b=some o->h'.get? b=some o)(hn:H it=none)(hL:it≠X.env.locals)
  (h1:it∈X.ex\/X.s₀.heap.objs.size<=it) (h2:∀ x c,X.env.cells.lookup x=some c->c≠it) (h3:∀ p∈X.pn++pins,p.1≠it):Inv X pins σ H { s with heap:=h',toks:=t' }:=by
 have jm:∀ b u,H b=some u->b≠it:=λb u e z=>by rw[z,hn]at e;cases e
 refine I.step (g':=s.gens) (d':=s.drawn) (ch:=[it]) (λb hb=>?_) (λb o _ _ hc e _=>k b o (λz=>hc (by simp[z])) e) (λb o _ _ hc e _=>⟨o.slots,k b o (λz=>hc (by simp[z])) e⟩) (λ_ _ _ _ n=>n)
  (λb o hc e=>⟨o,k b o (λz=>hc (by simp[z])) e⟩) (λ_ _ e=>e) (λ_ _ _ e=>e) (λb ps e=>⟨#[],by rw[e];simp⟩) (λm hm=>?_) (λb u e=>?_) I.bare
 .have e:b=it:=by simpa using hb
  subst e;exact⟨h1,hL,h2,h3⟩
 .obtain⟨o,es,ep,ho,r⟩:=hm;exact⟨o,es,ep,k _ o (YY hL) ho,r⟩
 .refine(I.hok b u e).stay (λc v hc q=>k c v ?_ q) (λ_ q=>q) λ_ _ q=>q;rcases hc with z | z
  .rw[z];exact jm b u e
  .exact jm c _ z
theorem Inv.tok(I:Inv X pins σ H s)(t:Nat):Inv X pins σ H { s with toks:=t }:=I.un (h':=s.heap) (t':=t) Un.refl I.hok
theorem Inv.kept{t':Nat}(I:Inv X pins σ H s)(k:∀ b u,s.heap.get? b=some u->h'.get? b=some u):Inv X pins σ H { s with heap:=h',toks:=t' }:=I.un (Un.kept k) (I.hok.kept k)
theorem Inv.laid{a:Addr}{o:HO}{t':Nat}(I:Inv X pins σ H s)(k:∀ b u,s.heap.get? b=some u->h'.get? b=some u)(hp:s.heap.objs.size<=a)(new:ObjOk X.prog X.w (upd H a o) h' a o) :
  Inv X pins σ (upd H a o) { s with heap:=h',toks:=t' }:=I.un (Un.laid k hp (I.hok.fresh hp)) (I.hok.laid k hp new)
theorem Inv.write{x e:Addr}{o:HO}{t':Nat}(I:Inv X pins σ H s)(mu:GG (H x))(he:e=x\/H e=some (.own x))(k:∀ b u,b≠e->s.heap.get? b=some u->h'.get? b=some u)(Ia:∃ u,h'.get? e=some u)
  (new:ObjOk X.prog X.w (upd H x o) h' x o):Inv X pins σ (upd H x o) { s with heap:=h',toks:=t' }:=I.un (Un.write mu he k Ia) (I.hok.write mu he k Ia new)
theorem Inv.weak{σ':List (Option V)}(I:Inv X pins σ H s)(hl:σ'.length=σ.length)(w:∀(i:Nat) v,σ'[i]?=some (some v)->σ[i]?=some (some v)):Inv X pins σ' H s :=
 ⟨I.ok,I.os,I.bare,I.base,let ⟨m,hn,Ss⟩:=I.loc;⟨m,hn,λi x v e1 e2 e3=>Ss i x v e1 (w i v e2) e3⟩,I.cell,I.free,I.freeC,I.pin,I.hok,hl.trans I.len⟩
theorem Inv.pins_of{pins':List (Addr × Obj)}(I:Inv X pins σ H s)(h:∀ p∈pins',s.heap.get? p.1=some p.2/\H p.1=none/\p.1≠X.env.locals/\p.1∉X.fs/\∀ v,p.2.data≠.cell v):Inv X pins' σ H s :=
 ⟨I.ok,I.os,I.bare,I.base,I.loc,I.cell,I.free,I.freeC,λp hp=>(Xy.mp hp).elim (λz=>I.pin p (Ya _ z)) (h p),I.hok,I.len⟩
theorem wI{N:List Str}(hN:N.Nodup){i j:Nat}{x:Str}(a:N[i]?=some x)(b:N[j]?=some x):i=j:=by obtain⟨h1,e1⟩:=Xp.mp a;obtain⟨h2,e2⟩:=Xp.mp b;exact(List.getElem_inj hN).mp (e1.trans e2.symm)
theorem jk{M:Model}{A:Around}{E:Ae}{i:Nat}{x:Str}{v:V}{u:Value}{Q:Unit->Shared->Prop}(I:Inv X pins σ H s)(hN:X.N.Nodup)(hi:X.N[i]?=some x)(hx:Loc X.env.scope x)(r:RelV v u)
  (h:∀ s',Inv X pins (σ.set i (some v)) H s'->(∃ a,Heap.SameBut a s.heap s'.heap/\(a=X.env.locals\/X.env.cells.lookup x=some a))->Q () s') (hf:X.fn x=true\/X.env.scope.names.lookup x=some .local:=by first | exact .inl rfl | exact .inr rfl | assumption):wpAny M A (storeName X.env x u) Q E s:=by
 obtain⟨m,hn,hl⟩:=id I.loc;have wH:(X.env.scope.kind == .class || (X.env.scope.kind == .module && X.env.locals != X.env.globals))=false:=by rw[I.ok.kind];rfl
 have Oj:i<σ.length:=by rw[I.len];exact(Xp.mp hi).1
 have cne:=I.cne;have tracked:∀ {a:Addr} {h':Heap},(∃ o,s.heap.get? a=some o/\H a=none)->Heap.SameBut a s.heap h'->HOk X.prog X.w H h':=λ{a h'} ha hs b ob e=>by
  obtain⟨_,_,Mt⟩:=ha;refine(I.hok b ob e).stay (λc w' hc q=>(hs.2 c ?_).trans q) (λ_ q=>q) λ_ _ q=>q;rintro rfl;rcases hc with rfl | hc
  .rw[Mt]at e;cases e
  .rw[Mt]at hc;cases hc
 rcases hx with hk | hk
 .refine wpAny_storeName_local hk hn (λh' Ub hs=>?_) wH;obtain⟨oL,_,_,Ms,_⟩:=id hn;refine h _ ⟨I.ok,I.os,I.bare,⟨λb o e n hb hx=>?_,λb o e n hb hx=>?_,I.base.free,λb o e hx=>?_,I.base.tups,I.base.frzs,I.base.tbls⟩,⟨_,Ub,λj y v' e1 e2 e3=>?_⟩,λy c e=>?_,I.free,I.freeC,λp hp=>?_,tracked ⟨oL,Ms,I.free⟩ hs,by simpa using I.len⟩ ⟨_,hs,.inl rfl⟩
  .exact(hs.2 b (Yt (Yn (Yl e) I.ok.above))).trans (I.base.keep b o e n hb hx)
  .obtain⟨sl,e1⟩:=I.base.slot b o e n hb hx;exact⟨sl,(hs.2 b (Yt (Yn (Yl e) I.ok.above))).trans e1⟩
  .obtain⟨o',e1⟩:=I.base.there b o e hx;exact⟨o',(hs.2 b (Yt (Yn (Yl e) I.ok.above))).trans e1⟩
  .by_cases hj:j=i
   .subst hj;rw[hi]at e1;cases e1;rw[xH Oj]at e2;cases e2;exact⟨u,r,.inl ⟨hk,by simp⟩⟩
   .rw[xA (YY hj)]at e2;obtain⟨u',r',q⟩:=hl j y v' e1 e2 e3;refine⟨u',r',?_⟩;rcases q with ⟨k,e⟩ | ⟨k,c,e,z⟩
    .refine .inl ⟨k,?_⟩
     have:y≠x:=λe=>hj (wI hN e1 (e ▸ hi))
     simp[this,e]
    .exact .inr ⟨k,c,e,z.sameBut hs (cne y c e)⟩
  .obtain⟨w',z⟩:=I.cell y c e;exact⟨w',z.sameBut hs (cne y c e)⟩
  .obtain⟨e,n,ne,nf,d⟩:=I.pin p hp;exact⟨(hs.2 p.1 ne).trans e,n,ne,nf,d⟩
 .have HZ:X.fn x=true:=by
   rcases hf with z | z
   .exact z
   .rw[z]at hk;cases hk
  obtain⟨c,hc⟩:=I.ok.has x (.inl hk);obtain⟨w',z⟩:=I.cell x c hc;refine wpAny_storeName_cell I.ok.kind hk hc z (λh' WH hs=>?_);obtain⟨oc,Ai,wG⟩:=id z;refine h { s with heap:=h' } ⟨I.ok,I.os,I.bare,⟨λb o e n hb hx=>?_,λb o e n hb hx=>?_,I.base.free,λb o e hx=>?_,I.base.tups,I.base.frzs,I.base.tbls⟩,⟨m,hn.sameBut hs (YY (cne x c hc)),λj y v' e1 e2 e3=>?_⟩,λy c' e=>?_,I.free,I.freeC,λp hp=>?_,tracked ⟨oc,Ai,I.freeC x c hc⟩ hs,by simpa using I.len⟩ ⟨c,hs,.inr hc⟩
  .exact(hs.2 b (Yt (Yn (Yl e) (I.ok.cab x c HZ hc)))).trans (I.base.keep b o e n hb hx)
  .obtain⟨sl,e1⟩:=I.base.slot b o e n hb hx;exact⟨sl,(hs.2 b (Yt (Yn (Yl e) (I.ok.cab x c HZ hc)))).trans e1⟩
  .obtain⟨o',e1⟩:=I.base.there b o e hx;exact⟨o',(hs.2 b (Yt (Yn (Yl e) (I.ok.cab x c HZ hc)))).trans e1⟩
  .by_cases hj:j=i
   .subst hj;rw[hi]at e1;cases e1;rw[xH Oj]at e2;cases e2;exact⟨u,r,.inr ⟨.inl hk,c,hc,WH⟩⟩
   .rw[xA (YY hj)]at e2;obtain⟨u',r',q⟩:=hl j y v' e1 e2 e3;refine⟨u',r',?_⟩;rcases q with q | ⟨k,c',e,z'⟩
    .exact .inl q
    .refine .inr ⟨k,c',e,z'.sameBut hs ?_⟩;rintro rfl;exact hj (wI hN e1 (I.ok.inj _ _ _ e hc ▸ hi))
  .by_cases jj:c'=c
   .subst jj;exact⟨_,WH⟩
   .obtain⟨w2,z2⟩:=I.cell y c' e;exact⟨w2,z2.sameBut hs jj⟩
  .obtain⟨e,n,ne,nf,d⟩:=I.pin p hp;refine⟨(hs.2 p.1 ?_).trans e,n,ne,nf,d⟩;intro q;rw[q,Ai]at e;have q':oc=p.2:=Yi e
   exact d w' (by rw[<- q'];exact wG)
theorem KL{M:Model}{A:Around}{E:Ae}{i:Nat}{x:Str}{v:V}{u:Value}{Q:Unit->Shared->Prop}(I:Inv X pins σ H s)(hN:X.N.Nodup)(hi:X.N[i]?=some x)(hx:Loc X.env.scope x)(r:RelV v u)
  (h:∀ s',Inv X pins (σ.set i (some v)) H s'->Q () s') (hf:X.fn x=true\/X.env.scope.names.lookup x=some .local:=by first | exact .inl rfl | exact .inr rfl | assumption):wpAny M A (storeName X.env x u) Q E s :=
 jk I hN hi hx r (λs' I' _=>h s' I') hf
theorem Inv.call'{s':Shared}{ch:List Addr}(I:Inv X pins σ H s)(ho:s'.os=s.os)(u:Un (Wj X.stack) ch H H' s.heap s'.heap)(hok:HOk X.prog X.w H' s'.heap)(hg:AllBare s'.gens)
  (OX:∀ b∈ch,(b∈X.ex\/X.s₀.heap.objs.size<=b)/\b≠X.env.locals/\(∀ x c,X.env.cells.lookup x=some c->c≠b)/\∀ p∈X.pn++pins,p.1≠b):Inv X pins σ H' s':=by
 obtain⟨h',g',d',t',o'⟩:=s';have e:o'=s.os:=ho
 subst e;exact I.call (g':=g') (t':=t') (d':=d') u hok hg OX
end
abbrev XK:=Value->Option Addr->Hp->Prop
abbrev St:=List (Option V)
abbrev VK:=V->Hp->Prop
abbrev TE:=St->Hp->VK->Prop
abbrev TT:=St->Hp->(Bool->Hp->Prop)->Prop
abbrev TA:=St->Hp->(List V->Hp->Prop)->Prop
structure Ends where
 nx:St->Hp->Prop
 rt:VK
 bk:St->Hp->Prop:=λ_ _=>False
 ct:St->Hp->Prop:=λ_ _=>False
abbrev TS:=Ends->St->Hp->Prop
def EP(X:Cx)(pins:List (Addr × Obj))(σ:St)(Q:VK)(u:Value)(s':Shared):Prop:=∃ v H',Inv X pins σ H' s'/\RelV v u/\Q v H'
def TP(X:Cx)(pins:List (Addr × Obj))(σ:St)(Q:Bool->Hp->Prop)(b:Bool)(s':Shared):Prop:=∃ H',Inv X pins σ H' s'/\Q b H'
def AP(X:Cx)(pins:List (Addr × Obj))(σ:St)(Q:List V->Hp->Prop)(us:Ag)(s':Shared):Prop:=∃ vs H',Inv X pins σ H' s'/\Vals vs us/\Q vs H'
def SP(X:Cx)(pins:List (Addr × Obj))(D:Ends)(f:Flow)(s':Shared):Prop :=
 match f with
 | .next=>∃ σ' H',Inv X pins σ' H' s'/\D.nx σ' H'
 | .brk=>∃ σ' H',Inv X pins σ' H' s'/\D.bk σ' H'
 | .cont=>∃ σ' H',Inv X pins σ' H' s'/\D.ct σ' H'
 | .ret u=>∃ v σ' H',Inv X pins σ' H' s'/\RelV v u/\D.rt v H'
def PE(X:Cx)(e:Expr)(t:TE):Prop :=
 ∀(pins:List (Addr × Obj)) (s:Shared) (σ:St) (H:Hp) (Q:VK),Inv X pins σ H s->t σ H Q->wpAny (model X.prog X.w) X.A (eval e X.env) (EP X pins σ Q) X.xe s
def PT(X:Cx)(e:Expr)(t:TT):Prop :=
 ∀(pins:List (Addr × Obj)) (s:Shared) (σ:St) (H:Hp) (Q:Bool->Hp->Prop),Inv X pins σ H s->t σ H Q->wpAny (model X.prog X.w) X.A (isTrue e X.env (eval e X.env)) (TP X pins σ Q) X.xe s
def PW(X:Cx)(e:Expr)(t:TT):Prop :=
 ∀(whole:Sem Value) (pins:List (Addr × Obj)) (s:Shared) (σ:St) (H:Hp) (Q:Bool->Hp->Prop),Inv X pins σ H s->t σ H Q->wpAny (model X.prog X.w) X.A (isTrue e X.env whole) (TP X pins σ Q) X.xe s
theorem PW.pt{X:Cx}{e:Expr}{t:TT}(h:PW X e t):PT X e t:=h _
def PA(X:Cx)(es:List Expr)(t:TA):Prop :=
 ∀(pos:Pos) (pins:List (Addr × Obj)) (s:Shared) (σ:St) (H:Hp) (Q:List V->Hp->Prop),Inv X pins σ H s->t σ H Q->wpAny (model X.prog X.w) X.A (spliced (backTo pos (starEach es X.env))) (AP X pins σ Q) X.xe s
def PS(X:Cx)(st:Stmt)(t:TS):Prop :=
 ∀(pins:List (Addr × Obj)) (s:Shared) (σ:St) (H:Hp) (D:Ends),Inv X pins σ H s->t D σ H->wpAny (model X.prog X.w) X.A (exec st X.env) (SP X pins D) X.xe s
def PSs(X:Cx)(st:List Stmt)(t:TS):Prop :=
 ∀(pins:List (Addr × Obj)) (s:Shared) (σ:St) (H:Hp) (D:Ends),Inv X pins σ H s->t D σ H->wpAny (model X.prog X.w) X.A (execs st X.env) (SP X pins D) X.xe s
theorem thn{α:Type}{t:Sem α}{Q Q':α->Shared->Prop}{M:Model}{A:Around}{E:Ae}{s:Shared}(h:wpAny M A t Q E s)(hQ:∀ a s,Q a s->Q' a s):wpAny M A t Q' E s:=UG h hQ λ_ _ x=>x
section
variable{X:Cx}
def GA(i:Nat):TE:=λσ H Q=>∃ v,σ[i]?=some (some v)/\Q v H
def tC(v:V):TE:=λ_ H Q=>Q v H
theorem wF {i:Nat} {x:Str} {pos:Pos} (hN:X.N[i]?=some x) (hv:wJ X.env.scope x) (hd:(x == ("__debug__":Str))=false:=by decide) (Ul:(x == ("__classdict__":Str))=false:=by decide):PE X (.Name x pos) (GA i):=by
 intro pins s σ H Q I h;obtain⟨v,e,h⟩:=h;obtain⟨m,hn,hl⟩:=I.loc;obtain⟨u,r,l⟩:=hl i x v hN e hv;have fin:EP X pins σ Q u s:=⟨v,H,I,r,h⟩
 rcases l with ⟨hk,hm⟩ | ⟨hk,c,hc,Sr⟩
 .exact wpAny_Name (wpAny_loadName_local I.ok.kind hk hn hm fin) hd
 .rcases hk with hk | hk
  .exact wpAny_Name (wpAny_loadName_cell I.ok.kind hk hc Sr fin) hd
  .exact wpAny_Name (wpAny_loadName_free I.ok.kind hk hc Sr fin Ul) hd
theorem Za{i j pos}:PE X (.Constant (.int i) j pos) (tC (.int i)):=λ_ _ _ H _ I h=>wpAny_Constant_int ⟨.int i,H,I.tok _,⟨_,rfl⟩,h⟩
theorem QL{b j pos}:PE X (.Constant (.bool b) j pos) (tC (.bl b)):=λ_ _ _ H _ I h=>Constant_bool ⟨.bl b,H,I,rfl,h⟩
theorem Gz{j pos}:PE X (.Constant .none j pos) (tC .non):=λ_ _ _ H _ I h=>Constant_none ⟨.non,H,I,rfl,h⟩
def Gl(X:Cx)(x:Str):Prop:=X.env.kindOf x=some .globalImplicit
theorem Gy{E:Ae}{pins:List (Addr × Obj)}{s:Shared}{σ:St}{H:Hp}{x:Str}{u:Value}{pos:Pos}{Q:Ae}(I:Inv X pins σ H s)(hg:Gl X x)(hm:X.mg x=some u)(h:Q u s)
  (hd:(x == ("__debug__":Str))=false:=by decide):wpAny (model X.prog X.w) X.A (eval (.Name x pos) X.env) Q E s :=
 Ld I.ok.kind hg (Calls.loadGlobal_global (by rw[I.ok.glob];exact I.mod.glob.keeps I.bk) hm h) hd
theorem VG{E:Ae}{pins:List (Addr × Obj)}{s:Shared}{σ:St}{H:Hp}{x:Str}{u:Value}{pos:Pos}{Q:Ae}(I:Inv X pins σ H s)(hg:Gl X x)(hm:X.mg x=none)(hv:bootBuiltins x=some u)(h:Q u s)
  (hn:x≠"__name__":=by decide) (hd:(x == ("__debug__":Str))=false:=by decide):wpAny (model X.prog X.w) X.A (eval (.Name x pos) X.env) Q E s:=by obtain⟨mb,h1,h2⟩:=I.mod.blt;exact Ld I.ok.kind hg (Calls.loadGlobal_builtin (by rw[I.ok.glob];exact I.mod.glob.keeps I.bk) hm (by rw[I.ok.blt];exact h1.keeps I.bk) ((h2 x hn).trans hv) h) hd
theorem Gx {x:Str} {v:V} {u:Value} {pos:Pos} (hg:Gl X x) (hm:X.mg x=some u) (r:RelV v u) (hd:(x == ("__debug__":Str))=false:=by decide):PE X (.Name x pos) (tC v) :=
 λ_ _ _ H _ I h=>Gy I hg hm ⟨v,H,I,r,h⟩ hd
theorem Ah {x:Str} {v:V} {u:Value} {pos:Pos} (hg:Gl X x) (hm:X.mg x=none) (hv:bootBuiltins x=some u) (r:RelV v u) (hn:x≠"__name__":=by decide) (hd:(x == ("__debug__":Str))=false:=by decide):PE X (.Name x pos) (tC v) :=
 λ_ _ _ H _ I h=>VG I hg hm hv ⟨v,H,I,r,h⟩ hn hd
variable{a b:Expr}{ta tb:TE}{pos:Pos}
def PC(X:Cx)(op:CmpOp)(a b:Expr)(t:TE):Prop :=
 ∀(pins:List (Addr × Obj)) (s:Shared) (σ:St) (H:Hp) (Q:VK),Inv X pins σ H s->t σ H Q ->
  wpAny (model X.prog X.w) X.A (eval a X.env) (λv s₁=>wpAny (model X.prog X.w) X.A (eval b X.env) (λu s₂=>wpAny (model X.prog X.w) X.A (compareOp op v u) (EP X pins σ Q) X.xe s₂) X.xe s₁) X.xe s
def tB(t:TE):TT:=λσ H Q=>t σ H λx H1=>∃ c,x=.bl c/\Q c H1
theorem QK{e:Expr}{t:TE}(h:PE X e t)(he:∀ whole,isTrue e X.env whole=(do let v <- whole;standAt e.pos;holding [v] (truthy v)):=by intro _;rfl):PT X e (tB t):=by intro pins s σ H Q I hw;refine isTrue_plain (thn (h pins s σ H _ I hw) λv s1 ⟨x,H1,I1,r1,q1⟩=>?_) (he _);obtain⟨d,rfl,q⟩:=q1;cases r1;exact OB ⟨H1,I1,q⟩
variable{tA z9:TT}{rest:List Expr}
def wD(t u:TT):TT:=λσ H Q=>t σ H λc H1=>if c=true then u σ H1 Q else Q false H1
def bF(t u:TT):TT:=λσ H Q=>t σ H λc H1=>if c=true then Q true H1 else u σ H1 Q
def wC(t:TT):TT:=λσ H Q=>t σ H λc H1=>Q (!c) H1
theorem ji(ha:PT X a tA):PW X (.BoolOp .And [a] pos) tA:=by
 intro wh pins s σ H Q I h;refine isTrue_and (thn (ha pins s σ H Q I h) λc s1 e=>?_);cases c with
 | true=>exact isTrue_and_nil e
 | false=>exact e
theorem Gw(ha:PT X a tA):PW X (.BoolOp .Or [a] pos) tA:=by
 intro wh pins s σ H Q I h;refine isTrue_or (thn (ha pins s σ H Q I h) λc s1 e=>?_);cases c with
 | false=>exact isTrue_or_nil e
 | true=>exact e
theorem Gv(ha:PT X a tA)(hb:PW X (.BoolOp .And (b :: rest) pos) z9):PW X (.BoolOp .And (a :: b :: rest) pos) (wD tA z9):=by
 intro wh pins s σ H Q I h;refine isTrue_and (thn (ha pins s σ H _ I h) λc s1 Xv=>?_);obtain⟨H1,I1,q1⟩:=Xv;cases c with
 | true=>exact hb wh pins s1 σ H1 Q I1 q1
 | false=>exact⟨H1,I1,q1⟩
theorem QJ(ha:PT X a tA)(hb:PW X (.BoolOp .Or (b :: rest) pos) z9):PW X (.BoolOp .Or (a :: b :: rest) pos) (bF tA z9):=by
 intro wh pins s σ H Q I h;refine isTrue_or (thn (ha pins s σ H _ I h) λc s1 Xv=>?_);obtain⟨H1,I1,q1⟩:=Xv;cases c with
 | true=>exact⟨H1,I1,q1⟩
 | false=>exact hb wh pins s1 σ H1 Q I1 q1
theorem OW(ha:PT X a tA):PT X (.UnaryOp .Not a pos) (wC tA):=by intro pins s σ H Q I h;exact isTrue_not (ha pins s σ H (λc H1=>Q (!c) H1) I h)
def Gu(ta tb:TE):TE:=λσ H Q=>ta σ H λx H1=>∃ c,x=.bl c/\if c=true then tb σ H1 Q else Q (.bl false) H1
def Gs(ta:TE):TE:=λσ H Q=>ta σ H λx H1=>∃ c,x=.bl c/\Q (.bl (!c)) H1
theorem wB{op}{t:TE}(h:PE X a t):PE X (.BoolOp op [a] pos) t:=λpins s σ H Q I hw=>BoolOp_one (h pins s σ H Q I hw)
theorem Gr(ha:PE X a ta)(hb:PE X (.BoolOp .And (b :: rest) pos) tb):PE X (.BoolOp .And (a :: b :: rest) pos) (Gu ta tb):=by
 intro pins s σ H Q I h;refine BoolOp_and (thn (ha pins s σ H _ I h) λv s1 Xv=>?_);obtain⟨x,H1,I1,r1,q1⟩:=Xv;obtain⟨c,rfl,q1⟩:=q1;cases r1;refine OB ?_;cases c with
 | true=>exact hb pins s1 σ H1 Q I1 q1
 | false=>exact⟨.bl false,H1,I1,rfl,q1⟩
theorem Gq(ha:PE X a ta):PE X (.UnaryOp .Not a pos) (Gs ta):=by intro pins s σ H Q I h;refine UnaryOp_ (thn (ha pins s σ H _ I h) λv s1 Xv=>?_);obtain⟨x,H1,I1,r1,q1⟩:=Xv;obtain⟨c,rfl,q1⟩:=q1;cases r1;exact not_of (OB ⟨.bl (!c),H1,I1,rfl,q1⟩)
def bE(t:TT)(ta tb:TE):TE:=λσ H Q=>t σ H λc H1=>if c=true then ta σ H1 Q else tb σ H1 Q
theorem jh{c:Expr}(hc:PT X c tA)(ha:PE X a ta)(hb:PE X b tb):PE X (.IfExp c a b pos) (bE tA ta tb):=by
 intro pins s σ H Q I h;refine wpAny_IfExp (thn (hc pins s σ H _ I h) λd s1 Xv=>?_);obtain⟨H1,I1,q1⟩:=Xv;cases d with
 | true=>exact ha pins s1 σ H1 Q I1 q1
 | false=>exact hb pins s1 σ H1 Q I1 q1
end
def SqL(K:Ad)(H:Hp)(a:Addr)(xs:List V):Prop :=
 Rd H a (.lst xs) \/
  ∃(o:Obj) (XW:Array Value) (n:Nat),K.lookup a=some o/\o.cls=.type "list"/\o.dict=none/\o.data=.seq XW n/\XW.size<=sizeLine/\Vals xs XW.toList
def SqT(K:Ad)(H:Hp)(a:Addr)(xs:List V):Prop :=
 Rd H a (.tup xs) \/
  ∃(o:Obj) (XW:Array Value) (n:Nat),K.lookup a=some o/\o.cls=.type "tuple"/\o.data=.seq XW n/\XW.size<=sizeLine/\Vals xs XW.toList
def wA:Value->Option V
 | .none=>some .non
 | .bool b=>some (.bl b)
 | .int i _=>some (.int i)
 | .str x _=>some (.str x)
 | .bytes b _=>some (.byt b)
 | .float b _=>some (.flt b)
 | .ref a=>some (.ref a)
 | .type n=>some (.ty n)
 | _=>none
theorem RelV.abs{x:V}{u:Value}(r:RelV x u):wA u=some x:=by
 cases x with
 | non=>cases r;rfl
 | bl _=>cases r;rfl
 | int _=>obtain⟨t,rfl⟩:=r;rfl
 | str _=>obtain⟨t,rfl⟩:=r;rfl
 | byt _=>obtain⟨t,rfl⟩:=r;rfl
 | flt _=>obtain⟨t,rfl⟩:=r;rfl
 | ref _=>cases r;rfl
 | ty _=>cases r;rfl
theorem RelV.inj{x y:V}{u:Value}(r:RelV x u)(q:RelV y u):x=y:=Yi (r.abs.symm.trans q.abs)
theorem Vals.inj:∀ {xs ys:List V} {us:Ag},Vals xs us->Vals ys us->xs=ys
 | _,_,_,.nil,.nil=>rfl
 | _,_,_,.cons r t,.cons r' t'=>by rw[r.inj r',Vals.inj t t']
section
variable{X:Cx}{pins:List (Addr × Obj)}{σ:St}{H:Hp}{s:Shared}{a:Addr}{xs ys:List V}
theorem SqL.of{K:Ad}(h:H a=some (.lst xs)):SqL K H a xs:=.inl (.inl h)
theorem SqT.of{K:Ad}(h:H a=some (.tup xs)):SqT K H a xs:=.inl (.inl h)
theorem Inv.list(I:Inv X pins σ H s)(h:SqL X.K H a xs):∃ XW:Ag,Vals xs XW/\PlainL s.heap a XW.toArray/\xs.length<=sizeLine:=by
 rcases h with h | ⟨o,XW,n,hk,hc,hd,hs,hz,r⟩
 .obtain⟨z,XW,n,r,e⟩:=h.ok I.hok;exact⟨XW,r,⟨_,n,e,rfl,rfl,rfl⟩,z⟩
 .refine⟨XW.toList,r,⟨o,n,I.kIn a o hk,hc,hd,by simpa using hs⟩,?_⟩;have e:=r.length
  simp only [YD]at e;omega
theorem Inv.tuple(I:Inv X pins σ H s)(h:SqT X.K H a xs):∃ XW:Ag,Vals xs XW/\IsTup s.heap a XW.toArray/\xs.length<=sizeLine:=by
 rcases h with h | ⟨o,XW,n,hk,hc,hs,hz,r⟩
 .obtain⟨z,XW,r,p⟩:=h.ok I.hok;exact⟨XW,r,p,z⟩
 .refine⟨XW.toList,r,⟨o,I.kIn a o hk,hc,n,by simpa using hs⟩,?_⟩;have e:=r.length
  simp only [YD]at e;omega
theorem Inv.list_inj(I:Inv X pins σ H s)(h:SqL X.K H a xs)(h':SqL X.K H a ys):xs=ys:=by
 obtain⟨XW,r,⟨o,n,e,_,_,d⟩,_⟩:=I.list h;obtain⟨its',r',⟨o',n',e',_,_,d'⟩,_⟩:=I.list h';rw[e]at e';cases e';rw[d]at d';injection d' with d1 _
 have:XW=its':=by simpa using Xw Array.toList d1
 subst this;exact r.inj r'
theorem Inv.tuple_inj(I:Inv X pins σ H s)(h:SqT X.K H a xs)(h':SqT X.K H a ys):xs=ys:=by
 obtain⟨XW,r,⟨o,e,_,n,d⟩,_⟩:=I.tuple h;obtain⟨its',r',⟨o',e',_,n',d'⟩,_⟩:=I.tuple h';rw[e]at e';cases e';rw[d]at d';injection d' with d1 _
 have:XW=its':=by simpa using Xw Array.toList d1
 subst this;exact r.inj r'
end
abbrev Cx.wish(X:Cx)(E:Ae):Cx:={ X with xe:=E }
abbrev Cx.nox(X:Cx):Cx:=X.wish λ_ _=>False
theorem Cx.Ok.wish{X:Cx}(ok:X.Ok)(E:Ae):(X.wish E).Ok :=
 ⟨ok.mod,ok.kind,ok.glob,ok.blt,ok.above,ok.inj,ok.has,ok.cab,ok.hd,ok.frames,ok.stk,ok.exf,ok.bs,ok.bsz,ok.noex,ok.exfs,ok.funs,ok.frf⟩
theorem Cx.Ok.unwish{X:Cx}{E:Ae}(ok:(X.wish E).Ok):X.Ok :=
 ⟨ok.mod,ok.kind,ok.glob,ok.blt,ok.above,ok.inj,ok.has,ok.cab,ok.hd,ok.frames,ok.stk,ok.exf,ok.bs,ok.bsz,ok.noex,ok.exfs,ok.funs,ok.frf⟩
section
variable{X:Cx}{pins:List (Addr × Obj)}{σ:St}{H:Hp}{s:Shared}{E:Ae}
theorem Inv.wish(I:Inv X pins σ H s)(E:Ae):Inv (X.wish E) pins σ H s:=⟨I.ok.wish E,I.os,I.bare,I.base,I.loc,I.cell,I.free,I.freeC,I.pin,I.hok,I.len⟩
theorem Inv.unwish(I:Inv (X.wish E) pins σ H s):Inv X pins σ H s:=⟨I.ok.unwish,I.os,I.bare,I.base,I.loc,I.cell,I.free,I.freeC,I.pin,I.hok,I.len⟩
theorem SP.unwish{D:Ends}{f:Flow}{s':Shared}(h:SP (X.wish E) pins D f s'):SP X pins D f s':=by
 cases f with
 | next=>obtain⟨σ',H',I,q⟩:=h;exact⟨σ',H',I.unwish,q⟩
 | brk=>obtain⟨σ',H',I,q⟩:=h;exact⟨σ',H',I.unwish,q⟩
 | cont=>obtain⟨σ',H',I,q⟩:=h;exact⟨σ',H',I.unwish,q⟩
 | ret u=>obtain⟨v,σ',H',I,r,q⟩:=h;exact⟨v,σ',H',I.unwish,r,q⟩
theorem PSs.nox{st:List Stmt}{t:TS}(h:PSs X.nox st t):PSs X st t:=λpins s σ H D I hw =>
 UG (h pins s σ H D (I.wish _) hw) (λ_ _ q=>q.unwish) λ_ _ z=>False.elim z
end
section
variable{X:Cx}{st:Stmt}{rest:List Stmt}{t u:TS}{e:Expr}{te:TE}{pos:Pos}
def Gp:TS:=λD σ H=>D.nx σ H
def Ua(t u:TS):TS:=λD σ H=>t { D with nx:=u D } σ H
theorem Zp:PSs X [] Gp:=λ_ _ σ H _ I h=>QN ⟨σ,H,I,h⟩
theorem XN(h1:PS X st t)(h2:PSs X rest u):PSs X (st :: rest) (Ua t u):=by
 intro pins s σ H D I h;refine wpAny_execs_cons (thn (h1 pins s σ H { D with nx:=u D } I h) λf s1 q=>?_);cases f with
 | next =>
  obtain⟨σ',H',I',q⟩:=q;exact h2 pins s1 σ' H' D I' q
 | ret v=>exact q
 | brk=>exact q
 | cont=>exact q
theorem XG(h1:PS X st t):PSs X [st] t:=by
 intro pins s σ H D I h;refine wpAny_execs_cons (thn (h1 pins s σ H D I h) λf s1 q=>?_);cases f with
 | next=>exact QN q
 | ret v=>exact q
 | brk=>exact q
 | cont=>exact q
theorem Inv.quiet{pins:List (Addr × Obj)}{σ:St}{H:Hp}{s:Shared}(I:Inv X pins σ H s):interactive X.env=false:=by simp[interactive,I.ok.kind]
def Gn(te:TE):TS:=λD σ H=>te σ H λ_ H1=>D.nx σ H1
theorem ZZ(he:PE X e te)(hs:swapsWith e none pos.line X.env=pure false:=by rfl):PS X (.Expr e pos) (Gn te):=by intro pins s σ H D I h;exact wpAny_Expr_any (thn (he pins s σ H _ I h) λv s1 ⟨x,H1,I1,r1,q1⟩=>⟨σ,H1,I1,q1⟩) I.quiet hs
def Gm(te:TE):TS:=λD σ H=>te σ H D.rt
theorem Zh(he:PE X e te):PS X (.Return (some e) pos) (Gm te):=by intro pins s σ H D I h;exact wpAny_Return_some (thn (he pins s σ H _ I h) λv s1 ⟨x,H1,I1,r1,q1⟩=>⟨x,σ,H1,I1,r1,q1⟩)
def wz(c:TT)(t u:TS):TS:=λD σ H=>c σ H λb H1=>if b=true then t D σ H1 else u D σ H1
theorem Ww{c:Expr}{a b:List Stmt}{tc:TT}(hc:PT X c tc)(ha:PSs X a t)(hb:PSs X b u):PS X (.If c a b pos) (wz tc t u):=by
 intro pins s σ H D I h;refine wpAny_If (thn (hc pins s σ H _ I h) λd s1 Xv=>?_);obtain⟨H1,I1,q1⟩:=Xv;cases d with
 | true=>exact ha pins s1 σ H1 D I1 q1
 | false=>exact hb pins s1 σ H1 D I1 q1
def Gk:TS:=λ_ _ _=>False
theorem Mr:PS X st Gk:=λ_ _ _ _ _ _ h=>h.elim
end
abbrev TG:=V->St->Hp->(St->Hp->Prop)->Prop
abbrev QI:=List V->St->Hp->(St->Hp->Prop)->Prop
def PG(X:Cx)(target:Expr)(t:TG):Prop :=
 ∀(pins:List (Addr × Obj)) (s:Shared) (σ:St) (H:Hp) (v:V) (u:Value) (Q:St->Hp->Prop),Inv X pins σ H s->RelV v u->t v σ H Q ->
  wpAny (model X.prog X.w) X.A (assign target X.env u) (λ_ s'=>∃ σ' H',Inv X pins σ' H' s'/\Q σ' H') X.xe s
def Gj(X:Cx)(ts:List Expr)(t:QI):Prop :=
 ∀(pins:List (Addr × Obj)) (s:Shared) (σ:St) (H:Hp) (vs:List V) (us:Ag) (Q:St->Hp->Prop),Inv X pins σ H s->Vals vs us->t vs σ H Q ->
  wpAny (model X.prog X.w) X.A (assignInOrder ((assignEach ts X.env).map (·.2)) us) (λ_ s'=>∃ σ' H',Inv X pins σ' H' s'/\Q σ' H') X.xe s
abbrev QH:=V->V->V->Hp->(Hp->Prop)->Prop
def KJ(X:Cx)(t:QH):Prop :=
 ∀(pins:List (Addr × Obj)) (s:Shared) (σ:St) (H:Hp) (o i v:V) (ov iv u:Value) (Q:Hp->Prop),Inv X pins σ H s->RelV o ov->RelV i iv->RelV v u->t o i v H Q ->
  wpAny (model X.prog X.w) X.A (setItem ov iv u) (λ_ s'=>∃ H',Inv X pins σ H' s'/\Q H') X.xe s
abbrev z8:=V->V->Hp->VK->Prop
def wy(X:Cx)(op:Operator)(t:z8):Prop :=
 ∀(pins:List (Addr × Obj)) (s:Shared) (σ:St) (H:Hp) (x y:V) (v u:Value) (Q:VK),Inv X pins σ H s->RelV x v->RelV y u->t x y H Q ->
  wpAny (model X.prog X.w) X.A (inplaceOp op v u) (EP X pins σ Q) X.xe s
section
variable{X:Cx}{pos:Pos}
def SU(i:Nat):TG:=λv σ H Q=>Q (σ.set i (some v)) H
theorem Ze{i:Nat}{x:Str}(hN:X.N.Nodup)(hi:X.N[i]?=some x)(hx:Loc X.env.scope x)(hf:X.fn x=true\/X.env.scope.names.lookup x=some .local:=by first | exact .inl rfl | exact .inr rfl | assumption):PG X (.Name x pos) (SU i):=by intro pins s σ H v u Q I r h;exact wpAny_assign_Name (KL I hN hi hx r (λs' I'=>⟨_,H,I',h⟩) hf)
def Gi:QI:=λvs σ H Q=>vs=[]/\Q σ H
def Gh(t:TG)(u:QI):QI:=λvs σ H Q=>∃ v r,vs=v :: r/\t v σ H λσ' H'=>u r σ' H' Q
theorem QG:Gj X [] Gi:=by intro pins s σ H vs us Q I r h;obtain⟨e,h⟩:=h;subst e;cases r;exact assignInOrder_nil ⟨σ,H,I,h⟩
theorem Zu{e:Expr}{es:List Expr}{t:TG}{u:QI}(h1:PG X e t)(h2:Gj X es u)
  (hs:(assignEach (e :: es) X.env).map (·.2)=assign e X.env :: (assignEach es X.env).map (·.2):=by rfl):Gj X (e :: es) (Gh t u):=by
 intro pins s σ H vs us Q I r h;obtain⟨v,vr,e1,h⟩:=h;subst e1;cases r with
 | cons r rr =>
  rw[hs];refine assignInOrder_cons (thn (h1 pins s σ H _ _ _ I r h) λ_ s1 Xv=>?_);obtain⟨σ1,H1,I1,q1⟩:=Xv;exact h2 pins s1 σ1 H1 _ _ Q I1 rr q1
def KI(K:Ad)(n:Nat)(t:QI):TG:=λv σ H Q=>∃ a xs,v=.ref a/\SqT K H a xs/\xs.length=n/\t xs σ H Q
theorem wx{es:List Expr}{k:Nat}{t:QI}{n:Nat}(hc:X.calm=true)(h:Gj X es t)
  (hn:(assignEach es X.env).length=n:=by rfl) (WB:(assignEach es X.env).findIdx? (·.1)=none:=by rfl):PG X (.Tuple es k pos) (KI X.K n t):=by
 intro pins s σ H v u Q I r hw;obtain⟨a,xs,e1,hq,hl,hw⟩:=hw;subst e1;cases r;obtain⟨XW,rv,ht,hz⟩:=I.tuple hq;refine assign_Tuple_tuple (I.ok.hd hc) ht (by simp[hn,<- hl,rv.length]) WB λh' hx=>?_;have I1:Inv X pins σ H { s with heap:=h' }:=I.kept (t':=s.toks) λb o e=>hx b o (Yt (Yl e)) e
 exact h pins _ σ H xs _ Q I1 (by simpa using rv) hw
def wu(to ti:TE)(t:QH):TG:=λv σ H Q=>to σ H λo H1=>ti σ H1 λi H2=>t o i v H2 λH3=>Q σ H3
theorem wq{o i:Expr}{to ti:TE}{t:QH}(ho:PE X o to)(hi:PE X i ti)(hs:KJ X t)
  (ha:∀ v,assign (.Subscript o i pos) X.env v=(do
   let ov <- holding [v] (eval o X.env)
   let iv <- holding [v,ov] (eval i X.env)
   standAt pos
   holding [v,ov,iv] (setItem ov iv v)
   release [v,ov,iv] []):=by intro _;rfl):PG X (.Subscript o i pos) (wu to ti t):=by intro pins s σ H v u Q I r h;rw[ha];refine XU (Sv (thn (ho pins s σ H _ I h) λov s1 Xv=>?_));obtain⟨x,H1,I1,r1,q1⟩:=Xv;refine XU (Sv (thn (hi pins s1 σ H1 _ I1 q1) λiv s2 Xv=>?_));obtain⟨y,H2,I2,r2,q2⟩:=Xv;refine XU (wpAny_standAt (XU (Sv (thn (hs pins s2 σ H2 x y v ov iv u _ I2 r1 r2 r q2) λ_ s3 Xv=>?_))));obtain⟨H3,I3,q3⟩:=Xv;exact wpAny_release ⟨σ,H3,I3,q3⟩
def KH(te:TE)(g:TG):TS:=λD σ H=>te σ H λx H1=>g x σ H1 D.nx
theorem Gg{tg e:Expr}{te:TE}{g:TG}(he:PE X e te)(hg:PG X tg g)(hs:swapsWithSole [tg] e pos.line X.env=pure false:=by rfl)(hw:swappedStores [tg] e X.env=pure none:=by rfl)
  (h1:(assignEach [tg] X.env).map (·.2)=[assign tg X.env]:=by rfl):PS X (.Assign [tg] e pos) (KH te g):=by intro pins s σ H D I h;refine wpAny_Assign_stores (thn (he pins s σ H _ I h) λv s1 Xv=>?_) hs hw;obtain⟨x,H1,I1,r1,q1⟩:=Xv;rw[h1];exact thn (hg pins s1 σ H1 x v _ I1 r1 q1) λ_ s2 q=>q
theorem Zk{i:Nat}{x:Str}{e:Expr}{te:TE}{pos':Pos}(hN:X.N.Nodup)(hi:X.N[i]?=some x)(hx:Loc X.env.scope x)(he:PE X e te)(hs:swapsWith e (some (.Name x pos')) pos.line X.env=pure false:=by rfl)(hf:X.fn x=true\/X.env.scope.names.lookup x=some .local:=by first | exact .inl rfl | exact .inr rfl | assumption) :
  PS X (.Assign [.Name x pos'] e pos) (KH te (SU i)):=by intro pins s σ H D I h;refine wpAny_Assign_Name (thn (he pins s σ H _ I h) λv s1 Xv=>?_) hs;obtain⟨y,H1,I1,r1,q1⟩:=Xv;exact KL I1 hN hi hx r1 (λs2 I2=>⟨_,H1,I2,q1⟩) hf
def Gf(to ti te:TE)(tget:V->V->Hp->VK->Prop)(z7:z8)(tset:QH):TS:=λD σ H=>to σ H λo H1=>ti σ H1 λi H2=>tget o i H2 λx H3=>te σ H3 λy H4=>z7 x y H4 λz H5=>tset o i z H5 λH6=>D.nx σ H6
def Ge(X:Cx)(t:V->V->Hp->VK->Prop):Prop :=
 ∀(pins:List (Addr × Obj)) (s:Shared) (σ:St) (H:Hp) (o i:V) (ov iv:Value) (Q:VK),Inv X pins σ H s->RelV o ov->RelV i iv->t o i H Q ->
  wpAny (model X.prog X.w) X.A (getItem ov iv) (EP X pins σ Q) X.xe s
theorem z6{o i e:Expr}{to ti te:TE}{tget:V->V->Hp->VK->Prop}{z7:z8}{tset:QH}{op:Operator}{SS:Pos}(ho:PE X o to)(hi:PE X i ti)(hg:Ge X tget)(he:PE X e te)(hp:wy X op z7)(hs:KJ X tset)
  (ha:∀ ov iv new,augStore i ov iv new=(do holding [new,ov,iv] (setItem ov iv new);release [new,ov,iv] [];pure .next):=by intros;rfl):PS X (.AugAssign (.Subscript o i SS) op e pos) (Gf to ti te tget z7 tset):=by intro pins s σ H D I h;refine wpAny_AugAssign_SubscriptAny (thn (ho pins s σ H _ I h) λov s1 Xv=>?_) ha;obtain⟨x1,H1,I1,r1,q1⟩:=Xv;refine thn (hi pins s1 σ H1 _ I1 q1) λiv s2 Xv=>?_;obtain⟨x2,H2,I2,r2,q2⟩:=Xv;refine thn (hg pins s2 σ H2 x1 x2 ov iv _ I2 r1 r2 q2) λold s3 Xv=>?_;obtain⟨x3,H3,I3,r3,q3⟩:=Xv;refine thn (he pins s3 σ H3 _ I3 q3) λv s4 Xv=>?_;obtain⟨x4,H4,I4,r4,q4⟩:=Xv;refine thn (hp pins s4 σ H4 x3 x4 old v _ I4 r3 r4 q4) λnew s5 Xv=>?_;obtain⟨x5,H5,I5,r5,q5⟩:=Xv;exact thn (hs pins s5 σ H5 x1 x2 x5 ov iv new _ I5 r1 r2 r5 q5) λ_ s6 ⟨H6,I6,q6⟩=>⟨σ,H6,I6,q6⟩
def jg(f:Int->Int->Int):z8:=λx y H Q=>∃ i j,x=.int i/\y=.int j/\Q (.int (f i j)) H
theorem Gd:wy X .Add (jg λi j=>i+j):=by intro pins s σ H x y v u Q I r1 r2 h;obtain⟨i,j,e1,e2,q⟩:=h;subst e1;subst e2;obtain⟨t,rfl⟩:=r1;obtain⟨t',rfl⟩:=r2;exact iadd_int ⟨.int _,H,I.tok _,⟨_,rfl⟩,q⟩
theorem Gb:wy X .Sub (jg λi j=>i - j):=by intro pins s σ H x y v u Q I r1 r2 h;obtain⟨i,j,e1,e2,q⟩:=h;subst e1;subst e2;obtain⟨t,rfl⟩:=r1;obtain⟨t',rfl⟩:=r2;exact isub_int ⟨.int _,H,I.tok _,⟨_,rfl⟩,q⟩
def Ga(c:TT)(tb:TS):TS:=λD σ H=>∃ W:Nat->St->Hp->Prop,(∃ m,W m σ H)/\∀ m σ H,W m σ H ->
 c σ H λb H1=>if b=true then ∃ N:St->Hp->Prop,(∀ σ' H',N σ' H'->∃ m',m'<m/\W m' σ' H')/\tb { D with nx:=N,ct:=N,bk:=D.nx } σ H1 else D.nx σ H1
theorem jf{c:Expr}{body:List Stmt}{tc:TT}{tb:TS}(hp:PassesOwn (model X.prog X.w) X.A X.env X.xe)(hc:PT X c tc)(hb:PSs X body tb):PS X (.While c body [] pos) (Ga tc tb):=by
 intro pins s σ H D I h;obtain⟨W,⟨m0,w0⟩,turn⟩:=h;refine wpAny_While (codeAny_whileLoop (λn s'=>∃ σ' H',Inv X pins σ' H' s'/\W n σ' H') ?_ m0 ⟨σ,H,I,w0⟩);rintro n s1 ⟨σ1,H1,I1,w1⟩;refine Ln hp (thn (hc pins s1 σ1 H1 _ I1 (turn n σ1 H1 w1)) λb s2 Xv=>?_);obtain⟨H2,I2,q2⟩:=Xv;cases b with
 | true =>
  obtain⟨N,hN,q2⟩:=q2;rw[if_pos rfl];refine Ln hp (thn (hb pins s2 σ1 H2 _ I2 q2) λf s3 q3=>?_);cases f with
  | next =>
   obtain⟨σ3,H3,I3,n3⟩:=q3;obtain⟨m',hm,w3⟩:=hN σ3 H3 n3;exact⟨m',hm,σ3,H3,I3,w3⟩
  | cont =>
   obtain⟨σ3,H3,I3,n3⟩:=q3;obtain⟨m',hm,w3⟩:=hN σ3 H3 n3;exact⟨m',hm,σ3,H3,I3,w3⟩
  | brk=>exact q3
  | ret v=>exact q3
 | false =>
  rw[if_neg Yv];exact QN ⟨σ1,H2,I2,q2⟩
end
structure It where
 go:Nat->Hp->Prop
 yld:Nat->Hp->V->Hp->Prop
 stop:Nat->Hp->Prop
def FpOk(X:Cx)(pins:List (Addr × Obj))(H:Hp)(b:Addr):Prop :=
 H b=none/\b≠X.env.locals/\b∉X.fs/\(b∈X.ex\/X.s₀.heap.objs.size<=b)/\(∀ x c,X.env.cells.lookup x=some c->c≠b)/\∀ p∈X.pn++pins,p.1≠b
theorem Inv.fpOk{X:Cx}{pins:List (Addr × Obj)}{σ:St}{H H':Hp}{s:Shared}{b:Addr}(I:Inv X pins σ H s)(hb:s.heap.objs.size<=b)(hn:H' b=none):FpOk X pins H' b:=by
 refine⟨hn,Sb (Yn I.lt hb),I.nofs hb,.inr (Yr I.sz hb),λx c e z=>?_,λp hp z=>?_⟩
 .obtain⟨v,q⟩:=I.cell x c e;exact absurd (Yn q.lt (by rw[z];exact hb)) (Rk _)
 .exact absurd (Yn (Yl (I.pin p hp).1) (by rw[z];exact hb)) (Rk _)
structure Turn (P:Program) (w:World) (K:Ad) (tg:Expr) (J:It) (fp:List Addr) (it:Addr) (tn:Nat->Heap->Prop):Prop where
 mem:it∈fp
 obj:∀ i h,tn i h->∀ b∈fp,∃ o,h.get? b=some o/\∀ v,o.data≠.cell v
 keep:∀ i h h',tn i h->(∀ b∈fp,∀ o,h.get? b=some o->h'.get? b=some o)->tn i h'
 item:∀(X:Cx),X.prog=P->X.w=w->X.K=K->X.calm=true->∀(i:Nat) (pins:List (Addr × Obj)) (s:Shared) (σ:St) (H:Hp) (E:Ae),Inv X pins σ H s->(∀ b∈fp,FpOk X pins H b)->tn i s.heap->J.go i H ->
  wpAny (model P w) X.A (pyNext (.ref it)) (λr s1=>∃ u,r=some u /\
   wpAny (model P w) X.A (letOwnedTupleGo tg (.ref it) u) (λ_ s2=>∃ x H',Inv X pins σ H' s2/\RelV x u/\J.yld i H x H'/\tn (i+1) s2.heap/\∀ b∈fp,H' b=none) E s1) E s
 done:∀(X:Cx),X.prog=P->X.w=w->X.K=K->X.calm=true->∀(i:Nat) (pins:List (Addr × Obj)) (s:Shared) (σ:St) (H:Hp) (E:Ae),Inv X pins σ H s->(∀ b∈fp,FpOk X pins H b)->tn i s.heap->J.stop i H ->
  wpAny (model P w) X.A (pyNext (.ref it)) (λr s1=>r=none/\Inv X pins σ H s1) E s
 self:∀(A:Around) (i:Nat) (s:Shared) (Q:Ae) (E:Ae),tn i s.heap->Q (.ref it) s->wpAny (model P w) A (pyIter (.ref it)) Q E s
abbrev TI:=St->Hp->(It->Hp->Prop)->Prop
def je(X:Cx)(pins:List (Addr × Obj))(σ:St)(tg:Expr)(R:It->Hp->Prop)(wm:Value)(s2:Shared):Prop :=
 ∃(it:Addr) (fp:List Addr) (tn:Nat->Heap->Prop) (J:It) (H':Hp),wm=.ref it/\Inv X pins σ H' s2/\Turn X.prog X.w X.K tg J fp it tn/\tn 0 s2.heap/\(∀ b∈fp,FpOk X pins H' b)/\R J H'
def PI(X:Cx)(tg iter:Expr)(wi:TI):Prop :=
 ∀(pins:List (Addr × Obj)) (s:Shared) (σ:St) (H:Hp) (R:It->Hp->Prop),Inv X pins σ H s->wi σ H R ->
  wpAny (model X.prog X.w) X.A (eval iter X.env) (λv s1=>wpAny (model X.prog X.w) X.A (pyIter v) (je X pins σ tg R) X.xe s1) X.xe s
theorem KG{M:Model}{A:Around}{E:Ae}{s:Shared}{tg:Expr}{it:Addr}{u:Value}{o:Obj}{n:String}{vs:Array Value}{Q:Unit->Shared->Prop}(ho:s.heap.get? it=some o)(hc:o.cls=.type n)(hd:o.data=.fields vs)
  (hn:["enumerate","zip","dict_itemiterator","dict_reverseitemiterator","odict_iterator","itertools.zip_longest","itertools.pairwise"].contains n=false) (hQ:Q () s):wpAny M A (letOwnedTupleGo tg (.ref it) u) Q E s:=by
 unfold letOwnedTupleGo;cases tg <;> first
  | exact Yj hQ
  | (cases u <;> first
    | exact Yj hQ
    | (refine XU (GH ho ?_)
       rw[hc,hd];show wpAny M A (if (["enumerate","zip","dict_itemiterator","dict_reverseitemiterator","odict_iterator","itertools.zip_longest","itertools.pairwise"].contains n && vs[0]? == some (rawInt _))=true then _ else _) Q E s
       rw[if_neg (by intro h;rw[hn,Bool.false_and]at h;cases h)];exact Yj hQ))
def QF(K:Ad)(a:Addr):It :=
 ⟨λi H=>∃ xs x,SqL K H a xs/\xs[i]?=some x,λi H x H'=>H'=H/\∀ xs,SqL K H a xs->xs[i]?=some x,λi H=>∃ xs,SqL K H a xs/\xs.length<=i⟩
def QE(K:Ad)(a:Addr):It :=
 ⟨λi H=>∃ xs x,SqT K H a xs/\xs[i]?=some x,λi H x H'=>H'=H/\∀ xs,SqT K H a xs->xs[i]?=some x,λi H=>∃ xs,SqT K H a xs/\xs.length<=i⟩
def KD(lo:Int)(n:Nat):It:=⟨λi _=>i<n,λi H x H'=>H'=H/\x=.int (lo+i),λi _=>n<=i⟩
theorem jd{P:Program}{w:World}{K:Ad}{tg:Expr}(a it:Addr):Turn P w K tg (QF K a) [it] it (λi h=>h.IsListIter it a i) where
 mem:=by simp
 obj:=λi h st b hb=>by
  have e:b=it:=by simpa using hb
  subst e;obtain⟨o,e,c,d⟩:=st;exact⟨o,e,λv z=>by rw[d]at z;cases z⟩
 keep:=λi h h' st k=>st.at λo e=>k it (by simp) o e
 item:=by
  intro X hP hw hK hc i pins s σ H E I hf st hg;subst hP hw hK;obtain⟨xs,x,hq,hx⟩:=hg;obtain⟨XW,rv,p,hz⟩:=I.list hq;obtain⟨u,hu,ru⟩:=rv.get hx;obtain⟨f0,f1,f2,f3,f4,f5⟩:=hf it (by simp);refine wpAny_pyNext_list_item st p.isList (x:=u) (by simpa using hu) λh' Ti sb=>?_;have I1:Inv X pins σ H { s with heap:=h' }:=I.turned (t':=s.toks) (λb o hb e=>(sb.2 b hb).trans e) f0 f1 f3 f4 f5
  obtain⟨o,e,c,d⟩:=id Ti;exact⟨u,rfl,KG (s:={ s with heap:=h' }) e c d (by decide) ⟨x,H,I1,ru,⟨rfl,λys hy=>by rw[I.list_inj hy hq];exact hx⟩,Ti,λb hb=>(hf b hb).1⟩⟩
 done:=by
  intro X hP hw hK hc i pins s σ H E I hf st hg;subst hP hw hK;obtain⟨xs,hq,hx⟩:=hg;obtain⟨XW,rv,p,hz⟩:=I.list hq;obtain⟨f0,f1,f2,f3,f4,f5⟩:=hf it (by simp);have hl:=rv.length
  exact wpAny_pyNext_list_end (I.ok.hd hc) st p.isList (by simp;omega) λh' eb=>⟨rfl,I.turned (t':=s.toks) (λb o hb e=>eb b o hb e) f0 f1 f3 f4 f5⟩
 self:=λ_ _ _ _ _ st h=>wpAny_pyIter_listiter st h
theorem jc{P:Program}{w:World}{K:Ad}{tg:Expr}(a it:Addr):Turn P w K tg (QE K a) [it] it (λi h=>h.IsTupleIter it a i) where
 mem:=by simp
 obj:=λi h st b hb=>by
  have e:b=it:=by simpa using hb
  subst e;obtain⟨o,e,c,d⟩:=st;exact⟨o,e,λv z=>by rw[d]at z;cases z⟩
 keep:=λi h h' st k=>st.at λo e=>k it (by simp) o e
 item:=by
  intro X hP hw hK hc i pins s σ H E I hf st hg;subst hP hw hK;obtain⟨xs,x,hq,hx⟩:=hg;obtain⟨XW,rv,p,hz⟩:=I.tuple hq;obtain⟨u,hu,ru⟩:=rv.get hx;obtain⟨f0,f1,f2,f3,f4,f5⟩:=hf it (by simp);refine wpAny_pyNext_tuple_item st (show s.heap.IsTuple a XW.toArray from p) (x:=u) (by simpa using hu) λh' Ti sb=>?_;have I1:Inv X pins σ H { s with heap:=h' }:=I.turned (t':=s.toks) (λb o hb e=>(sb.2 b hb).trans e) f0 f1 f3 f4 f5
  obtain⟨o,e,c,d⟩:=id Ti;exact⟨u,rfl,KG (s:={ s with heap:=h' }) e c d (by decide) ⟨x,H,I1,ru,⟨rfl,λys hy=>by rw[I.tuple_inj hy hq];exact hx⟩,Ti,λb hb=>(hf b hb).1⟩⟩
 done:=by
  intro X hP hw hK hc i pins s σ H E I hf st hg;subst hP hw hK;obtain⟨xs,hq,hx⟩:=hg;obtain⟨XW,rv,p,hz⟩:=I.tuple hq;obtain⟨f0,f1,f2,f3,f4,f5⟩:=hf it (by simp);have hl:=rv.length
  exact wpAny_pyNext_tuple_end (I.ok.hd hc) st (show s.heap.IsTuple a XW.toArray from p) (by simp;omega) λh' eb=>⟨rfl,I.turned (t':=s.toks) (λb o hb e=>eb b o hb e) f0 f1 f3 f4 f5⟩
 self:=λ_ _ _ _ _ st h=>wpAny_pyIter_tupleiter st h
theorem wk{P:Program}{w:World}{K:Ad}{tg:Expr}(it:Addr)(lo:Int)(n:Nat):Turn P w K tg (KD lo n) [it] it (λi h=>IsRangeIter h it (lo+(i:Nat) * 1) ((n:Int) - (i:Nat)) 1) where
 mem:=by simp
 obj:=λi h st b hb=>by
  have e:b=it:=by simpa using hb
  subst e;exact⟨_,st,λv z=>by have z':Data.fields _=Data.cell v:=z;cases z'⟩
 keep:=λi h h' st k=>k it (by simp) _ st
 item:=by
  intro X hP hw hK hc i pins s σ H E I hf st hg;subst hP hw hK;obtain⟨f0,f1,f2,f3,f4,f5⟩:=hf it (by simp);have W:=Walks.range (prog:=X.prog) (w:=X.w) (I.ok.hd hc) it lo 1 n
  refine W.item i s _ _ hg st λv h' tk hv Ti kk=>?_;obtain⟨t,rfl⟩:=hv;have I1:Inv X pins σ H { s with heap:=h',toks:=tk }:=I.turned (λb o hb e=>kk b o (by simpa using hb) e) f0 f1 f3 f4 f5
  refine⟨_,rfl,KG (s:={ s with heap:=h',toks:=tk }) (n:="range_iterator") Ti rfl rfl (by decide) ⟨.int (lo+i),H,I1,⟨t,?_⟩,⟨rfl,rfl⟩,Ti,λb hb=>(hf b hb).1⟩⟩;rw[Ov]
 done:=by intro X hP hw hK hc i pins s σ H E I hf st hg;subst hP hw hK;obtain⟨f0,f1,f2,f3,f4,f5⟩:=hf it (by simp);exact wpAny_pyNext_range_end (I.ok.hd hc) st (by have:n<=i:=hg;omega) λh' eb=>⟨rfl,I.turned (t':=s.toks) (λb o hb e=>eb b o hb e) f0 f1 f3 f4 f5⟩
 self:=λ_ _ _ _ _ st h=>wpAny_pyIter_rangeiter st h
section
variable{X:Cx}{tg:Expr}
def FZ(K:Ad)(tl:TE):TI:=λσ H R=>tl σ H λx H1=>∃ a,x=.ref a/\(∃ xs,SqL K H1 a xs)/\R (QF K a) H1
def FY(K:Ad)(tl:TE):TI:=λσ H R=>tl σ H λx H1=>∃ a,x=.ref a/\(∃ xs,SqT K H1 a xs)/\R (QE K a) H1
theorem wj{l:Expr}{tl:TE}(hl:PE X l tl):PI X tg l (FZ X.K tl):=by
 intro pins s σ H R I h;refine thn (hl pins s σ H _ I h) λv s1 Xv=>?_;obtain⟨x,H1,I1,r1,q1⟩:=Xv;obtain⟨a,e,⟨xs,hq⟩,q⟩:=q1;subst e;cases r1;obtain⟨XW,rv,p,hz⟩:=I1.list hq;refine w9 p.isList ?_;refine⟨s1.heap.objs.size,[s1.heap.objs.size],_,_,H1,rfl,I1.kept (t':=s1.toks) λb o e=>Xc _ e,jd a _,⟨_,Ym _ rfl,rfl,rfl⟩,λb hb=>?_,q⟩;have e:b=s1.heap.objs.size:=by simpa using hb
 subst e;exact I1.fpOk (XO _) (I1.hok.fresh (XO _))
theorem wg{l:Expr}{tl:TE}(hl:PE X l tl):PI X tg l (FY X.K tl):=by
 intro pins s σ H R I h;refine thn (hl pins s σ H _ I h) λv s1 Xv=>?_;obtain⟨x,H1,I1,r1,q1⟩:=Xv;obtain⟨a,e,⟨xs,hq⟩,q⟩:=q1;subst e;cases r1;obtain⟨XW,rv,p,hz⟩:=I1.tuple hq;refine wpAny_pyIter_tuple (show s1.heap.IsTuple a XW.toArray from p) ?_;refine⟨s1.heap.objs.size,[s1.heap.objs.size],_,_,H1,rfl,I1.kept (t':=s1.toks) λb o e=>Xc _ e,jc a _,⟨_,Ym _ rfl,rfl,rfl⟩,λb hb=>?_,q⟩;have e:b=s1.heap.objs.size:=by simpa using hb
 subst e;exact I1.fpOk (XO _) (I1.hok.fresh (XO _))
theorem bD{pins:List (Addr × Obj)}{σ:St}{H:Hp}{s:Shared}{R:It->Hp->Prop}{E:Ae}{lo hi:Int}{t u v:Tok}{tk:Nat}(I:Inv X pins σ H s)(h1:-(2 ^ 62)<=lo)(h2:lo<2 ^ 62)(h3:-(2 ^ 62)<=hi)(h4:hi<2 ^ 62)
  (q:R (KD lo (hi - lo).toNat) H):wpAny (model X.prog X.w) X.A (pyIter (.ref s.heap.objs.size)) (je X pins σ tg R) E { s with heap:=s.heap.push { cls:=.type "range",data:=.fields #[.int lo t,.int hi u,.int 1 v] },toks:=tk }:=by
 refine wpAny_pyIter_range (IsRange.new ..) (small_one h1 h2 h3 h4) ?_;have I1:Inv X pins σ H { s with heap:=s.heap.push { cls:=.type "range",data:=.fields #[.int lo t,.int hi u,.int 1 v] },toks:=tk }:=I.kept λb o e=>Xc _ e
 refine⟨(s.heap.push { cls:=.type "range",data:=.fields #[.int lo t,.int hi u,.int 1 v] }).objs.size,[(s.heap.push { cls:=.type "range",data:=.fields #[.int lo t,.int hi u,.int 1 v] }).objs.size],_,_,H,rfl,
  I1.kept (t':=tk) λb o e=>Xc _ e,wk _ lo (hi - lo).toNat,?_,λb hb=>?_,q⟩
 .have e1:lo+((0:Nat):Int) * 1=lo:=by simp
  have e2:(((hi - lo).toNat:Nat):Int) - ((0:Nat):Int)=Builtin.Range.rangeSize lo hi 1:=by rw[rangeSize_one];split <;> omega
  show IsRangeIter _ _ (lo+((0:Nat):Int) * 1) ((((hi - lo).toNat:Nat):Int) - ((0:Nat):Int)) 1;rw[e1,e2];exact Ym _ rfl
 .have e:b=(s.heap.push { cls:=.type "range",data:=.fields #[.int lo t,.int hi u,.int 1 v] }).objs.size:=by simpa using hb
  subst e;exact I1.fpOk (XO _) (I1.hok.fresh (XO _))
def we(ta:TA):TI:=λσ H R=>ta σ H λvs H1=>∃ j:Int,vs=[.int j]/\-(2 ^ 62)<=j/\j<2 ^ 62/\R (KD 0 j.toNat) H1
theorem HY {a:Expr} {ta:TA} {p pos:Pos} (hg:Gl X "range") (hm:X.mg "range"=none) (ha:PA X [a] ta) (hs:starEach [a] X.env=[(false,eval a X.env)]:=by rfl):PI X tg (.Call (.Name "range" p) [a] [] pos) (we ta):=by
 intro pins s σ H R I h;refine Call_ (VG I hg hm boot_range (Lw (thn (ha pos pins s σ H _ I h) λus s1 Xv=>?_) hs rfl));obtain⟨vs,H1,I1,r1,q1⟩:=Xv;obtain⟨j,e,q1,q2,q⟩:=q1;subst e;cases r1 with
 | cons r rr =>
  cases rr;obtain⟨t,rfl⟩:=r;exact call_range_1 (bD I1 (by omega) (by omega) q1 q2 (by simpa using q))
def wd(wi:TI)(g:TG)(tb:TS):TS:=λD σ H=>wi σ H λJ H1=>∃ W:Nat->Nat->St->Hp->Prop,(∃ m,W 0 m σ H1)/\∀ i m σ H,W i m σ H ->
 (J.stop i H/\D.nx σ H)\/(J.go i H/\∃ N:St->Hp->Prop,(∀ σ' H',N σ' H'->∃ m',m'<m/\W (i+1) m' σ' H')/\∀ x H',J.yld i H x H'->g x σ H' λσ2 H2=>tb { D with nx:=N,ct:=N,bk:=D.nx } σ2 H2)
def UA(fp:List Addr)(h:Heap):List (Addr × Obj):=fp.filterMap λb=>(h.get? b).map λo=>(b,o)
theorem z5{fp:List Addr}{h:Heap}{b:Addr}{o:Obj}(hb:b∈fp)(e:h.get? b=some o):(b,o)∈UA fp h:=AE.mpr ⟨b,hb,by rw[e];rfl⟩
theorem jb{fp:List Addr}{h:Heap}{p:Addr × Obj}(hp:p∈UA fp h):p.1∈fp/\h.get? p.1=some p.2:=by
 obtain⟨b,hb,e⟩:=AE.mp hp;cases q:h.get? b with
 | none=>rw[q]at e;cases e
 | some o =>
  rw[q]at e;have e':(b,o)=p:=Yi e
  subst e';exact⟨hb,q⟩
theorem Inv.pinned{pins:List (Addr × Obj)}{σ:St}{H:Hp}{s:Shared}{fp:List Addr}(I:Inv X pins σ H s)(hf:∀ b∈fp,FpOk X pins H b)(ho:∀ b∈fp,∃ o,s.heap.get? b=some o/\∀ v,o.data≠.cell v):Inv X (pins++UA fp s.heap) σ H s :=
 I.pins_of λp hp=>(Xy.mp hp).elim (λz=>I.pin p (Yc _ z)) λz=>by obtain⟨hb,e⟩:=jb z;obtain⟨f0,f1,f2,_⟩:=hf p.1 hb;obtain⟨o,e',d⟩:=ho p.1 hb;rw[e]at e';cases e';exact⟨e,f0,f1,f2,d⟩
theorem Inv.unpinned{pins pl:List (Addr × Obj)}{σ:St}{H:Hp}{s:Shared}(I:Inv X (pins++pl) σ H s):Inv X pins σ H s:=I.pins_of λp hp=>I.pin p (Yc _ (Ya _ hp))
theorem Sq{iter:Expr}{body:List Stmt}{wi:TI}{g:TG}{tb:TS}{pos:Pos}(hp:PassesOwn (model X.prog X.w) X.A X.env X.xe)(hc:X.calm=true)(hi:PI X tg iter wi)(hg:PG X tg g)(hb:PSs X body tb)
  (hs:∀ x,foldedSetIterable iter X.env x=pure x:=by intro _;rfl):PS X (.For tg iter body [] pos) (wd wi g tb):=by
 intro pins s σ H D I h;refine wpAny_For (thn (hi pins s σ H _ I h) λv s1 h1=>thn h1 λwm s2 h2=>?_) hs;obtain⟨it,fp,tn,J,H2,e,I2,T,Oi,f2,W,⟨m0,w0⟩,turn⟩:=h2;subst e;have KC:∀ {H':Hp},(∀ b∈fp,H' b=none)->∀ b∈fp,FpOk X pins H' b:=λhn b hb=>⟨hn b hb,(f2 b hb).2⟩
 refine codeAny_forLoop_any (λn s'=>∃ i σ' H',Inv X pins σ' H' s'/\tn i s'.heap/\(∀ b∈fp,H' b=none)/\W i n σ' H') ?_ m0 ⟨0,σ,H2,I2,Oi,λb hb=>(f2 b hb).1,w0⟩;rintro n s3 ⟨i,σ3,H3,I3,ja,i9,w3⟩;rcases turn i n σ3 H3 w3 with ⟨stop,qn⟩ | ⟨go,N,hN,step⟩
 .refine Ln hp (thn (T.done X rfl rfl rfl hc i pins s3 σ3 H3 X.xe I3 (KC i9) ja stop) λr s4 ⟨hr,I4⟩=>?_);subst hr;exact QN ⟨σ3,H3,I4,qn⟩
 .refine Ln hp (thn (T.item X rfl rfl rfl hc i pins s3 σ3 H3 X.xe I3 (KC i9) ja go) λr s4 Xv=>?_);obtain⟨u,hr,h4⟩:=Xv;subst hr;refine Ln hp (thn h4 λ_ s5 Xv=>?_);obtain⟨x,H5,I5,r5,y5,KA,wc⟩:=Xv;have wb:=I5.pinned (KC wc) (T.obj _ _ KA)
  refine Ln hp (thn (hg _ s5 σ3 H5 x u _ wb r5 (step x H5 y5)) λ_ s6 Xv=>?_);obtain⟨σ6,H6,I6,q6⟩:=Xv;refine Ln hp (thn (hb _ s6 σ6 H6 _ I6 q6) λf s7 q7=>?_);have again:∀ {σ7:St} {H7:Hp},Inv X (pins++UA fp s5.heap) σ7 H7 s7->N σ7 H7->∃ m,m<n/\∃ i σ' H',Inv X pins σ' H' s7/\tn i s7.heap/\(∀ b∈fp,H' b=none)/\W i m σ' H':=λ{σ7 H7} I7 n7=>by obtain⟨m',hm,w7⟩:=hN σ7 H7 n7;refine⟨m',hm,i+1,σ7,H7,I7.unpinned,T.keep _ _ _ KA λb hb o e=>(I7.pin (b,o) (Yc _ (Yc _ (z5 hb e)))).1,λb hb=>?_,w7⟩;obtain⟨o,e,d⟩:=T.obj _ _ KA b hb;exact(I7.pin (b,o) (Yc _ (Yc _ (z5 hb e)))).2.1
  cases f with
  | next=>obtain⟨σ7,H7,I7,n7⟩:=q7;exact again I7 n7
  | cont=>obtain⟨σ7,H7,I7,n7⟩:=q7;exact again I7 n7
  | brk=>obtain⟨σ7,H7,I7,q7⟩:=q7;exact⟨σ7,H7,I7.unpinned,q7⟩
  | ret v=>obtain⟨x7,σ7,H7,I7,r7,q7⟩:=q7;exact⟨x7,σ7,H7,I7.unpinned,r7,q7⟩
end
theorem wa{K:Ad}{a:Addr}{xs:List V}{g:TG}{tb:TS}{D:Ends}{σ:St}{H:Hp}(Pv:Nat->St->Hp->Prop)(h0:Pv 0 σ H)(hl:∀ i σ H,i<=xs.length->Pv i σ H->SqL K H a xs)
  (hs:∀ i x σ H,xs[i]?=some x->Pv i σ H->g x σ H λσ2 H2=>tb { D with nx:=Pv (i+1),ct:=Pv (i+1),bk:=D.nx } σ2 H2) (hd:∀ σ H,Pv xs.length σ H->D.nx σ H) :
  ∃ W:Nat->Nat->St->Hp->Prop,(∃ m,W 0 m σ H)/\∀ i m σ H,W i m σ H ->
   ((QF K a).stop i H/\D.nx σ H)\/((QF K a).go i H/\∃ N:St->Hp->Prop,(∀ σ' H',N σ' H'->∃ m',m'<m/\W (i+1) m' σ' H')/\∀ x H',(QF K a).yld i H x H'->g x σ H' λσ2 H2=>tb { D with nx:=N,ct:=N,bk:=D.nx } σ2 H2):=by
 refine⟨λi m σ H=>m=xs.length - i/\i<=xs.length/\Pv i σ H,⟨xs.length,by simp,Yo _,h0⟩,?_⟩;rintro i m σ H ⟨rfl,hi,p⟩;have q:=hl i σ H hi p
 by_cases Xi:i<xs.length
 .refine .inr ⟨⟨xs,xs[i],q,by simp[Xi]⟩,Pv (i+1),λσ' H' p'=>⟨xs.length - (i+1),by omega,rfl,Xi,p'⟩,λx H' y=>?_⟩;obtain⟨e,y⟩:=y;subst e;exact hs i x σ _ (y xs q) p
 .have e:i=xs.length:=by omega
  subst e;exact .inl ⟨⟨xs,q,XO _⟩,hd σ H p⟩
theorem i8{K:Ad}{a:Addr}{xs:List V}{g:TG}{tb:TS}{D:Ends}{σ:St}{H:Hp}(Pv:Nat->St->Hp->Prop)(h0:Pv 0 σ H)(hl:∀ i σ H,i<=xs.length->Pv i σ H->SqT K H a xs)
  (hs:∀ i x σ H,xs[i]?=some x->Pv i σ H->g x σ H λσ2 H2=>tb { D with nx:=Pv (i+1),ct:=Pv (i+1),bk:=D.nx } σ2 H2) (hd:∀ σ H,Pv xs.length σ H->D.nx σ H) :
  ∃ W:Nat->Nat->St->Hp->Prop,(∃ m,W 0 m σ H)/\∀ i m σ H,W i m σ H ->
   ((QE K a).stop i H/\D.nx σ H)\/((QE K a).go i H/\∃ N:St->Hp->Prop,(∀ σ' H',N σ' H'->∃ m',m'<m/\W (i+1) m' σ' H')/\∀ x H',(QE K a).yld i H x H'->g x σ H' λσ2 H2=>tb { D with nx:=N,ct:=N,bk:=D.nx } σ2 H2):=by
 refine⟨λi m σ H=>m=xs.length - i/\i<=xs.length/\Pv i σ H,⟨xs.length,by simp,Yo _,h0⟩,?_⟩;rintro i m σ H ⟨rfl,hi,p⟩;have q:=hl i σ H hi p
 by_cases Xi:i<xs.length
 .refine .inr ⟨⟨xs,xs[i],q,by simp[Xi]⟩,Pv (i+1),λσ' H' p'=>⟨xs.length - (i+1),by omega,rfl,Xi,p'⟩,λx H' y=>?_⟩;obtain⟨e,y⟩:=y;subst e;exact hs i x σ _ (y xs q) p
 .have e:i=xs.length:=by omega
  subst e;exact .inl ⟨⟨xs,q,XO _⟩,hd σ H p⟩
theorem FW{lo:Int}{n:Nat}{g:TG}{tb:TS}{D:Ends}{σ:St}{H:Hp}(Pv:Nat->St->Hp->Prop)(h0:Pv 0 σ H)
  (hs:∀ i σ H,i<n->Pv i σ H->g (.int (lo+i)) σ H λσ2 H2=>tb { D with nx:=Pv (i+1),ct:=Pv (i+1),bk:=D.nx } σ2 H2) (hd:∀ σ H,Pv n σ H->D.nx σ H) :
  ∃ W:Nat->Nat->St->Hp->Prop,(∃ m,W 0 m σ H)/\∀ i m σ H,W i m σ H ->
   ((KD lo n).stop i H/\D.nx σ H)\/((KD lo n).go i H/\∃ N:St->Hp->Prop,(∀ σ' H',N σ' H'->∃ m',m'<m/\W (i+1) m' σ' H')/\∀ x H',(KD lo n).yld i H x H'->g x σ H' λσ2 H2=>tb { D with nx:=N,ct:=N,bk:=D.nx } σ2 H2):=by
 refine⟨λi m σ H=>m=n - i/\i<=n/\Pv i σ H,⟨n,by simp,Yo _,h0⟩,?_⟩;rintro i m σ H ⟨rfl,hi,p⟩;by_cases Xi:i<n
 .refine .inr ⟨Xi,Pv (i+1),λσ' H' p'=>⟨n - (i+1),by omega,rfl,Xi,p'⟩,λx H' y=>?_⟩;obtain⟨e,y⟩:=y;subst e y;exact hs i σ _ Xi p
 .have e:i=n:=by omega
  subst e;exact .inl ⟨XO _,hd σ H p⟩
abbrev R2:=V->V->Hp->VK->Prop
def WG(X:Cx)(f:Value->Value->Sem Value)(r:R2):Prop :=
 ∀(pins:List (Addr × Obj)) (s:Shared) (σ:St) (H:Hp) (x y:V) (v u:Value) (Q:VK),Inv X pins σ H s->RelV x v->RelV y u->r x y H Q ->
  wpAny (model X.prog X.w) X.A (f v u) (EP X pins σ Q) X.xe s
def v9(X:Cx)(f:Value->Sem Value)(r:V->Hp->VK->Prop):Prop :=
 ∀(pins:List (Addr × Obj)) (s:Shared) (σ:St) (H:Hp) (x:V) (v:Value) (Q:VK),Inv X pins σ H s->RelV x v->r x H Q ->
  wpAny (model X.prog X.w) X.A (f v) (EP X pins σ Q) X.xe s
def UQ(X:Cx)(f:Value)(r:List V->Hp->VK->Prop):Prop :=
 ∀(pins:List (Addr × Obj)) (s:Shared) (σ:St) (H:Hp) (xs:List V) (us:Ag) (Q:VK),Inv X pins σ H s->Vals xs us->r xs H Q ->
  wpAny (model X.prog X.w) X.A (call f us) (EP X pins σ Q) X.xe s
def z4(r:R2)(ta tb:TE):TE:=λσ H Q=>ta σ H λx H1=>tb σ H1 λy H2=>r x y H2 Q
def bC(r:V->Hp->VK->Prop)(ta:TE):TE:=λσ H Q=>ta σ H λx H1=>r x H1 Q
def rI(C:Int->Int->Prop)(g:Int->Int->V):R2:=λx y H Q=>∃ i j,x=.int i/\y=.int j/\C i j/\Q (g i j) H
def Mq(g:Int->Int->V):R2:=λx y H Q=>∃ i j,x=.int i/\y=.int j/\Q (g i j) H
def rU(g:Int->V):V->Hp->VK->Prop:=λx H Q=>∃ i,x=.int i/\Q (g i) H
section
variable{X:Cx}{a b:Expr}{ta tb:TE}{pos:Pos}
theorem Kz(ha:PE X a ta)(hb:PE X b tb){pins:List (Addr × Obj)}{s:Shared}{σ:St}{H:Hp}{R:V->V->Hp->Prop}(I:Inv X pins σ H s)
  (h:ta σ H λx H1=>tb σ H1 λy H2=>R x y H2) {Q:Ae} {f:Value->Value->Sem Value}
  (hf:∀ v u s2 x y H2,Inv X pins σ H2 s2->RelV x v->RelV y u->R x y H2->wpAny (model X.prog X.w) X.A (f v u) Q X.xe s2) :
  wpAny (model X.prog X.w) X.A (eval a X.env) (λv s₁=>wpAny (model X.prog X.w) X.A (eval b X.env) (λu s₂=>wpAny (model X.prog X.w) X.A (f v u) Q X.xe s₂) X.xe s₁) X.xe s:=by refine thn (ha pins s σ H _ I h) λv s1 Xv=>?_;obtain⟨x,H1,I1,r1,q1⟩:=Xv;refine thn (hb pins s1 σ H1 _ I1 q1) λu s2 Xv=>?_;obtain⟨y,H2,I2,r2,q2⟩:=Xv;exact hf v u s2 x y H2 I2 r1 r2 q2
theorem Zn{op:Operator}{r:R2}(ho:WG X (binaryOp op) r)(ha:PE X a ta)(hb:PE X b tb):PE X (.BinOp a op b pos) (z4 r ta tb):=by intro pins s σ H Q I h;exact wpAny_BinOp (Kz ha hb I h λv u s2 x y H2 I2 rx ry q=>ho pins s2 σ H2 x y v u Q I2 rx ry q)
theorem Ky{op:UnaryOp}{r:V->Hp->VK->Prop}(ho:v9 X (unaryOp op) r)(ha:PE X a ta):PE X (.UnaryOp op a pos) (bC r ta):=by intro pins s σ H Q I h;exact UnaryOp_ (thn (ha pins s σ H _ I h) λv s1 ⟨x,H1,I1,r1,q1⟩=>ho pins s1 σ H1 x v Q I1 r1 q1)
theorem Kx{f:Value->Value->Sem Value}{C:Int->Int->Prop}{g:Int->Int->Int}
  (rule:∀(i j:Int) (t u:Tok) (s:Shared) (Q:Ae) (E:Ae),C i j->Q (.int (g i j) s.toks) { s with toks:=s.toks+1 }->wpAny (model X.prog X.w) X.A (f (.int i t) (.int j u)) Q E s) :
  WG X f (rI C λi j=>.int (g i j)):=by intro pins s σ H x y v u Q I rx ry h;obtain⟨i,j,rfl,rfl,hc,q⟩:=h;obtain⟨t,rfl⟩:=rx;obtain⟨t',rfl⟩:=ry;exact rule i j t t' s _ _ hc ⟨.int (g i j),H,I.tok _,⟨_,rfl⟩,q⟩
theorem FV{f:Value->Value->Sem Value}{g:Int->Int->Int}
  (rule:∀(i j:Int) (t u:Tok) (s:Shared) (Q:Ae) (E:Ae),Q (.int (g i j) s.toks) { s with toks:=s.toks+1 }->wpAny (model X.prog X.w) X.A (f (.int i t) (.int j u)) Q E s) :
  WG X f (Mq λi j=>.int (g i j)):=by intro pins s σ H x y v u Q I rx ry h;obtain⟨i,j,rfl,rfl,q⟩:=h;obtain⟨t,rfl⟩:=rx;obtain⟨t',rfl⟩:=ry;exact rule i j t t' s _ _ ⟨.int (g i j),H,I.tok _,⟨_,rfl⟩,q⟩
theorem Oh{f:Value->Value->Sem Value}{g:Int->Int->Bool}
  (rule:∀(i j:Int) (t u:Tok) (s:Shared) (Q:Ae) (E:Ae),Q (.bool (g i j)) s->wpAny (model X.prog X.w) X.A (f (.int i t) (.int j u)) Q E s) :
  WG X f (Mq λi j=>.bl (g i j)):=by intro pins s σ H x y v u Q I rx ry h;obtain⟨i,j,rfl,rfl,q⟩:=h;obtain⟨t,rfl⟩:=rx;obtain⟨t',rfl⟩:=ry;exact rule i j t t' s _ _ ⟨.bl (g i j),H,I,rfl,q⟩
def v8(i j:Int):Prop:=0<j/\j<1073741824
def v7(i j:Int):Prop:=0<=j/\j<=1000000/\i.natAbs<2 ^ 64
def CMul(i j:Int):Prop:=(-(2 ^ 64)<i/\i<2 ^ 64)\/(-(2 ^ 64)<j/\j<2 ^ 64)
theorem CMul.ok{i j:Int}(h:CMul i j):IntMulOk i j:=by
 rcases h with ⟨h1,h2⟩ | ⟨h1,h2⟩
 .exact .of_left (intBits_le_64 h1 h2)
 .exact .of_right (intBits_le_64 h1 h2)
theorem WO:WG X (binaryOp .Add) (Mq λi j=>.int (i+j)):=FV λ_ _ _ _ _ _ _ q=>add_int q
theorem TZ:WG X (binaryOp .Sub) (Mq λi j=>.int (i - j)):=FV λ_ _ _ _ _ _ _ q=>sub_int q
theorem FU:WG X (binaryOp .Mult) (rI CMul λi j=>.int (i * j)):=Kx λ_ _ _ _ _ _ _ hc q=>mul_int q hc.ok
theorem OV:WG X (binaryOp .FloorDiv) (rI v8 λi j=>.int (i / j)):=Kx λi j _ _ _ _ _ hc q=>by
 have h1:(0:Int)<j:=hc.1;have h2:j<1073741824:=hc.2
 exact floordiv_int (by omega) (by rw[Int.fdiv_eq_ediv_of_nonneg i (by omega)];exact q) (.inl (PyProof.noPylong_small (by omega)))
theorem ZH:WG X (binaryOp .Mod) (rI (λ_ j=>0<j) λi j=>.int (i % j)):=Kx λi j _ _ _ _ _ hc q=>by have h1:(0:Int)<j:=hc;exact mod_int' (by omega) (by rw[Int.fmod_eq_emod_of_nonneg i (by omega)];exact q)
theorem OU:WG X (binaryOp .Pow) (rI v7 λi j=>.int (i ^ j.toNat)):=Kx λ_ _ _ _ _ _ _ hc q=>pow_int_small hc.1 hc.2.1 hc.2.2 q
theorem bB{f:Value->Sem Value}{g:Int->Int}
  (rule:∀(i:Int) (t:Tok) (s:Shared) (Q:Ae) (E:Ae),Q (.int (g i) s.toks) { s with toks:=s.toks+1 }->wpAny (model X.prog X.w) X.A (f (.int i t)) Q E s) :
  v9 X f (rU λi=>.int (g i)):=by intro pins s σ H x v Q I rx h;obtain⟨i,rfl,q⟩:=h;obtain⟨t,rfl⟩:=rx;exact rule i t s _ _ ⟨.int (g i),H,I.tok _,⟨_,rfl⟩,q⟩
theorem vZ:v9 X (unaryOp .USub) (rU λi=>.int (-i)):=bB λ_ _ _ _ _ q=>neg_int q
end
def scal:V->V->Bool
 | .non,.non=>true | .non,.int _=>true | .int _,.non=>true | .non,.bl _=>true | .bl _,.non=>true | .non,.str _=>true | .str _,.non=>true
 | .int _,.int _=>true | .bl _,.bl _=>true | .str _,.str _=>true | .byt _,.byt _=>true
 | .int _,.str _=>true | .str _,.int _=>true | .bl _,.str _=>true | .str _,.bl _=>true
 | _,_=>false
def bA:R2:=λx y H Q=>scal x y=true/\Q (.bl (decide (x=y))) H
def bz:R2:=λx y H Q=>scal x y=true/\Q (.bl (!decide (x=y))) H
theorem ZC{i j:Int}:decide (V.int i=V.int j)=(i == j):=by rw[Pa];simp
theorem FT{i j:Bool}:decide (V.bl i=V.bl j)=(i == j):=by rw[Pa];simp
theorem i7{i j:Str}:decide (V.str i=V.str j)=(i == j):=by rw[Pa];simp
theorem i6{i j:Array UInt8}:decide (V.byt i=V.byt j)=(i.toList == j.toList):=by rw[Pa];cases i;cases j;simp
section
variable{X:Cx}{a b c:Expr}{ta tb tc:TE}{pos:Pos}
theorem ZF{pins:List (Addr × Obj)}{σ:St}{H:Hp}{s:Shared}{Q:VK}{k k':Bool}(I:Inv X pins σ H s)(q:Q (.bl k) H)(e:k=k'):EP X pins σ Q (.bool k') s:=by subst e;exact⟨.bl k,H,I,rfl,q⟩
theorem RX:WG X (compareOp .Eq) bA:=by
 intro pins s σ H x y v u Q I rx ry h;obtain⟨hs,q⟩:=h;cases x with
 | non =>
  cases rx;cases y with
  | non=>cases ry;exact PySem.EqNone.eq_none_none (ZF I q (by simp))
  | bl j=>cases ry;exact PySem.EqNone.eq_none_bool (ZF I q (by simp))
  | int j=>obtain⟨t',rfl⟩:=ry;exact PySem.EqNone.eq_none_int (ZF I q (by simp))
  | str j=>obtain⟨t',rfl⟩:=ry;exact PySem.EqNone.eq_none_str (ZF I q (by simp))
  | _=>exact absurd (show false=true from hs) Yv
 | bl i =>
  cases rx;cases y with
  | non=>cases ry;exact PySem.EqNone.eq_bool_none (ZF I q (by simp))
  | bl j=>cases ry;exact eq_bool (ZF I q FT)
  | str j=>obtain⟨t',rfl⟩:=ry;exact PySem.EqMixed.eq_bool_str (ZF I q (by simp))
  | _=>exact absurd (show false=true from hs) Yv
 | int i =>
  obtain⟨t,rfl⟩:=rx;cases y with
  | non=>cases ry;exact PySem.EqNone.eq_int_none (ZF I q (by simp))
  | int j=>obtain⟨t',rfl⟩:=ry;exact eq_int (ZF I q ZC)
  | str j=>obtain⟨t',rfl⟩:=ry;exact PySem.EqMixed.eq_int_str (ZF I q (by simp))
  | _=>exact absurd (show false=true from hs) Yv
 | str i =>
  obtain⟨t,rfl⟩:=rx;cases y with
  | non=>cases ry;exact PySem.EqNone.eq_str_none (ZF I q (by simp))
  | bl j=>cases ry;exact PySem.EqMixed.eq_str_bool (ZF I q (by simp))
  | int j=>obtain⟨t',rfl⟩:=ry;exact PySem.EqMixed.eq_str_int (ZF I q (by simp))
  | str j=>obtain⟨t',rfl⟩:=ry;exact eq_str (ZF I q i7)
  | _=>exact absurd (show false=true from hs) Yv
 | byt i =>
  obtain⟨t,rfl⟩:=rx;cases y with
  | byt j=>obtain⟨t',rfl⟩:=ry;exact PySem.W.eq_bytes (ZF I q i6)
  | _=>exact absurd (show false=true from hs) Yv
 | _=>cases y <;> exact absurd (show false=true from hs) Yv
theorem OT:WG X (compareOp .NotEq) bz:=by
 intro pins s σ H x y v u Q I rx ry h;obtain⟨hs,q⟩:=h;cases x with
 | non =>
  cases rx;cases y with
  | non=>cases ry;exact PySem.EqNone.ne_none_none (ZF I q (by simp))
  | bl j=>cases ry;exact PySem.EqNone.ne_none_bool (ZF I q (by simp))
  | int j=>obtain⟨t',rfl⟩:=ry;exact PySem.EqNone.ne_none_int (ZF I q (by simp))
  | str j=>obtain⟨t',rfl⟩:=ry;exact PySem.EqNone.ne_none_str (ZF I q (by simp))
  | _=>exact absurd (show false=true from hs) Yv
 | bl i =>
  cases rx;cases y with
  | non=>cases ry;exact PySem.EqNone.ne_bool_none (ZF I q (by simp))
  | bl j=>cases ry;exact ne_bool (ZF I q (Xw not FT))
  | str j=>obtain⟨t',rfl⟩:=ry;exact PySem.EqMixed.ne_bool_str (ZF I q (by simp))
  | _=>exact absurd (show false=true from hs) Yv
 | int i =>
  obtain⟨t,rfl⟩:=rx;cases y with
  | non=>cases ry;exact PySem.EqNone.ne_int_none (ZF I q (by simp))
  | int j=>obtain⟨t',rfl⟩:=ry;exact ne_int (ZF I q (Xw not ZC))
  | str j=>obtain⟨t',rfl⟩:=ry;exact PySem.EqMixed.ne_int_str (ZF I q (by simp))
  | _=>exact absurd (show false=true from hs) Yv
 | str i =>
  obtain⟨t,rfl⟩:=rx;cases y with
  | non=>cases ry;exact PySem.EqNone.ne_str_none (ZF I q (by simp))
  | bl j=>cases ry;exact PySem.EqMixed.ne_str_bool (ZF I q (by simp))
  | int j=>obtain⟨t',rfl⟩:=ry;exact PySem.EqMixed.ne_str_int (ZF I q (by simp))
  | str j=>obtain⟨t',rfl⟩:=ry;exact ne_str (ZF I q (Xw not i7))
  | _=>exact absurd (show false=true from hs) Yv
 | byt i =>
  obtain⟨t,rfl⟩:=rx;cases y with
  | byt j=>obtain⟨t',rfl⟩:=ry;exact PySem.W.ne_bytes (ZF I q (Xw not i6))
  | _=>exact absurd (show false=true from hs) Yv
 | _=>cases y <;> exact absurd (show false=true from hs) Yv
theorem RW:WG X (compareOp .Lt) (Mq λi j=>.bl (decide (i<j))):=Oh λ_ _ _ _ _ _ _ q=>lt_int q
theorem TY:WG X (compareOp .LtE) (Mq λi j=>.bl (decide (i<=j))):=Oh λ_ _ _ _ _ _ _ q=>le_int q
theorem RV:WG X (compareOp .Gt) (Mq λi j=>.bl (decide (j<i))):=Oh λ_ _ _ _ _ _ _ q=>gt_int q
theorem FR:WG X (compareOp .GtE) (Mq λi j=>.bl (decide (j<=i))):=Oh λ_ _ _ _ _ _ _ q=>ge_int q
theorem QD:WG X (compareOp .Is) (λx y H Q=>y=.non/\Q (.bl (decide (x=.non))) H):=by
 intro pins s σ H x y v u Q I rx ry h;obtain⟨rfl,q⟩:=h;cases ry;refine is_none_gen (ZF I q ?_);cases x <;> first
  | (cases rx;rfl)
  | (obtain⟨t,rfl⟩:=rx;rfl)
theorem Zv(b:Expr){op:CmpOp}(h:op≠.In:=by decide)(h2:op≠.NotIn:=by decide):behindInMarks op b=false:=by
 have e1:(op == CmpOp.In)=false:=by cases op <;> first | rfl | exact absurd rfl h
 have e2:(op == CmpOp.NotIn)=false:=by cases op <;> first | rfl | exact absurd rfl h2
 cases b <;> simp[behindInMarks,e1,e2]
theorem Og{op:CmpOp}{r:R2}(ho:WG X (compareOp op) r)(ha:PE X a ta)(hb:PE X b tb)(hm:behindInMarks op b=false):PE X (.Compare a [op] [b] pos) (z4 r ta tb):=by intro pins s σ H Q I h;exact wpAny_Compare1 (Kz ha hb I h λv u s2 x y H2 I2 rx ry q=>ho pins s2 σ H2 x y v u Q I2 rx ry q) hm
def FQ(t:TE):TT:=λσ H Q=>t σ H λx H'=>∃ k,x=.bl k/\Q k H'
theorem Zg{op:CmpOp}{r:R2}(ho:WG X (compareOp op) r)(ha:PE X a ta)(hb:PE X b tb)(hm:behindInMarks op b=false):PT X (.Compare a [op] [b] pos) (FQ (z4 r ta tb)):=by
 intro pins s σ H Q I h;refine wpAny_isTrue_Compare1 (thn (ha pins s σ H _ I h) λv s1 ⟨x,H1,I1,r1,q1⟩=>thn (hb pins s1 σ H1 _ I1 q1) λu s2 ⟨y,H2,I2,r2,q2⟩ =>
  thn (ho pins s2 σ H2 x y v u _ I2 r1 r2 q2) λc s3 ⟨z,H3,I3,r3,k,e,q3⟩=>?_) hm
 subst e;cases r3;exact OB ⟨H3,I3,q3⟩
def FP(r r':R2)(ta tb tc:TE):TE:=λσ H Q=>ta σ H λx H1=>tb σ H1 λy H2=>r x y H2 λz H3=>∃ k,z=.bl k /\
 (if k=true then tc σ H3 λw' H4=>r' y w' H4 Q else Q (.bl false) H3)
theorem bw{op Kw:CmpOp}{r r':R2}(ho:WG X (compareOp op) r)(WR:WG X (compareOp Kw) r')(ha:PE X a ta)(hb:PE X b tb)(hc:PE X c tc)
  (hm:lastMarks [op,Kw] [b,c]=false:=by with_unfolding_all rfl):PE X (.Compare a [op,Kw] [b,c] pos) (FP r r' ta tb tc):=by
 intro pins s σ H Q I h;refine Compare_chain (thn (ha pins s σ H _ I h) λv s1 ⟨x,H1,I1,r1,q1⟩=>chain_link (thn (hb pins s1 σ H1 _ I1 q1) λu s2 ⟨y,H2,I2,r2,q2⟩ =>
  thn (ho pins s2 σ H2 x y v u _ I2 r1 r2 q2) λd s3 ⟨z,H3,I3,r3,k,e,q3⟩=>?_)) hm
 subst e;cases r3;refine OB ?_;cases k with
 | false=>exact ite_ff ⟨.bl false,H3,I3,rfl,q3⟩
 | true=>exact ite_tt (chain_last (thn (hc pins s3 σ H3 _ I3 q3) λw' s4 ⟨z',H4,I4,r4,q4⟩=>WR pins s4 σ H4 y z' u w' Q I4 r2 r4 q4))
theorem i5{op Kw:CmpOp}{r r':R2}(ho:WG X (compareOp op) r)(WR:WG X (compareOp Kw) r')(ha:PE X a ta)(hb:PE X b tb)(hc:PE X c tc)
  (hm:lastMarks [op,Kw] [b,c]=false:=by with_unfolding_all rfl):PT X (.Compare a [op,Kw] [b,c] pos) (FQ (FP r r' ta tb tc)):=by
 intro pins s σ H Q I h;refine isTrue_chain (thn (ha pins s σ H _ I h) λv s1 ⟨x,H1,I1,r1,q1⟩=>test_link (thn (hb pins s1 σ H1 _ I1 q1) λu s2 ⟨y,H2,I2,r2,q2⟩ =>
  thn (ho pins s2 σ H2 x y v u _ I2 r1 r2 q2) λd s3 ⟨z,H3,I3,r3,k,e,q3⟩=>?_)) hm
 subst e;cases r3;refine OB ?_;cases k with
 | false =>
  obtain⟨k',e',q'⟩:=q3;cases e';exact ite_ff ⟨H3,I3,q'⟩
 | true =>
  refine ite_tt (test_last (thn (hc pins s3 σ H3 _ I3 q3) λw' s4 ⟨z',H4,I4,r4,q4⟩=>thn (WR pins s4 σ H4 y z' u w' _ I4 r2 r4 q4) λd' s5 Xv=>?_));obtain⟨z2,H5,I5,r5,k2,e2,q5⟩:=Xv;subst e2;cases r5;exact OB ⟨H5,I5,q5⟩
theorem FO:(sizeLine:Nat)<2 ^ 63:=by rw[Ue];decide
theorem Th{x:V}{us:Ag}(r:Vals [x] us):∃ u,us=[u]/\RelV x u:=by
 cases r with
 | cons r1 r2=>cases r2;exact⟨_,rfl,r1⟩
theorem QC{x y:V}{us:Ag}(r:Vals [x,y] us):∃ u w',us=[u,w']/\RelV x u/\RelV y w':=by
 cases r with
 | cons r1 r2 =>
  cases r2 with
  | cons r3 r4=>cases r4;exact⟨_,_,rfl,r1,r3⟩
theorem vY (hc:X.calm=true):UQ X (.builtin "max") (λxs H Q=>∃ i j,xs=[.int i,.int j]/\Q (.int (if j > i then j else i)) H):=by
 intro pins s σ H xs us Q I r h;obtain⟨i,j,rfl,q⟩:=h;obtain⟨u,w',rfl,⟨t,rfl⟩,⟨t',rfl⟩⟩:=QC r;refine max_two_ints (I.ok.hd hc) λh' tk k=>⟨_,H,I.kept k,?_,q⟩;by_cases hj:j > i
 .rw[if_pos hj,if_pos hj];exact⟨_,rfl⟩
 .rw[if_neg hj,if_neg hj];exact⟨_,rfl⟩
theorem vX (hc:X.calm=true):UQ X (.builtin "min") (λxs H Q=>∃ i j,xs=[.int i,.int j]/\Q (.int (if j<i then j else i)) H):=by
 intro pins s σ H xs us Q I r h;obtain⟨i,j,rfl,q⟩:=h;obtain⟨u,w',rfl,⟨t,rfl⟩,⟨t',rfl⟩⟩:=QC r;refine min_two_ints (I.ok.hd hc) λh' tk k=>⟨_,H,I.kept k,?_,q⟩;by_cases hj:j<i
 .rw[if_pos hj,if_pos hj];exact⟨_,rfl⟩
 .rw[if_neg hj,if_neg hj];exact⟨_,rfl⟩
theorem bu:UQ X (.type "int") (λxs H Q=>(∃ i,xs=[.int i]/\Q (.int i) H)\/∃ k,xs=[.bl k]/\Q (.int (if k then 1 else 0)) H):=by
 intro pins s σ H xs us Q I r h;rcases h with ⟨i,rfl,q⟩ | ⟨k,rfl,q⟩
 .obtain⟨u,rfl,t,rfl⟩:=Th r;exact call_int_int ⟨.int i,H,I,⟨_,rfl⟩,q⟩
 .obtain⟨u,rfl,r1⟩:=Th r;cases r1;exact call_int_bool ⟨.int (if k then 1 else 0),H,I.tok _,⟨_,rfl⟩,q⟩
end
structure ObjM (h:Heap) (x dx C:Addr) (mA:Af):Prop where
 obj:h.get? x=some (PySem.W.instObj C dx)
 ns:h.Ns1 dx mA
 ne:dx≠x
theorem vW{h:Heap}{dx:Addr}{mA:Af}(n:h.Ns1 dx mA):∃ od,h.get? dx=some od/\∀ name,PySem.W.lookIn name od=some (mA name):=by
 obtain⟨o,es,ep,ho,hd,hk,_,hm⟩:=n;refine⟨o,ho,λname=>?_⟩;have e:=hm name
 unfold nsFind findBy at e;rw[<- Array.find?_toList]at e;unfold PySem.W.lookIn;rw[hd];dsimp only;split
 .rename_i y q;rw[q]at e;exact Xw some e
 .rename_i q;rw[q]at e;have a:es.toList.any (·.refKey)=false:=by rw[List.any_eq_false];intro y hy;obtain⟨z,t,vV⟩:=hk y (Array.mem_toList_iff.mp hy);simp[DictEntry.refKey,vV]
  have a':¬ es.toList.any (·.refKey)=true:=by rw[a];exact Yv
  rw[if_neg a'];exact Xw some e
theorem ObjM.look{h:Heap}{x dx C:Addr}{mA:Af}(I:ObjM h x dx C mA):∃ od,PySem.W.InstAt h x (PySem.W.instObj C dx) C (some od)/\∀ name,PySem.W.lookIn name od=some (mA name) :=
 let ⟨od,ho,hl⟩:=vW I.ns
 ⟨od,⟨I.obj,rfl,rfl,ho⟩,hl⟩
section
variable{prog:Program}{w:World}{A:Around}{E:Ae}{s:Shared}{K:Ad}{x dx C f:Addr}{mA:Af}{name:Str}{v:Value}
theorem vU{expr:Bool}{Q:Ae}(X:K.In s.heap)(I:ObjM s.heap x dx C mA)(hg:PySem.W.plainGet K C name=true)(hh:PySem.W.hasDictIn K C=true)
  (ha:PySem.W.findIn K (.ref C) name=some none) (hv:mA name=some v) (z3:PySem.W.handedIn v=true) (h:Q v { s with toks:=s.toks+1 }) :
  wpAny (model prog w) A (getAttr (.ref x) name expr) Q E s:=by obtain⟨od,J,hl⟩:=I.look;exact PySem.W.get_value X J (PySem.W.plainGet_of hg).1 (PySem.W.findObj_own hh ha rfl (by rw[hl,hv])) z3 h
theorem vT{ns:List Str}{Q:Unit->Shared->Prop}(X:K.In s.heap)(I:ObjM s.heap x dx C mA)
  (hs:PySem.W.findIn K (.ref C) "__setattr__"=some (some (.builtin "object.__setattr__"))) (hp:PySem.W.plainOver K C=true) (ht:PySem.W.takerIn K C name=some none) (hh:PySem.W.hasDictIn K C=true)
  (hw:PySem.Within mA ns) (hsz:ns.length<=sizeLine)
  (h:∀ h',ObjM h' x dx C (λy=>if y=name then some v else mA y)->Heap.SameBut dx s.heap h'->Q () { s with heap:=h',toks:=s.toks+2 }) :
  wpAny (model prog w) A (setAttr (.ref x) name v) Q E s:=by
 obtain⟨od,J,hl⟩:=I.look;refine PySem.W.set_plain X J hs (PySem.W.osa_open (s:={ s with toks:=s.toks+1 }) (r:=none) X J hp ht λb=>?_);obtain⟨cd,hc,Uc⟩:=PySem.W.any_some hh;have hx:s.heap.get? x=some ⟨.ref C,some dx,.plain,#[]⟩:=I.obj
 refine XU (Yj (XU (XU (wpAny_loadPart hx (XU (PySem.W.Looks.here (s:={ s with toks:=s.toks+1 }) (PySem.W.looks_clsIn X hc) ?_))))));rw[Uc];refine Yj (a:=some dx) (XU (Yj (XU ?_)));refine wpAny_nsSet1 (s:={ s with toks:=s.toks+1 }) I.ns λh' Of RU=>?_;obtain⟨oD,esD,epD,zZ,i4,br⟩:=Of.count (PySem.Within.cons name v hw);refine XU (wpAny_lookBehind zZ (by rw[i4];exact pastItsLine_dict (Yr br (by rw[Yz];omega))) ?_);exact Yj (h _ ⟨(RU.2 _ (YY I.ne)).trans I.obj,Of,I.ne⟩ RU)
theorem vS{R:Result->Shared->Prop}{vs:Ag}{kw:List (Str × Value)}(X:K.In s.heap)(hm:PySem.W.makesIn K C=true)
  (hi:PySem.W.findIn K (.ref C) "__init__"=some (some (.ref f))) (hf:PySem.W.typeIn K (.ref f)=some (.type "function"))
  (h:codeAny (model prog w) (A.under (.builtin "type.__call__" ⟨.ref C :: vs,kw⟩)) (.call (.ref f) ⟨.ref (s.heap.objs.size+1) :: vs,kw⟩) (PySem.W.InitBack (s.heap.objs.size+1) R)
   { s with heap:=(s.heap.push PySem.W.emptyDict).push (PySem.W.instObj C s.heap.objs.size) }) :
  codeAny (model prog w) A (.call (.ref C) ⟨vs,kw⟩) R s:=by obtain⟨hh,g,d,t,os⟩:=s;exact PySem.W.make_core (PySem.W.makes_of X hm) (PySem.W.looks_findIn X hi) (λself=>PySem.W.bind_fn X self hf) (.inl rfl) h
end
def XQ(f:Str)(v:V):List (Str × V)->List (Str × V)
 | []=>[(f,v)]
 | (g,x) :: r=>if g=f then (g,v) :: r else (g,x) :: XQ f v r
theorem QB(f g:Str)(v:V):∀ fs:List (Str × V),(XQ f v fs).lookup g=if g=f then some v else fs.lookup g
 | []=>by
  show List.lookup g [(f,v)]=_;by_cases h:g=f
  .have hb:(g == f)=true:=SW.mpr h;simp only [List.lookup,hb,if_pos h]
  .have hb:(g == f)=false:=Hg.mpr h;simp only [List.lookup,hb,if_neg h]
 | (k,x) :: r=>by
  have ih:=QB f g v r;rw[show XQ f v ((k,x) :: r)=(if k=f then (k,v) :: r else (k,x) :: XQ f v r) from rfl];by_cases hk:k=f
  .rw[if_pos hk];by_cases h:g=k
   .have hb:(g == k)=true:=SW.mpr h;simp only [List.lookup,hb,if_pos (h.trans hk)]
   .have hb:(g == k)=false:=Hg.mpr h;simp only [List.lookup,hb,if_neg (λe:g=f=>h (e.trans hk.symm))]
  .rw[if_neg hk];by_cases h:g=k
   .have hb:(g == k)=true:=SW.mpr h;simp only [List.lookup,hb,if_neg (λe:g=f=>hk (h.symm.trans e))]
   .have hb:(g == k)=false:=Hg.mpr h;simp only [List.lookup,hb];exact ih
theorem vR(f:Str)(v:V):∀ fs:List (Str × V),f∈(XQ f v fs).map (·.1)/\∀ g,g∈fs.map (·.1)->g∈(XQ f v fs).map (·.1)
 | []=>⟨by simp[XQ],λg h=>by simp at h⟩
 | (k,x) :: r=>by
  obtain⟨i1,i2⟩:=vR f v r;rw[show XQ f v ((k,x) :: r)=(if k=f then (k,v) :: r else (k,x) :: XQ f v r) from rfl];by_cases hk:k=f
  .rw[if_pos hk];subst hk;exact⟨by simp,λg h=>by simpa using h⟩
  .rw[if_neg hk];refine⟨?_,λg h=>?_⟩
   .rw[Wz];exact Yh _ i1
   .rw[Wz]at h ⊢;rcases Yg.mp h with e | e
    .exact Yg.mpr (.inl e)
    .exact Yh _ (i2 g e)
theorem i3(f:Str)(v:V):∀ fs:List (Str × V),(XQ f v fs).length<=fs.length+1
 | []=>by simp[XQ]
 | (k,x) :: r=>by
  have ih:=i3 f v r;rw[show XQ f v ((k,x) :: r)=(if k=f then (k,v) :: r else (k,x) :: XQ f v r) from rfl];by_cases hk:k=f
  .rw[if_pos hk,Yz,Yz];omega
  .rw[if_neg hk,Yz,Yz];omega
theorem RelO.some_of{v:V}{o:Option Value}(r:RelO (some v) o):∃ u,o=some u/\RelV v u:=by
 cases o with
 | none=>exact(show False from r).elim
 | some u=>exact⟨u,rfl,r⟩
theorem bq{v:V}{u:Value}(r:RelV v u):PySem.W.handedIn u=true:=by
 cases v with
 | non=>cases (show u=Value.none from r);rfl
 | bl b=>cases (show u=Value.bool b from r);rfl
 | int i=>obtain⟨t,e⟩:=(show ∃ t,u=Value.int i t from r);cases e;rfl
 | str x=>obtain⟨t,e⟩:=(show ∃ t,u=Value.str x t from r);cases e;rfl
 | byt b=>obtain⟨t,e⟩:=(show ∃ t,u=Value.bytes b t from r);cases e;rfl
 | flt b=>obtain⟨t,e⟩:=(show ∃ t,u=Value.float b t from r);cases e;rfl
 | ref a=>cases (show u=Value.ref a from r);rfl
 | ty n=>cases (show u=Value.type n from r);rfl
section
variable{P:Program}{w:World}{H:Hp}{h:Heap}{a C dx:Addr}{fs:List (Str × V)}
theorem vQ(hok:HOk P w H h)(e:H a=some (.ins C dx fs)):∃ mA,ObjM h a dx C mA/\(∀ f,RelO (fs.lookup f) (mA f))/\PySem.Within mA (fs.map (·.1))/\fs.length<=1000/\H dx=some (.own a):=by obtain⟨d,z,ne,ob,mA,n,r,q⟩:=(show ObjOk P w H h a (.ins C dx fs) from hok a _ e);exact⟨mA,⟨ob,n,ne⟩,r,q,z,d⟩
end
structure Cls (K:Ad) (C:Addr):Prop where
 pg:PySem.W.plainGet K C Str.empty=true
 hd:PySem.W.hasDictIn K C=true
 po:PySem.W.plainOver K C=true
 sa:PySem.W.findIn K (.ref C) "__setattr__"=some (some (.builtin "object.__setattr__"))
theorem Cls.get{K:Ad}{C:Addr}(c:Cls K C)(f:Str):PySem.W.plainGet K C f=true:=c.pg
def NoAttr(K:Ad)(C:Addr)(f:Str):Prop:=PySem.W.findIn K (.ref C) f=some none
theorem NoAttr.taker{K:Ad}{C:Addr}{f:Str}(n:NoAttr K C f):PySem.W.takerIn K C f=some none:=by unfold PySem.W.takerIn;rw[show PySem.W.findIn K (.ref C) f=some none from n];rfl
structure Con (K:Ad) (C:Addr) (f:Str) (v:V) (u:Value):Prop where
 at_:PySem.W.findIn K (.ref C) f=some (some u)
 rel:RelV v u
 get:PySem.W.specialIn K u "__get__"=some none
 cp:PySem.W.copiedNames.contains f=false
structure Meth (K:Ad) (C:Addr) (m:Str) (f:Addr):Prop where
 at_:PySem.W.findIn K (.ref C) m=some (some (.ref f))
 fn:PySem.W.isFn K (.ref f)=true
 kp:PySem.W.keepIn K (.ref f)=true
section
variable{X:Cx}{pins:List (Addr × Obj)}{σ:St}{H:Hp}{s:Shared}{a C dx:Addr}{fs:List (Str × V)}{f:Str}{v:V}{A:Around}{E:Ae}
theorem vP{b:Bool}{Q:Ae}(I:Inv X pins σ H s)(e:H a=some (.ins C dx fs))(c:Cls X.K C)(n:NoAttr X.K C f)(l:fs.lookup f=some v)
  (h:∀ u s',Inv X pins σ H s'->RelV v u->Q u s'):wpAny (model X.prog X.w) A (getAttr (.ref a) f b) Q E s:=by obtain⟨mA,O,r,_,_,_⟩:=vQ I.hok e;obtain⟨u,hu,ru⟩:=RelO.some_of (v:=v) (o:=mA f) (by rw[<- l];exact r f);exact vU I.kIn O (c.get f) c.hd n hu (bq ru) (h u _ (I.tok _) ru)
theorem bp{y:V}{u:Value}{Q:Unit->Shared->Prop}(I:Inv X pins σ H s)(e:H a=some (.ins C dx fs))(c:Cls X.K C)(n:NoAttr X.K C f)(hl:fs.length<1000)(ry:RelV y u)
  (h:∀ s',Inv X pins σ (upd H a (.ins C dx (XQ f y fs))) s'->Q () s'):wpAny (model X.prog X.w) A (setAttr (.ref a) f u) Q E s:=by
 obtain⟨mA,O,r,wi,_,ho⟩:=vQ I.hok e;have hz:(fs.map (·.1)).length<=sizeLine:=by rw[Yd,Ue];omega
 refine vT I.kIn O c.sa c.po n.taker c.hd wi hz λh' O' sb=>h _ ?_;have hd:∃ o,h'.get? dx=some o:=let ⟨o,_,_,e',_⟩:=O'.ns;⟨o,e'⟩
 refine I.write (x:=a) (e:=dx) (by rw[e];exact True.intro) (.inr ho) (λb q hb z=>(sb.2 b hb).trans z) hd ?_;refine⟨by rw[Zb O.ne];exact ho,?_,O.ne,O'.obj,_,O'.ns,λg=>?_,λg hg=>?_⟩
 .have:=i3 f y fs;omega
 .show RelO ((XQ f y fs).lookup g) (if g=f then some u else mA g);rw[QB];by_cases q:g=f
  .rw[if_pos q,if_pos q];exact ry
  .rw[if_neg q,if_neg q];exact r g
 .by_cases q:g=f
  .rw[q];exact(vR f y fs).1
  .refine(vR f y fs).2 g (wi g λz=>hg ?_);show(if g=f then some u else mA g)=none
   rw[if_neg q];exact z
theorem Inv.made(I:Inv X pins σ H s):Inv X pins σ (upd (upd H s.heap.objs.size (.own (s.heap.objs.size+1))) (s.heap.objs.size+1) (.ins C s.heap.objs.size []))
  { s with heap:=(s.heap.push PySem.W.emptyDict).push (PySem.W.instObj C s.heap.objs.size) }:=by
 have e1:(s.heap.push PySem.W.emptyDict).get? s.heap.objs.size=some PySem.W.emptyDict:=Ym s.heap rfl;have e2:((s.heap.push PySem.W.emptyDict).push (PySem.W.instObj C s.heap.objs.size)).get? (s.heap.objs.size+1)=some (PySem.W.instObj C s.heap.objs.size):=by
  have:=Ym (s.heap.push PySem.W.emptyDict) (o:=PySem.W.instObj C s.heap.objs.size) rfl
  rwa [Oy]at this
 have e3:(s.heap.push PySem.W.emptyDict).Ns s.heap.objs.size (λ_=>none):=⟨PySem.W.emptyDict,#[],_,e1,rfl,(λe he=>absurd he (by simp)),λ_=>rfl⟩;have I1:=I.laid (a:=s.heap.objs.size) (o:=.own (s.heap.objs.size+1)) (h':=s.heap.push PySem.W.emptyDict) (t':=s.toks) (λb u q=>Xc _ q) (XO _) ⟨_,e1⟩
 refine I1.laid (a:=s.heap.objs.size+1) (o:=.ins C s.heap.objs.size []) (t':=s.toks) (λb u q=>Xc _ q) (Nat.le_of_eq (Oy _ _)) ?_;have ne:s.heap.objs.size≠s.heap.objs.size+1:=Yt (Pb _)
 refine⟨by rw[Zb ne,XR],Yo _,ne,e2,λ_=>none,(Heap.Ns1.of_empty e3).at λo q=>Xc _ q,λ_=>True.intro,λy hy=>absurd rfl hy⟩
theorem vN{prog:Program}{w:World}{env:Env}{e:Expr}{f:Str}{pos:Pos}{s:Shared}{Q:Ae}(hb:attributeBase e f env (eval e env)=eval e env)
  (h:wpAny (model prog w) A (eval e env) (λo s₁=>wpAny (model prog w) A (getAttr o f true) Q E s₁) E s):wpAny (model prog w) A (eval (.Attribute e f pos) env) Q E s :=
 Attribute_any_ h (by rw[arm_eval_Attribute,hb])
end
def FN(K:Ad)(ta:TE)(f:Str):TE:=λσ H Q=>ta σ H λx H1=>∃ a C dx fs v,x=.ref a/\H1 a=some (.ins C dx fs)/\Cls K C/\NoAttr K C f/\fs.lookup f=some v/\Q v H1
def vM(K:Ad)(ta tv:TE)(f:Str):TS:=λD σ H=>tv σ H λy H1=>ta σ H1 λx H2=>∃ a C dx fs,x=.ref a/\H2 a=some (.ins C dx fs)/\Cls K C/\NoAttr K C f/\fs.length<1000 /\
 D.nx σ (upd H2 a (.ins C dx (XQ f y fs)))
section
variable{X:Cx}{o e value:Expr}{f:Str}{pos pos':Pos}{ta tv:TE}
theorem vL(he:PE X e ta)(hb:attributeBase e f X.env (eval e X.env)=eval e X.env):PE X (.Attribute e f pos) (FN X.K ta f):=by intro pins s σ H Q I h;refine vN hb (thn (he pins s σ H _ I h) λu s1 Xv=>?_);obtain⟨x,H1,I1,rx,a,C,dx,fs,v,ex,ea,c,n,l,q⟩:=Xv;subst ex;obtain rfl:u=Value.ref a:=rx;exact vP I1 ea c n l λu' s2 I2 ru=>⟨v,H1,I2,ru,q⟩
theorem Uz(ha:PE X o ta)(hv:PE X value tv)(hs:swapsWith value (some (.Attribute o f pos')) pos.line X.env=pure false):PS X (.Assign [.Attribute o f pos'] value pos) (vM X.K ta tv f):=by intro pins s σ H D I h;refine plainObj_wpAny_Assign_Attribute (thn (hv pins s σ H _ I h) λu s1 ⟨y,H1,I1,ry,q⟩=>thn (ha pins s1 σ H1 _ I1 q) λov s2 Xv=>?_) hs;obtain⟨x,H2,I2,rx,a,C,dx,fs,ex,ea,c,n,l,q2⟩:=Xv;subst ex;obtain rfl:ov=Value.ref a:=rx;exact bp I2 ea c n l ry λs3 I3=>⟨σ,_,I3,q2⟩
end
section
variable{X:Cx}{pins:List (Addr × Obj)}{σ:St}{H:Hp}{s:Shared}{A:Around}{E:Ae}{Q:Ae}{c:Value}{b:Bool}
inductive TyOf (K:Ad) (H:Hp):V->Value->Prop where
 | non:TyOf K H .non (.type "NoneType")
 | bl (x:Bool):TyOf K H (.bl x) (.type "bool")
 | int (i:Int):TyOf K H (.int i) (.type "int")
 | str (x:Str):TyOf K H (.str x) (.type "str")
 | flt (x:UInt64):TyOf K H (.flt x) (.type "float")
 | lst {a:Addr} {xs:List V} (e:H a=some (.lst xs)):TyOf K H (.ref a) (.type "list")
 | frz {a:Addr} {o:Obj} {xs:List V} (e:H a=some (.frz o (.lst xs))):TyOf K H (.ref a) (.type "list")
 | tup {a:Addr} {xs:List V} (e:H a=some (.tup xs)):TyOf K H (.ref a) (.type "tuple")
 | dK {a:Addr} {kvs:List (Key × V)} (e:H a=some (.dK kvs)):TyOf K H (.ref a) (.type "dict")
 | dT {a:Addr} {kvs:List (List Key × V)} (e:H a=some (.dT kvs)):TyOf K H (.ref a) (.type "dict")
 | ins {a C dx:Addr} {fs:List (Str × V)} (e:H a=some (.ins C dx fs)) (cl:Cls K C) (ha:PySem.W.findIn K (.ref C) "__class__"=some (some (.builtin "object.__class__")))
   (hn:PySem.W.specialIn K (.builtin "object.__class__") "__get__"=some (some (.builtin "getset_descriptor.__get__"))) (vK:PySem.W.takesIn K (.builtin "object.__class__")=some true)
   (hm:PySem.W.mroIn K C (.type "object")=some true):TyOf K H (.ref a) (.ref C)
theorem bo{x:V}{u t:Value}(I:Inv X pins σ H s)(rx:RelV x u)(ty:TyOf X.K H x t)(e:PySem.W.kitOne X.K t c=some b)(h:∀ tk,Q (.bool b) { s with toks:=tk }) :
  wpAny (model X.prog X.w) A (call (.builtin "isinstance") [u,c]) Q E s:=by
 cases ty with
 | non=>cases (show u=Value.none from rx);exact QR PySem.W.kitx_none I.kIn True.intro e (λz=>nomatch z) h
 | bl y=>cases (show u=Value.bool y from rx);exact QR PySem.W.kitx_bool I.kIn True.intro e (λz=>nomatch z) h
 | int i=>obtain⟨t,q⟩:=(show ∃ t,u=Value.int i t from rx);cases q;exact QR PySem.W.kitx_int I.kIn True.intro e (λz=>nomatch z) h
 | str y=>obtain⟨t,q⟩:=(show ∃ t,u=Value.str y t from rx);cases q;exact QR PySem.W.kitx_str I.kIn True.intro e (λz=>nomatch z) h
 | flt y=>obtain⟨t,q⟩:=(show ∃ t,u=Value.float y t from rx);cases q;exact QR PySem.W.kitx_float I.kIn True.intro e (λz=>nomatch z) h
 | @lst a xs ea =>
  cases (show u=Value.ref a from rx);obtain⟨_,_,n,_,h1⟩:=(show ObjOk X.prog X.w H s.heap a (.lst xs) from I.hok a _ ea);exact QR PySem.W.kitx_list I.kIn ⟨_,h1,rfl⟩ e (λz=>nomatch z) h
 | @frz a ob xs ea =>
  cases (show u=Value.ref a from rx);obtain⟨_,_,_,n,_,h1⟩:=(show ObjOk X.prog X.w H s.heap a (.frz ob (.lst xs)) from I.hok a _ ea);exact QR PySem.W.kitx_list I.kIn ⟨_,h1,rfl⟩ e (λz=>nomatch z) h
 | @tup a xs ea =>
  cases (show u=Value.ref a from rx);obtain⟨_,_,_,p⟩:=(show ObjOk X.prog X.w H s.heap a (.tup xs) from I.hok a _ ea);obtain⟨o,h1,h2,_⟩:=p;exact QR PySem.W.kitx_tuple I.kIn ⟨o,h1,h2⟩ e (λz=>nomatch z) h
 | @dK a kvs ea =>
  cases (show u=Value.ref a from rx);obtain⟨_,_,vs,_,p⟩:=(show ObjOk X.prog X.w H s.heap a (.dK kvs) from I.hok a _ ea);obtain⟨o,es,ep,h1,h2,_⟩:=p;exact QR PySem.W.kitx_dict I.kIn ⟨o,h1,h2.1⟩ e (λz=>nomatch z) h
 | @dT a kvs ea =>
  cases (show u=Value.ref a from rx);obtain⟨_,_,xs,_,o,es,ep,h1,h2,_⟩:=(show ObjOk X.prog X.w H s.heap a (.dT kvs) from I.hok a _ ea);exact QR PySem.W.kitx_dict I.kIn ⟨o,h1,h2.1⟩ e (λz=>nomatch z) h
 | @ins a C dx fs ea cl ha hn vK hm =>
  cases (show u=Value.ref a from rx);obtain⟨mA,O,_⟩:=vQ I.hok ea;obtain⟨od,J,_⟩:=O.look;exact QR (PySem.W.kitx_own (cl.get _) cl.hd ha hn vK hm) I.kIn J e (λz=>nomatch z) h
end
structure Room (k:Nat) (A:Around):Prop where
 hd:A.handled=none
 dp:A.depth+3 * k+5<recursionLimit
 un:A.units+16 * k+200<cLine
theorem Room.mono{j k:Nat}{A:Around}(r:Room k A)(h:j<=k):Room j A:=⟨r.hd,by have:=r.dp;omega,by have:=r.un;omega⟩
theorem Room.deeper{k:Nat}{A:Around}(r:Room (k+1) A)(env:Env):Room k (A.deeper env) :=
 ⟨r.hd,by have:=r.dp;show A.depth+1+3 * k+5<_;omega,by have:=r.un;show A.units+3+16 * k+200<_;omega⟩
theorem Room.in1{k:Nat}{A:Around}(r:Room (k+1) A):Room k A.in1 :=
 ⟨r.hd,by have:=r.dp;show A.depth+3 * k+5<_;omega,by have:=r.un;show A.units+1+16 * k+200<_;omega⟩
theorem bj {A:Around} {C:Addr} {us:Ag} {kw:List (Str × Value)}:(A.under (.builtin "type.__call__" ⟨.ref C :: us,kw⟩)).depth=A.depth+1:=by
 first | rfl | simp[Around.under,Code.weight,Code.isCreation,Code.isGuard,Code.isCaller,Code.frames,Code.isFrame,guardIds]
theorem bh {A:Around} {C:Addr} {us:Ag} {kw:List (Str × Value)}:(A.under (.builtin "type.__call__" ⟨.ref C :: us,kw⟩)).units=A.units+1:=by
 first | rfl | simp[Around.under,Code.cUnits,Code.frames,Code.isFrame]
theorem Room.make {k:Nat} {A:Around} (r:Room (k+1) A) (C:Addr) (us:Ag) (kw:List (Str × Value)):Room k (A.under (.builtin "type.__call__" ⟨.ref C :: us,kw⟩)) :=
 ⟨r.hd,by have:=r.dp;rw[bj];omega,by have:=r.un;rw[bh];omega⟩
theorem Room.depth{k:Nat}{A:Around}(r:Room k A):A.depth<recursionLimit:=by have:=r.dp;omega
theorem Room.units{k:Nat}{A:Around}(r:Room k A):A.units+64<cLine:=by have:=r.un;omega
def Kv:TA:=λ_ H Q=>Q [] H
def QA(ta:TE)(tr:TA):TA:=λσ H Q=>ta σ H λx H1=>tr σ H1 λxs H2=>Q (x :: xs) H2
section
variable{X:Cx}{e:Expr}{es:List Expr}{te:TE}{t:TA}{pos:Pos}
theorem XY:PA X [] Kv:=λ_ _ _ _ H Q I h=>wZ ⟨[],H,I,.nil,h⟩
theorem XZ(ha:PE X e te)(hr:PA X es t)(hs:starEach (e :: es) X.env=(false,eval e X.env) :: starEach es X.env:=by rfl):PA X (e :: es) (QA te t):=by
 intro pos pins s σ H Q I h;rw[hs];show wpAny _ _ (spliced ((false,eval e X.env) :: backTo pos (starEach es X.env))) _ _ s
 refine xb (thn (ha pins s σ H _ I h) λu s1 Xv=>?_);obtain⟨x,H1,I1,r1,q1⟩:=Xv;exact thn (hr pos pins s1 σ H1 _ I1 q1) λus s2 ⟨xs,H2,I2,r2,q2⟩=>⟨x :: xs,H2,I2,.cons r1 r2,q2⟩
def vJ(t:TA):TE:=λσ H Q=>t σ H λxs H1=>xs.length<=sizeLine/\∀ p,H1 p=none->Q (.ref p) (upd H1 p (.tup xs))
def vH(t:TA):TE:=λσ H Q=>t σ H λxs H1=>xs.length<=sizeLine/\∀ p,H1 p=none->Q (.ref p) (upd H1 p (.lst xs))
theorem SR{x1}(h:PA X es t):PE X (.Tuple es x1 pos) (vJ t):=by
 intro pins s σ H Q I hq;refine wpAny_Tuple_spliced (thn (h pos pins s σ H _ I hq) λus s1 ⟨xs,H1,I1,r,z,q⟩=>⟨by rw[<- r.length];exact z,?_⟩);have hf:H1 s1.heap.objs.size=none:=I1.hok.fresh (XO _)
 refine⟨.ref s1.heap.objs.size,upd H1 s1.heap.objs.size (.tup xs),I1.laid (t':=s1.toks) (λb u e=>Xc _ e) (XO _) ?_,rfl,q _ hf⟩;exact⟨z,us,r,⟨_,Ym _ rfl,rfl,_,rfl⟩⟩
theorem Uk(h:PA X es t):PE X (.List es pos) (vH t):=by
 intro pins s σ H Q I hq;refine wpAny_List_spliced (thn (h pos pins s σ H _ I hq) λus s1 ⟨xs,H1,I1,r,z,q⟩=>⟨by rw[<- r.length];exact z,?_⟩);have hf:H1 s1.heap.objs.size=none:=I1.hok.fresh (XO _)
 refine⟨.ref s1.heap.objs.size,upd H1 s1.heap.objs.size (.lst xs),I1.laid (t':=s1.toks) (λb u e=>Xc _ e) (XO _) ?_,rfl,q _ hf⟩;exact⟨z,us,0,r,Ym _ rfl⟩
end
abbrev Sp:=List V->Hp->VK->XK->Prop
abbrev RT:=List Env->Hp->Shared->XK->Ae
structure Env0 (P:Program) (w:World) (K:Ad) (mg:Af) (base:Heap) (A:Around) (outer:List Env) (s:Shared) (H:Hp):Prop where
 frames:A.frames=some outer
 mod:Mod K mg base
 bs:∀ b o,base.get? b=some o->s.heap.get? b=some o/\H b=none
 bsz:base.objs.size<=s.heap.objs.size
 funs:s.heap.FunFrames base outer
 frf:∀ b∈Wj outer,H b=none
 hok:HOk P w H s.heap
 bare:AllBare s.gens
def CE(outer:List Env)(P:Program)(w:World)(H:Hp)(s:Shared)(Q:VK)(u:Value)(s':Shared):Prop :=
 ∃ v H',s'.os=s.os/\AllBare s'.gens/\Un (Wj outer) [] H H' s.heap s'.heap/\HOk P w H' s'.heap/\RelV v u/\Q v H'
def CR(CX:RT)(outer:List Env)(P:Program)(w:World)(H:Hp)(s:Shared)(Q:VK)(E:XK)(r:Result)(s':Shared):Prop :=
 match r with
 | .ok (.ret u)=>CE outer P w H s Q u s'
 | .ok _=>False
 | .error e=>CX outer H s E e s'
structure FnOk (P:Program) (w:World) (K:Ad) (mg:Af) (base:Heap) (CX:RT) (k:Nat) (f:Addr) (fd:FuncData) (ps:List Str) (sp:Sp):Prop where
 len:∀ vs H Q E,sp vs H Q E->vs.length=ps.length
 run:∀(A:Around) (outer:List Env) (s:Shared) (H:Hp) (args:Args) (us:Ag) (vs:List V) (Q:VK) (E:XK),Room k A->Env0 P w K mg base A outer s H->BindsTo s fd args (ps.zip us)->Vals vs us->sp vs H Q E ->
  codeAny (model P w) A (.call (.ref f) args) (CR CX outer P w H s Q E) s
theorem Env0.make{P:Program}{w:World}{K:Ad}{mg:Af}{base:Heap}{A:Around}{outer:List Env}{s:Shared}{H:Hp}(e:Env0 P w K mg base A outer s H)(C:Addr)(us:Ag)(kw:List (Str × Value)) :
  Env0 P w K mg base (A.under (.builtin "type.__call__" ⟨.ref C :: us,kw⟩)) outer s H:=⟨by first | exact e.frames | (simpa [Around.under,Code.envs,Code.isFrame,pushEnvs] using e.frames),e.mod,e.bs,e.bsz,e.funs,e.frf,e.hok,e.bare⟩
theorem Env0.in1{P:Program}{w:World}{K:Ad}{mg:Af}{base:Heap}{A:Around}{outer:List Env}{s:Shared}{H:Hp}(e:Env0 P w K mg base A outer s H) :
  Env0 P w K mg base A.in1 outer s H:=⟨e.frames,e.mod,e.bs,e.bsz,e.funs,e.frf,e.hok,e.bare⟩
section
variable{X:Cx}{pins:List (Addr × Obj)}{σ:St}{H:Hp}{s s':Shared}
theorem Inv.env0(I:Inv X pins σ H s):Env0 X.prog X.w X.K X.mg X.base X.A X.stack s H :=
 ⟨I.ok.frames,I.ok.mod,I.bs,Yr I.ok.bsz I.sz,I.stack,I.stkFree,I.hok,I.bare⟩
theorem Inv.after{Q:VK}{u:Value}(I:Inv X pins σ H s)(h:CE X.stack X.prog X.w H s Q u s'):EP X pins σ Q u s':=by obtain⟨v,H',os,bare,un,hok,r,q⟩:=h;obtain⟨hh,g,d,t,vG⟩:=s';obtain rfl:vG=s.os:=os;exact⟨v,H',I.call (h':=hh) (g':=g) (d':=d) (t':=t) (ch:=[]) un hok bare (λb z=>absurd z (by simp)),r,q⟩
end
def FL(sp:Sp)(VB:List V)(E:XK)(t:TA):TE:=λσ H Q=>t σ H λvs H1=>sp (vs++VB) H1 Q E
def FK(C:Addr)(sp:Sp)(VB:List V)(E:XK)(t:TA):TE:=λσ H Q=>t σ H λvs H1=>∀ x dx,H1 x=none->H1 dx=none->dx≠x ->
 sp (.ref x :: (vs++VB)) (upd (upd H1 dx (.own x)) x (.ins C dx [])) (λv H2=>v=.non/\Q (.ref x) H2) E
def Binds(K:Ad)(fd:FuncData)(ps:List Str)(ds:Ag):Prop :=
 ∀(s:Shared) (us:Ag),K.In s.heap->(us++ds).length=ps.length->BindsTo s fd ⟨us,[]⟩ (ps.zip (us++ds))
theorem Binds.all{K:Ad}{fd:FuncData}{ps:List Str}(h:∀ us:Ag,us.length=ps.length->bindArgs fd ⟨us,[]⟩=pure (ps.zip us)):Binds K fd ps []:=λs us _ hl=>by rw[YF]at hl ⊢;exact .of_eq (h us hl)
def Ku(CX:RT)(X:Cx)(E:XK):Prop:=∀(pins:List (Addr × Obj)) (σ:St) (H:Hp) (s:Shared) (e:Value) (s':Shared),Inv X pins σ H s->CX X.stack H s E e s'->X.xe e s'
section
variable{X:Cx}{CX:RT}{k:Nat}{f C:Addr}{fd:FuncData}{ps:List Str}{sp:Sp}{VB:List V}{ds:Ag}{E:XK}{x:Str}{p pos:Pos}{e:Expr}{es:List Expr}{t:TA}
theorem vE{pins:List (Addr × Obj)}{σ:St}{H:Hp}{s:Shared}{Q:VK}{us:Ag}{vs:List V}(F:FnOk X.prog X.w X.K X.mg X.base CX k f fd ps sp)(hr:Room k X.A)(hb:Binds X.K fd ps ds)(hd:Vals VB ds)(hx:Ku CX X E)
  (I:Inv X pins σ H s) (r:Vals vs us) (h:sp (vs++VB) H Q E):wpAny (model X.prog X.w) X.A (call (.ref f) us) (EP X pins σ Q) X.xe s:=by
 have r2:Vals (vs++VB) (us++ds):=r.append hd;have hl:(us++ds).length=ps.length:=by rw[<- r2.length];exact F.len _ _ _ _ h
 refine Ib (Ow (F.run X.A X.stack s H ⟨us,[]⟩ (us++ds) (vs++VB) Q E hr I.env0 (hb s us I.kIn hl) r2 h) λr s' hq=>?_);cases r with
 | error e=>exact hx pins σ H s e s' I hq
 | ok fl =>
  cases fl with
  | ret u=>exact I.after hq
  | next=>exact False.elim hq
  | brk=>exact False.elim hq
  | cont=>exact False.elim hq
theorem XF(F:FnOk X.prog X.w X.K X.mg X.base CX k f fd ps sp)(hr:Room k X.A)(hg:Gl X x)(hm:X.mg x=some (.ref f))(hk:PySem.W.keepIn X.K (.ref f)=true)(hb:Binds X.K fd ps ds)(hd:Vals VB ds)(hx:Ku CX X E)
  (ha:PA X (e :: es) t) (TX:(x == ("__debug__":Str))=false:=by decide) (he:starEach (e :: es) X.env=(false,eval e X.env) :: starEach es X.env:=by rfl) (Vj:(backTo pos (starEach es X.env)).any (·.1)=false:=by rfl) :
  PE X (.Call (.Name x p) (e :: es) [] pos) (FL sp VB E t):=by intro pins s σ H Q I h;refine QV (Gy I hg hm ?_ TX);refine xt (h₀:=X.base) I.ok.mod.kin hk (thn (ha pos pins s σ H _ I h) λus s1 ⟨vs,H1,I1,r,q⟩=>⟨I1.kIn,?_⟩) he Vj;exact vE F hr hb hd hx I1 r q
structure Mk (K:Ad) (C f:Addr):Prop where
 makes:PySem.W.makesIn K C=true
 init:PySem.W.findIn K (.ref C) "__init__"=some (some (.ref f))
 fn:PySem.W.isFn K (.ref f)=true
 kp:PySem.W.keepIn K (.ref C)=true
theorem bg{pins:List (Addr × Obj)}{σ:St}{H:Hp}{s:Shared}{Q:VK}{us:Ag}{vs:List V}(M:Mk X.K C f)(F:FnOk X.prog X.w X.K X.mg X.base CX k f fd ps sp)(hr:Room (k+1) X.A)(hb:Binds X.K fd ps ds)(hd:Vals VB ds)
  (hx:Ku CX X E) (I:Inv X pins σ H s) (r:Vals vs us)
  (h:∀ x dx,H x=none->H dx=none->dx≠x->sp (.ref x :: (vs++VB)) (upd (upd H dx (.own x)) x (.ins C dx [])) (λv H2=>v=.non/\Q (.ref x) H2) E) :
  wpAny (model X.prog X.w) X.A (call (.ref C) us) (EP X pins σ Q) X.xe s:=by
 have hq:=h (s.heap.objs.size+1) s.heap.objs.size (I.hok.fresh (Um _)) (I.hok.fresh (XO _)) (Yt (Pb _));have I2:=Inv.made (C:=C) I
 have r2:Vals (V.ref (s.heap.objs.size+1) :: (vs++VB)) (Value.ref (s.heap.objs.size+1) :: (us++ds)):=.cons rfl (r.append hd);have hl:(Value.ref (s.heap.objs.size+1) :: us++ds).length=ps.length:=by have e:=r2.length;rw[F.len _ _ _ _ hq]at e;exact e.symm
 refine Ib (vS (f:=f) I.kIn M.makes M.init (SW.mp M.fn) (Ow (F.run _ X.stack _ _ ⟨Value.ref (s.heap.objs.size+1) :: us,[]⟩ (Value.ref (s.heap.objs.size+1) :: (us++ds)) _ _ E (hr.make C us [])
  (I2.env0.make C us []) (hb _ (Value.ref (s.heap.objs.size+1) :: us) I2.kIn hl) r2 hq) λr s' FJ=>?_))
 cases r with
 | error e=>exact hx pins σ _ _ e s' I2 FJ
 | ok fl =>
  cases fl with
  | ret u =>
   obtain⟨v,H',I3,rv,ev,q3⟩:=I2.after FJ;subst ev;exact⟨rv,⟨V.ref (s.heap.objs.size+1),H',I3,rfl,q3⟩⟩
  | next=>exact False.elim FJ
  | brk=>exact False.elim FJ
  | cont=>exact False.elim FJ
theorem FI(M:Mk X.K C f)(F:FnOk X.prog X.w X.K X.mg X.base CX k f fd ps sp)(hr:Room (k+1) X.A)(hg:Gl X x)(hm:X.mg x=some (.ref C))(hb:Binds X.K fd ps ds)(hd:Vals VB ds)(hx:Ku CX X E)
  (ha:PA X (e :: es) t) (TX:(x == ("__debug__":Str))=false:=by decide) (he:starEach (e :: es) X.env=(false,eval e X.env) :: starEach es X.env:=by rfl) (Vj:(backTo pos (starEach es X.env)).any (·.1)=false:=by rfl) :
  PE X (.Call (.Name x p) (e :: es) [] pos) (FK C sp VB E t):=by intro pins s σ H Q I h;refine QV (Gy I hg hm ?_ TX);refine xt (h₀:=X.base) I.ok.mod.kin M.kp (thn (ha pos pins s σ H _ I h) λus s1 ⟨vs,H1,I1,r,q⟩=>⟨I1.kIn,?_⟩) he Vj;exact bg M F hr hb hd hx I1 r q
end
section
variable{fd:FuncData}{ps ks:List Str}
structure KBinds (K:Ad) (fd:FuncData) (ps ks:List Str) (g:List Value->List Value->Ag) (gV:List V->List V->List V):Prop where
 to:∀(s:Shared) (us ws:Ag),K.In s.heap->(g us ws).length=ps.length->BindsTo s fd ⟨us,ks.zip ws⟩ (ps.zip (g us ws))
 rel:∀ {vs:List V} {us:Ag} {zs:List V} {ws:Ag},Vals vs us->Vals zs ws->Vals (gV vs zs) (g us ws)
end
structure FnScope (N P:List Str) (sc:Scope):Prop where
 kind:sc.kind=.function
 co:sc.isCoroutine=false
 gen:sc.isGenerator=false
 nd:N.Nodup
 pre:N.take P.length=P
 par:∀ x∈P,sc.names.lookup x=some .local\/sc.names.lookup x=some .cell
 nofree:∀ y∈sc.names,y.2≠.free
theorem iZ{kindOf:Str->Option NameKind}{x:Str}:∀ {binds:List (Str × Value)} {m:Af},(∀ v,(x,v)∉binds)->bindL kindOf binds m x=m x
 | [],_,_=>rfl
 | (n,v) :: r,m,h=>by
  unfold bindL;rw[iZ λw hw=>h w (Yh _ hw)];split
  .have:x≠n:=by rintro rfl;exact h v Ye
   simp[this]
  .rfl
theorem iY{kindOf:Str->Option NameKind}{x:Str}:∀ {binds:List (Str × Value)} {m:Af},(∀ v,(x,v)∉binds)->bindC kindOf binds m x=m x
 | [],_,_=>rfl
 | (n,v) :: r,m,h=>by
  unfold bindC;rw[iY λw hw=>h w (Yh _ hw)];split
  .rfl
  .have:x≠n:=by rintro rfl;exact h v Ye
   simp[this]
theorem iX{kindOf:Str->Option NameKind}{x:Str}{v:Value}:∀ {P:List Str} {vs:Ag} {i:Nat} {m:Af},P.Nodup->P[i]?=some x->vs[i]?=some v->kindOf x=some .local ->
  bindL kindOf (P.zip vs) m x=some v
 | [],_,_,_,_,h,_,_=>by simp at h
 | _ :: _,[],_,_,_,_,h,_=>by simp at h
 | p :: P,w :: vs,0,m,nd,h1,h2,hk=>by
  simp at h1 h2;subst h1;subst h2;show bindL kindOf ((p,w) :: P.zip vs) m p=_
  unfold bindL;rw[iZ λv hv=>(Rl.mp nd).1 (KS hv).1,if_pos hk];simp
 | p :: P,w :: vs,i+1,m,nd,h1,h2,hk=>by show bindL kindOf ((p,w) :: P.zip vs) m x=_;unfold bindL;exact iX (i:=i) (Rl.mp nd).2 (by simpa using h1) (by simpa using h2) hk
theorem iW{kindOf:Str->Option NameKind}{x:Str}{v:Value}:∀ {P:List Str} {vs:Ag} {i:Nat} {m:Af},P.Nodup->P[i]?=some x->vs[i]?=some v->kindOf x≠some .local ->
  bindC kindOf (P.zip vs) m x=some v
 | [],_,_,_,_,h,_,_=>by simp at h
 | _ :: _,[],_,_,_,_,h,_=>by simp at h
 | p :: P,w :: vs,0,m,nd,h1,h2,hk=>by
  simp at h1 h2;subst h1;subst h2;show bindC kindOf ((p,w) :: P.zip vs) m p=_
  unfold bindC;rw[iY λv hv=>(Rl.mp nd).1 (KS hv).1,if_neg hk];simp
 | p :: P,w :: vs,i+1,m,nd,h1,h2,hk=>by show bindC kindOf ((p,w) :: P.zip vs) m x=_;unfold bindC;exact iW (i:=i) (Rl.mp nd).2 (by simpa using h1) (by simpa using h2) hk
def start(N:List Str)(vs:List V):St:=vs.map some++List.replicate (N.length - vs.length) none
def Wr(CX:RT)(P:Program)(w:World)(K:Ad)(mg:Af)(base:Heap)(N:List Str)(qual:Str)(scope:Scope)(f:Addr)(cd:Value)(A:Around)(outer:List Env)(s:Shared)(H:Hp)(E:XK):Cx where
 prog:=P
 w:=w
 K:=K
 mg:=mg
 base:=base
 A:=A.deeper (envOfC qual scope s.heap.objs.size f cd)
 N:=N
 s₀:=s
 H₀:=H
 env:=envOfC qual scope s.heap.objs.size f cd
 outer:=outer
 stack:=envOfC qual scope s.heap.objs.size f cd :: outer
 ex:=[]
 calm:=true
 fn:=λ_=>true
 pn:=[]
 xe:=λe s'=>wpAny (model P w) (A.deeper (envOfC qual scope s.heap.objs.size f cd)) (leaving (envOfC qual scope s.heap.objs.size f cd) e) (λ_ UP=>CX outer H s E e UP) (λe' UP=>CX outer H s E e' UP) s'
theorem iV{sc:Scope}{n:Nat}{x:Str}(h:sc.names.lookup x=some .cell):∃ c,(cellsFrom n sc.names []).lookup x=some c:=by have q:=jw sc.names n [] (.inl h);exact xM.mp q
theorem bc{CX:RT}{P:Program}{w:World}{K:Ad}{mg:Af}{base:Heap}{N ps:List Str}{qual:Str}{scope:Scope}{f:Addr}{cd:Value}{A:Around}{outer:List Env}{s s1:Shared}{H:Hp}{E:XK}{us:Ag}{vs:List V}
  (S:FnScope N ps scope) (hd:A.handled=none) (e0:Env0 P w K mg base A outer s H) (hl:vs.length=ps.length) (r:Vals vs us)
  (x:InCallC s s.heap.objs.size (bindL (envOfC qual scope s.heap.objs.size f cd).kindOf (ps.zip us) λ_=>none) (cellsFrom (s.heap.objs.size+1) scope.names []) (bindC (envOfC qual scope s.heap.objs.size f cd).kindOf (ps.zip us) λ_=>none) s1) :
  Inv (Wr CX P w K mg base N qual scope f cd A outer s H E) [] (start N vs) H s1:=by
 have Vj:ps.length<=N.length:=by have:=Xw List.length S.pre;rw[YB]at this;omega
 obtain⟨h1,tk,rfl,hk⟩:=x.done;have Kt:∀ b:Addr,b∉(Wr CX P w K mg base N qual scope f cd A outer s H E).ex:=λb z=>absurd (show b∈([]:List Addr) from z) (by simp)
 refine⟨⟨e0.mod,S.kind,rfl,rfl,XO _,λy z c h1 h2=>?_,λy hy=>?_,λy c _ h=>?_,λ_=>hd,Around.frames_deeper e0.frames,.inr ⟨rfl,rfl⟩,λb z=>absurd z (Kt b),e0.bs,e0.bsz,λb _ _=>Kt b,λb z=>absurd z (Kt b),e0.funs,e0.frf⟩,
  rfl,e0.bare,Un.kept hk,⟨_,x.toInCall.ns,λi y v h1 h2 h3=>?_⟩,λy c h=>⟨_,x.cell y c h⟩,e0.hok.fresh (XO _),λy c h=>?_,λp hp=>absurd (show p∈([]:List (Addr × Obj)) from hp) (by simp),e0.hok.kept hk,?_⟩
 .exact name_of_addr x.apart (Lr h1) (Lr h2)
 .have hy:scope.names.lookup y=some .cell\/scope.names.lookup y=some .free:=hy;rcases hy with hy | hy
  .exact iV hy
  .exact absurd rfl (S.nofree _ (Lr hy))
 .exact UB (x.above y c (Lr h))
 .have hi:i<vs.length:=by
   unfold start at h2;by_cases hi:i<vs.length
   .exact hi
   .rw[Yq (by simpa using hi)]at h2;rw[AM]at h2;split at h2 <;> cases h2
  have ha:vs[i]?=some v:=by
   unfold start at h2;rw[Ys (by simpa using hi),Yp]at h2;cases e:vs[i]? with
   | none=>rw[e]at h2;cases h2
   | some a=>rw[e]at h2;cases h2;rfl
  obtain⟨u,hu,rv⟩:=r.get ha;have hp:ps[i]?=some y:=by rw[<- S.pre,List.getElem?_take_of_lt (by omega)];exact h1
  have iU:ps.Nodup:=by rw[<- S.pre];exact S.nd.sublist (List.take_sublist _ _)
  refine⟨u,rv,?_⟩;rcases S.par y (Xd hp) with k | k
  .exact .inl ⟨k,iX iU hp hu k⟩
  .obtain⟨c,e⟩:=iV (n:=s.heap.objs.size+1) k;refine .inr ⟨.inl k,c,e,?_⟩;have q:=x.cell y c e
   rw[iW iU hp hu (by show scope.names.lookup y≠_;rw[k];decide)]at q;exact q
 .exact e0.hok.fresh (UB (x.above y c (Lr h)))
 .unfold start;show _=N.length
  rw[Xs,Yd,YG];omega
theorem Ks{CX:RT}{P:Program}{w:World}{K:Ad}{mg:Af}{base:Heap}{k:Nat}{f:Addr}{name qual:Str}{params:Arguments}{body:List Stmt}{scope:Scope}{dV kV doc pm Xz ct oc:Value}{an od:Option Addr}
  {Uy:Array (Option Value)} {N ps:List Str} {sp:Sp} (lk:K.lookup f=some ⟨oc,od,.func (PySem.W.fnOf name qual params body scope dV kV doc pm an Xz ct),Uy⟩) (Ul:PySem.W.codeIn K Xz qual=true) (S:FnScope N ps scope)
  (len:∀ vs H Q E,sp vs H Q E->vs.length=ps.length)
  (hbody:∀(A:Around) (outer:List Env) (s:Shared) (H:Hp) (vs:List V) (Q:VK) (E:XK),Room k (A.deeper (envOfC qual scope s.heap.objs.size f Xz))->sp vs H Q E ->
   ∃ t,PSs (Wr CX P w K mg base N qual scope f Xz A outer s H E) body t/\t { nx:=λ_ H'=>Q .non H',rt:=Q } (start N vs) H) :
  FnOk P w K mg base CX (k+1) f (PySem.W.fnOf name qual params body scope dV kV doc pm an Xz ct) ps sp:=by
 refine⟨len,λA outer s H args us vs Q E hr e0 hb r Tg=>?_⟩;have hl:=len _ _ _ _ Tg
 have KX:K.In s.heap:=e0.mod.kin.keeps λb o e=>(e0.bs b o e).1;have lim:s.heap.NoLimit:=e0.mod.nolimit.keeps λb o e=>(e0.bs b o e).1
 have FH:∀ y∈ps.zip us,scope.names.lookup y.1=some .local\/(scope.names.lookup y.1=some .cell/\((cellsFrom (s.heap.objs.size+1) scope.names []).lookup y.1).isSome=true):=λ⟨n,v⟩ hy=>by
  rcases S.par n (KS hy).1 with q | q
  .exact .inl q
  .exact .inr ⟨q,jw _ _ _ (.inl q)⟩
 refine codeAny_call_function hr.depth (KX _ _ lk) rfl S.co S.gen rfl (PySem.W.codeRec_of KX Ul) (hb _ _ _ _ ?_);refine wpAny_newFunctionEnv_cells S.kind FH λenv he s1 x=>?_;subst he;refine⟨lim.keeps x.toInCall.keep,codeAny_func ?_⟩;obtain⟨t,ht,hq⟩:=hbody A outer s H vs Q E (hr.deeper _) Tg;have I:Inv (Wr CX P w K mg base N qual scope f Xz A outer s H E) [] (start N vs) H s1:=bc S hr.hd e0 hl r x
 refine UG (ht [] s1 (start N vs) H _ I hq) (λfl s' hs=>?_) λe s' hs=>hs;have fin:∀ {σ':St} {H':Hp} {v:V} {u:Value},Inv (Wr CX P w K mg base N qual scope f Xz A outer s H E) [] σ' H' s'->RelV v u->Q v H'->CE outer P w H s Q u s' :=
  λ{σ' H' v u} J rv q=>⟨v,H',J.os,J.bare,J.base,J.hok,rv,q⟩
 cases fl with
 | ret u =>
  obtain⟨v,σ',H',J,rv,q⟩:=hs;exact fin J rv q
 | next =>
  obtain⟨σ',H',J,q⟩:=hs;exact fin (v:=V.non) (u:=Value.none) J rfl q
 | brk =>
  obtain⟨_,_,_,q⟩:=hs;exact False.elim q
 | cont =>
  obtain⟨_,_,_,q⟩:=hs;exact False.elim q
section
variable{X:Cx}{x:Str}{p pos:Pos}{e:Expr}{es:List Expr}{t:TA}{id T:String}{r:List V->Hp->VK->Prop}
def iT(r:List V->Hp->VK->Prop)(t:TA):TE:=λσ H Q=>t σ H λvs H1=>r vs H1 Q
theorem Zd (hc:UQ X (.builtin id) r) (hg:Gl X x) (hm:X.mg x=none) (hv:bootBuiltins x=some (.builtin id)) (ha:PA X (e :: es) t) (hn:x≠"__name__":=by decide) (TX:(x == ("__debug__":Str))=false:=by decide)
  (he:starEach (e :: es) X.env=(false,eval e X.env) :: starEach es X.env:=by rfl) (Vj:(backTo pos (starEach es X.env)).any (·.1)=false:=by rfl):PE X (.Call (.Name x p) (e :: es) [] pos) (iT r t):=by intro pins s σ H Q I h;refine QV (VG I hg hm hv ?_ hn TX);exact jN (thn (ha pos pins s σ H _ I h) λus s1 ⟨vs,H1,I1,r1,q1⟩=>hc pins s1 σ H1 vs us Q I1 r1 q1) he Vj
theorem Zr (hc:UQ X (.type T) r) (hg:Gl X x) (hm:X.mg x=none) (hv:bootBuiltins x=some (.type T)) (ha:PA X (e :: es) t) (hn:x≠"__name__":=by decide) (TX:(x == ("__debug__":Str))=false:=by decide)
  (he:starEach (e :: es) X.env=(false,eval e X.env) :: starEach es X.env:=by rfl) (Vj:(backTo pos (starEach es X.env)).any (·.1)=false:=by rfl):PE X (.Call (.Name x p) (e :: es) [] pos) (iT r t):=by intro pins s σ H Q I h;refine QV (VG I hg hm hv ?_ hn TX);exact Lw (thn (ha pos pins s σ H _ I h) λus s1 ⟨vs,H1,I1,r1,q1⟩=>hc pins s1 σ H1 vs us Q I1 r1 q1) he Vj
end
end L2
namespace HT
open PySem PyProof.Rows
def lexLt:Ac->Ac->Bool
 | [],[]=>false
 | [],_ :: _=>true
 | _ :: _,[]=>false
 | x :: xs,y :: ys=>if x=y then lexLt xs ys else decide (x<y)
theorem Xn(x y:Int)(xs ys:Ac):lexLt (x :: xs) (y :: ys)=if x=y then lexLt xs ys else decide (x<y):=rfl
section
variable{prog:Program}{w:World}{A:Around}{E:Ae}{s:Shared}
theorem Oe{t b:Addr}{vs ws:Ag}{Q:Ae}(ht:IsTup s.heap t vs.toArray)(hb:IsTup s.heap b ws.toArray)(hv:vs≠[])
  (h1:ws=[]->Q (.ref t) s) (h2:ws≠[]->Q (.ref s.heap.objs.size) { s with heap:=s.heap.push { cls:=.type "tuple",data:=.seq (vs++ws).toArray } })
  (hsz:vs.length+ws.length<=sizeLine):wpAny (model prog w) A (binaryOp .Add (.ref t) (.ref b)) Q E s:=by
 obtain⟨⟨cls,dd,data,sl⟩,ho,hc,n,hd⟩:=id ht;obtain⟨⟨vD,zY,data2,zX⟩,SQ,Ve,n2,hd2⟩:=id hb;simp only at hc hd Ve hd2;subst hc hd Ve hd2;have e:vs.toArray++ws.toArray=(vs++ws).toArray:=by simp
 by_cases hw:ws=[]
 .exact concat_meets ⟨_,ho,rfl⟩ ⟨_,SQ,rfl⟩ wX seq_tuple_add Lc Lf (xN _ _)
   (tuple_addW1 t b vs.toArray ws.toArray n n2 dd zY sl zX (by simpa using hv) (by simp[hw])) ⟨ho,SQ,h1 hw⟩
 .refine concat_meets ⟨_,ho,rfl⟩ ⟨_,SQ,rfl⟩ wX seq_tuple_add Lc Lf (xN _ _)
   (tuple_addW2 t b vs.toArray ws.toArray n n2 dd zY sl zX (by simpa using hv) (by simpa using hw) (by rw[Yb,Yb];exact hsz)) ⟨ho,SQ,?_⟩
  rw[e];exact h2 hw
def Vw(n d:Nat):Option Int->Nat
 | none=>d
 | some v=>if v<0 then (v+(n:Int)).toNat else min v.toNat n
theorem TV(n d:Nat):Vw n d none=d:=rfl
end
end HT
namespace L2
open PySem PySem.Spec PyProof.Rows
abbrev TO:=St->Hp->(Option Int->Hp->Prop)->Prop
def PO(X:Cx)(e:Option Expr)(t:TO):Prop :=
 ∀(pins:List (Addr × Obj)) (s:Shared) (σ:St) (H:Hp) (Q:Option Int->Hp->Prop),Inv X pins σ H s->t σ H Q ->
  wpAny (model X.prog X.w) X.A (evalPart e X.env) (λu s'=>∃ o H',Inv X pins σ H' s'/\IsPart u o/\Q o H') X.xe s
def vC:TO:=λ_ H Q=>Q none H
def vB(t:TE):TO:=λσ H Q=>t σ H λx H1=>∃ i,x=.int i/\Q (some i) H1
section
variable{X:Cx}{e:Expr}{te:TE}{lo hi:Option Expr}{tl th:TO}{pos p2:Pos}
theorem Kr:PO X none vC:=by intro pins s σ H Q I h;rw[evalPart_none];exact Yj ⟨none,H,I,.none,h⟩
theorem Od(h:PE X e te):PO X (some e) (vB te):=by intro pins s σ H Q I hw;rw[evalPart_some];refine thn (h pins s σ H _ I hw) λu s1 Xv=>?_;obtain⟨x,H1,I1,r1,q1⟩:=Xv;obtain⟨i,rfl,q⟩:=q1;obtain⟨t,rfl⟩:=r1;exact⟨some i,H1,I1,.int i t,q⟩
def vA(X:Cx)(r:V->Option Int->Option Int->Hp->VK->Prop):Prop :=
 ∀(pins:List (Addr × Obj)) (s:Shared) (σ:St) (H:Hp) (x:V) (v vl vu:Value) (lo hi:Option Int) (sl:Addr) (Q:VK),Inv X pins σ H s->RelV x v->s.heap.IsSliceOf sl vl vu .none->IsPart vl lo->IsPart vu hi->r x lo hi H Q ->
  ∃ T id,typeLookup (.type T) "__getitem__"=pure (some (.builtin id))/\s.TypeIs v T/\wpAny (model X.prog X.w) X.A (getItem v (.ref sl)) (EP X pins σ Q) X.xe s
def bb(r:V->Option Int->Option Int->Hp->VK->Prop)(te:TE)(tl th:TO):TE:=λσ H Q=>te σ H λx H1=>tl σ H1 λl H2=>th σ H2 λu H3=>r x l u H3 Q
theorem Mp{r:V->Option Int->Option Int->Hp->VK->Prop}(hr:vA X r)(he:PE X e te)(hl:PO X lo tl)(hu:PO X hi th):PE X (.Subscript e (.Slice lo hi none p2) pos) (bb r te tl th):=by
 intro pins s σ H Q I h;refine Subscript_ (thn (he pins s σ H _ I h) λv s1 Xv=>?_);obtain⟨x,H1,I1,r1,q1⟩:=Xv;refine wpAny_Slice (thn (hl pins s1 σ H1 _ I1 q1) λvl s2 ⟨l,H2,I2,pl,q2⟩=>thn (hu pins s2 σ H2 _ I2 q2) λvu s3 Xv=>?_);obtain⟨u,H3,I3,pu,q3⟩:=Xv;rw[evalPart_none];refine Yj ?_;have I4:Inv X pins σ H3 { s3 with heap:=s3.heap.push { cls:=.type "slice",data:=.fields #[vl,vu,.none] } }:=I3.kept (t':=s3.toks) λb ob q=>Xc _ q
 obtain⟨T,id,hT,ht,hg⟩:=hr pins { s3 with heap:=s3.heap.push { cls:=.type "slice",data:=.fields #[vl,vu,.none] } } σ H3 x v vl vu l u s3.heap.objs.size Q I4 r1 (Heap.IsSliceOf.new ..) pl pu q3;show wpAny (model X.prog X.w) X.A (subscriptTail e (.Slice lo hi none p2) v (.ref s3.heap.objs.size)) (EP X pins σ Q) X.xe { s3 with heap:=s3.heap.push { cls:=.type "slice",data:=.fields #[vl,vu,.none] } }
 exact tail_any (ops:=[.ref s3.heap.objs.size,v]) ht hT hg (by with_unfolding_all rfl)
def WM(xs:List V)(lo hi:Option Int):List V:=(xs.drop (HT.Vw xs.length 0 lo)).take (HT.Vw xs.length xs.length hi - HT.Vw xs.length 0 lo)
theorem Qz(xs:List V)(lo hi:Option Int):(WM xs lo hi).length<=xs.length:=by unfold WM;rw[YB,QT];omega
def FG(K:Ad):R2:=λx y H Q=>∃ a b xs ys,x=.ref a/\y=.ref b/\SqT K H a xs/\SqT K H b ys/\xs≠[]/\xs.length+ys.length<=sizeLine /\
 (ys=[]->Q (.ref a) H)/\(ys≠[]->∀ p,H p=none->Q (.ref p) (upd H p (.tup (xs++ys))))
theorem Vals.nil_iff{xs:List V}{us:Ag}(r:Vals xs us):us=[]↔xs=[]:=by
 cases r with
 | nil=>simp
 | cons _ _=>simp
theorem FF:WG X (binaryOp .Add) (FG X.K):=by intro pins s σ H x y v u Q I rx ry h;obtain⟨a,b,xs,ys,rfl,rfl,ha,hb,hx,hz,q1,q2⟩:=h;cases rx;cases ry;obtain⟨XW,r1,p1,_⟩:=I.tuple ha;obtain⟨VP,r2,p2,_⟩:=I.tuple hb;refine HT.Oe p1 p2 (λz=>hx (r1.nil_iff.mp z)) (λz=>⟨.ref a,H,I,rfl,q1 (r2.nil_iff.mp z)⟩) (λz=>?_) (by rw[<- r1.length,<- r2.length];exact hz);refine⟨.ref s.heap.objs.size,_,I.laid (t':=s.toks) (o:=.tup (xs++ys)) (λb ob q=>Xc _ q) (XO _) ?_,rfl,q2 (λw=>z (r2.nil_iff.mpr w)) _ (I.hok.fresh (XO _))⟩;exact⟨by rw[Xs];exact hz,_,r1.append r2,IsTup.new _ _⟩
end
def Oc(n:Nat)(i:Int):Option Nat:=if 0<=i then (if i<n then some i.toNat else none) else if -(n:Int)<=i then some (i+n).toNat else none
def Wb{α:Type}(xs:List α)(i:Int):Option α:=(Oc xs.length i).bind λj=>xs[j]?
theorem FE{n:Nat}{i:Int}{j:Nat}(h:Oc n i=some j):seqIndex? i n=some j/\j<n/\-(n:Int)<=i/\i<n:=by
 unfold Oc at h;by_cases h0:0<=i
 .rw[if_pos h0]at h;by_cases h1:i<n
  .rw[if_pos h1]at h;have e:i.toNat=j:=Yi h
   exact⟨by rw[seqIndex_of h0 h1,e],by omega,by omega,h1⟩
  .rw[if_neg h1]at h;cases h
 .rw[if_neg h0]at h;by_cases h1:-(n:Int)<=i
  .rw[if_pos h1]at h;have e:(i+n).toNat=j:=Yi h
   exact⟨by rw[seqIndex_neg (by omega) h1,e],by omega,h1,by omega⟩
  .rw[if_neg h1]at h;cases h
theorem iS{α:Type}{xs:List α}{i:Int}{v:α}(h:Wb xs i=some v):∃ j,seqIndex? i xs.length=some j/\xs[j]?=some v/\j<xs.length/\-(xs.length:Int)<=i/\i<xs.length:=by
 unfold Wb at h;cases e:Oc xs.length i with
 | none=>rw[e]at h;cases h
 | some j =>
  rw[e]at h;obtain⟨h1,h2,h3,h4⟩:=FE e;exact⟨j,h1,h,h2,h3,h4⟩
def vy(b:Expr):Prop:=∀ o i,subscripted b false o i=operate [o,i] (getItem o i)
def FC(X:Cx)(r:R2):Prop :=
 ∀(value slice:Expr) (pins:List (Addr × Obj)) (s:Shared) (σ:St) (H:Hp) (x y:V) (v u:Value) (Q:VK),Inv X pins σ H s->RelV x v->RelV y u->r x y H Q ->
  subscripted slice false v u=operate [v,u] (getItem v u)->wpAny (model X.prog X.w) X.A (subscriptTail value slice v u) (EP X pins σ Q) X.xe s
def zW(X:Cx)(id:String)(r:V->List V->Hp->VK->Prop):Prop :=
 ∀(pins:List (Addr × Obj)) (s:Shared) (σ:St) (H:Hp) (x:V) (xs:List V) (v:Value) (us:Ag) (Q:VK),Inv X pins σ H s->RelV x v->Vals xs us->r x xs H Q ->
  wpAny (model X.prog X.w) X.A (call (.builtin id) (v :: us)) (EP X pins σ Q) X.xe s
section
variable{X:Cx}{a b:Expr}{ta tb:TE}{pos:Pos}
theorem ZQ{r:R2}(hr:FC X r)(ha:PE X a ta)(hb:PE X b tb)(hs:vy b):PE X (.Subscript a b pos) (z4 r ta tb):=by intro pins s σ H Q I h;exact Subscript_ (Kz ha hb I h λv u s2 x y H2 I2 rx ry q=>hr a b pins s2 σ H2 x y v u Q I2 rx ry q (hs _ _))
def FA(K:Ad):R2:=λx y H Q=>∃ p xs i v,x=.ref p/\y=.int i/\SqL K H p xs/\Wb xs i=some v/\Q v H
def Fz(K:Ad):R2:=λx y H Q=>∃ p xs i v,x=.ref p/\y=.int i/\SqT K H p xs/\Wb xs i=some v/\Q v H
theorem vw:FC X (FA X.K):=by
 intro value slice pins s σ H x y v u Q I rx ry h hs;obtain⟨p,xs,i,z,rfl,rfl,hq,he,q⟩:=h;cases rx;obtain⟨t,rfl⟩:=ry;obtain⟨XW,r,pl,hz⟩:=I.list hq;obtain⟨j,h1,h2,h3,h4,h5⟩:=iS he;obtain⟨w,ew,Ob⟩:=r.get h2;have hl:=r.length
 have hn:=FO;have fin:EP X pins σ Q w s:=⟨z,H,I,Ob,q⟩
 by_cases h0:0<=i
 .have hj:i.toNat=j:=by rw[seqIndex_of h0 h5]at h1;exact Yi h1
  exact item_listR pl.isList h0 (by omega) (by rw[hj];simpa using ew) fin hs
 .have hj:(i+(XW.toArray.size:Int)).toNat=j:=by rw[seqIndex_neg (by omega) h4]at h1;rw[Yb,<- hl];exact Yi h1
  exact subscriptTail_builtinR (x:=w) pl.isList.typeIs slot_list_getitem.lookup
   (wpAny_getItem_list_neg (Q:=λr s'=>r=w/\EP X pins σ Q r s') pl.isList (by omega) (by rw[Yb] <;> omega) (by omega) (by rw[hj];simpa using ew) ⟨rfl,fin⟩) hs
theorem vq:FC X (Fz X.K):=by
 intro value slice pins s σ H x y v u Q I rx ry h hs;obtain⟨p,xs,i,z,rfl,rfl,hq,he,q⟩:=h;cases rx;obtain⟨t,rfl⟩:=ry;obtain⟨XW,r,pl,hz⟩:=I.tuple hq;obtain⟨j,h1,h2,h3,h4,h5⟩:=iS he;obtain⟨w,ew,Ob⟩:=r.get h2;have hl:=r.length
 have hn:=FO;have fin:EP X pins σ Q w s:=⟨z,H,I,Ob,q⟩
 exact subscriptTail_builtinR (x:=w) pl.typeIs slot_tuple_getitem.lookup
  (getItem_tuple (j:=j) (Q:=λr s'=>r=w/\EP X pins σ Q r s') pl (by omega) (by omega) (by rw[Yb,<- hl];exact h1) (by simpa using ew) ⟨rfl,fin⟩) hs
theorem ba (XW:Ag) (n j:Nat) (u:Value):Obj.mapSeq (·.setIfInBounds j u) { cls:=.type "list",data:=.seq XW.toArray n }={ cls:=.type "list",data:=.seq (XW.set j u).toArray n }:=by simp[Obj.mapSeq]
theorem Inv.lst{pins:List (Addr × Obj)}{σ:St}{H:Hp}{s:Shared}{p:Addr}{xs:List V}(I:Inv X pins σ H s)(h:H p=some (.lst xs)) :
  ∃(XW:Ag) (n:Nat),Vals xs XW/\s.heap.get? p=some { cls:=.type "list",data:=.seq XW.toArray n }/\xs.length<=sizeLine:=by obtain⟨z,XW,n,r,e⟩:=I.hok p _ h;exact⟨XW,n,r,e,z⟩
theorem Inv.lstUpd{pins:List (Addr × Obj)}{σ:St}{H:Hp}{s:Shared}{p:Addr}{xs ys:List V}{XW its':Ag}{n n':Nat}{f:Obj->Obj}(I:Inv X pins σ H s)(h:H p=some (.lst xs))
  (ho:s.heap.get? p=some { cls:=.type "list",data:=.seq XW.toArray n }) (hf:f { cls:=.type "list",data:=.seq XW.toArray n }={ cls:=.type "list",data:=.seq its'.toArray n' }) (r:Vals ys its') (hz:ys.length<=sizeLine) (t:Nat) :
  Inv X pins σ (upd H p (.lst ys)) { s with heap:=s.heap.update p f,toks:=t }:=by
 have e:(s.heap.update p f).get? p=some { cls:=.type "list",data:=.seq its'.toArray n' }:=by rw[Vx f ho (by rw[hf] <;> rfl),hf]
 refine I.write (x:=p) (e:=p) (by rw[h];trivial) (.inl rfl) (λb u hb q=>(YM _ _ (YY hb)).trans q) ⟨_,e⟩ ?_;exact⟨hz,its',n',r,e⟩
def vp:V->V->V->Hp->(Hp->Prop)->Prop:=λo i v H Q=>∃ p xs k j,o=.ref p/\i=.int k/\H p=some (.lst xs)/\Oc xs.length k=some j/\Q (upd H p (.lst (xs.set j v)))
theorem Fy:KJ X vp:=by
 intro pins s σ H o i v ov iv u Q I ro ri rv h;obtain⟨p,xs,k,j,rfl,rfl,hp,hj,q⟩:=h;cases ro;obtain⟨t,rfl⟩:=ri;obtain⟨XW,n,r,ho,hz⟩:=I.lst hp;obtain⟨h1,h2,h3,h4⟩:=FE hj;have hl:=r.length
 have hn:=FO;have I':Inv X pins σ (upd H p (.lst (xs.set j v))) { s with heap:=s.heap.update p (Obj.mapSeq (·.setIfInBounds j u)) } :=
  I.lstUpd hp ho (ba XW n j u) (r.set rv j) (by rw[SV];exact hz) s.toks
 by_cases h0:0<=k
 .have hk:k.toNat=j:=by rw[seqIndex_of h0 h4]at h1;exact Yi h1
  exact PySem.W.ki_setAt ho h0 (by omega) (by rw[Yb,<- hl];exact h4) (by rw[hk];exact⟨_,I',q⟩)
 .have hk:(k+(XW.toArray.size:Int)).toNat=j:=by rw[seqIndex_neg (by omega) h3]at h1;rw[Yb,<- hl];exact Yi h1
  exact PySem.W.ki_setBack ho (by omega) (by rw[Yb,<- hl];exact h3) (by omega) (by rw[hk];exact⟨_,I',q⟩)
theorem vo(lo hi:Option Int)(n:Nat):(sliceBounds lo hi none n).1=((HT.Vw n 0 lo:Nat):Int)/\(sliceBounds lo hi none n).2.1=((HT.Vw n n hi:Nat):Int)/\(sliceBounds lo hi none n).2.2=1:=by
 refine⟨?_,?_,rfl⟩
 .cases lo with
  | none=>simp[sliceBounds,HT.Vw]
  | some i =>
   simp only [sliceBounds,HT.Vw,Option.getD_none,show(1:Int) > 0 by decide,OZ];by_cases h:i<0
   .simp only [h,OZ] <;> omega
   .simp only [h,La] <;> omega
 .cases hi with
  | none=>simp[sliceBounds,HT.Vw]
  | some i =>
   simp only [sliceBounds,HT.Vw,Option.getD_none,show(1:Int) > 0 by decide,OZ];by_cases h:i<0
   .simp only [h,OZ] <;> omega
   .simp only [h,La] <;> omega
theorem aZ(XW:Ag)(lo hi:Option Int):slicePick XW.toArray lo hi none=((XW.drop (HT.Vw XW.length 0 lo)).take (HT.Vw XW.length XW.length hi - HT.Vw XW.length 0 lo)).toArray:=by obtain⟨h1,h2,h3⟩:=vo lo hi XW.toArray.size;unfold slicePick;rw[h1,h2,h3];simp only [sliceRange_one,pick_run,Yb] <;> rfl
def Fx(K:Ad):V->Option Int->Option Int->Hp->VK->Prop:=λx lo hi H Q=>∃ a xs,x=.ref a/\SqL K H a xs/\∀ p,H p=none->Q (.ref p) (upd H p (.lst (WM xs lo hi)))
theorem vn:vA X (Fx X.K):=by
 intro pins s σ H x v vl vu lo hi sl Q I rx hs pl pu h;obtain⟨a,xs,rfl,hx,q⟩:=h;cases rx;obtain⟨XW,r,ht,hz⟩:=I.list hx;have hlen:=r.length
 refine⟨"list",_,slot_list_getitem.lookup,ht.isList.typeIs,?_⟩;refine wpAny_getItem_list_slice ht.isList hs pl pu .none (by simp) ?_ (by rw[Yb] <;> omega)
 rw[aZ,<- hlen];refine⟨.ref s.heap.objs.size,_,I.laid (t':=s.toks) (o:=.lst (WM xs lo hi)) (λb ob q=>Xc _ q) (XO _) ?_,rfl,q _ (I.hok.fresh (XO _))⟩;exact⟨Yr (Qz xs lo hi) hz,_,0,(r.drop (HT.Vw xs.length 0 lo)).take (HT.Vw xs.length xs.length hi - HT.Vw xs.length 0 lo),Ym _ rfl⟩
def Tf:V->Bool
 | .non=>true
 | .bl _=>true
 | .int _=>true
 | .str _=>true
 | _=>false
def TU:V->V->Bool
 | .non,.non=>true
 | .bl a,.bl b=>a == b
 | .bl a,.int b=>(if a then 1 else 0) == b
 | .int a,.bl b=>a == (if b then 1 else 0)
 | .int a,.int b=>a == b
 | .str a,.str b=>a == b
 | _,_=>false
theorem Fw{A:Around}{s:Shared}{y x:V}{u v:Value}(ry:RelV y u)(rx:RelV x v)(fy:Tf y=true)(fx:Tf x=true):SeqAt.EqAt A s u v (TU y x):=by
 cases y with
 | non =>
  cases ry;cases x with
  | non=>cases rx;exact SeqAt.EqAt.same _
  | bl b=>cases rx;exact SeqAt.EqAt.none_bool b
  | int b=>obtain⟨t,rfl⟩:=rx;exact SeqAt.EqAt.none_int b t
  | str b=>obtain⟨t,rfl⟩:=rx;exact SeqAt.EqAt.none_str b t
  | _=>exact absurd (show false=true from fx) Yv
 | bl a =>
  cases ry;cases x with
  | non=>cases rx;exact SeqAt.EqAt.bool_none a
  | bl b=>cases rx;exact SeqAt.EqAt.bool_bool a b
  | int b=>obtain⟨t,rfl⟩:=rx;exact SeqAt.EqAt.bool_int a b t
  | str b=>obtain⟨t,rfl⟩:=rx;exact SeqAt.EqAt.bool_str a b t
  | _=>exact absurd (show false=true from fx) Yv
 | int a =>
  obtain⟨t',rfl⟩:=ry;cases x with
  | non=>cases rx;exact SeqAt.EqAt.int_none a t'
  | bl b=>cases rx;exact SeqAt.EqAt.int_bool a t' b
  | int b=>obtain⟨t,rfl⟩:=rx;exact SeqAt.EqAt.int_int a t' b t
  | str b=>obtain⟨t,rfl⟩:=rx;exact SeqAt.EqAt.int_str a t' b t
  | _=>exact absurd (show false=true from fx) Yv
 | str a =>
  obtain⟨t',rfl⟩:=ry;cases x with
  | non=>cases rx;exact SeqAt.EqAt.str_none a t'
  | bl b=>cases rx;exact SeqAt.EqAt.str_bool a t' b
  | int b=>obtain⟨t,rfl⟩:=rx;exact SeqAt.EqAt.str_int a t' b t
  | str b=>obtain⟨t,rfl⟩:=rx;exact SeqAt.EqAt.str_str a t' b t
  | _=>exact absurd (show false=true from fx) Yv
 | _=>exact absurd (show false=true from fy) Yv
def Uj(x:V)(u:Value):Bool:=match u with
 | .none=>TU .non x
 | .bool b=>TU (.bl b) x
 | .int i _=>TU (.int i) x
 | .str z _=>TU (.str z) x
 | _=>false
theorem Fv{x y:V}{u:Value}(r:RelV y u)(f:Tf y=true):Uj x u=TU y x:=by
 cases y with
 | non=>cases r;rfl
 | bl b=>cases r;rfl
 | int i=>obtain⟨t,rfl⟩:=r;rfl
 | str z=>obtain⟨t,rfl⟩:=r;rfl
 | _=>exact absurd (show false=true from f) Yv
theorem Fu{x:V}:∀ {xs:List V} {us:Ag},Vals xs us->xs.all Tf=true->us.any (Uj x)=xs.any λy=>TU y x
 | _,_,.nil,_=>rfl
 | y :: xs,u :: us,.cons r t,f=>by rw[List.all_cons,MB]at f;rw[GS,GS,Fv r f.1,Fu t f.2]
theorem RS{A:Around}{s:Shared}{x:V}{v:Value}(rx:RelV x v)(fx:Tf x=true):∀ {xs:List V} {us:Ag},Vals xs us->xs.all Tf=true->∀ u∈us,SeqAt.EqAt A s u v (Uj x u)
 | _,_,.nil,_=>λu hu=>by cases hu
 | y :: xs,u :: us,.cons r t,f=>λu' hu=>by
  rw[List.all_cons,MB]at f;rcases Yg.mp hu with rfl | hu
  .rw[Fv r f.1];exact Fw r rx f.1 fx
  .exact RS rx fx t f.2 u' hu
def HX(x:V)(xs:List V):Bool:=xs.any λy=>TU y x
def iR(K:Ad)(neg:Bool):R2:=λx y H Q=>∃ p xs,y=.ref p/\(SqL K H p xs\/SqT K H p xs)/\Tf x=true/\xs.all Tf=true/\Q (.bl (if neg then !HX x xs else HX x xs)) H
theorem aY:WG X (compareOp .In) (iR X.K false):=by
 intro pins s σ H x y v u Q I rx ry h;obtain⟨p,xs,rfl,hq,fx,fs,q⟩:=h;cases ry;rcases hq with hq | hq
 .obtain⟨XW,r,pl,hz⟩:=I.list hq;refine SeqAt.in_listAt (Uj x) pl.isList (λw hw=>RS rx fx r fs w (by simpa using hw)) ⟨.bl _,H,I,rfl,?_⟩;rw[show XW.toArray.any (Uj x)=XW.any (Uj x) by simp,Fu r fs];exact q
 .obtain⟨XW,r,pl,hz⟩:=I.tuple hq;refine SeqAt.in_tupleAt (Uj x) pl (λw hw=>RS rx fx r fs w (by simpa using hw)) ⟨.bl _,H,I,rfl,?_⟩;rw[show XW.toArray.any (Uj x)=XW.any (Uj x) by simp,Fu r fs];exact q
theorem aX:WG X (compareOp .NotIn) (iR X.K true):=by
 intro pins s σ H x y v u Q I rx ry h;obtain⟨p,xs,rfl,hq,fx,fs,q⟩:=h;cases ry;rcases hq with hq | hq
 .obtain⟨XW,r,pl,hz⟩:=I.list hq;refine SeqAt.notIn_listAt (Uj x) pl.isList (λw hw=>RS rx fx r fs w (by simpa using hw)) ⟨.bl _,H,I,rfl,?_⟩;rw[show XW.toArray.any (Uj x)=XW.any (Uj x) by simp,Fu r fs];exact q
 .obtain⟨XW,r,pl,hz⟩:=I.tuple hq;refine SeqAt.notIn_tupleAt (Uj x) pl (λw hw=>RS rx fx r fs w (by simpa using hw)) ⟨.bl _,H,I,rfl,?_⟩;rw[show XW.toArray.any (Uj x)=XW.any (Uj x) by simp,Fu r fs];exact q
theorem aW:UQ X (.builtin "len") (λxs H Q=>∃ p ys,xs=[.ref p]/\(SqL X.K H p ys\/SqT X.K H p ys)/\Q (.int ys.length) H):=by
 intro pins s σ H xs us Q I r h;obtain⟨p,ys,rfl,hq,q⟩:=h;obtain⟨u,rfl,rx⟩:=Th r;cases rx;have hn:=FO
 rcases hq with hq | hq
 .obtain⟨XW,r',pl,hz⟩:=I.list hq;have hlen:=r'.length
  exact Calls.call_len_list pl.isList (by simp only [Yb] <;> omega) ⟨.int ys.length,H,I.tok _,⟨s.toks+1,by rw[Yb,hlen]⟩,q⟩
 .obtain⟨XW,r',pl,hz⟩:=I.tuple hq;have hlen:=r'.length
  exact len_tuple pl (by simp only [Yb] <;> omega) ⟨.int ys.length,H,I.tok _,⟨s.toks+1,by rw[Yb,hlen]⟩,q⟩
theorem aV:UQ X (.type "list") (λxs H Q=>∃ p ys,xs=[.ref p]/\(SqL X.K H p ys\/SqT X.K H p ys)/\∀ l,H l=none->Q (.ref l) (upd H l (.lst ys))):=by
 intro pins s σ H xs us Q I r h;obtain⟨p,ys,rfl,hq,q⟩:=h;obtain⟨u,rfl,rx⟩:=Th r;cases rx;have fin:∀(XW:Ag),Vals ys XW->ys.length<=sizeLine->∀(h':Heap) (c':Nat),(∀ b o',s.heap.get? b=some o'->h'.get? b=some o') ->
   h'.get? s.heap.objs.size=some { cls:=.type "list",dict:=none,data:=.seq XW.toArray c',slots:=#[] }->EP X pins σ Q (.ref s.heap.objs.size) { s with heap:=h' }:=λXW r' hz h' c' kp e =>
  ⟨.ref s.heap.objs.size,_,I.laid (t':=s.toks) kp (XO _) (show ObjOk X.prog X.w _ h' _ (.lst ys) from⟨hz,XW,c',r',e⟩),rfl,q _ (I.hok.fresh (XO _))⟩
 rcases hq with hq | hq
 .obtain⟨XW,r',pl,hz⟩:=I.list hq;have hlen:=r'.length
  obtain⟨o,ho,hc,n,hd⟩:=pl.isList;exact call_list_seq p (.inl rfl) ho hc hd (λh' c' kp e=>fin XW r' hz h' c' kp e) (by simp only [Yb] <;> omega)
 .obtain⟨XW,r',pl,hz⟩:=I.tuple hq;have hlen:=r'.length
  obtain⟨o,ho,hc,n,hd⟩:=pl;exact call_list_seq p (.inr rfl) ho hc hd (λh' c' kp e=>fin XW r' hz h' c' kp e) (by simp only [Yb] <;> omega)
theorem aT:UQ X (.type "tuple") (λxs H Q=>∃ p ys,xs=[.ref p]/\((SqL X.K H p ys/\∀ l,H l=none->Q (.ref l) (upd H l (.tup ys)))\/(SqT X.K H p ys/\Q (.ref p) H))):=by
 intro pins s σ H xs us Q I r h;obtain⟨p,ys,rfl,h⟩:=h;obtain⟨u,rfl,rx⟩:=Th r;cases rx;rcases h with ⟨hq,q⟩ | ⟨hq,q⟩
 .obtain⟨XW,r',pl,hz⟩:=I.list hq;have hlen:=r'.length
  refine call_tuple_list pl.isList (λh' kp=>?_) (by simp only [Yb] <;> omega)
  have I1:Inv X pins σ H { s with heap:=h' }:=I.kept (t':=s.toks) kp;have I2:Inv X pins σ (upd H h'.objs.size (.tup ys)) { s with heap:=h'.push { cls:=.type "tuple",data:=.seq XW.toArray } } :=
   I1.laid (t':=s.toks) (λb o e=>Xc _ e) (XO _) (show ObjOk X.prog X.w _ _ _ (.tup ys) from⟨hz,XW,r',IsTup.new _ _⟩)
  exact⟨.ref h'.objs.size,_,I2,rfl,q _ (I1.hok.fresh (XO _))⟩
 .obtain⟨XW,r',pl,hz⟩:=I.tuple hq;exact call_tuple_same pl ⟨.ref p,H,I,rfl,q⟩
def vm(K:Ad)(T:String)(x:V)(H:Hp):Prop:=match x with
 | .str _=>T="str"
 | .int _=>T="int"
 | .ref p=>(T="list"/\∃ xs,SqL K H p xs)\/(T="tuple"/\∃ o,K.lookup p=some o/\o.cls=.type "tuple"/\o.dict=none) \/
   (T="dict"/\((∃ kvs,H p=some (.dK kvs))\/∃ kvs,H p=some (.dT kvs)))\/(T="set"/\∃ S n,H p=some (.set S n))
 | _=>False
theorem Ft{pins:List (Addr × Obj)}{σ:St}{H:Hp}{s:Shared}{T:String}{x:V}{v:Value}(I:Inv X pins σ H s)(r:RelV x v)(ty:vm X.K T x H) :
  s.TypeIs v T/\∀ a,v=.ref a->∃ ob,s.heap.get? a=some ob/\ob.dict=none:=by
 cases x with
 | str z =>
  obtain⟨t,rfl⟩:=r;cases (show T="str" from ty);exact⟨typeIs_str s z t,λ_ e=>nomatch e⟩
 | int i =>
  obtain⟨t,rfl⟩:=r;cases (show T="int" from ty);exact⟨typeIs_int s i t,λ_ e=>nomatch e⟩
 | ref p =>
  cases r;rcases ty with ⟨rfl,xs,hq⟩ | ⟨rfl,o,hk,hc,hd⟩ | ⟨rfl,hk⟩ | ⟨rfl,S,n,hk⟩
  .obtain⟨XW,_,pl,_⟩:=I.list hq;refine⟨pl.isList.typeIs,λa e=>?_⟩;cases e;obtain⟨o,n,e,c,hd,_⟩:=pl;exact⟨o,e,hd⟩
  .refine⟨⟨o,I.kIn p o hk,hc⟩,λa e=>?_⟩;cases e;exact⟨o,I.kIn _ o hk,hd⟩
  .have z:∃ o,s.heap.get? p=some o/\o.ExactDict:=by
    rcases hk with ⟨kvs,hk⟩ | ⟨kvs,hk⟩
    .obtain⟨_,_,_,_,o,_,_,e,ex,_⟩:=I.hok p _ hk;exact⟨o,e,ex⟩
    .obtain⟨_,_,_,_,o,_,_,e,ex,_⟩:=I.hok p _ hk;exact⟨o,e,ex⟩
   obtain⟨o,e,ex⟩:=z;refine⟨⟨o,e,ex.1⟩,λa e2=>?_⟩;cases e2;exact⟨o,e,ex.2.1⟩
  .obtain⟨o,_,_,_,e,ex,_⟩:=I.hok p _ hk;refine⟨⟨o,e,ex.1⟩,λa e2=>?_⟩;cases e2;exact⟨o,e,ex.2.1⟩
 | _=>exact False.elim ty
def Fs(K:Ad)(T:String)(r:V->List V->Hp->VK->Prop)(to:TE):TE:=λσ H Q=>to σ H λx H1=>vm K T x H1/\r x [] H1 Q
def iQ(K:Ad)(T:String)(r:V->List V->Hp->VK->Prop)(to:TE)(t:TA):TE:=λσ H Q=>to σ H λx H1=>vm K T x H1/\t σ H1 λxs H2=>r x xs H2 Q
variable{o e:Expr}{es:List Expr}{to:TE}{t:TA}{name:Str}{apos Xm:Pos}{T id:String}{r:V->List V->Hp->VK->Prop}
theorem vk (pa:PlainAttrs T) (slot:Slot T name id) (Kq:typeOf (.builtin id)=pure (.type "method_descriptor")) (hm:zW X id r) (ho:PE X o to)
  (Vv:attributeBase o name X.env (eval o X.env)=eval o X.env:=by rfl) (Vu:(apos.endLine == Xm.line)=true:=by rfl):PE X (.Call (.Attribute o name apos) [] [] Xm) (Fs X.K T r to):=by intro pins s σ H Q I h;refine wpAny_Call_method0_late Vv Vu (thn (ho pins s σ H _ I h) λv s1 Xv=>?_);obtain⟨x,H1,I1,r1,ty,q1⟩:=Xv;obtain⟨h1,h2⟩:=Ft I1 r1 ty;exact⟨T,id,pa,slot,Kq,h1,h2,Calls.callWith_builtin rfl (PySem.evalArgs_none (hm pins s1 σ H1 x [] v [] Q I1 r1 .nil q1))⟩
theorem vj (pa:PlainAttrs T) (slot:Slot T name id) (Kq:typeOf (.builtin id)=pure (.type "method_descriptor")) (hm:zW X id r) (ho:PE X o to) (ha:PA X (e :: es) t)
  (Vv:attributeBase o name X.env (eval o X.env)=eval o X.env:=by rfl)
  (Kp:((backTo Xm (starEach (e :: es) X.env)).all (λx=>!x.1) && (backToKw Xm (keywordEach [] X.env)).all (λx=>x.1.isSome)
   && decide ((e :: es).length+([]:List Keyword).length+(if ([]:List Keyword).isEmpty then 0 else 1)<30))=true:=by rfl)
  (Vu:(apos.endLine == Xm.line)=true:=by rfl) (hs:starEach (e :: es) X.env=(false,eval e X.env) :: starEach es X.env:=by rfl) (Vt:(backTo Xm (starEach es X.env)).any (·.1)=false:=by rfl) :
  PE X (.Call (.Attribute o name apos) (e :: es) [] Xm) (iQ X.K T r to t):=by
 intro pins s σ H Q I h;refine wpAny_Call_method_late Vv Kp Vu rfl (thn (ho pins s σ H _ I h) λv s1 Xv=>?_);obtain⟨x,H1,I1,r1,ty,q1⟩:=Xv;obtain⟨h1,h2⟩:=Ft I1 r1 ty;refine⟨T,id,pa,slot,Kq,h1,h2,?_⟩;have hA:=ha Xm pins s1 σ H1 _ I1 q1
 rw[hs]at hA ⊢;refine Calls.callWith_builtin (by show(false || (backTo Xm (starEach es X.env)).any (·.1))=false;rw[Vt] <;> rfl) (Calls.evalArgs_plain ?_)
 exact thn hA λus s2 ⟨vs,H2,I2,r2,q2⟩=>hm pins s2 σ H2 x vs v us Q I2 r1 r2 q2
end
def Ko(X:Cx)(id:String)(r:V->List V->Hp->VK->Prop):Prop :=
 ∀(pins:List (Addr × Obj)) (s:Shared) (σ:St) (H:Hp) (x:V) (xs:List V) (v:Value) (us:Ag) (Q:VK),Inv X pins σ H s->RelV x v->Vals xs us->r x xs H Q ->
  wpAny (model X.prog X.w) X.A (call (.builtin id) (v :: us)) (EP X pins σ Q) X.xe s
theorem Vals.one{x:V}{us:Ag}(r:Vals [x] us):∃ u,us=[u]/\RelV x u:=by
 cases r with
 | cons a r=>cases r;exact⟨_,rfl,a⟩
theorem Vals.eraseIdx:∀ {xs:List V} {us:Ag} (i:Nat),Vals xs us->Vals (xs.eraseIdx i) (us.eraseIdx i)
 | _,_,_,.nil=>.nil
 | _,_,0,.cons _ t=>t
 | _,_,i+1,.cons r t=>.cons r (Vals.eraseIdx i t)
theorem Vals.rep{xs:List V}{us:Ag}(h:Vals xs us):∀ k:Nat,Vals (List.replicate k xs).flatten (List.replicate k us).flatten
 | 0=>.nil
 | k+1=>by rw[Lq,Lq,GY,GY];exact Vals.append h (Vals.rep h k)
theorem iP{α:Type}:∀(l:List α) (i:Nat),(l.eraseIdx i).length<=l.length
 | [],_=>XO _
 | _ :: _,0=>Um _
 | _ :: r,i+1=>Nat.succ_le_succ (iP r i)
theorem Fq(XW:Ag):∀(k:Nat) (acc:Ag),
  List.foldl (λx1 x2=>x1++x2) acc.toArray (List.replicate k XW.toArray)=(acc++(List.replicate k XW).flatten).toArray
 | 0,acc=>by simp
 | k+1,acc=>by
  have e:acc.toArray++XW.toArray=(acc++XW).toArray:=by simp
  have e2:(acc++XW)++(List.replicate k XW).flatten=acc++(List.replicate (k+1) XW).flatten:=by rw[Lq,GY,QU]
  rw[<- e2,<- Fq XW k (acc++XW),<- e,Lq,AD]
section
variable{X:Cx}{pins:List (Addr × Obj)}{σ:St}{H:Hp}{s:Shared}{l:Addr}{xs ys:List V}
theorem Inv.lset{XW its':Ag}{n:Nat}{f:Array Value->Array Value}{t':Nat}(I:Inv X pins σ H s)(hH:H l=some (.lst xs))
  (e:s.heap.get? l=some { cls:=.type "list",data:=.seq XW.toArray n }) (hf:f XW.toArray=its'.toArray) (hv:Vals ys its') (hz:ys.length<=sizeLine) :
  Inv X pins σ (upd H l (.lst ys)) { s with heap:=s.heap.update l (Obj.mapSeq f),toks:=t' }:=by have q:=PySem.IsL.update e f;rw[hf]at q;refine I.write (x:=l) (e:=l) (by rw[hH];exact trivial) (.inl rfl) (λb' u hb hu=>(YM s.heap (Obj.mapSeq f) (YY hb)).trans hu) ⟨_,q⟩ ?_;exact⟨hz,its',_,hv,q⟩
theorem Inv.lnew{XW:Ag}{t':Nat}(I:Inv X pins σ H s)(hv:Vals ys XW)(hz:ys.length<=sizeLine) :
  Inv X pins σ (upd H s.heap.objs.size (.lst ys)) { s with heap:=s.heap.push { cls:=.type "list",data:=.seq XW.toArray },toks:=t' } :=
 I.laid (λ_ _ q=>Xc _ q) (XO _) ⟨hz,XW,0,hv,Ym _ rfl⟩
theorem Inv.fresh(I:Inv X pins σ H s):H s.heap.objs.size=none:=I.hok.fresh (XO _)
theorem Inv.lstM (I:Inv X pins σ H s) (hH:H l=some (.lst xs)):xs.length<=sizeLine/\∃(XW:Ag) (n:Nat),Vals xs XW/\xs.length=XW.length/\s.heap.get? l=some { cls:=.type "list",data:=.seq XW.toArray n }:=by obtain⟨z,XW,n,r,e⟩:=I.hok l _ hH;exact⟨z,XW,n,r,r.length,e⟩
theorem iO{n:Nat}(h:n<=sizeLine):Builtin.List.listTooLong n=false:=by unfold Builtin.List.listTooLong;exact Wh (by omega)
end
section
variable{X:Cx}
def vi:V->List V->Hp->VK->Prop:=λx vs H Q=>∃ l xs y,x=.ref l/\vs=[y]/\H l=some (.lst xs)/\xs.length<sizeLine/\Q .non (upd H l (.lst (xs++[y])))
theorem Fp:Ko X "list.append" vi:=by intro pins s σ H x vs v us Q I rx rv h;obtain⟨l,xs,y,rfl,rfl,hH,hz,q⟩:=h;cases rx;obtain⟨u,rfl,ru⟩:=rv.one;obtain⟨z,XW,n,r,hl,e⟩:=I.lstM hH;refine Lb F.slot_list_append ⟨_,e,rfl⟩ F.entry_list_append (F.args_list_append_2 _ _) (PySem.list_append l XW.toArray n u (by rw[Yb];omega)) ⟨e,?_⟩;refine⟨.non,_,I.lset (its':=XW++[u]) hH e (by simp) (r.append (.cons ru .nil)) ?_,rfl,q⟩;rw[Xs,Yk];omega
def vh:V->List V->Hp->VK->Prop:=λx vs H Q=>∃ l b xs zs,x=.ref l/\vs=[.ref b]/\H l=some (.lst xs)/\H b=some (.lst zs)/\xs.length+zs.length<=sizeLine/\Q .non (upd H l (.lst (xs++zs)))
theorem iM:Ko X "list.extend" vh:=by
 intro pins s σ H x vs v us Q I rx rv h;obtain⟨l,b,xs,zs,rfl,rfl,hH,hB,hz,q⟩:=h;cases rx;obtain⟨u,rfl,ru⟩:=rv.one;cases ru;obtain⟨z,XW,n,r,hl,e⟩:=I.lstM hH;obtain⟨z2,VP,n2,r2,Rj,e2⟩:=I.lstM hB;have hsz:XW.toArray.size+VP.toArray.size<=sizeLine:=by rw[Yb,Yb];omega
 have Qy:¬ (!XW.toArray.isEmpty && Builtin.List.listTooLong (XW.toArray.size+VP.toArray.size))=true:=by rw[iO hsz,Bool.and_false];exact Yv
 refine Lb F.slot_list_extend ⟨_,e,rfl⟩ F.entry_list_extend (F.args_list_extend_2 _ _)
  (AutoSeq1.list_extend_list_list_0 l XW.toArray n b VP.toArray n2 Qy (by rw[Yb];omega) (by omega)) ⟨e,e2,?_⟩
 refine⟨.non,_,I.lset (its':=XW++VP) hH e (by simp) (r.append r2) ?_,rfl,q⟩;rw[Xs];omega
def vg:V->List V->Hp->VK->Prop:=λx vs H Q=>∃ l xs i k y,x=.ref l/\vs=[.int i]/\H l=some (.lst xs)/\-(2 ^ 63)<=i/\i<2 ^ 63/\seqIndex? i xs.length=some k/\xs[k]?=some y/\Q y (upd H l (.lst (xs.eraseIdx k)))
theorem iL:Ko X "list.pop" vg:=by
 intro pins s σ H x vs v us Q I rx rv h;obtain⟨l,xs,i,k,y,rfl,rfl,hH,h1,h2,hk,hy,q⟩:=h;cases rx;obtain⟨u,rfl,ru⟩:=rv.one;obtain⟨t,rfl⟩:=ru;obtain⟨z,XW,n,r,hl,e⟩:=I.lstM hH;obtain⟨w,hw,Ob⟩:=r.get hy;refine Lb F.slot_list_pop ⟨_,e,rfl⟩ F.entry_list_pop (F.args_list_pop_2 _ _)
  (MeetsSeq.list_pop_at l XW.toArray n i t k w (fitsIndex_both h1 h2) (by rw[Yb,<- hl];exact hk) (by rw[<- YT];exact hw) (by rw[Yb];omega)) ⟨e,?_⟩
 refine⟨y,_,I.lset (its':=XW.eraseIdx k) hH e ?_ (r.eraseIdx k) ?_,Ob,q⟩
 .show XW.toArray.eraseIdxIfInBounds k=(XW.eraseIdx k).toArray;rw[List.eraseIdxIfInBounds_toArray]
 .have:=iP xs k
  omega
def Fo:R2:=λx y H Q=>∃ l b xs zs,x=.ref l/\y=.ref b/\H l=some (.lst xs)/\H b=some (.lst zs)/\xs.length+zs.length<=sizeLine/\∀ p,H p=none->Q (.ref p) (upd H p (.lst (xs++zs)))
theorem zV:WG X (binaryOp .Add) Fo:=by
 intro pins s σ H x y v u Q I rx ry h;obtain⟨l,b,xs,zs,rfl,rfl,hH,hB,hz,q⟩:=h;cases rx;cases ry;obtain⟨z,XW,n,r,hl,e⟩:=I.lstM hH;obtain⟨z2,VP,n2,r2,Rj,e2⟩:=I.lstM hB;refine PySem.P.add_list e e2 ?_ (by rw[Yb,Yb];omega);have ea:XW.toArray++VP.toArray=(XW++VP).toArray:=by simp
 rw[ea];exact⟨.ref _,_,I.lnew (t':=s.toks) (r.append r2) (by rw[Xs];omega),rfl,q _ I.fresh⟩
def vf:R2:=λx y H Q=>∃ l k xs,x=.ref l/\y=.int k/\H l=some (.lst xs)/\-(2 ^ 63)<=k/\k<2 ^ 63/\xs.length * k.toNat<=sizeLine /\
 ∀ p,H p=none->Q (.ref p) (upd H p (.lst (List.replicate k.toNat xs).flatten))
theorem Fn{α:Type}(xs:List α)(k:Nat):(List.replicate k xs).flatten.length=k * xs.length:=by
 induction k with
 | zero=>simp
 | succ k ih=>rw[Lq,GY,Xs,ih,Nat.succ_mul,Nat.add_comm]
theorem Fm:WG X (binaryOp .Mult) vf:=by
 intro pins s σ H x y v u Q I rx ry h;obtain⟨l,k,xs,rfl,rfl,hH,h1,h2,hz,q⟩:=h;cases rx;obtain⟨t,rfl⟩:=ry;obtain⟨z,XW,n,r,hl,e⟩:=I.lstM hH;have hlen:XW.toArray.size * k.toNat<=sizeLine:=by rw[Yb,<- hl];exact hz
 have ve:¬ XW.toArray.size * k.toNat > (2 ^ 63 - 1) / 8:=by
  have:(sizeLine:Nat)<=(2 ^ 63 - 1) / 8:=by decide
  omega
 have vd:¬ (!Builtin.List.listFitsIndex k)=true:=by rw[fitsIndex_both h1 h2];exact Yv
 have Qy:¬ Builtin.List.listTooLong (XW.toArray.size * k.toNat)=true:=by rw[iO hlen];exact Yv
 have RR:List.foldl (λx1 x2=>x1++x2) #[] (List.replicate (if XW.toArray.isEmpty=true then 0 else k.toNat) XW.toArray)=(List.replicate k.toNat XW).flatten.toArray:=by
  have f0:∀ m:Nat,List.foldl (λx1 x2=>x1++x2) #[] (List.replicate m XW.toArray)=(List.replicate m XW).flatten.toArray:=λm=>by
   have:=Fq XW m []
   rw[Mz]at this;exact this
  rw[f0];cases XW with
  | nil=>simp
  | cons a r'=>rw[if_neg (by simp)]
 refine wpAny_binaryOp_repeat_ref (T:="list") (U:="int") (by decide) ⟨_,e,rfl⟩ (λs'=>typeIs_int s' k t) noFill_list_mul F.fills_int_mul F.slot_int_rmul repeat_list F.slot_int_index.lookup
  (Lb F.slot_int_rmul (typeIs_int s k t) F.entry_int_rmul (F.args_int_rmul_2 _ _) (int___rmul___int_list k t l XW.toArray n)
   ⟨e,rfl,⟨_,e,rfl⟩,Lb F.slot_list_mul ⟨_,e,rfl⟩ F.entry_list_mul (F.args_list_mul_2 _ _) (AutoListH.list___mul___list_int_3 l XW.toArray n k t vd ve Qy) ⟨e,?_⟩⟩)
 rw[RR];exact⟨.ref _,_,I.lnew (t':=s.toks) (r.rep k.toNat) (by rw[Fn,As];exact hz),rfl,q _ I.fresh⟩
end
section
variable{κ:Type}[DecidableEq κ]
def Wy(kvs:List (κ × V))(k:κ):Option V:=(kvs.find? λkv=>decide (kv.1=k)).map (·.2)
def putK(kvs:List (κ × V))(k:κ)(v:V):List (κ × V) :=
 if (kvs.any λkv=>decide (kv.1=k))=true then kvs.map (λkv=>if kv.1=k then (kv.1,v) else kv) else kvs++[(k,v)]
theorem Km{p:κ × V}{r:List (κ × V)}{k:κ}(e:p.1=k):Wy (p :: r) k=some p.2:=by simp[Wy,AB,e]
theorem Kl{p:κ × V}{r:List (κ × V)}{k:κ}(e:¬ p.1=k):Wy (p :: r) k=Wy r k:=by simp[Wy,AB,e]
theorem iK(k:κ):∀ kvs:List (κ × V),(kvs.any λkv=>decide (kv.1=k))=(Wy kvs k).isSome
 | []=>rfl
 | p :: r=>by
  rw[GS];by_cases e:p.1=k
  .simp only [Km e,Yw e,Bool.true_or,Option.isSome_some]
  .rw[Kl e,Wh e,Bool.false_or];exact iK k r
theorem aS(kvs:List (κ × V))(k:κ)(v:V):(putK kvs k v).length<=kvs.length+1:=by
 unfold putK;split
 .rw[Yd];omega
 .rw[Xs,Yz,Ik];omega
theorem aR{kvs:List (κ × V)}{k:κ}(v:V)(h:Wy kvs k=none):putK kvs k v=kvs++[(k,v)]:=by unfold putK;rw[iK,h];exact if_neg (by decide)
theorem KV.val{kvs:List (κ × V)}{vs:List (κ × Value)}(r:KV kvs vs)(k:κ):RelO (Wy kvs k) (valueAt vs k):=by
 unfold KV at r
 induction r with
 | nil=>exact True.intro
 | @cons p q ps qs h t ih =>
  obtain⟨h1,h2⟩:=h;by_cases e:p.1=k
  .have e':q.1=k:=h1.symm.trans e;have b:valueAt (q :: qs) k=some q.2:=by simp[valueAt,AB,e']
   rw[Km e,b];exact h2
  .have e':¬ q.1=k:=λz=>e (h1.trans z);have b:valueAt (q :: qs) k=valueAt qs k:=by simp[valueAt,AB,e']
   rw[Kl e,b];exact ih
theorem KV.any{kvs:List (κ × V)}{vs:List (κ × Value)}(r:KV kvs vs)(k:κ):(kvs.any λkv=>decide (kv.1=k))=vs.any λkv=>decide (kv.1=k):=by
 unfold KV at r
 induction r with
 | nil=>rfl
 | cons h t ih=>rw[GS,GS,ih,h.1]
theorem KV.repl{kvs:List (κ × V)}{vs:List (κ × Value)}(r:KV kvs vs)(k:κ){y:V}{u:Value}(ry:RelV y u) :
  KV (kvs.map λkv=>if kv.1=k then (kv.1,y) else kv) (vs.map λkv=>if kv.1=k then (kv.1,u) else kv):=by
 unfold KV at r ⊢
 induction r with
 | nil=>exact .nil
 | @cons p q ps qs h t ih =>
  rw[Wz,Wz];refine .cons ?_ ih;obtain⟨h1,h2⟩:=h;by_cases e:p.1=k
  .rw[if_pos e,if_pos (h1.symm.trans e)];exact⟨h1,ry⟩
  .rw[if_neg e,if_neg (λz=>e (h1.trans z))];exact⟨h1,h2⟩
theorem KV.put{kvs:List (κ × V)}{vs:List (κ × Value)}(r:KV kvs vs)(k:κ){y:V}{u:Value}(ry:RelV y u):KV (putK kvs k y) (stored vs k u):=by
 unfold putK stored;rw[r.any k];by_cases e:(vs.any λkv=>decide (kv.1=k))=true
 .rw[if_pos e,if_pos e];exact r.repl k ry
 .rw[if_neg e,if_neg e];exact Paired.snoc r ⟨rfl,ry⟩
theorem KV.length{kvs:List (κ × V)}{vs:List (κ × Value)}(r:KV kvs vs):kvs.length=vs.length:=Paired.length r
end
theorem vc{P:Program}{w:World}{k:Key}{u:Value}(r:RelV (kV k) u):(VQ P w).is k u=true:=by
 cases k with
 | inl i=>obtain⟨t,e⟩:=(show ∃ t,u=Value.int i t from r);subst e;exact bI P w i t
 | inr x=>obtain⟨t,e⟩:=(show ∃ t,u=Value.str x t from r);subst e;exact bH P w x t
section
variable{P:Program}{w:World}{H:Hp}{h:Heap}{a:Addr}
theorem va{u:HO}(ok:HOk P w H h)(e:Rd H a u):ObjOk P w H h a u:=e.ok ok
theorem u6{kvs:List (Key × V)}(ok:HOk P w H h)(e:Rd H a (.dK kvs)):kvs.length<=sizeLine/\(a == sysModules)=false/\∃ vs,KV kvs vs/\h.DictOf (VQ P w) a vs :=
 show ObjOk P w H h a (.dK kvs) from va ok e
theorem Kk{kvs:List (Key × V)}(ok:HOk P w H h)(e:H a=some (.dK kvs)):kvs.length<=sizeLine/\(a == sysModules)=false/\∃ vs,KV kvs vs/\h.DictOf (VQ P w) a vs:=u6 ok (.inl e)
end
section
variable{X:Cx}{pins:List (Addr × Obj)}{σ:St}{H:Hp}{s:Shared}{a:Addr}
theorem Inv.big(I:Inv X pins σ H s):sysModules<s.heap.objs.size:=by have h:mainGlobals<s.heap.objs.size:=(I.mod.glob.keeps I.bk).lt;exact Ar (by decide) h
theorem uZ{h':Heap}{t':Nat}{ob:HO}(I:Inv X pins σ H s)(mu:GG (H a))(hs:Heap.SameBut a s.heap h')(he:∃ q,h'.get? a=some q)(new:ObjOk X.prog X.w (upd H a ob) h' a ob) :
  Inv X pins σ (upd H a ob) { s with heap:=h',toks:=t' } :=
 I.write (x:=a) (e:=a) mu (.inl rfl) (λb q hb z=>(hs.2 b hb).trans z) he new
theorem uY{P:Program}{w:World}{H':Hp}{h':Heap}{kvs:List (Key × V)}{vs:List (Key × Value)}(z:kvs.length<=sizeLine)(hd:(a == sysModules)=false)(rel:KV kvs vs)(dd:h'.DictOf (VQ P w) a vs) :
  ObjOk P w H' h' a (.dK kvs):=⟨z,hd,vs,rel,dd⟩
end
theorem uX {P:Program} {w:World} {H:Hp} (h:Heap) (hb:sysModules<h.objs.size):ObjOk P w H (h.push { cls:=.type "dict",data:=.dict #[] }) h.objs.size (.dK []) :=
 ⟨Yo _,Hg.mpr (YY (Yt hb)),[],.nil,Heap.DictOf.new h⟩
def Fl:TE:=λ_ H Q=>∀ p,H p=none->Q (.ref p) (upd H p (.dK []))
section
variable{X:Cx}{pos:Pos}
theorem aQ:PE X (.Dict [] [] pos) Fl:=λpins s σ H Q I h =>
 wpAny_Dict_empty ⟨.ref s.heap.objs.size,_,I.laid (a:=s.heap.objs.size) (o:=.dK []) (t':=s.toks) (λ_ _ q=>Xc _ q) (XO _) (uX s.heap I.big),rfl,h _ (I.hok.fresh (XO _))⟩
end
structure M1 (X:Cx) (o:Expr) (m:Str) (apos:Pos) (e:Expr) (Xm:Pos):Prop where
 base:attributeBase o m X.env (eval o X.env)=eval o X.env
 uW:((backTo Xm (starEach [e] X.env)).all (λx=>!x.1) && (backToKw Xm (keywordEach [] X.env)).all (λx=>x.1.isSome)
  && decide (([e]:List Expr).length+([]:List Keyword).length+(if ([]:List Keyword).isEmpty then 0 else 1)<30))=true
 line:(apos.endLine == Xm.line)=true
 trees:backTo Xm (starEach [e] X.env)=[(false,eval e X.env)]
structure M2 (X:Cx) (o:Expr) (m:Str) (apos:Pos) (e f:Expr) (Xm:Pos):Prop where
 base:attributeBase o m X.env (eval o X.env)=eval o X.env
 uW:((backTo Xm (starEach [e,f] X.env)).all (λx=>!x.1) && (backToKw Xm (keywordEach [] X.env)).all (λx=>x.1.isSome)
  && decide (([e,f]:List Expr).length+([]:List Keyword).length+(if ([]:List Keyword).isEmpty then 0 else 1)<30))=true
 line:(apos.endLine == Xm.line)=true
 trees:backTo Xm (starEach [e,f] X.env)=[(false,eval e X.env),(false,eval f X.env)]
end L2
namespace Att
open PySem PySem.W PySem.Calls PyProof.Rows
theorem aP{P:Params}{h:Heap}:∀(ns:Ac) (vs:Ag),WellAll P h vs (ns.map WData.int)->IntsAre vs ns:=by
 intro ns
 induction ns with
 | nil =>
  intro vs w;rw[List.map_nil]at w;cases w;exact .nil
 | cons n ns ih =>
  intro vs w;rw[Wz]at w;cases w with
  | cons a b =>
   cases a;exact .cons _ _ (ih _ b)
theorem aO{l:OpenLaw}{n:Nat}(hn:l.most=some n){P:Params}{h:Heap}{args:List WData}{vals:Ag}
  (Oa:l.row.toRowW.claim.pre args=true) (Fj:WellAll P h vals args) :
  ∃ a vs ns,vals=[Value.ref a]/\args=[WData.list (ns.map WData.int)]/\h.get? a=some { cls:=.type "list",data:=.seq vs.toArray }/\IntsAre vs ns/\ns.length<=n:=by
 have aN:WShape.hasAll [] args [.list .int]=true:=(pre_splitW Oa).1;have hc:l.pre.holds [] { args:=args }=true:=(pre_splitW Oa).2
 obtain⟨d,r,rfl,h1,h2⟩:=hasAllW_cons aN;obtain rfl:=hasAllW_nil h2;obtain⟨xs,rfl,h3⟩:=hasW_list h1;obtain⟨ns,rfl⟩:=items_int h3;have hlen:ns.length<=n:=by
  unfold OpenLaw.pre at hc;have h4:(WTm.not (.lt (.lit (.int (n:Int))) (.len (.arg 0)))).holds [] { args:=[.list (ns.map .int)] }=true:=by have h4:=(holds_andW hc).1;rw[hn]at h4;exact h4
  have h5:=condW_of h4 (w_not (w_lt w_lit (w_len_list (w_arg rfl))));rw[Yd]at h5;refine Ol λq=>?_;have q':(n:Int)<((ns.length:Nat):Int):=by omega
  first
   | (rw[Yw q']at h5;exact absurd h5 (by decide))
   | (simp at h5;omega)
 cases Fj with
 | cons w1 w2 =>
  cases w2;cases w1 with
  | list ho Vs=>exact⟨_,_,ns,rfl,rfl,ho,aP ns _ Vs,hlen⟩
theorem aL(l:OpenLaw)(args:List WData):l.row.toRowW.claim.post args (.bool true) args=true :=
 postW_of (r:=l.row.toRowW) (X:=(true == true))
  (show WShape.has [] (.bool true) .bool=true by first | rfl | decide | simp[WShape.has,WShape.arms,WShape.armsAll])
  (show(WTm.eq .res (.lit (.bool true))).value [] { args:=args,res:=some (.bool true),after:=args }=some (.bool (true == true)) from w_eq_bool (w_res rfl) w_lit) rfl
theorem TR{l:OpenLaw}{n:Nat}{q:Program}{loose:List Str}{XP:Af->Heap->Prop}{YP:World->Heap->Prop}{d:DefRec}
  (hn:l.most=some n) (uV:d.params.defaults=[])
  (call:∀(w:World) (s₀ s₁:Shared) (mg mb:Af) (fa:Addr) (o:Obj) (pm cd doc:Value) (a:Addr) (vs:Ag) (ns:Ac),
   Ground q loose [] XP w s₀ mg mb s₁.heap->YP w s₁.heap ->
   s₁.heap.get? fa=some o->o.data=.func (docDef d.name d.params d.body d.scope pm cd doc)->s₁.heap.CodeRec cd d.name->mg d.name=some (.ref fa) ->
   s₁.heap.get? a=some { cls:=.type "list",data:=.seq vs.toArray }->IntsAre vs ns->ns.length<=n->s₁.gens=#[] ->
   codeAny (model l.prog w) callerA (.call (.ref fa) ⟨[.ref a],[]⟩) (λr s'=>r=.ok (.ret (.bool true))/\OldK s₁.heap s'.heap/\s'.os=s₁.os/\AllBare s'.gens) s₁) :
  WalkO q loose XP YP l.row.toRowW d [] (λf vs=>PySem.call f vs):=by intro w s₀ s₁ mg mb G Y fa o pm cd doc dV kV ho hd Ul hD Fi hg args vals as Oa aK hrd Fj hlo;obtain rfl:dV=.none:=Dflts.none hD uV;obtain rfl:kV=.none:=Dflts.noKw hD;obtain⟨a,vs,ns,rfl,rfl,Kj,hints,hlen⟩:=aO hn Oa Fj;refine enter_call (Ow (call w s₀ s₁ mg mb fa o pm cd doc a vs ns G Y ho (fd_plain hd) Ul Fi Kj hints hlen hg) λr s' hq=>?_);obtain⟨rfl,h2,h3,h4⟩:=hq;exact⟨.inl ⟨.bool true,.bool true,[],rfl,λ_=>rfl,.bool true,aL l _,λ_=>⟨List.Pairwise.nil,λ_ hm=>(nomatch hm)⟩⟩,h2,h3,h4⟩
section
def aJ(h:Heap)(L d:Addr):List (Addr × Obj):=(List.range h.objs.size).filterMap λa=>if a=L\/a=d then none else (h.get? a).map λo=>(a,o)
end
end Att
namespace L2
open PySem PySem.Spec PyProof.Rows
theorem iJ:∀ {vs:Ag} {ns:Ac},IntsAre vs ns->Vals (ns.map V.int) vs
 | _,_,.nil=>.nil
 | _,_,.cons n t h=>.cons ⟨t,rfl⟩ (iJ h)
abbrev XM{K:Ad}{h:Heap}(_:K.In h):Ad:=K
def Fh(s:Stmt)(j:Nat):Stmt:=match s with
 | .ClassDef _ _ _ body _ _ _ _ _ _ _=>body.getD j (.Pass ⟨0,0,0,0⟩)
 | _=>.Pass ⟨0,0,0,0⟩
def Ki(s:Stmt):Arguments:=match s with
 | .FunctionDef _ a _ _ _ _ _ _ _ _=>a
 | _=>{ posonlyargs:=[],args:=[],vararg:=none,kwonlyargs:=[],kw_defaults:=[],kwarg:=none,defaults:=[] }
def Qx(s:Stmt):List Stmt:=match s with
 | .FunctionDef _ _ b _ _ _ _ _ _ _=>b
 | _=>[]
def XA(s:Stmt):Scope:=match s with
 | .FunctionDef _ _ _ _ _ _ sc _ _ _=>sc
 | _=>{ kind:=.function,names:=[],isGenerator:=false,isCoroutine:=false }
abbrev Xl:RT:=λ_ _ _ _ _ _=>False
abbrev E0:XK:=λ_ _ _=>False
theorem Zs{X:Cx}:Ku Xl X E0:=λ_ _ _ _ _ _ _ h=>h.elim
structure Fun (K:Ad) (x qual:Str) (st:Stmt) (f:Addr) (fd:FuncData):Prop where
 ex:∃(oc:Value) (od:Option Addr) (kV doc pm:Value) (an:Option Addr) (Xz ct:Value) (Uy:Array (Option Value)),
  fd=PySem.W.fnOf x qual (Ki st) (Qx st) (XA st) .none kV doc pm an Xz ct/\K.lookup f=some ⟨oc,od,.func fd,Uy⟩/\PySem.W.codeIn K Xz qual=true
 kp:PySem.W.keepIn K (.ref f)=true
section
variable{P:Program}{w:World}{K:Ad}{mg:Af}{base:Heap}
theorem Fun.ok{x qual:Str}{st:Stmt}{f:Addr}{fd:FuncData}{N ps:List Str}{k:Nat}{sp:Sp}(F:Fun K x qual st f fd)(S:FnScope N ps (XA st))(len:∀ vs H Q E,sp vs H Q E->vs.length=ps.length)
  (hbody:∀(Xz:Value) (A:Around) (outer:List Env) (s:Shared) (H:Hp) (vs:List V) (Q:VK) (E:XK),Room k (A.deeper (envOfC qual (XA st) s.heap.objs.size f Xz))->sp vs H Q E ->
   ∃ t,PSs (Wr Xl P w K mg base N qual (XA st) f Xz A outer s H E).nox (Qx st) t/\t { nx:=λ_ H'=>Q .non H',rt:=Q } (start N vs) H):FnOk P w K mg base Xl (k+1) f fd ps sp:=by obtain⟨oc,od,kV,doc,pm,an,Xz,ct,Uy,rfl,lk,Ul⟩:=F.ex;refine Ks lk Ul S len λA outer s H vs Q E hr Tg=>?_;obtain⟨t,h,q⟩:=hbody Xz A outer s H vs Q E hr Tg;exact⟨t,h.nox,q⟩
theorem Fun.binds{x qual:Str}{st:Stmt}{f:Addr}{fd:FuncData}{ps:List Str}(F:Fun K x qual st f fd)
  (h:∀(kV doc pm:Value) (an:Option Addr) (Xz ct:Value) (us:Ag),us.length=ps.length->bindArgs (PySem.W.fnOf x qual (Ki st) (Qx st) (XA st) .none kV doc pm an Xz ct) ⟨us,[]⟩=pure (ps.zip us)):Binds K fd ps []:=by obtain⟨oc,od,kV,doc,pm,an,Xz,ct,Uy,rfl,lk,Ul⟩:=F.ex;exact .all (h kV doc pm an Xz ct)
theorem Kh{x qual:Str}{st:Stmt}{f:Addr}{oc:Value}{od an:Option Addr}{Uy:Array (Option Value)}{kV doc pm Xz ct:Value}(l:K.lookup f=some ⟨oc,od,.func (PySem.W.fnOf x qual (Ki st) (Qx st) (XA st) .none kV doc pm an Xz ct),Uy⟩)
  (c:PySem.W.codeIn K Xz qual=true) (k:PySem.W.keepIn K (.ref f)=true):Fun K x qual st f (PySem.W.fnOf x qual (Ki st) (Qx st) (XA st) .none kV doc pm an Xz ct):=⟨⟨oc,od,kV,doc,pm,an,Xz,ct,Uy,rfl,l,c⟩,k⟩
end
section
variable{X:Cx}
theorem pv (i:Nat) {x:Str} {pos:Pos} (hN:X.N[i]?=some x:=by rfl) (hv:wJ X.env.scope x:=by first | exact Or.inl rfl | exact Or.inr (Or.inl rfl) | exact Or.inr (Or.inr rfl)) (hd:(x == ("__debug__":Str))=false:=by decide)
  (Ul:(x == ("__classdict__":Str))=false:=by decide):PE X (.Name x pos) (GA i):=wF hN hv hd Ul
end
theorem Vd{A B:Prop}(h:B):if false=true then A else B:=by rw[if_neg Yv];exact h
theorem VF{A B:Prop}(h:A):if true=true then A else B:=by rw[if_pos rfl];exact h
theorem Fg{c A B:Prop}[Decidable c](h1:c->A)(h2:¬ c->B):if c then A else B:=by
 by_cases h:c
 .rw[if_pos h];exact h1 h
 .rw[if_neg h];exact h2 h
def Same(H H':Hp):Prop:=∀ b o,H b=some o->H' b=some o
theorem Same.refl(H:Hp):Same H H:=λ_ _ h=>h
theorem Same.trans{H H1 H2:Hp}(a:Same H H1)(b:Same H1 H2):Same H H2:=λc o h=>b c o (a c o h)
theorem Same.free{H H':Hp}(e:Same H H'){l:Addr}(h:H' l=Option.none):H l=Option.none:=by
 cases q:H l with
 | none=>rfl
 | some o =>
  rw[e l o q]at h;cases h
theorem Same.seq{K:Ad}{H H':Hp}{a:Addr}{xs:List V}(e:Same H H')(h:SqL K H a xs):SqL K H' a xs:=by
 rcases h with (h | ⟨o,h⟩) | h
 .exact .inl (.inl (e _ _ h))
 .exact .inl (.inr ⟨o,e _ _ h⟩)
 .exact .inr h
def Ff(X:Cx)(ifs:List Expr)(t:TT):Prop :=
 ∀(pins:List (Addr × Obj)) (s:Shared) (σ:St) (H:Hp) (Q:Bool->Hp->Prop),Inv X pins σ H s->t σ H Q ->
  wpAny (model X.prog X.w) X.A (forIn ifs true λc r=>if r=true then do let ok <- isTrue c X.env (eval c X.env);pure (ForInStep.yield ok) else pure (ForInStep.yield r)) (TP X pins σ Q) X.xe s
def tYes:TT:=λ_ H Q=>Q true H
theorem Ri{X:Cx}:Ff X [] tYes:=λ_ _ _ H _ I h=>wpAny_tests_nil ⟨H,I,h⟩
theorem Qw{X:Cx}{c:Expr}{t:TT}(hc:PT X c t):Ff X [c] t:=λpins s σ H Q I h=>wpAny_tests_one (hc pins s σ H Q I h)
theorem aI{prog:Program}{w:World}{A:Around}{s:Shared}{R:Result->Shared->Prop}{elt target iter:Expr}{ifs:List Expr}{scope:Scope}{pos:Pos}{it acc:Value}{env:Env}(J:Nat->Shared->Prop)
  (turn:∀ n s,J n s->wpAny (model prog w) A (pyNext it) (λr s1=>match r with
   | none=>R (.ok .next) s1
   | some v=>wpAny (model prog w) A (letOwnedTupleGo target it v) (λ_ s2=>wpAny (model prog w) A (assign target env v) (λ_ s3 =>
     wpAny (model prog w) A (forIn ifs true λc r=>if r=true then do let ok <- isTrue c env (eval c env);pure (ForInStep.yield ok) else pure (ForInStep.yield r)) (λok s4 =>
      if ok=true then wpAny (model prog w) A (eval elt env) (λx s5 =>
       wpAny (model prog w) A (call (.builtin "list.append") [acc,x]) (λ_ s6=>∃ m,m<n/\J m s6) (λ_ _=>False) s5) (λ_ _=>False) s4
      else ∃ m,m<n/\J m s4) (λ_ _=>False) s3) (λ_ _=>False) s2) (λ_ _=>False) s1) (λ_ _=>False) s)
  (n:Nat) (h:J n s):codeAny (model prog w) A (.compLoop (.ListComp elt [⟨target,iter,ifs,0⟩] scope pos) 0 it acc env) R s:=by
 refine codeAny_loop rfl J (λn s hI=>?_) n h;show wpAny _ A ((compTurn (.ListComp elt [⟨target,iter,ifs,0⟩] scope pos) 0 it acc env).onRaise (λx=>do noteFrame x env;theTreesLotGoes x)) _ _ s
 refine wpAny_noted ?_;rw[compTurn_list];refine XU (wpAny_standAt (XU (UG (turn n s hI) (λr s1 h1=>?_) λ_ _ z=>z.elim)));cases r with
 | none=>exact Yj h1
 | some v =>
  refine XU (UG h1 (λ_ s2 h2=>?_) λ_ _ z=>z.elim);refine XU (UG h2 (λ_ s3 h3=>XU (UG h3 (λok s4 h4=>?_) λ_ _ z=>z.elim)) λ_ _ z=>z.elim);cases ok with
  | false=>exact Yj ⟨rfl,h4⟩
  | true =>
   exact XU (XU (UG h4 (λx s5 h5=>XU (UG h5 (λ_ s6 h6=>Yj (Yj ⟨rfl,h6⟩)) λ_ _ z=>z.elim)) λ_ _ z=>z.elim))
def So(cells:List (Str × Addr)):List (Str × NameKind)->List (Str × Addr)->List (Str × Addr)
 | [],acc=>acc
 | (n,k) :: r,acc=>if k == .free then So cells r ((n,(cells.lookup n).getD 0) :: acc) else So cells r acc
theorem iI{env:Env}:∀(names:List (Str × NameKind)) (acc:List (Str × Addr)),(∀ y∈names,y.2=.free->∃ c,env.cells.lookup y.1=some c) ->
  (forIn names acc λ(x:Str × NameKind) (cs:List (Str × Addr))=>(if (x.2 == .free)=true then do let a <- cellOf env x.1;pure (ForInStep.yield ((x.1,a) :: cs)) else pure (ForInStep.yield cs):Sem (ForInStep (List (Str × Addr)))))=pure (So env.cells names acc)
 | [],acc,_=>rfl
 | (n,k) :: r,acc,h=>by
  have ih:=λacc=>iI r acc λy hy=>h y (Yh _ hy);rw[List.forIn_cons];unfold So;by_cases hk:(k == NameKind.free)=true
  .obtain⟨c,hc⟩:=h (n,k) Ye (by simpa using hk);have e:cellOf env n=pure c:=by unfold cellOf;rw[show env.cells.lookup n=some c from hc]
   simp only [hk,OZ,e,pure_bind];rw[ih,show env.cells.lookup n=some c from hc];rfl
  .simp only [hk,Hb,La,pure_bind];exact ih acc
theorem aH{env:Env}{scope:Scope}(h:∀ y∈scope.names,y.2=.free->∃ c,env.cells.lookup y.1=some c):closureFor scope env=pure (So env.cells scope.names []):=by have e:=iI scope.names [] h;unfold closureFor;simp only [bind_pure]at e ⊢;exact e
theorem uU{env:Env}:∀(names:List (Str × NameKind)) (acc:List (Str × Addr)),(∀ y∈names,y.2=.free->∃ c,env.cells.lookup y.1=some c)->(∀ x c,acc.lookup x=some c->env.cells.lookup x=some c) ->
  ∀ x c,(So env.cells names acc).lookup x=some c->env.cells.lookup x=some c
 | [],acc,_,ha,x,c,e=>ha x c e
 | (n,k) :: r,acc,h,ha,x,c,e=>by
  unfold So at e;by_cases hk:(k == NameKind.free)=true
  .rw[if_pos hk]at e;obtain⟨d,hd⟩:=h (n,k) Ye (by simpa using hk);refine uU r _ (λy hy=>h y (Yh _ hy)) (λy b q=>?_) x c e;rw[MD]at q;by_cases hy:(y == n)=true
   .rw[hy]at q;have Kg:y=n:=by simpa using hy
    have Uc:env.cells.lookup n=some d:=hd;rw[Uc]at q;have q':d=b:=Yi q
    rw[Kg,Uc,q']
   .have Kg:(y == n)=false:=by simpa using hy
    rw[Kg]at q;exact ha y b q
  .rw[if_neg hk]at e;exact uU r acc (λy hy=>h y (Yh _ hy)) ha x c e
theorem uS{cells:List (Str × Addr)}:∀(names:List (Str × NameKind)) (acc:List (Str × Addr)) (x:Str),(acc.lookup x).isSome=true->((So cells names acc).lookup x).isSome=true
 | [],_,_,h=>h
 | (n,k) :: r,acc,x,h=>by
  unfold So;by_cases hk:(k == NameKind.free)=true
  .rw[if_pos hk];refine uS r _ x ?_;rw[MD];by_cases hx:(x == n)=true
   .rw[hx];rfl
   .have Vc:(x == n)=false:=by simpa using hx
    rw[Vc];exact h
  .rw[if_neg hk];exact uS r acc x h
theorem zU{cells:List (Str × Addr)}:∀(names:List (Str × NameKind)) (acc:List (Str × Addr)) (x:Str),(x,NameKind.free)∈names->((So cells names acc).lookup x).isSome=true
 | [],_,_,h=>nomatch h
 | (n,k) :: r,acc,x,h=>by
  unfold So;rcases Yg.mp h with e | h
  .cases e;rw[if_pos (by rfl)];refine uS r _ _ ?_;rw[MD];simp
  .by_cases hk:(k == NameKind.free)=true
   .rw[if_pos hk];exact zU r _ x h
   .rw[if_neg hk];exact zU r _ x h
theorem ZS{env:Env}:∀ {names:List (Str × NameKind)} {x:Str} {k:NameKind},(names.map λ(n,k)=>if (k == NameKind.free && env.scope.kind == .function && env.kindOf n == some .cell) then (n,NameKind.cell) else (n,k)).lookup x=some k ->
  (k=.cell\/k=.free)->(x,NameKind.free)∈names\/(x,NameKind.cell)∈names
 | [],_,_,h,_=>by simp at h
 | (n,q) :: r,x,k,h,hk=>by
  have h':List.lookup x ((if (q == NameKind.free && env.scope.kind == .function && env.kindOf n == some .cell)=true then (n,NameKind.cell) else (n,q)) :: r.map λ(n,k)=>if (k == NameKind.free && env.scope.kind == .function && env.kindOf n == some .cell) then (n,NameKind.cell) else (n,k))=some k:=h;by_cases hc:(q == NameKind.free && env.scope.kind == .function && env.kindOf n == some .cell)=true
  .rw[if_pos hc,MD]at h';have hq:q=.free:=by simp only [MB,SW]at hc;exact hc.1.1
   by_cases hx:(x == n)=true
   .have Vc:x=n:=by simpa using hx
    subst Vc;subst hq;exact .inl Ye
   .have Vc:(x == n)=false:=by simpa using hx
    rw[Vc]at h';rcases ZS (env:=env) h' hk with z | z
    .exact .inl (Yh _ z)
    .exact .inr (Yh _ z)
  .rw[if_neg hc,MD]at h';by_cases hx:(x == n)=true
   .rw[hx]at h';have Vc:x=n:=by simpa using hx
    subst Vc;have e:q=k:=Yi h'
    subst e;rcases hk with rfl | rfl
    .exact .inr Ye
    .exact .inl Ye
   .have Vc:(x == n)=false:=by simpa using hx
    rw[Vc]at h';rcases ZS (env:=env) h' hk with z | z
    .exact .inl (Yh _ z)
    .exact .inr (Yh _ z)
theorem uR{env:Env}:∀ {names:List (Str × NameKind)} {x:Str},names.lookup x=some .free ->
  (names.map λ(n,k)=>if (k == NameKind.free && env.scope.kind == .function && env.kindOf n == some .cell) then (n,NameKind.cell) else (n,k)).lookup x=some .cell \/
  (names.map λ(n,k)=>if (k == NameKind.free && env.scope.kind == .function && env.kindOf n == some .cell) then (n,NameKind.cell) else (n,k)).lookup x=some .free
 | [],_,h=>by simp at h
 | (n,q) :: r,x,h=>by
  show List.lookup x ((if (q == NameKind.free && env.scope.kind == .function && env.kindOf n == some .cell)=true then (n,NameKind.cell) else (n,q)) :: _)=_\/List.lookup x ((if (q == NameKind.free && env.scope.kind == .function && env.kindOf n == some .cell)=true then (n,NameKind.cell) else (n,q)) :: _)=_;rw[MD]at h;by_cases hc:(q == NameKind.free && env.scope.kind == .function && env.kindOf n == some .cell)=true
  .rw[if_pos hc,MD];by_cases hx:(x == n)=true
   .rw[hx];exact .inl rfl
   .have Vc:(x == n)=false:=by simpa using hx
    rw[Vc]at h ⊢;exact uR h
  .rw[if_neg hc,MD];by_cases hx:(x == n)=true
   .rw[hx]at h ⊢;exact .inr h
   .have Vc:(x == n)=false:=by simpa using hx
    rw[Vc]at h ⊢;exact uR h
def UO(X:Cx)(N':List Str)(scope:Scope)(C:Addr)(s:Shared)(H:Hp)(fp:List Addr):Cx where
 prog:=X.prog
 w:=X.w
 K:=X.K
 mg:=X.mg
 base:=X.base
 A:=X.A
 N:=N'
 s₀:=s
 H₀:=H
 env:=compEnvC scope (So X.env.cells scope.names []) C X.env
 outer:=X.stack
 stack:=X.stack
 ex:=fp
 fn:=λ_=>false
 calm:=X.calm
 pn:=[]
 xe:=λ_ _=>False
def σC(o:Nat)(fr:List Nat)(σ:St):St:=List.replicate o none++fr.map λj=>(σ[j]?).join
structure CompScope (sc0:Scope) (N N':List Str) (o:Nat) (fr:List Nat) (scope:Scope):Prop where
 kind:scope.kind=.function
 nocell:(scope.names.all λy=>y.2 != .cell)=true
 loc:(scope.names.all λy=>y.2 != .local || scope.names.lookup y.1 == some .local)=true
 free:(scope.names.all λy=>y.2 != .free || sc0.names.lookup y.1 == some .cell || sc0.names.lookup y.1 == some .free)=true
 len:N'.length=o+fr.length
 sees:((List.range fr.length).all λj=>match fr[j]? with
  | none=>false
  | some y=>match N[y]? with
   | none=>false
   | some x=>N'[o+j]? == some x && scope.names.lookup x == some .free)=true
def Mo(J:It)(g:TG)(tt:TT)(te:TE)(o:Nat)(fr:List Nat)(σ:St)(H1:Hp)(Q:VK):Prop:=∃ W:Nat->Nat->List V->Hp->Prop,(∃ m,W 0 m [] H1)/\∀ i m ys H,W i m ys H ->
 (J.stop i H/\ys.length<=sizeLine/\∀ p,H p=none->Q (.ref p) (upd H p (.lst ys))) \/
 (J.go i H/\ys.length<sizeLine/\∀ x H',J.yld i H x H'->g x (σC o fr σ) H' λσ2 H2=>tt σ2 H2 λb H3=>if b=true then te σ2 H3 λy H4=>∃ m',m'<m/\W (i+1) m' (ys++[y]) H4 else ∃ m',m'<m/\W (i+1) m' ys H3)
def uQ(wi:TI)(g:TG)(tt:TT)(te:TE)(o:Nat)(fr:List Nat):TE:=λσ H Q=>wi σ H λJ H1=>Mo J g tt te o fr σ H1 Q
def Qu(o:Nat)(g:TG):Prop:=∀(x:V) (ow fr:St) (H:Hp) (Q:St->Hp->Prop),ow.length=o->g x (ow++fr) H Q->g x (ow++fr) H λσ2 H2=>(∃ Fe,Fe.length=o/\σ2=Fe++fr)/\Q σ2 H2
theorem Zz{o i:Nat}(h:i<o):Qu o (SU i):=λx ow fr H Q hl q=>⟨⟨ow.set i (some x),by rw[SV];exact hl,by rw[List.set_append_left _ _ (by lia)]⟩,q⟩
def NZ(o:Nat)(g:QI):Prop:=∀(xs:List V) (ow fr:St) (H:Hp) (Q:St->Hp->Prop),ow.length=o->g xs (ow++fr) H Q->g xs (ow++fr) H λσ2 H2=>(∃ Fe,Fe.length=o/\σ2=Fe++fr)/\Q σ2 H2
theorem Fd{o:Nat}:NZ o Gi:=λ_ ow _ _ _ hl ⟨e,q⟩=>⟨e,⟨ow,hl,rfl⟩,q⟩
theorem Vb{o i:Nat}{u:QI}(h:i<o)(h2:NZ o u):NZ o (Gh (SU i) u):=by
 rintro xs ow fr H Q hl ⟨v,r,rfl,q⟩;refine⟨v,r,rfl,?_⟩;have q':u r ((ow++fr).set i (some v)) H Q:=q
 show u r ((ow++fr).set i (some v)) H _;rw[List.set_append_left _ _ (by omega)]at q' ⊢;exact h2 r (ow.set i (some v)) fr H Q (by rw[SV];exact hl) q'
theorem Fc{K:Ad}{o n:Nat}{u:QI}(h:NZ o u):Qu o (KI K n u):=by rintro x ow fr H Q hl ⟨a,xs,rfl,hs,hn,q⟩;exact⟨a,xs,rfl,hs,hn,h xs ow fr H Q hl q⟩
section
variable{X:Cx}{pins:List (Addr × Obj)}{σ:St}{H:Hp}{s:Shared}{N':List Str}{o:Nat}{fr:List Nat}{scope:Scope}{fp:List Addr}
abbrev UN (us:Ag):Obj:={ cls:=.type "list",data:=.seq us.toArray us.length }
theorem CompScope.nocell'{sc0:Scope}{N:List Str}(S:CompScope sc0 N N' o fr scope):∀ y∈scope.names,y.2≠.cell:=λy hy e=>by have q:=QS.mp S.nocell y hy;rw[e]at q;exact absurd q (by decide)
theorem CompScope.loc'{sc0:Scope}{N:List Str}(S:CompScope sc0 N N' o fr scope):∀ y∈scope.names,y.2=.local->scope.names.lookup y.1=some .local:=λy hy e=>by have q:=QS.mp S.loc y hy;rw[e]at q;simpa using q
theorem CompScope.free'{sc0:Scope}{N:List Str}(S:CompScope sc0 N N' o fr scope)(hs:X.env.scope=sc0):∀ y∈scope.names,y.2=.free->X.env.kindOf y.1=some .cell\/X.env.kindOf y.1=some .free:=λy hy e=>by
 have q:=QS.mp S.free y hy;rw[e]at q;show X.env.scope.names.lookup y.1=_\/X.env.scope.names.lookup y.1=_
 rw[hs];simpa using q
theorem CompScope.sees'{sc0:Scope}{N:List Str}(S:CompScope sc0 N N' o fr scope):∀ j y,fr[j]?=some y->∃ x,N[y]?=some x/\N'[o+j]?=some x/\scope.names.lookup x=some .free:=λj y e=>by
 have hj:j<fr.length:=(Xp.mp e).1;have q:=QS.mp S.sees j (YI.mpr hj)
 rw[e]at q;dsimp only at q;cases ex:N[y]? with
 | none=>rw[ex]at q;cases q
 | some x =>
  rw[ex]at q;dsimp only at q;rw[MB,SW,SW]at q;exact⟨x,rfl,q.1,q.2⟩
theorem CompScope.cells{sc0:Scope}{N0:List Str}(S:CompScope sc0 N0 N' o fr scope)(hs:X.env.scope=sc0)(I:Inv X pins σ H s):∀ y∈scope.names,y.2=.free->∃ c,X.env.cells.lookup y.1=some c:=λy hy e=>I.ok.has y.1 (S.free' hs y hy e)
theorem CompScope.sub{sc0:Scope}{N0:List Str}(S:CompScope sc0 N0 N' o fr scope)(hs:X.env.scope=sc0)(I:Inv X pins σ H s):∀ x c,(So X.env.cells scope.names []).lookup x=some c->X.env.cells.lookup x=some c :=
 uU (env:=X.env) scope.names [] (S.cells hs I) (λ_ _ z=>nomatch z)
theorem Inv.block{sc0:Scope}{N0:List Str}(S:CompScope sc0 N0 N' o fr scope)(hs:X.env.scope=sc0)(hN:X.N=N0)(I:Inv X pins σ H s)(hf:∀ b∈fp,FpOk X pins H b)(RQ:∀ b∈fp,b<s.heap.objs.size){h1:Heap}{C D:Addr}{m:Af}{us:Ag}{t:Nat}
  (hC:s.heap.objs.size<=C) (hD:s.heap.objs.size<=D) (OS:D≠C)
  (old:∀ b ob,s.heap.get? b=some ob->h1.get? b=some ob) (hn:h1.Ns C m) (ha:h1.get? D=some (UN us)):Inv (UO X N' scope C s H fp) [(D,UN us)] (σC o fr σ) H { s with heap:=h1,toks:=t }:=by
 have sub:=S.sub hs I;have aG:∀ b∈Wj X.stack,b<s.heap.objs.size:=λb hb=>by obtain⟨_,ob,ho,_⟩:=I.stack.mem hb;exact Yl ho
 refine⟨⟨I.ok.mod,S.kind,I.ok.glob,I.ok.blt,hC,λx y c h1 h2=>I.ok.inj x y c (sub x c h1) (sub y c h2),λx hx=>?_,λx c aE _=>(nomatch aE),I.ok.hd,I.ok.frames,.inl rfl,λb hb=>?_,I.bs,Yr I.ok.bsz I.sz,λb ob e hb=>?_,λb hb Qt=>?_,I.stack,I.stkFree⟩,
  rfl,I.bare,Un.kept old,⟨m,hn,λi x v e1 e2 e3=>?_⟩,λx c e=>?_,I.hok.fresh hC,λx c e=>I.freeC x c (sub x c e),λp hp=>?_,I.hok.kept old,?_⟩
 .have Vc:(relabel scope X.env).names.lookup x=some .cell\/(relabel scope X.env).names.lookup x=some .free:=hx;have key:(x,NameKind.free)∈scope.names:=by
   rcases Vc with z | z
   .rcases ZS (env:=X.env) z (.inl rfl) with q | q
    .exact q
    .exact absurd rfl (S.nocell' _ q)
   .rcases ZS (env:=X.env) z (.inr rfl) with q | q
    .exact q
    .exact absurd rfl (S.nocell' _ q)
  exact xM.mp (zU (cells:=X.env.cells) scope.names [] x key)
 .obtain⟨f0,f1,f2,f3,f4,f5⟩:=hf b hb;exact⟨Yt (Yn (RQ b hb) hC),λx c e=>f4 x c (sub x c e)⟩
 .obtain⟨f0,f1,f2,f3,f4,f5⟩:=hf b hb;rcases f3 with z | z
  .exact I.ok.noex b ob e z
  .exact absurd (Yn (Yl e) (Yr I.ok.bsz z)) (Rk _)
 .obtain⟨f0,f1,f2,f3,f4,f5⟩:=hf b hb;rcases Yg.mp (I.stkSub b Qt) with z | z
  .exact f1 z
  .exact f2 z
 .unfold σC at e2;by_cases hi:i<o
  .rw[Ys (by rw[YG];exact hi),AM,if_pos hi]at e2;cases e2
  .rw[Yq (by rw[YG];exact Nat.not_lt.mp hi),YG,Yp]at e2;cases hy:fr[i - o]? with
   | none=>rw[hy]at e2;cases e2
   | some y =>
    rw[hy]at e2;have zS:(σ[y]?).join=some v:=Yi e2
    have az:σ[y]?=some (some v):=by
     cases q:σ[y]? with
     | none=>rw[q]at zS;cases zS
     | some z=>rw[q]at zS;exact Xw some zS
    obtain⟨x',s2,s1,s3⟩:=S.sees' (i - o) y hy;rw[<- hN]at s2;rw[show o+(i - o)=i by grind]at s1;have ex:x=x':=by have ay:N'[i]?=some x:=e1;rw[ay]at s1;exact Yi s1
    subst ex;have hmem:=Lr s3
    obtain⟨m0,_,hl⟩:=I.loc;have hk:=S.free' hs (x,.free) hmem rfl
    obtain⟨u,ru,lk⟩:=hl y x v s2 az (by rcases hk with z | z;exact .inr (.inl z);exact .inr (.inr z));refine⟨u,ru,.inr ⟨uR (env:=X.env) s3,?_⟩⟩;obtain⟨c',WH⟩:=xM.mp (zU (cells:=X.env.cells) scope.names [] x hmem);refine⟨c',WH,?_⟩;rcases lk with ⟨z,_⟩ | ⟨_,c,e,ob,ho,hd⟩
    .rcases hk with z' | z'
     .rw[z]at z';cases z'
     .rw[z]at z';cases z'
    .have ec:c=c':=by
      have:=sub x c' WH
      rw[e]at this;exact Yi this
     subst ec;exact⟨ob,old _ _ ho,hd⟩
 .obtain⟨v,ob,ho,hd⟩:=I.cell x c (sub x c e);exact⟨v,ob,old _ _ ho,hd⟩
 .have e:p=(D,UN us):=by simpa using (show p∈([]:List (Addr × Obj))++[(D,UN us)] from hp)
  subst e;refine⟨ha,I.hok.fresh hD,OS,λz=>absurd (Yn (aG D z) hD) (Rk _),λv z=>nomatch z⟩
 .show(σC o fr σ).length=N'.length;unfold σC;rw[Xs,YG,Yd,S.len]
theorem Inv.unblock(I:Inv X pins σ H s)(hf:∀ b∈fp,FpOk X pins H b){C D:Addr}{us:Ag}{ys:List V}{σ':St}{H':Hp}{s':Shared}(hC:s.heap.objs.size<=C)(hD:s.heap.objs.size<=D)(OS:D≠C)
  (I':Inv (UO X N' scope C s H fp) [(D,UN us)] σ' H' s') (r:Vals ys us) (hz:ys.length<=sizeLine):∃ oC m,s'.heap.get? C=some oC/\s'.heap.Ns C m/\Inv X (pins++[(C,oC)]) σ (upd H' D (.lst ys)) s':=by
 obtain⟨aD,nD,_,_,_⟩:=I'.pin (D,UN us) (by simp);have aD:s'.heap.get? D=some (UN us):=aD
 have nD:H' D=none:=nD;have un:Un (Wj X.stack) fp H H' s.heap s'.heap:=I'.base
 have lt:∀ b u,H b=some u->b≠D:=λb u e=>Yt (Yn (I.hok.lt e) hD);have VJ:Un (Wj X.stack) fp H (upd H' D (.lst ys)) s.heap s'.heap:=by
  refine⟨un.keep,un.slot,λb ob e n hx=>?_,un.there,λb xs e=>?_,λb ob u e=>?_,λb ps e=>?_⟩
  .rw[Zb (Yt (Yn (Yl e) hD))];exact un.free b ob e n hx
  .rw[Zb (lt b _ e)];exact un.tups b xs e
  .rw[Zb (lt b _ e)];exact un.frzs b ob u e
  .obtain⟨more,q⟩:=un.tbls b ps e;exact⟨more,by rw[Zb (lt b _ e)];exact q⟩
 have hok:HOk X.prog X.w (upd H' D (.lst ys)) s'.heap:=λb u e=>by
  by_cases hb:b=D
  .subst hb;rw[XR]at e;cases e;exact⟨hz,us,us.length,r,aD⟩
  .rw[Zb hb]at e;exact(I'.hok b u e).stay (λc v _ q=>q) (λc q=>by rw[Zb (Zc q nD)];exact q) λc xs q=>by rw[Zb (Zc q nD)];exact q
 have os:s'.os=s.os:=I'.os;have J:Inv X pins σ (upd H' D (.lst ys)) s':=I.call' (ch:=fp) os VJ hok I'.bare λb hb=>by obtain⟨f0,f1,f2,f3,f4,f5⟩:=hf b hb;exact⟨f3,f1,f4,f5⟩
 obtain⟨m,hn,_⟩:=I'.loc;have hn:s'.heap.Ns C m:=hn
 obtain⟨oC,es,ep,uP,ax,_⟩:=id hn;refine⟨oC,m,uP,hn,J.pins_of λp hp=>?_⟩;rcases Xy.mp hp with z | z
 .exact J.pin p (Yc _ z)
 .have e:p=(C,oC):=by simpa using z
  subst e;have nC:H' C=none:=I'.free
  refine⟨uP,by rw[Zb (YY OS)];exact nC,Sb (Yn I.lt hC),I.nofs hC,λv z=>?_⟩;have z':oC.data=.cell v:=z
  rw[ax]at z';cases z'
end
section
variable{X:Cx}{N':List Str}{o:Nat}{fr:List Nat}{scope:Scope}{elt tg iter:Expr}{ifs:List Expr}{pos:Pos}{wi:TI}{g:TG}{tt:TT}{te:TE}
theorem Mn(hc:X.calm=true){sc0:Scope}{N0:List Str}(S:CompScope sc0 N0 N' o fr scope)(hi:PI X tg iter wi)(ho:Qu o g)
  (hg:∀(C:Addr) (s:Shared) (H:Hp) (fp:List Addr),PG (UO X N' scope C s H fp) tg g)
  (ht:∀(C:Addr) (s:Shared) (H:Hp) (fp:List Addr),Ff (UO X N' scope C s H fp) ifs tt)
  (he:∀(C:Addr) (s:Shared) (H:Hp) (fp:List Addr),PE (UO X N' scope C s H fp) elt te)
  (hs:∀ x,foldedSetIterable iter X.env x=pure x) (Rh:X.env.scope=sc0) (Fb:X.N=N0) {pins:List (Addr × Obj)} {s:Shared} {σ:St} {H:Hp} {Qv:VK} (I:Inv X pins σ H s) (h:uQ wi g tt te o fr σ H Qv)
  {use:Option (Value->Sem Unit)} {Q:Ae} {E:Ae}
  (hE:∀ e s',X.xe e s'->E e s')
  (fin:∀(C oC D:_) (m:Af) (H':Hp) (ys:List V) (s':Shared),Inv X (pins++[(C,oC)]) σ (upd H' D (.lst ys)) s'->Qv (.ref D) (upd H' D (.lst ys))->s'.heap.Ns C m->H' C=none->C≠D ->
   C≠X.env.locals->X.s₀.heap.objs.size<=C->(∀ x c,X.env.cells.lookup x=some c->c≠C)->(∀ p∈X.pn++pins,p.1≠C)->compPost (model X.prog X.w) X.A E use Q (.ref D) C (.ok .next) s') :
  wpAny (model X.prog X.w) X.A (comprehension (.ListComp elt [⟨tg,iter,ifs,0⟩] scope pos) scope X.env (firstIterPos [⟨tg,iter,ifs,0⟩] pos) (newList []) false (eval iter X.env) use) Q E s:=by
 refine wpAny_comprehension_free (use:=use) rfl hs (aH (S.cells Rh I)) S.kind S.loc' (UG (hi pins s σ H _ I h) (λxv s1 h1=>UG h1 (λwm s2 h2=>?_) hE) hE);obtain⟨it,fp,tn,J,H2,rfl,I2,T,Oi,f2,W,⟨m0,w0⟩,turn⟩:=h2;have RQ:∀ b∈fp,b<s2.heap.objs.size:=λb hb=>by obtain⟨ob,e,_⟩:=T.obj 0 _ Oi b hb;exact Yl e
 refine OA (wpAny_newFunctionEnv S.nocell' (by intro y hy;simp at hy) (λh1 Kf NY=>?_) S.kind);dsimp only at Kf NY ⊢;generalize uN:s2.heap.push { cls:=.type "list",dict:=none,data:=.seq ([]:Ag).toArray }=G at Kf NY ⊢;have iH:G.objs.size=s2.heap.objs.size+1:=by rw[<- uN,Oy]
 have hC:s2.heap.objs.size<=G.objs.size:=by rw[iH];exact Um _
 have OS:s2.heap.objs.size≠G.objs.size:=by rw[iH];exact Yt (Pb _)
 have old:∀ b ob,s2.heap.get? b=some ob->h1.get? b=some ob:=λb ob e =>
  NY.extBut b ob (Yt (Yn (Yl e) hC)) (Xc _ (uN ▸ Xc _ e))
 have Wa:h1.get? s2.heap.objs.size=some (UN []):=NY.extBut _ _ OS (Xc _ (uN ▸ Ym _ rfl));have Ke:tn 0 h1:=T.keep _ _ _ Oi λb _ ob e=>old b ob e
 have uM:∀ {us:Ag} {H':Hp},(∀ b∈fp,H' b=none)->∀ b∈fp,FpOk (UO X N' scope G.objs.size s2 H2 fp) [(s2.heap.objs.size,UN us)] H' b:=λ{us H'} hn b hb=>by
  obtain⟨f0,f1,f3,f4,f5,f6⟩:=f2 b hb;refine⟨hn b hb,Yt (Yn (RQ b hb) hC),λz=>?_,.inl hb,λx c e=>f5 x c (S.sub Rh I2 x c e),λp hp=>?_⟩
  .rcases Yg.mp (I2.stkSub b z) with q | q
   .exact f1 q
   .exact f3 q
  .have e:p=(s2.heap.objs.size,UN us):=by simpa using (show p∈([]:List (Addr × Obj))++[(s2.heap.objs.size,UN us)] from hp)
   subst e;exact Sb (RQ b hb)
 have loop:∀ s3:Shared,s3={ s2 with heap:=h1,toks:=s2.toks+([]:List (Str × Value)).length } ->
   codeAny (model X.prog X.w) X.A (.compLoop (.ListComp elt [⟨tg,iter,ifs,0⟩] scope pos) 0 (.ref it) (.ref s2.heap.objs.size) (compEnvC scope (So X.env.cells scope.names []) G.objs.size X.env))
    (compPost (model X.prog X.w) X.A E use Q (.ref s2.heap.objs.size) G.objs.size) s3:=by
  rintro s3 rfl;refine aI (λn s'=>∃ i σ' H' ys us,Inv (UO X N' scope G.objs.size s2 H2 fp) [(s2.heap.objs.size,UN us)] σ' H' s'/\σ'=σC o fr σ/\Vals ys us/\tn i s'.heap/\(∀ b∈fp,H' b=none)/\W i n ys H') ?_ m0
   ⟨0,_,H2,[],[],I2.block S Rh Fb f2 RQ hC (XO _) OS old Kf Wa,rfl,.nil,Ke,λb hb=>(f2 b hb).1,w0⟩
  rintro n s' ⟨i,σ',H',ys,us,I',rfl,rv,Ti,iG,w'⟩;rcases turn i n ys H' w' with ⟨stop,hz,q⟩ | ⟨go,hz,step⟩
  .refine thn (T.done (UO X N' scope G.objs.size s2 H2 fp) rfl rfl rfl hc i _ s' _ H' _ I' (uM iG) Ti stop) λr s4 ⟨hr,I4⟩=>?_;subst hr;obtain⟨oC,m,uP,hn,J4⟩:=I2.unblock f2 hC (XO _) OS I4 rv hz;exact fin _ oC _ m H' ys s4 J4 (q _ (I4.pin (s2.heap.objs.size,UN us) (by simp)).2.1) hn I4.free (YY OS) (Sb (Yn I2.lt hC)) (Yr I2.sz hC)
    (λx c e=>by obtain⟨v,z⟩:=I2.cell x c e;exact Yt (Yn z.lt hC)) λp hp=>Yt (Yn (Yl (I2.pin p hp).1) hC)
  .refine thn (T.item (UO X N' scope G.objs.size s2 H2 fp) rfl rfl rfl hc i _ s' _ H' _ I' (uM iG) Ti go) λr s4 Xv=>?_;obtain⟨u,hr,h4⟩:=Xv;subst hr;refine thn h4 λ_ s5 Xv=>?_;obtain⟨x,H5,I5,r5,y5,KA,wc⟩:=Xv;have WB:=step x H5 y5
   have uL:=ho x (List.replicate o none) (fr.map λj=>(σ[j]?).join) H5 _ (YG ..) WB;have wb:=I5.pinned (uM (us:=us) wc) (T.obj _ _ KA)
   refine thn (hg _ _ _ _ _ s5 _ H5 x u _ wb r5 uL) λ_ s6 Xv=>?_;obtain⟨σ6,H6,I6,⟨ow,Rg,e6⟩,q6⟩:=Xv;subst e6;refine thn (ht _ _ _ _ _ s6 _ H6 _ I6 q6) λb s7 Xv=>?_;obtain⟨H7,I7,q7⟩:=Xv;have back:∀ {us':Ag} {σ8:St} {H8:Hp} {s8:Shared},Inv (UO X N' scope G.objs.size s2 H2 fp) ([(s2.heap.objs.size,UN us')]++UA fp s5.heap) (ow++fr.map λj=>(σ[j]?).join) H8 s8 ->
     Inv (UO X N' scope G.objs.size s2 H2 fp) [(s2.heap.objs.size,UN us')] (σC o fr σ) H8 s8/\tn (i+1) s8.heap/\∀ b∈fp,H8 b=none:=λ{us' σ8 H8 s8} I8=>by
    refine⟨I8.unpinned.weak ?_ λj v e=>?_,T.keep _ _ _ KA λb hb ob e=>(I8.pin (b,ob) (Yc _ (Yc _ (z5 hb e)))).1,λb hb=>?_⟩
    .unfold σC;rw[Xs,Xs,YG,Rg]
    .unfold σC at e;by_cases hj:j<o
     .rw[Ys (by rw[YG];exact hj),AM,if_pos hj]at e;cases e
     .rw[Yq (by rw[YG];exact Nat.not_lt.mp hj),YG]at e;rw[Yq (by rw[Rg];exact Nat.not_lt.mp hj),Rg];exact e
    .obtain⟨ob,e,_⟩:=T.obj _ _ KA b hb;exact(I8.pin (b,ob) (Yc _ (Yc _ (z5 hb e)))).2.1
   cases b with
   | false =>
    rw[if_neg Yv]at q7 ⊢;obtain⟨m',hm,w7⟩:=q7;obtain⟨I8,aw,av⟩:=back (us':=us) (σ8:=[]) I7;exact⟨m',hm,i+1,_,H7,ys,us,I8,rfl,rv,aw,av,w7⟩
   | true =>
    rw[if_pos rfl]at q7 ⊢;refine thn (he _ _ _ _ _ s7 _ H7 _ I7 q7) λy s8 Xv=>?_;obtain⟨yv,H8,I8,r8,m',hm,w8⟩:=Xv;obtain⟨aD,nD,_,_,_⟩:=I8.pin (s2.heap.objs.size,UN us) (by simp);have aD:s8.heap.get? s2.heap.objs.size=some (UN us):=aD
    have nD:H8 s2.heap.objs.size=none:=nD;have au:us.length<=sizeLine:=by rw[<- rv.length];exact UB hz
    refine append_at (hsz:=by show us.toArray.size<=sizeLine;rw[Yb];exact au) aD λh9 aq ak=>?_;have uK:h9.get? s2.heap.objs.size=some (UN (us++[y])):=by
     rw[ak];show some ({ cls:=.type "list",data:=.seq (us.toArray.push y) (us.length+1) }:Obj)=some { cls:=.type "list",data:=.seq (us++[y]).toArray (us++[y]).length }
     rw[Xs,Yk,List.push_toArray]
    have I9:Inv (UO X N' scope G.objs.size s2 H2 fp) (UA fp s5.heap) (ow++fr.map λj=>(σ[j]?).join) H8 { s8 with heap:=h9 } :=
     (I8.pins_of (pins':=UA fp s5.heap) λp hp=>I8.pin p (Yc _ (Yc _ hp))).turned (t':=s8.toks) (it:=s2.heap.objs.size) (λb ob hb e=>aq.extBut b ob hb e) nD OS (.inr (XO _))
      (λx c e=>by obtain⟨v,z⟩:=I2.cell x c (S.sub Rh I2 x c e);exact Yt z.lt)
      λp hp=>by obtain⟨hb,_⟩:=jb (show p∈UA fp s5.heap from by simpa [UO] using hp);exact Yt (RQ p.1 hb)
    have aj:Inv (UO X N' scope G.objs.size s2 H2 fp) ([(s2.heap.objs.size,UN (us++[y]))]++UA fp s5.heap) (ow++fr.map λj=>(σ[j]?).join) H8 { s8 with heap:=h9 } :=
     I9.pins_of λp hp=>by
      rcases Xy.mp hp with z | z
      .have e:p=(s2.heap.objs.size,UN (us++[y])):=by simpa using z
       subst e;refine⟨uK,nD,OS,λz=>?_,λv z=>nomatch z⟩;obtain⟨_,ob,RP,_⟩:=I2.stack.mem z;exact Rk _ (Yl RP)
      .exact I9.pin p (Yc _ z)
    obtain⟨ai,uJ,uH⟩:=back (us':=us++[y]) (σ8:=[]) aj;exact⟨m',hm,i+1,_,H8,ys++[yv],us++[y],ai,rfl,Vals.append rv (.cons r8 .nil),uJ,uH,w8⟩
 exact codeAny_compStart_list (loop _ rfl) (T.self _ 0 _ _ _ Ke (loop _ rfl))
theorem Sn(hc:X.calm=true){sc0:Scope}{N0:List Str}(S:CompScope sc0 N0 N' o fr scope)(hi:PI X tg iter wi)(ho:Qu o g)
  (hg:∀(C:Addr) (s:Shared) (H:Hp) (fp:List Addr),PG (UO X N' scope C s H fp) tg g)
  (ht:∀(C:Addr) (s:Shared) (H:Hp) (fp:List Addr),Ff (UO X N' scope C s H fp) ifs tt)
  (he:∀(C:Addr) (s:Shared) (H:Hp) (fp:List Addr),PE (UO X N' scope C s H fp) elt te)
  (hs:∀ x,foldedSetIterable iter X.env x=pure x:=by intro _;rfl) (Rh:X.env.scope=sc0:=by rfl) (Fb:X.N=N0:=by rfl):PE X (.ListComp elt [⟨tg,iter,ifs,0⟩] scope pos) (uQ wi g tt te o fr):=by intro pins s σ H Q I h;rw[eval_ListComp];refine Mn hc S hi ho hg ht he hs Rh Fb I h (use:=none) (λ_ _ z=>z) λC oC D m H' ys s' J q hn nC uG uE uD uC uB=>?_;refine⟨m,hn,λh' OR=>⟨.ref D,upd H' D (.lst ys),?_,rfl,q⟩⟩;refine J.unpinned.turned (t':=s'.toks) (it:=C) (λb ob hb e=>OR.extBut b ob hb e) (by rw[Zb uG];exact nC) uE (.inr uD) uC uB
theorem NX{i:Nat}{x:Str}{px:Pos}{EZ:Pos}(hc:X.calm=true)(hN:X.N.Nodup)(hx:X.N[i]?=some x)(hl:X.env.kindOf x=some .local){sc0:Scope}{N0:List Str}(S:CompScope sc0 N0 N' o fr scope)(hi:PI X tg iter wi)(ho:Qu o g)
  (hg:∀(C:Addr) (s:Shared) (H:Hp) (fp:List Addr),PG (UO X N' scope C s H fp) tg g)
  (ht:∀(C:Addr) (s:Shared) (H:Hp) (fp:List Addr),Ff (UO X N' scope C s H fp) ifs tt)
  (he:∀(C:Addr) (s:Shared) (H:Hp) (fp:List Addr),PE (UO X N' scope C s H fp) elt te)
  (hs:∀ x,foldedSetIterable iter X.env x=pure x:=by intro _;rfl) (Rh:X.env.scope=sc0:=by rfl) (Fb:X.N=N0:=by rfl)
  (ah:swapsWith (.ListComp elt [⟨tg,iter,ifs,0⟩] scope pos) (some (.Name x px)) EZ.line X.env=pure true:=by rfl) :
  PS X (.Assign [.Name x px] (.ListComp elt [⟨tg,iter,ifs,0⟩] scope pos) EZ) (KH (uQ wi g tt te o fr) (SU i)):=by
 intro pins s σ H D I h;rw[exec_Assign_Name_used _ _ _ _ ah];refine XU (wpAny_standAt (XU ?_));show wpAny _ X.A (do let _ <- comprehension (.ListComp elt [⟨tg,iter,ifs,0⟩] scope pos) scope X.env (firstIterPos [⟨tg,iter,ifs,0⟩] pos) (newList []) false (eval iter X.env) (some (assign (.Name x px) X.env))) _ _ s
 refine XU (UG (Mn (Q:=λ_ s'=>SP X pins D .next s') hc S hi ho hg ht he hs Rh Fb I h (use:=some (assign (.Name x px) X.env)) (λ_ _ z=>z) λC oC Dd m H' ys s' J q hn nC uG uE uD uC uB=>?_) (λ_ s' hq=>Yj (Yj hq)) λ_ _ e=>e);show wpAny _ X.A (assign (.Name x px) X.env (.ref Dd)) _ _ _
 refine wpAny_assign_Name (KL J hN hx (.inl hl) (v:=.ref Dd) rfl (λs2 I2=>?_) (.inr hl));have g1:=(I2.pin (C,oC) (by simp)).1
 have g1:s2.heap.get? C=some oC:=g1;have n2:s2.heap.Ns C m:=by
  obtain⟨oc,es,ep,e,r⟩:=hn;have e0:=(J.pin (C,oC) (by simp)).1
  have e0:s'.heap.get? C=some oC:=e0;rw[e]at e0;cases e0;exact⟨_,es,ep,g1,r⟩
 refine⟨m,n2,λh' OR=>⟨_,upd H' Dd (.lst ys),?_,q⟩⟩;exact I2.unpinned.turned (t':=s2.toks) (it:=C) (λb ob hb e=>OR.extBut b ob hb e) (by rw[Zb uG];exact nC) uE (.inr uD) uC uB
end
section
variable{X:Cx}
theorem Kd{x y:V}{us:Ag}(r:Vals [x,y] us):∃ u v,us=[u,v]/\RelV x u/\RelV y v:=by
 cases r with
 | cons a r =>
  cases r with
  | cons b r=>cases r;exact⟨_,_,rfl,a,b⟩
theorem ZL:∀ {ns:Ac} {us:Ag},Vals (ns.map V.int) us->IntsAre us ns
 | [],_,.nil=>.nil
 | n :: ns,_,.cons r t=>by obtain⟨tk,rfl⟩:=r;exact .cons n tk (ZL t)
theorem iF:UQ X (.type "range") (λxs H Q=>∃ j:Int,xs=[.int j]/\∀ p,H p=none->Q (.ref p) (upd H p (.rng 0 j))):=by intro pins s σ H xs us Q I r h;obtain⟨j,rfl,q⟩:=h;obtain⟨u,rfl,t,rfl⟩:=Th r;refine call_range_1 ?_;exact⟨.ref s.heap.objs.size,_,I.laid (o:=.rng 0 j) (λb u e=>Xc _ e) (XO _) ⟨_,_,_,Ym _ rfl⟩,rfl,q _ (I.hok.fresh (XO _))⟩
def Wf(lo hi:Int):Ac:=(List.range (hi - lo).toNat).map λ(i:Nat)=>lo+(i:Int)
theorem iE(lo hi:Int):(Wf lo hi).length=(hi - lo).toNat:=by unfold Wf;rw[Yd,Pc]
theorem iD{lo:Int}{n:Nat}:∀ {us:Ag},us.length=n->(∀(j:Nat) (v:Value),us[j]?=some v->∃ t,v=Value.int (lo+(j:Int)) t)->Vals (((List.range n).map λ(i:Nat)=>lo+(i:Int)).map V.int) us:=by
 induction n generalizing lo with
 | zero =>
  intro us h _;rw[YQ.mp h];exact .nil
 | succ n ih =>
  intro us h hv;cases us with
  | nil=>cases h
  | cons u us =>
   rw[List.range_succ_eq_map,Wz,Wz];refine .cons ?_ ?_
   .obtain⟨t,e⟩:=hv 0 u rfl;exact⟨t,e⟩
   .have q:=ih (lo:=lo+1) (us:=us) (UD h) λj v e=>by obtain⟨t,e'⟩:=hv (j+1) v (by simpa using e);refine⟨t,?_⟩;rw[e'];congr 1;lia
    have e:(List.range n).map (λ(i:Nat)=>lo+1+(i:Int))=((List.range n).map Nat.succ).map (λ(i:Nat)=>lo+(i:Int)):=by
     rw[Mv];refine YW λi _=>?_;show lo+1+(i:Int)=lo+((i+1:Nat):Int)
     lia
    rw[e]at q;exact q
theorem af (hc:X.calm=true):UQ X (.type "list") (λxs H Q=>∃ p lo hi,xs=[.ref p]/\H p=some (.rng lo hi)/\(-(2 ^ 62)<=lo/\lo<2 ^ 62/\-(2 ^ 62)<=hi/\hi<2 ^ 62)/\(hi - lo).toNat<=16777216 /\
  ∀ l,H l=none->Q (.ref l) (upd H l (.lst ((Wf lo hi).map V.int)))):=by
 intro pins s σ H xs us Q I r h;obtain⟨p,lo,hi,rfl,hp,⟨b1,b2,b3,b4⟩,hz,q⟩:=h;obtain⟨u,rfl,ru⟩:=Th r;obtain rfl:u=Value.ref p:=ru;obtain⟨t,u,v,e⟩:=(show ObjOk X.prog X.w H s.heap p (.rng lo hi) from I.hok p _ hp);have hn:Builtin.Range.rangeSize lo hi 1=(((hi - lo).toNat:Nat):Int):=by rw[rangeSize_one];split <;> grind
 refine call_list_range (I.ok.hd hc) (t:=t) (u:=u) (v:=v) e (small_one b1 b2 b3 b4) hn hz λh' tk acc c' hk hS ha=>?_;have hl:acc.toList.length=(hi - lo).toNat:=by rw[YD];exact ha.1
 have rv:Vals ((Wf lo hi).map V.int) acc.toList:=iD (lo:=lo) hl λj w ew=>by obtain⟨t,e⟩:=ha.2 j w (by simpa using ew);exact⟨t,by rw[e,Ov]⟩
 refine⟨.ref s.heap.objs.size,_,I.laid (o:=.lst ((Wf lo hi).map V.int)) hk (XO _) ⟨?_,acc.toList,c',rv,?_⟩,rfl,q _ (I.hok.fresh (XO _))⟩
 .rw[Yd,iE]
  have:sizeLine=16777216:=Ue
  lia
 .rw[hS]
def seen(ns:Ac):Ac:=firstMet (λi=>ns.getD i 0) ns.length
theorem uz {T:String}:UQ X (.builtin "isinstance") (λxs H Q=>∃ x t b,xs=[x,.ty T]/\TyOf X.K H x t/\PySem.W.kitOne X.K t (.type T)=some b/\Q (.bl b) H):=by intro pins s σ H xs us Q I r h;obtain⟨x,t,b,rfl,ty,e,q⟩:=h;obtain⟨u,v,rfl,ru,rv⟩:=Kd r;obtain rfl:v=Value.type T:=rv;exact bo I ru ty e λtk=>⟨.bl b,H,I.tok tk,rfl,q⟩
def HW(K:Ad)(a:Addr):It :=
 ⟨λi H=>∃ xs x,SqL K H a xs/\xs[i]?=some x,λi H v H'=>∃ T x,H T=none/\v=.ref T/\H'=upd H T (.tup [.int i,x])/\∀ xs,SqL K H a xs->xs[i]?=some x,λi H=>∃ xs,SqL K H a xs/\xs.length<=i⟩
def EY(K:Ad)(ta:TA):TI:=λσ H R=>ta σ H λvs H1=>∃ a,vs=[.ref a]/\(∃ xs,SqL K H1 a xs)/\R (HW K a) H1
theorem ae{P:Program}{w:World}{K:Ad}{elts:List Expr}{x1:Nat}{pos:Pos}(a e it:Addr)(XJ:e≠it):Turn P w K (.Tuple elts x1 pos) (HW K a) [e,it] e (λi h=>(∃ old,IsEnum h e it i old)/\h.IsListIter it a i) where
 mem:=by simp
 obj:=λi h st b hb=>by
  obtain⟨⟨old,he⟩,o,eo,c,d⟩:=st;rcases Yg.mp hb with z | hb
  .subst z;exact⟨_,he,λv z=>by have z':Data.fields _=Data.cell v:=z;cases z'⟩
  .have z:b=it:=by simpa using hb
   subst z;exact⟨o,eo,λv z=>by rw[d]at z;cases z⟩
 keep:=λi h h' st k=>by obtain⟨⟨old,he⟩,hit⟩:=st;exact⟨⟨old,k e (by simp) _ he⟩,hit.at λo x=>k it (by simp) o x⟩
 item:=by
  intro X hP hw hK hc i pins s σ H E I hf st hg;subst hP hw hK;obtain⟨xs,x,hq,hx⟩:=hg;obtain⟨⟨old,he⟩,hit⟩:=st;obtain⟨XW,rv,p,hz⟩:=I.list hq;obtain⟨u,hu,ru⟩:=rv.get hx;obtain⟨f0,f1,f2,f3,f4,f5⟩:=hf e (by simp);obtain⟨g0,g1,g2,g3,g4,g5⟩:=hf it (by simp);have uw:H s.heap.objs.size=none:=I.hok.fresh (XO _)
  refine wpAny_pyNext_enum_item he hit p.isList (x:=u) (by simpa using hu) XJ λh' ho uu hT hsz hk=>?_;have OQ:∀ b ob,s.heap.get? b=some ob->b≠s.heap.objs.size:=λb ob z=>Yt (Yl z)
  have Qs:∀ b ob,H b=some ob->b≠s.heap.objs.size:=λb ob z=>Yt (I.hok.lt z);have OP:∀ b ob,H b=some ob->b≠e/\b≠it:=λb ob z=>⟨λq=>(by rw[q,f0]at z;cases z),λq=>(by rw[q,g0]at z;cases z)⟩
  have I1:Inv X pins σ (upd H s.heap.objs.size (.tup [.int i,x])) { s with heap:=h',toks:=s.toks+1 }:=by
   refine I.step (g':=s.gens) (d':=s.drawn) (ch:=[e,it]) (λb hb=>?_) (λb o _ _ Wv z _=>hk b o (λq=>Wv (by simp[q])) (λq=>Wv (by simp[q])) z) (λb o _ _ Wv z _=>⟨o.slots,hk b o (λq=>Wv (by simp[q])) (λq=>Wv (by simp[q])) z⟩)
    (λb o _ z n=>by rw[Zb (OQ b o z)];exact n) (λb o Wv z=>⟨o,hk b o (λq=>Wv (by simp[q])) (λq=>Wv (by simp[q])) z⟩) (λb ys z=>by rw[Zb (Qs b _ z)];exact z) (λb o v z=>by rw[Zb (Qs b _ z)];exact z)
    (λb ps z=>⟨#[],by rw[Zb (Qs b _ z),z];simp⟩) (λm hm=>?_) (λb v z=>?_) I.bare
   .rcases Yg.mp hb with q | hb
    .rw[q];exact⟨f3,f1,f4,f5⟩
    .have q:b=it:=by simpa using hb
     rw[q];exact⟨g3,g1,g4,g5⟩
   .obtain⟨o,es,ep,WR,r⟩:=hm;exact⟨o,es,ep,hk _ o (YY f1) (YY g1) WR,r⟩
   .by_cases hb:b=s.heap.objs.size
    .subst hb;rw[XR]at z;cases z;exact⟨by show 2<=sizeLine;decide,[.int i s.toks,u],.cons ⟨_,rfl⟩ (.cons ru .nil),⟨_,hT,rfl,_,rfl⟩⟩
    .rw[Zb hb]at z;refine(I.hok b v z).stay (λc w' WH q=>?_) (λc q=>by rw[Zb (Qs c _ q)];exact q) λc ys q=>by rw[Zb (Qs c _ q)];exact q
     rcases WH with rfl | WH
     .exact hk c w' (OP c _ z).1 (OP c _ z).2 q
     .exact hk c w' (OP c _ WH).1 (OP c _ WH).2 q
  refine⟨_,rfl,wpAny_letOwnedTupleGo_enum ho λh2 Qr RU=>?_⟩;have fT:e≠s.heap.objs.size:=OQ e _ he
  have I2:Inv X pins σ (upd H s.heap.objs.size (.tup [.int i,x])) { s with heap:=h2,toks:=s.toks+1 }:=Inv.turned (s:={ s with heap:=h',toks:=s.toks+1 }) (h':=h2) (t':=s.toks+1) (it:=e) I1 (λb o hb z=>RU.extBut b o hb z) (by rw[Zb fT];exact f0) f1 f3 f4 f5;refine⟨.ref s.heap.objs.size,_,I2,rfl,⟨_,x,uw,rfl,rfl,λys hy=>by rw[I.list_inj hy hq];exact hx⟩,⟨⟨u,by simpa using Qr⟩,uu.at λo z=>RU.extBut it o (YY XJ) z⟩,λb hb=>?_⟩;rcases Yg.mp hb with q | hb
  .rw[q,Zb fT];exact f0
  .have q:b=it:=by simpa using hb
   obtain⟨o,eo,_⟩:=hit;rw[q,Zb (OQ it o eo)];exact g0
 done:=by
  intro X hP hw hK hc i pins s σ H E I hf st hg;subst hP hw hK;obtain⟨xs,hq,hx⟩:=hg;obtain⟨⟨old,he⟩,hit⟩:=st;obtain⟨XW,rv,p,hz⟩:=I.list hq;obtain⟨g0,g1,g2,g3,g4,g5⟩:=hf it (by simp);have hl:=rv.length
  exact wpAny_pyNext_enum_end (I.ok.hd hc) he hit p.isList (by simp;lia) λh' eb=>⟨rfl,I.turned (t':=s.toks) (it:=it) (λb o hb z=>eb b o hb z) g0 g1 g3 g4 g5⟩
 self:=λ_ _ _ _ _ st h=>let ⟨⟨_,he⟩,_⟩:=st;wpAny_pyIter_enum he h
theorem ur {elts:List Expr} {x1:Nat} {SS:Pos} {a:Expr} {ta:TA} {p pos:Pos} (hg:Gl X "enumerate") (hm:X.mg "enumerate"=none) (ha:PA X [a] ta) (hs:starEach [a] X.env=[(false,eval a X.env)]:=by rfl) :
  PI X (.Tuple elts x1 SS) (.Call (.Name "enumerate" p) [a] [] pos) (EY X.K ta):=by
 intro pins s σ H R I h;refine Call_ (VG I hg hm Boot.«enumerate» (Lw (thn (ha pos pins s σ H _ I h) λus s1 Xv=>?_) hs rfl));obtain⟨vs,H1,I1,r1,q1⟩:=Xv;obtain⟨b,e,⟨xs,hq⟩,q⟩:=q1;subst e;obtain⟨u,rfl,ru⟩:=Th r1;obtain rfl:u=Value.ref b:=ru;obtain⟨XW,rv,pl,hz⟩:=I1.list hq;refine call_enumerate_list pl.isList λh' he hit hsz hk=>?_;have I2:Inv X pins σ H1 { s1 with heap:=h' }:=I1.kept (t':=s1.toks) hk
 refine wpAny_pyIter_enum he ?_;have nn:∀ k,s1.heap.objs.size<=k->H1 k=none:=λk hk=>I1.hok.fresh hk
 refine⟨s1.heap.objs.size+1,[s1.heap.objs.size+1,s1.heap.objs.size],_,_,H1,rfl,I2,ae b _ _ (Nat.succ_ne_self _),⟨⟨_,he⟩,hit⟩,λc hc=>?_,q⟩;have hle:s1.heap.objs.size<=c:=by
  rcases Yg.mp hc with q | hc
  .rw[q];exact Um _
  .have q:c=s1.heap.objs.size:=by simpa using hc
   rw[q];exact XO _
 exact I1.fpOk hle (nn c hle)
theorem uq{k:Key}{y:V}{us:Ag}(r:Vals [kV k,y] us):∃ u v,us=[u,v]/\RelV (kV k) u/\RelV y v:=Kd r
def uo:V->List V->Hp->VK->Prop:=λx vs H Q=>∃ d kvs k y,x=.ref d/\vs=[kV k,y]/\H d=some (.dK kvs)/\kvs.length<sizeLine/\(∀ v,Wy kvs k=some v->Q v H)/\(Wy kvs k=none->Q y (upd H d (.dK (kvs++[(k,y)]))))
theorem aa:Ko X "dict.setdefault" uo:=by
 intro pins s σ H x vs v us Q I rx rv h;obtain⟨d,kvs,k,y,rfl,rfl,hH,hz,h1,h2⟩:=h;cases rx;obtain⟨uk,uy,rfl,rk,ry⟩:=uq rv;obtain⟨z,hd,ws,rel,dd⟩:=Kk I.hok hH;refine call_meetsIn jM dd.typeIs PySem.F.entry_dict_setdefault (PySem.F.args_dict_setdefault_3 _ _ _) (kt_meets_setdefault (VQ X.prog X.w) d (vc rk) hd uy)
  ⟨ws,dd,by rw[<- rel.length];exact z,λv' z3=>?_,λhn h' iC hs=>?_⟩
 .cases e:Wy kvs k with
  | none =>
   have q:=rel.val k;rw[e,z3]at q;exact False.elim q
  | some w' =>
   have q:=rel.val k;rw[e,z3]at q;exact⟨w',H,I.tok _,q,h1 w' e⟩
 .have e:Wy kvs k=none:=by
   cases e:Wy kvs k with
   | none=>rfl
   | some w' =>
    have q:=rel.val k;rw[e,hn]at q;exact False.elim q
  have he:∃ q,h'.get? d=some q:=let ⟨q,_,_,hq,_⟩:=iC;⟨q,hq⟩
  refine⟨y,_,uZ (ob:=.dK (putK kvs k y)) I (by rw[hH];exact True.intro) hs he (uY ?_ hd (rel.put k ry) iC),ry,?_⟩
  .have:=aS kvs k y;lia
  .rw[aR y e];exact h2 e
def RO(p d:Addr):HO:=.ext λh=>h.IsValuesView p d
def um:V->List V->Hp->VK->Prop:=λx vs H Q=>∃ d kvs,x=.ref d/\vs=[]/\H d=some (.dK kvs)/\∀ p,H p=none->Q (.ref p) (upd H p (RO p d))
theorem uj:Ko X "dict.values" um:=by
 intro pins s σ H x vs v us Q I rx rv h;obtain⟨d,kvs,rfl,rfl,hH,q⟩:=h;cases rx;cases rv;obtain⟨z,hd,ws,rel,dd⟩:=Kk I.hok hH;refine call_meetsIn jE dd.typeIs PySem.F.entry_dict_values (PySem.F.args_dict_values_1 _) (meets_dict_values (VQ X.prog X.w) d hd) ⟨⟨ws,dd⟩,?_⟩;refine⟨.ref s.heap.objs.size,_,I.laid (o:=RO s.heap.objs.size d) (λb u e=>Xc _ e) (XO _) ?_,rfl,q _ (I.hok.fresh (XO _))⟩;have e:=Ym s.heap (o:={ cls:=.type "dict_values",data:=.fields #[.ref d] }) rfl
 exact⟨⟨_,e,rfl,rfl⟩,⟨_,e⟩,λh1 h2 ⟨o,ho,r⟩ k=>⟨o,k o ho,r⟩⟩
theorem Zy8{P:Program}{w:World}{h:Heap}{d:Addr}{ws:List (Key × Value)}(dd:h.DictOf (VQ P w) d ws):∃ ep,h.DictAt (VQ P w) d ws ep:=by obtain⟨o,es,ep,r⟩:=dd;exact⟨ep,o,es,r⟩
theorem iz{κ:Type}:∀ {kvs:List (κ × V)} {ws:List (κ × Value)},KV kvs ws->Vals (kvs.map (·.2)) (ws.map (·.2))
 | _,_,.nil=>.nil
 | _,_,.cons r t=>.cons r.2 (iz t)
theorem Zo3 (hc:X.calm=true):UQ X (.type "list") (λxs H Q=>∃ p d kvs,xs=[.ref p]/\H p=some (RO p d)/\H d=some (.dK kvs)/\∀ l,H l=none->Q (.ref l) (upd H l (.lst (kvs.map (·.2))))):=by
 intro pins s σ H xs us Q I r h;obtain⟨p,d,kvs,rfl,hp,hd,q⟩:=h;obtain⟨u,rfl,ru⟩:=Th r;obtain rfl:u=Value.ref p:=ru;obtain⟨hv,_,_⟩:=(show ObjOk X.prog X.w H s.heap p (RO p d) from I.hok p _ hp);obtain⟨z,hds,ws,rel,dd⟩:=Kk I.hok hd;obtain⟨ep,da⟩:=Zy8 dd;have hl:ws.length=kvs.length:=rel.length.symm
 refine PySem.W.kdl_call (PySem.W.kdl_values (knd:=VQ X.prog X.w) (kvs:=ws) (ep:=ep) (r:=p) (d:=d)) (I.ok.hd hc) ⟨hv,da⟩ (by lia) λh' tk acc c' hk hS ha=>?_;have ea:acc.toList=ws.map (·.2):=by
  refine RY λi=>?_;cases e:acc.toList[i]? with
  | none =>
   have:ws.length<=i:=by
    have:=jJ.mp e
    rw[YD,ha.1]at this;exact this
   rw[jJ.mpr (by rw[Yd];exact this)]
  | some v =>
   obtain⟨k,ek⟩:=ha.2 i v (by simpa using e);rw[Yp,ek];rfl
 refine⟨.ref s.heap.objs.size,_,I.laid (o:=.lst (kvs.map (·.2))) hk (XO _) ⟨by rw[Yd];exact z,acc.toList,c',?_,by rw[hS]⟩,rfl,q _ (I.hok.fresh (XO _))⟩;rw[ea];exact iz rel
end
inductive EqD (K:Ad) (H:Hp):Nat->V->V->Bool->Prop
 | flat {n:Nat} {x y:V} (fx:Tf x=true) (fy:Tf y=true):EqD K H n x y (TU x y)
 | lsts {n:Nat} {a b:Addr} {xs ys:List V} {e:Nat->Bool} (ha:SqL K H a xs) (hb:SqL K H b ys) (hl:xs.length=ys.length) (h:∀ i x y,xs[i]?=some x->ys[i]?=some y->EqD K H n x y (e i)):EqD K H (n+1) (.ref a) (.ref b) ((List.range xs.length).all e)
 | lens {n:Nat} {a b:Addr} {xs ys:List V} (ha:SqL K H a xs) (hb:SqL K H b ys) (hl:xs.length≠ys.length):EqD K H (n+1) (.ref a) (.ref b) false
 | tups {n:Nat} {a b:Addr} {xs ys:List V} {e:Nat->Bool} (ha:SqT K H a xs) (hb:SqT K H b ys) (h:∀ i x y,xs[i]?=some x->ys[i]?=some y->EqD K H n x y (e i)) :
   EqD K H (n+1) (.ref a) (.ref b) ((List.range (min xs.length ys.length)).all e && xs.length == ys.length)
theorem ui{x:V}(h:Tf x=true):TU x x=true:=by cases x <;> first | rfl | (simp[TU];done) | exact absurd (show false=true from h) Yv
section
variable{X:Cx}{pins:List (Addr × Obj)}{σ:St}{H:Hp}{s:Shared}
theorem Vals.at{xs:List V}{us:Ag}{j:Nat}(r:Vals xs us)(h:j<us.length):∃ x,xs[j]?=some x/\RelV x us[j]:=by
 have hl:=r.length;have hx:xs[j]?=some (xs[j]'(by lia)):=Xo (by omega)
 obtain⟨u,e,ru⟩:=r.get hx;rw[Xo h]at e;cases e;exact⟨_,hx,ru⟩
theorem EqD.self{n:Nat}{x y:V}{b:Bool}(q:EqD X.K H n x y b)(I:Inv X pins σ H s):x=y->b=true:=by
 induction q with
 | flat fx fy=>intro e;subst e;exact ui fx
 | @lsts n a b xs ys e ha hb hl h ih =>
  intro z;cases z;have e1:xs=ys:=I.list_inj ha hb
  subst e1;rw[QS];intro i hi;have hx:xs[i]?=some (xs[i]'(YI.mp hi)):=Xo _
  exact ih i _ _ hx hx rfl
 | @lens n a b xs ys ha hb hl =>
  intro z;cases z;exact absurd (Xw List.length (I.list_inj ha hb)) hl
 | @tups n a b xs ys e ha hb h ih =>
  intro z;cases z;have e1:xs=ys:=I.tuple_inj ha hb
  subst e1;rw[Nat.min_self,MB,QS];refine⟨λi hi=>?_,by simp⟩;have hx:xs[i]?=some (xs[i]'(YI.mp hi)):=Xo _
  exact ih i _ _ hx hx rfl
theorem EqD.at{n:Nat}{x y:V}{b:Bool}(q:EqD X.K H n x y b)(I:Inv X pins σ H s):∀ {A:Around} {u v:Value},A.units+n<cLine->RelV x u->RelV y v->SeqAt.EqAt A s u v b:=by
 induction q with
 | flat fx fy=>intro A u v _ ru rv;exact Fw ru rv fx fy
 | @lsts n a b xs ys e ha hb hl h ih =>
  intro A u v hu ru rv;obtain rfl:u=Value.ref a:=ru;obtain rfl:v=Value.ref b:=rv;by_cases VI:a=b
  .have z:=EqD.self (EqD.lsts ha hb hl h) I (Xw V.ref VI);rw[z,VI];exact SeqAt.EqAt.same _
  obtain⟨us,rx,px,_⟩:=I.list ha;obtain⟨vs,ry,py,_⟩:=I.list hb;have l1:=rx.length
  have l2:=ry.length;have z:=SeqAt.RcAt.lists (A:=A) (s:=s) (e:=e) px.isList py.isList (by rw[Yb,Yb];lia) (by lia) λj h1 h2=>by obtain⟨x,ex,Qq⟩:=rx.at (j:=j) (by simpa using h1);obtain⟨y,ey,Qp⟩:=ry.at (j:=j) (by simpa using h2);exact ih j x y ex ey (A:=A.in1) (by show A.units+1+n<cLine;lia) (by simpa using Qq) (by simpa using Qp)
  rw[Yb,<- l1]at z;exact KY VI z
 | @lens n a b xs ys ha hb hl =>
  intro A u v hu ru rv;obtain rfl:u=Value.ref a:=ru;obtain rfl:v=Value.ref b:=rv;obtain⟨us,rx,px,_⟩:=I.list ha;obtain⟨vs,ry,py,_⟩:=I.list hb;have l1:=rx.length
  have l2:=ry.length;have VI:a≠b:=λz=>by subst z;exact hl (Xw List.length (I.list_inj ha hb))
  exact KY VI (SeqAt.RcAt.lists_lengths px.isList py.isList (by rw[Yb,Yb];simp;lia) (by omega))
 | @tups n a b xs ys e ha hb h ih =>
  intro A u v hu ru rv;obtain rfl:u=Value.ref a:=ru;obtain rfl:v=Value.ref b:=rv;by_cases VI:a=b
  .have z:=EqD.self (EqD.tups ha hb h) I (Xw V.ref VI);rw[z,VI];exact SeqAt.EqAt.same _
  obtain⟨us,rx,px,_⟩:=I.tuple ha;obtain⟨vs,ry,py,_⟩:=I.tuple hb;have l1:=rx.length
  have l2:=ry.length;have z:=SeqAt.RcAt.tuples (A:=A) (s:=s) (e:=e) (show s.heap.IsTuple a us.toArray from px) (show s.heap.IsTuple b vs.toArray from py) (by omega) λj h1 h2=>by obtain⟨x,ex,Qq⟩:=rx.at (j:=j) (by simpa using h1);obtain⟨y,ey,Qp⟩:=ry.at (j:=j) (by simpa using h2);exact ih j x y ex ey (A:=A.in1) (by show A.units+1+n<cLine;omega) (by simpa using Qq) (by simpa using Qp)
  rw[Yb,Yb,<- l1,<- l2]at z;exact KY VI z
end
section
variable{X:Cx}
def NW(K:Ad)(neg:Bool):R2:=λx y H Q=>∃ n b p q,x=.ref p/\y=.ref q/\n<=6/\EqD K H n x y b/\Q (.bl (if neg then !b else b)) H
theorem uh(hu:X.A.units+8<cLine):WG X (compareOp .Eq) (NW X.K false):=by
 intro pins s σ H x y u v Q I ru rv h;obtain⟨n,b,p,q,rfl,rfl,hn,d,hq⟩:=h;obtain rfl:u=Value.ref p:=ru;obtain rfl:v=Value.ref q:=rv;have fin:EP X pins σ Q (.bool b) s:=⟨.bl b,H,I,rfl,hq⟩
 cases d with
 | flat fx fy=>exact absurd (show false=true from fx) Yv
 | @lsts n _ _ xs ys e ha hb hl h =>
  obtain⟨us,rx,px,_⟩:=I.list ha;obtain⟨vs,ry,py,_⟩:=I.list hb;have l1:=rx.length
  have l2:=ry.length;refine SeqAt.eq_listAt (e:=e) px.isList py.isList (by rw[Yb,Yb];lia) (by lia) (λj h1 h2=>?_) (by rw[Yb,<- l1];exact fin);obtain⟨x,ex,Qq⟩:=rx.at (j:=j) (by simpa using h1);obtain⟨y,ey,Qp⟩:=ry.at (j:=j) (by simpa using h2);exact(h j x y ex ey).at I (A:=X.A.in1) (by show X.A.units+1+n<cLine;lia) (by simpa using Qq) (by simpa using Qp)
 | @lens n _ _ xs ys ha hb hl =>
  obtain⟨us,rx,px,_⟩:=I.list ha;obtain⟨vs,ry,py,_⟩:=I.list hb;have l1:=rx.length
  have l2:=ry.length;exact SeqAt.eq_list_lengthsAt px.isList py.isList (by rw[Yb,Yb];simp;lia) (by omega) fin
 | @tups n _ _ xs ys e ha hb h =>
  obtain⟨us,rx,px,_⟩:=I.tuple ha;obtain⟨vs,ry,py,_⟩:=I.tuple hb;have l1:=rx.length
  have l2:=ry.length;refine SeqAt.eq_tupleAt (e:=e) (show s.heap.IsTuple p us.toArray from px) (show s.heap.IsTuple q vs.toArray from py) (by omega) (λj h1 h2=>?_) (by rw[Yb,Yb,<- l1,<- l2];exact fin);obtain⟨x,ex,Qq⟩:=rx.at (j:=j) (by simpa using h1);obtain⟨y,ey,Qp⟩:=ry.at (j:=j) (by simpa using h2);exact(h j x y ex ey).at I (A:=X.A.in1) (by show X.A.units+1+n<cLine;omega) (by simpa using Qq) (by simpa using Qp)
theorem ug(hu:X.A.units+8<cLine):WG X (compareOp .NotEq) (NW X.K true):=by
 intro pins s σ H x y u v Q I ru rv h;obtain⟨n,b,p,q,rfl,rfl,hn,d,hq⟩:=h;obtain rfl:u=Value.ref p:=ru;obtain rfl:v=Value.ref q:=rv;have fin:EP X pins σ Q (.bool (!b)) s:=⟨.bl (!b),H,I,rfl,hq⟩
 cases d with
 | flat fx fy=>exact absurd (show false=true from fx) Yv
 | @lsts n _ _ xs ys e ha hb hl h =>
  obtain⟨us,rx,px,_⟩:=I.list ha;obtain⟨vs,ry,py,_⟩:=I.list hb;have l1:=rx.length
  have l2:=ry.length;refine SeqAt.RcNeAt.lists (e:=e) px.isList py.isList (by rw[Yb,Yb];omega) (by omega) (λj h1 h2=>?_) _ _ _ _ (by rw[Yb,<- l1];exact fin);obtain⟨x,ex,Qq⟩:=rx.at (j:=j) (by simpa using h1);obtain⟨y,ey,Qp⟩:=ry.at (j:=j) (by simpa using h2);exact(h j x y ex ey).at I (A:=X.A.in1) (by show X.A.units+1+n<cLine;omega) (by simpa using Qq) (by simpa using Qp)
 | @lens n _ _ xs ys ha hb hl =>
  obtain⟨us,rx,px,_⟩:=I.list ha;obtain⟨vs,ry,py,_⟩:=I.list hb;have l1:=rx.length
  have l2:=ry.length;exact SeqAt.RcNeAt.lists_lengths px.isList py.isList (by rw[Yb,Yb];simp;omega) (by omega) _ _ _ _ fin
 | @tups n _ _ xs ys e ha hb h =>
  obtain⟨us,rx,px,_⟩:=I.tuple ha;obtain⟨vs,ry,py,_⟩:=I.tuple hb;have l1:=rx.length
  have l2:=ry.length;refine SeqAt.RcNeAt.tuples (e:=e) (show s.heap.IsTuple p us.toArray from px) (show s.heap.IsTuple q vs.toArray from py) (by omega) (λj h1 h2=>?_) _ _ _ _ (by rw[Yb,Yb,<- l1,<- l2];exact fin);obtain⟨x,ex,Qq⟩:=rx.at (j:=j) (by simpa using h1);obtain⟨y,ey,Qp⟩:=ry.at (j:=j) (by simpa using h2);exact(h j x y ex ey).at I (A:=X.A.in1) (by show X.A.units+1+n<cLine;omega) (by simpa using Qq) (by simpa using Qp)
end
end L2
namespace My
open PySem L2
abbrev IL(ns:Ac):List V:=ns.map V.int
theorem Xr(ns:Ac):(IL ns).length=ns.length:=Yd ..
theorem EX(a b:Ac):IL (a++b)=IL a++IL b:=QP ..
theorem ZX(a:Ac)(r:Int):IL (a++[r])=IL a++[.int r]:=QP ..
theorem EW(a:Ac)(n:Nat):IL (a.take n)=(IL a).take n:=List.map_take ..
theorem uf(a:Ac)(n:Nat):IL (a.drop n)=(IL a).drop n:=List.map_drop ..
theorem ue(a:Ac)(n:Nat)(z:Int):IL (a.set n z)=(IL a).set n (.int z):=List.map_set ..
theorem TQ{ns:Ac}{i:Nat}{z:Int}(h:ns[i]?=some z):(IL ns)[i]?=some (.int z):=by rw[Yp,h];rfl
theorem WL{ns:Ac}{i:Nat}{x:V}(h:(IL ns)[i]?=some x):∃ z,x=.int z/\ns[i]?=some z:=by
 rw[Yp]at h;cases e:ns[i]? with
 | none=>rw[e]at h;cases h
 | some z=>rw[e]at h;exact⟨z,(Yi h).symm,rfl⟩
theorem ZE{H H2:Hp}{a:Addr}{o:HO}(hn:H a=none)(s:Same H H2):Same H (upd H2 a o):=λb u e=>by rw[Zb (Zc e hn)];exact s b u e
theorem Zw{H H2:Hp}{p:Addr}{o:HO}(s:Same H H2)(hp:H2 p=none):Same H (upd H2 p o):=ZE (s.free hp) s
theorem XH{H:Hp}{p:Addr}{o:HO}(hp:H p=none):Same H (upd H p o):=Zw (Same.refl H) hp
theorem Mm{K:Ad}{H H':Hp}{a:Addr}{xs:List V}(e:Same H H')(h:SqT K H a xs):SqT K H' a xs:=by
 rcases h with (h | ⟨o,h⟩) | h
 .exact .inl (.inl (e _ _ h))
 .exact .inl (.inr ⟨o,e _ _ h⟩)
 .exact .inr h
theorem TN{n:Nat}(h:n<=1000000):n<=sizeLine:=Yr h (by decide)
theorem Zm{n:Nat}(h:n<=1000000):n<sizeLine:=AF h (by decide)
theorem HV{A:Around}{k:Nat}(hr:Room k A):A.units+8<cLine:=AF (Nat.add_le_add_left (by decide:8<=64) _) hr.units
theorem ZN{α:Type}{xs:List α}{i:Int}{n:Nat}{x:α}(hi:i=(n:Int))(h:xs[n]?=some x):Wb xs i=some x:=by
 subst hi;have hn:n<xs.length:=(Xp.mp h).1
 unfold Wb Oc;rw[if_pos (Int.natCast_nonneg n),if_pos (by omega)];simpa using h
theorem zR{c A B:Prop}[Decidable c](hc:c)(h:A):if decide c=true then A else B:=by rw[if_pos (Yw hc)];exact h
theorem Kc{c A B:Prop}[Decidable c](hc:¬ c)(h:B):if decide c=true then A else B:=by rw[if_neg (by simp[hc])];exact h
theorem ud{c A B:Prop}[Decidable c](hc:c)(h:B):if (!decide c)=true then A else B:=by rw[if_neg (by simp[hc])];exact h
theorem uc{c A B:Prop}[Decidable c](hc:¬ c)(h:A):if (!decide c)=true then A else B:=by rw[if_pos (by simp[hc])];exact h
theorem WV{c A B:Prop}[Decidable c](h1:c->A)(h2:¬ c->B):if decide c=true then A else B:=by
 by_cases h:c
 .exact zR h (h1 h)
 .exact Kc h (h2 h)
theorem WE{c A B:Prop}[Decidable c](h1:c->B)(h2:¬ c->A):if (!decide c)=true then A else B:=by
 by_cases h:c
 .exact ud h (h1 h)
 .exact uc h (h2 h)
theorem t9{b:Bool}{A B:Prop}(h1:b=true->A)(h2:b=false->B):if b=true then A else B:=by
 cases b with
 | true=>exact VF (h1 rfl)
 | false=>exact Vd (h2 rfl)
theorem Kb{b:Bool}{A B:Prop}(h1:b=true->B)(h2:b=false->A):if (!b)=true then A else B:=by
 cases b with
 | true=>exact Vd (h1 rfl)
 | false=>exact VF (h2 rfl)
def SqK(k:Bool)(K:Ad)(H:Hp)(a:Addr)(xs:List V):Prop:=match k with
 | false=>SqL K H a xs
 | true=>SqT K H a xs
theorem SqK.same{k:Bool}{K:Ad}{H H':Hp}{a:Addr}{xs:List V}(e:Same H H')(h:SqK k K H a xs):SqK k K H' a xs:=by
 cases k with
 | false=>exact e.seq h
 | true=>exact Mm e h
theorem SqK.or{k:Bool}{K:Ad}{H:Hp}{a:Addr}{xs:List V}(h:SqK k K H a xs):SqL K H a xs\/SqT K H a xs:=by
 cases k with
 | false=>exact .inl h
 | true=>exact .inr h
def EV(K:Ad)(tl:TE):TI:=λσ H R=>tl σ H λx H1=>∃ a,x=.ref a/\(((∃ xs,SqL K H1 a xs)/\R (QF K a) H1)\/((∃ xs,SqT K H1 a xs)/\R (QE K a) H1))
theorem Ka{X:Cx}{tg:Expr}{l:Expr}{tl:TE}(hl:PE X l tl):PI X tg l (EV X.K tl):=by
 intro pins s σ H R I h;refine thn (hl pins s σ H _ I h) λv s1 Xv=>?_;obtain⟨x,H1,I1,r1,q1⟩:=Xv;obtain⟨a,e,q⟩:=q1;subst e;cases r1;rcases q with ⟨⟨xs,hq⟩,q⟩ | ⟨⟨xs,hq⟩,q⟩
 .obtain⟨XW,rv,p,hz⟩:=I1.list hq;refine w9 p.isList ?_;refine⟨s1.heap.objs.size,[s1.heap.objs.size],_,_,H1,rfl,I1.kept (t':=s1.toks) λb o e=>Xc _ e,jd a _,⟨_,Ym _ rfl,rfl,rfl⟩,λb hb=>?_,q⟩;have e:b=s1.heap.objs.size:=by simpa using hb
  subst e;exact I1.fpOk (XO _) (I1.hok.fresh (XO _))
 .obtain⟨XW,rv,p,hz⟩:=I1.tuple hq;refine wpAny_pyIter_tuple (show s1.heap.IsTuple a XW.toArray from p) ?_;refine⟨s1.heap.objs.size,[s1.heap.objs.size],_,_,H1,rfl,I1.kept (t':=s1.toks) λb o e=>Xc _ e,jc a _,⟨_,Ym _ rfl,rfl,rfl⟩,λb hb=>?_,q⟩;have e:b=s1.heap.objs.size:=by simpa using hb
  subst e;exact I1.fpOk (XO _) (I1.hok.fresh (XO _))
theorem zQ{K:Ad}{k:Bool}{a:Addr}{xs:List V}{g:TG}{tb:TS}{D:Ends}{σ:St}{H:Hp}(Pv:Nat->St->Hp->Prop)(h0:Pv 0 σ H)(hl:∀ i σ H,i<=xs.length->Pv i σ H->SqK k K H a xs)
  (hs:∀ i x σ H,xs[i]?=some x->Pv i σ H->g x σ H λσ2 H2=>tb { D with nx:=Pv (i+1),ct:=Pv (i+1),bk:=D.nx } σ2 H2) (hd:∀ σ H,Pv xs.length σ H->D.nx σ H) :
  (((∃ xs,SqL K H a xs)/\∃ W:Nat->Nat->St->Hp->Prop,(∃ m,W 0 m σ H)/\∀ i m σ H,W i m σ H ->
   ((QF K a).stop i H/\D.nx σ H)\/((QF K a).go i H/\∃ N:St->Hp->Prop,(∀ σ' H',N σ' H'->∃ m',m'<m/\W (i+1) m' σ' H')/\∀ x H',(QF K a).yld i H x H'->g x σ H' λσ2 H2=>tb { D with nx:=N,ct:=N,bk:=D.nx } σ2 H2)) \/
  ((∃ xs,SqT K H a xs)/\∃ W:Nat->Nat->St->Hp->Prop,(∃ m,W 0 m σ H)/\∀ i m σ H,W i m σ H ->
   ((QE K a).stop i H/\D.nx σ H)\/((QE K a).go i H/\∃ N:St->Hp->Prop,(∀ σ' H',N σ' H'->∃ m',m'<m/\W (i+1) m' σ' H')/\∀ x H',(QE K a).yld i H x H'->g x σ H' λσ2 H2=>tb { D with nx:=N,ct:=N,bk:=D.nx } σ2 H2))):=by
 cases k with
 | false=>exact .inl ⟨⟨xs,hl 0 σ H (Yo _) h0⟩,wa (K:=K) (a:=a) (xs:=xs) Pv h0 hl hs hd⟩
 | true=>exact .inr ⟨⟨xs,hl 0 σ H (Yo _) h0⟩,i8 (K:=K) (a:=a) (xs:=xs) Pv h0 hl hs hd⟩
def PairV(H:Hp)(v:V)(p:Int × Int):Prop:=∃ t,v=.ref t/\H t=some (.tup [.int p.1,.int p.2])
def PairsV(H:Hp)(xs:List V)(ps:Aa):Prop:=xs.length=ps.length/\∀(i:Nat) (p:Int × Int),ps[i]?=some p->∃ v,xs[i]?=some v/\PairV H v p
theorem PairV.same{H H':Hp}{v:V}{p:Int × Int}(s:Same H H')(h:PairV H v p):PairV H' v p:=let ⟨t,e,q⟩:=h;⟨t,e,s _ _ q⟩
theorem PairsV.same{H H':Hp}{xs:List V}{ps:Aa}(s:Same H H')(h:PairsV H xs ps):PairsV H' xs ps:=⟨h.1,λi p e=>let ⟨v,e1,q⟩:=h.2 i p e;⟨v,e1,q.same s⟩⟩
theorem PairsV.at{H:Hp}{xs:List V}{ps:Aa}(h:PairsV H xs ps){i:Nat}{v:V}(e:xs[i]?=some v):∃ p,ps[i]?=some p/\PairV H v p:=by
 have hi:i<xs.length:=(Xp.mp e).1;have hp:i<ps.length:=by rw[<- h.1];exact hi
 obtain⟨v',e1,q⟩:=h.2 i ps[i] (Xo hp);rw[e]at e1;cases e1;exact⟨_,Xo hp,q⟩
theorem PairsV.nil{H:Hp}:PairsV H [] []:=⟨rfl,λi p e=>by simp at e⟩
theorem PairsV.snoc{H:Hp}{xs:List V}{ps:Aa}{v:V}{p:Int × Int}(h:PairsV H xs ps)(q:PairV H v p):PairsV H (xs++[v]) (ps++[p]):=by
 refine⟨by rw[Xs,Xs,h.1];rfl,λi p' e=>?_⟩;by_cases hi:i<ps.length
 .rw[Ys hi]at e;rw[Ys (by rw[h.1];exact hi)];exact h.2 i p' e
 .have hl:i=ps.length:=by
   have:=(Xp.mp e).1
   rw[Xs,Yk]at this;lia
  subst hl;rw[Yq (XO _),UC]at e;rw[Yq (by rw[h.1];exact XO _),h.1,UC];have e':p=p':=Yi e
  subst e';exact⟨v,rfl,q⟩
theorem PairsV.app{H:Hp}{xs ys:List V}{ps qs:Aa}(h:PairsV H xs ps)(h2:PairsV H ys qs):PairsV H (xs++ys) (ps++qs):=by
 refine⟨by rw[Xs,Xs,h.1,h2.1],λi p e=>?_⟩;by_cases hi:i<ps.length
 .rw[Ys hi]at e;rw[Ys (by rw[h.1];exact hi)];exact h.2 i p e
 .rw[Yq (by lia)]at e;rw[Yq (by rw[h.1];omega),h.1];exact h2.2 _ p e
theorem t8:¬ (("places":Str)="ties"):=by decide +kernel
def wf (n:Int) (tl:Addr):List (Str × V):=XQ "ties" (.ref tl) (XQ "places" (.int n) [])
theorem JZ (n:Int) (tl:Addr):(wf n tl).lookup ("places":Str)=some (.int n):=by unfold wf;rw[QB,if_neg t8,QB,if_pos rfl]
theorem Qo (n:Int) (tl:Addr):(wf n tl).lookup ("ties":Str)=some (.ref tl):=by unfold wf;rw[QB,if_pos rfl]
def WebAt(C:Addr)(H:Hp)(w:Addr)(n:Int)(ps:Aa):Prop:=∃ dx tl xs,H w=some (.ins C dx (wf n tl))/\H tl=some (.lst xs)/\PairsV H xs ps
theorem WebAt.same{C:Addr}{H H':Hp}{w:Addr}{n:Int}{ps:Aa}(s:Same H H')(h:WebAt C H w n ps):WebAt C H' w n ps:=let ⟨dx,tl,xs,a,b,c⟩:=h;⟨dx,tl,xs,s _ _ a,s _ _ b,c.same s⟩
def Zt(n:Int)(ps:Aa):Prop:=1<=n/\n<=14/\ps.length<=30/\∀ p∈ps,0<=p.1/\p.1<n/\0<=p.2/\p.2<n
def FX(K:Ad)(mg:Af)(x qual:Str)(st:Stmt):Prop:=∃(f:Addr) (fd:FuncData),mg x=some (.ref f)/\Fun K x qual st f fd
theorem XS{K:Ad}{h:Heap}{mg:Af}{x:Str}{st:Stmt}{f:Addr}{oc:Value}{od an:Option Addr}{Uy:Array (Option Value)}{kV doc pm Xz ct:Value}(X:K.In h)(G:h.Ns mainGlobals mg)
  (a:PySem.W.nsIn K mainGlobals x=some (some (.ref f))) (l:K.lookup f=some ⟨oc,od,.func (PySem.W.fnOf x x (Ki st) (Qx st) (XA st) .none kV doc pm an Xz ct),Uy⟩) (c:PySem.W.codeIn K Xz x=true) (k:PySem.W.keepIn K (.ref f)=true):FX K mg x x st :=
 ⟨f,_,Ud X G a,Kh l c k⟩
def iy (K:Ad) (mg:Af) (x qual:Str) (st:Stmt) (fs:List Str):Prop:=∃(C f:Addr) (fd:FuncData),mg x=some (.ref C)/\Fun K "__init__" qual st f fd/\Cls K C/\Mk K C f/\∀ a∈fs,NoAttr K C a
theorem EU{K:Ad}{h:Heap}{mg:Af}{x qual:Str}{fs:List Str}{st:Stmt}{C f:Addr}{oc:Value}{od an:Option Addr}{Uy:Array (Option Value)}{kV doc pm Xz ct:Value}(X:K.In h)(G:h.Ns mainGlobals mg)
  (aC:PySem.W.nsIn K mainGlobals x=some (some (.ref C))) (a:PySem.W.findIn K (.ref C) "__init__"=some (some (.ref f))) (i:PySem.W.isFn K (.ref f)=true)
  (l:K.lookup f=some ⟨oc,od,.func (PySem.W.fnOf "__init__" qual (Ki st) (Qx st) (XA st) .none kV doc pm an Xz ct),Uy⟩) (c:PySem.W.codeIn K Xz qual=true) (k:PySem.W.keepIn K (.ref f)=true)
  (pg:PySem.W.plainGet K C Str.empty=true) (hd:PySem.W.hasDictIn K C=true) (po:PySem.W.plainOver K C=true) (sa:PySem.W.findIn K (.ref C) "__setattr__"=some (some (.builtin "object.__setattr__"))) (mk:PySem.W.makesIn K C=true) (kc:PySem.W.keepIn K (.ref C)=true)
  (na:∀ a∈fs,PySem.W.findIn K (.ref C) a=some none):iy K mg x qual st fs :=
 ⟨C,f,_,Ud X G aC,Kh l c k,⟨pg,hd,po,sa⟩,⟨mk,a,i,kc⟩,na⟩
theorem TM{K:Ad}{h:Heap}{mg:Af}{x:Str}{z:Int}{v:Value}(X:K.In h)(G:h.Ns mainGlobals mg)(a:PySem.W.nsIn K mainGlobals x=some (some v))(e:∃ tk,v=.int z tk):∃ tk,mg x=some (.int z tk):=by obtain⟨tk,rfl⟩:=e;exact⟨tk,Ud X G a⟩
theorem ix{i:Nat}{x:V}{σ:St}{H:Hp}{A B:St->Hp->Prop}(h:A (σ.set i (some x)) H):SU i x σ H λσ2 H2=>tYes σ2 H2 λb H3=>if b=true then A σ2 H3 else B σ2 H3 :=
 (show if true=true then A (σ.set i (some x)) H else B (σ.set i (some x)) H from VF h)
theorem nm{i:Nat}{x:V}{σ:St}{H:Hp}{Q:St->Hp->Prop}(h:Q (σ.set i (some x)) H):SU i x σ H Q:=h
section
variable{K:Ad}{a:Addr}{xs:List V}{g:TG}{tt:TT}{te:TE}{o:Nat}{fr:List Nat}{σ:St}{H:Hp}{Q:VK}
abbrev HU(Pv:Nat->List V->Hp->Prop)(g:TG)(tt:TT)(te:TE)(o:Nat)(fr:List Nat)(σ:St)(i:Nat)(x:V)(ys:List V)(H:Hp):Prop :=
 ∀ S:Nat->List V->Hp->Prop,(∀ ys H,Pv (i+1) ys H->S (i+1) ys H)->g x (σC o fr σ) H λσ2 H2=>tt σ2 H2 λb H3=>if b=true then te σ2 H3 λy H4=>S (i+1) (ys++[y]) H4 else S (i+1) ys H3
theorem NV(Pv:Nat->List V->Hp->Prop)(h0:Pv 0 [] H)(hz:xs.length<sizeLine)(hl:∀ i ys H,i<=xs.length->Pv i ys H->SqL K H a xs/\ys.length<=i)
  (hs:∀ i x ys H,xs[i]?=some x->Pv i ys H->HU Pv g tt te o fr σ i x ys H) (hd:∀ ys H,Pv xs.length ys H->∀ p,H p=none->Q (.ref p) (upd H p (.lst ys))):Mo (QF K a) g tt te o fr σ H Q:=by
 refine⟨λi m ys H=>m=xs.length - i/\i<=xs.length/\Pv i ys H,⟨xs.length,by simp,Yo _,h0⟩,?_⟩;rintro i m ys H ⟨rfl,hi,p⟩;obtain⟨q,hy⟩:=hl i ys H hi p;by_cases Xi:i<xs.length
 .refine .inr ⟨⟨xs,xs[i],q,by simp[Xi]⟩,by lia,λx H' ⟨e,y⟩=>?_⟩;subst e;have hx:=y xs q
  exact hs i x ys _ hx p (λj ys H=>∃ m',m'<xs.length - i/\m'=xs.length - j/\j<=xs.length/\Pv j ys H) λys H p'=>⟨xs.length - (i+1),by grind,rfl,Xi,p'⟩
 .have e:i=xs.length:=by lia
  subst e;exact .inl ⟨⟨xs,q,XO _⟩,by lia,hd ys H p⟩
theorem JY(Pv:Nat->List V->Hp->Prop)(h0:Pv 0 [] H)(hz:xs.length<sizeLine)(hl:∀ i ys H,i<=xs.length->Pv i ys H->SqT K H a xs/\ys.length<=i)
  (hs:∀ i x ys H,xs[i]?=some x->Pv i ys H->HU Pv g tt te o fr σ i x ys H) (hd:∀ ys H,Pv xs.length ys H->∀ p,H p=none->Q (.ref p) (upd H p (.lst ys))):Mo (QE K a) g tt te o fr σ H Q:=by
 refine⟨λi m ys H=>m=xs.length - i/\i<=xs.length/\Pv i ys H,⟨xs.length,by simp,Yo _,h0⟩,?_⟩;rintro i m ys H ⟨rfl,hi,p⟩;obtain⟨q,hy⟩:=hl i ys H hi p;by_cases Xi:i<xs.length
 .refine .inr ⟨⟨xs,xs[i],q,by simp[Xi]⟩,by omega,λx H' ⟨e,y⟩=>?_⟩;subst e;have hx:=y xs q
  exact hs i x ys _ hx p (λj ys H=>∃ m',m'<xs.length - i/\m'=xs.length - j/\j<=xs.length/\Pv j ys H) λys H p'=>⟨xs.length - (i+1),by omega,rfl,Xi,p'⟩
 .have e:i=xs.length:=by omega
  subst e;exact .inl ⟨⟨xs,q,XO _⟩,by omega,hd ys H p⟩
theorem zP{k:Bool}(Pv:Nat->List V->Hp->Prop)(h0:Pv 0 [] H)(hz:xs.length<sizeLine)(hl:∀ i ys H,i<=xs.length->Pv i ys H->SqK k K H a xs/\ys.length<=i)
  (hs:∀ i x ys H,xs[i]?=some x->Pv i ys H->HU Pv g tt te o fr σ i x ys H) (hd:∀ ys H,Pv xs.length ys H->∀ p,H p=none->Q (.ref p) (upd H p (.lst ys))) :
  ((∃ xs,SqL K H a xs)/\Mo (QF K a) g tt te o fr σ H Q)\/((∃ xs,SqT K H a xs)/\Mo (QE K a) g tt te o fr σ H Q):=by
 cases k with
 | false=>exact .inl ⟨⟨xs,(hl 0 [] H (Yo _) h0).1⟩,NV Pv h0 hz hl hs hd⟩
 | true=>exact .inr ⟨⟨xs,(hl 0 [] H (Yo _) h0).1⟩,JY Pv h0 hz hl hs hd⟩
theorem NU{lo:Int}{n:Nat}(Pv:Nat->List V->Hp->Prop)(h0:Pv 0 [] H)(hz:n<sizeLine)(hl:∀ i ys H,i<=n->Pv i ys H->ys.length<=i)
  (hs:∀ i ys H,i<n->Pv i ys H->HU Pv g tt te o fr σ i (.int (lo+i)) ys H) (hd:∀ ys H,Pv n ys H->∀ p,H p=none->Q (.ref p) (upd H p (.lst ys))):Mo (KD lo n) g tt te o fr σ H Q:=by
 refine⟨λi m ys H=>m=n - i/\i<=n/\Pv i ys H,⟨n,by simp,Yo _,h0⟩,?_⟩;rintro i m ys H ⟨rfl,hi,p⟩;have hy:=hl i ys H hi p
 by_cases Xi:i<n
 .refine .inr ⟨Xi,by lia,λx H' ⟨e,y⟩=>?_⟩;subst e;subst y;exact hs i ys _ Xi p (λj ys H=>∃ m',m'<n - i/\m'=n - j/\j<=n/\Pv j ys H) λys H p'=>⟨n - (i+1),by grind,rfl,Xi,p'⟩
 .have e:i=n:=by lia
  subst e;exact .inl ⟨XO _,by lia,hd ys H p⟩
end
theorem HS{α:Type}{l:List α}(h:l.Nodup){i j:Nat}{x:α}(a:l[i]?=some x)(b:l[j]?=some x):i=j:=by obtain⟨h1,e1⟩:=Xp.mp a;obtain⟨h2,e2⟩:=Xp.mp b;exact(List.getElem_inj h).mp (e1.trans e2.symm)
theorem ZP{α:Type}{l:List α}{i:Nat}{x d:α}(h:l[i]?=some x):l.getD i d=x:=by rw[WI,h];rfl
theorem iw{α:Type}{l:List α}{x:α}(h:l.Nodup)(hx:x∉l):(l++[x]).Nodup:=by rw[YS];refine⟨h,by simp,λa ha b hb=>?_⟩;rw[XD]at hb;subst hb;rintro rfl;exact hx ha
theorem zN{K:Ad}{a:Addr}{xs:List V}{g:TG}{tb:TS}{D:Ends}{σ:St}{H:Hp}(Pv:Nat->St->Hp->Prop)(h0:Pv 0 σ H)(hl:∀ i σ H,i<=xs.length->Pv i σ H->SqL K H a xs)
  (hs:∀(i:Nat) x σ H (p:Addr),H p=none->xs[i]?=some x->Pv i σ H->g (.ref p) σ (upd H p (.tup [.int i,x])) λσ2 H2=>tb { D with nx:=Pv (i+1),ct:=Pv (i+1),bk:=D.nx } σ2 H2) (hd:∀ σ H,Pv xs.length σ H->D.nx σ H) :
  ∃ W:Nat->Nat->St->Hp->Prop,(∃ m,W 0 m σ H)/\∀ i m σ H,W i m σ H ->
   ((HW K a).stop i H/\D.nx σ H)\/((HW K a).go i H/\∃ N:St->Hp->Prop,(∀ σ' H',N σ' H'->∃ m',m'<m/\W (i+1) m' σ' H')/\∀ x H',(HW K a).yld i H x H'->g x σ H' λσ2 H2=>tb { D with nx:=N,ct:=N,bk:=D.nx } σ2 H2):=by
 refine⟨λi m σ H=>m=xs.length - i/\i<=xs.length/\Pv i σ H,⟨xs.length,by simp,Yo _,h0⟩,?_⟩;rintro i m σ H ⟨rfl,hi,p⟩;have q:=hl i σ H hi p
 by_cases Xi:i<xs.length
 .refine .inr ⟨⟨xs,xs[i],q,by simp[Xi]⟩,Pv (i+1),λσ' H' p'=>⟨xs.length - (i+1),by omega,rfl,Xi,p'⟩,λx H' ⟨T,y,hT,ex,eH,hy⟩=>?_⟩;subst ex eH;exact hs i y σ H T hT (hy xs q) p
 .have e:i=xs.length:=by lia
  subst e;exact .inl ⟨⟨xs,q,XO _⟩,hd σ H p⟩
end My
namespace L2
open PySem PySem.Spec PyProof.Rows
section
variable{X:Cx}{a b o e:Expr}{es:List Expr}{ta to:TE}{t:TA}{pos:Pos}
theorem Zi(K:Ad)(h:X.K=K:=by rfl):FC X (FA K):=h ▸ vw
theorem ZK(K:Ad)(h:X.K=K:=by rfl):FC X (Fz K):=h ▸ vq
theorem Ml(K:Ad)(h:X.K=K:=by rfl):vA X (Fx K):=h ▸ vn
theorem Qn(K:Ad)(h:X.K=K:=by rfl):WG X (compareOp .In) (λx y H Q=>∃ p xs,y=.ref p/\(SqL K H p xs\/SqT K H p xs)/\Tf x=true/\xs.all Tf=true/\Q (.bl (HX x xs)) H):=h ▸ aY
theorem HR(K:Ad)(h:X.K=K:=by rfl):WG X (compareOp .NotIn) (λx y H Q=>∃ p xs,y=.ref p/\(SqL K H p xs\/SqT K H p xs)/\Tf x=true/\xs.all Tf=true/\Q (.bl (!HX x xs)) H):=h ▸ aX
theorem t7(K:Ad)(hu:X.A.units+8<cLine)(h:X.K=K:=by rfl):WG X (compareOp .Eq) (NW K false):=h ▸ uh hu
theorem iu(K:Ad)(hu:X.A.units+8<cLine)(h:X.K=K:=by rfl):WG X (compareOp .NotEq) (NW K true):=h ▸ ug hu
theorem ET(K:Ad)(h:X.K=K:=by rfl):WG X (binaryOp .Add) (FG K):=h ▸ FF
theorem Zl(K:Ad){f:Str}(he:PE X e ta)(hb:attributeBase e f X.env (eval e X.env)=eval e X.env)(h:X.K=K:=by rfl):PE X (.Attribute e f pos) (FN K ta f):=h ▸ vL he hb
theorem Zo (K:Ad) (h:X.K=K:=by rfl):UQ X (.builtin "len") (λxs H Q=>∃ p ys,xs=[.ref p]/\(SqL K H p ys\/SqT K H p ys)/\Q (.int ys.length) H):=h ▸ aW
theorem HQ (K:Ad) (h:X.K=K:=by rfl):UQ X (.type "list") (λxs H Q=>∃ p ys,xs=[.ref p]/\(SqL K H p ys\/SqT K H p ys)/\∀ l,H l=none->Q (.ref l) (upd H l (.lst ys))):=h ▸ aV
theorem ZI (K:Ad) (h:X.K=K:=by rfl):UQ X (.type "tuple") (λxs H Q=>∃ p ys,xs=[.ref p]/\((SqL K H p ys/\∀ l,H l=none->Q (.ref l) (upd H l (.tup ys)))\/(SqT K H p ys/\Q (.ref p) H))):=h ▸ aT
theorem t6 (K:Ad) {T:String} (h:X.K=K:=by rfl):UQ X (.builtin "isinstance") (λxs H Q=>∃ x t b,xs=[x,.ty T]/\TyOf K H x t/\PySem.W.kitOne K t (.type T)=some b/\Q (.bl b) H):=h ▸ uz
theorem Va(K:Ad){tg:Expr}{l:Expr}{tl:TE}(hl:PE X l tl)(h:X.K=K:=by rfl):PI X tg l (FZ K tl):=h ▸ wj hl
theorem t5(K:Ad){tg:Expr}{l:Expr}{tl:TE}(hl:PE X l tl)(h:X.K=K:=by rfl):PI X tg l (FY K tl):=h ▸ wg hl
theorem TL(K:Ad){tg:Expr}{l:Expr}{tl:TE}(hl:PE X l tl)(h:X.K=K:=by rfl):PI X tg l (My.EV K tl):=h ▸ My.Ka hl
theorem Mj (K:Ad) {elts:List Expr} {x1:Nat} {SS:Pos} {a:Expr} {ta:TA} {p pos:Pos} (hg:Gl X "enumerate") (hm:X.mg "enumerate"=none) (ha:PA X [a] ta) (hs:starEach [a] X.env=[(false,eval a X.env)]:=by rfl) (h:X.K=K:=by rfl) :
  PI X (.Tuple elts x1 SS) (.Call (.Name "enumerate" p) [a] [] pos) (EY K ta):=h ▸ ur hg hm ha hs
theorem Qm(K:Ad){es:List Expr}{k:Nat}{t:QI}{n:Nat}(hc:X.calm=true)(ht:Gj X es t)
  (hn:(assignEach es X.env).length=n:=by rfl) (WB:(assignEach es X.env).findIdx? (·.1)=none:=by rfl) (h:X.K=K:=by rfl):PG X (.Tuple es k pos) (KI K n t):=h ▸ wx hc ht hn WB
theorem VE (K:Ad) {name:Str} {apos Xm:Pos} {T id:String} {r:V->List V->Hp->VK->Prop} (pa:PlainAttrs T) (slot:Slot T name id) (Kq:typeOf (.builtin id)=pure (.type "method_descriptor")) (hm:zW X id r) (ho:PE X o to) (ha:PA X (e :: es) t)
  (Vv:attributeBase o name X.env (eval o X.env)=eval o X.env:=by rfl)
  (Kp:((backTo Xm (starEach (e :: es) X.env)).all (λx=>!x.1) && (backToKw Xm (keywordEach [] X.env)).all (λx=>x.1.isSome)
   && decide ((e :: es).length+([]:List Keyword).length+(if ([]:List Keyword).isEmpty then 0 else 1)<30))=true:=by rfl)
  (Vu:(apos.endLine == Xm.line)=true:=by rfl) (hs:starEach (e :: es) X.env=(false,eval e X.env) :: starEach es X.env:=by rfl) (Vt:(backTo Xm (starEach es X.env)).any (·.1)=false:=by rfl) (h:X.K=K:=by rfl) :
  PE X (.Call (.Attribute o name apos) (e :: es) [] Xm) (iQ K T r to t):=h ▸ vj pa slot Kq hm ho ha Vv Kp Vu hs Vt
theorem t4 (K:Ad) {name:Str} {apos Xm:Pos} {T id:String} {r:V->List V->Hp->VK->Prop} (pa:PlainAttrs T) (slot:Slot T name id) (Kq:typeOf (.builtin id)=pure (.type "method_descriptor")) (hm:zW X id r) (ho:PE X o to)
  (Vv:attributeBase o name X.env (eval o X.env)=eval o X.env:=by rfl) (Vu:(apos.endLine == Xm.line)=true:=by rfl) (h:X.K=K:=by rfl):PE X (.Call (.Attribute o name apos) [] [] Xm) (Fs K T r to):=h ▸ vk pa slot Kq hm ho Vv Vu
end
end L2
namespace My
abbrev mk(m:Ac)(i:Nat):Int:=m.getD i 0
def pm(m:Ac)(a b:Nat):Ac :=
 if min (mk m a) (mk m b)<max (mk m a) (mk m b) then m.map (λk=>if k=max (mk m a) (mk m b) then min (mk m a) (mk m b) else k) else m
def lm(m:Ac)(a b:Nat):Ac :=
 if mk m a≠mk m b then m.map (λk=>if k=mk m b then mk m a else k) else m
def SameP(m l:Ac):Prop:=m.length=l.length/\∀ i j,i<m.length->j<m.length->(mk m i=mk m j↔mk l i=mk l j)
theorem NT(m:Ac)(f:Int->Int){i:Nat}(h:i<m.length):mk (m.map f) i=f (mk m i):=by simp[mk,WI,Yp,Xo h]
theorem ES(m:Ac)(a b:Nat):(pm m a b).length=m.length:=by unfold pm;split <;> simp
theorem zM(m:Ac)(a b:Nat):(lm m a b).length=m.length:=by unfold lm;split <;> simp
def HP(m:Ac)(a b i j:Nat):Prop:=mk m i=mk m j\/((mk m i=mk m a\/mk m i=mk m b)/\(mk m j=mk m a\/mk m j=mk m b))
theorem tZ{x y p q:Int}:((if x=q then p else x)=(if y=q then p else y))↔(x=y\/((x=p\/x=q)/\(y=p\/y=q))):=by grind
theorem ir{x y p:Int}:x=y↔(x=y\/((x=p\/x=p)/\(y=p\/y=p))):=⟨.inl,λh=>h.elim id λh=>(h.1.elim id id).trans (h.2.elim id id).symm⟩
theorem tY{m:Ac}{a b i j:Nat}(hi:i<m.length)(hj:j<m.length):mk (pm m a b) i=mk (pm m a b) j↔HP m a b i j:=by
 unfold pm HP;split
 .rename_i h;rw[NT _ _ hi,NT _ _ hj];by_cases zL:mk m a<mk m b
  .rw[KQ (Li zL),xc (Li zL)];exact tZ
  .rw[xf (GL.mp zL),KP (GL.mp zL),Or.comm (a:=mk m i=mk m a),Or.comm (a:=mk m j=mk m a)];exact tZ
 .rename_i h;have hh:=GL.mp h
  rw[show mk m a=mk m b from Int.le_antisymm (Ie (Int.le_max_left _ _) (Ie hh (Int.min_le_right _ _))) (Ie (Int.le_max_right _ _) (Ie hh (Int.min_le_left _ _)))];exact ir
theorem ER{m:Ac}{a b i j:Nat}(hi:i<m.length)(hj:j<m.length):mk (lm m a b) i=mk (lm m a b) j↔HP m a b i j:=by
 unfold lm HP;split
 .rename_i h;rw[NT _ _ hi,NT _ _ hj];exact tZ
 .rename_i h;rw[show mk m a=mk m b from Classical.not_not.mp h];exact ir
theorem SameP.step{m l:Ac}(s:SameP m l){a b:Nat}(ha:a<m.length)(hb:b<m.length):SameP (pm m a b) (lm l a b):=by obtain⟨hl,h⟩:=s;refine⟨by rw[ES,zM,hl],λi j hi hj=>?_⟩;rw[ES]at hi hj;rw[tY hi hj,ER (by omega) (by omega)];unfold HP;rw[h i j hi hj,h i a hi ha,h i b hi hb,h j a hj ha,h j b hj hb]
def Xx(n:Nat)(es:List (Nat × Nat)):Ac:=es.foldl (λm e=>pm m e.1 e.2) ((List.range n).map λ(i:Nat)=>(i:Int))
def WW(n:Nat)(es:List (Nat × Nat)):Ac:=es.foldl (λm e=>lm m e.1 e.2) ((List.range n).map λ(i:Nat)=>(i:Int))
theorem Zx(n:Nat)(es:List (Nat × Nat)):(Xx n es).length=n:=by
 have:∀(es:List (Nat × Nat)) (m:Ac),(es.foldl (λm e=>pm m e.1 e.2) m).length=m.length:=by
  intro es
  induction es with
  | nil=>intro m;rfl
  | cons e es ih=>intro m;rw[AD,ih,ES]
 unfold Xx;rw[this];simp
theorem ZB(n:Nat)(es:List (Nat × Nat)):(WW n es).length=n:=by
 have:∀(es:List (Nat × Nat)) (m:Ac),(es.foldl (λm e=>lm m e.1 e.2) m).length=m.length:=by
  intro es
  induction es with
  | nil=>intro m;rfl
  | cons e es ih=>intro m;rw[AD,ih,zM]
 unfold WW;rw[this];simp
theorem ZT9(n:Nat)(es:List (Nat × Nat))(e:Nat × Nat):Xx n (es++[e])=pm (Xx n es) e.1 e.2:=by unfold Xx;rw[Oq];rfl
theorem NS(n:Nat)(es:List (Nat × Nat))(e:Nat × Nat):WW n (es++[e])=lm (WW n es) e.1 e.2:=by unfold WW;rw[Oq];rfl
theorem NR{n:Nat}:∀ {es:List (Nat × Nat)},(∀ e∈es,e.1<n/\e.2<n)->SameP (Xx n es) (WW n es):=by
 intro es;have key:∀(es:List (Nat × Nat)) (m l:Ac),SameP m l->m.length=n->(∀ e∈es,e.1<n/\e.2<n)->SameP (es.foldl (λm e=>pm m e.1 e.2) m) (es.foldl (λm e=>lm m e.1 e.2) l):=by
  intro es
  induction es with
  | nil=>intro m l s _ _;exact s
  | cons e es ih =>
   intro m l s hm he;have h1:=he e Ye
   exact ih _ _ (s.step (by omega) (by omega)) (by rw[ES];exact hm) λx hx=>he x (Yh _ hx)
 exact key es _ _ ⟨rfl,λi j _ _=>Iff.rfl⟩ (by simp)
def SO(g:List (Int × Ac))(place k:Int):List (Int × Ac) :=
 if k∈g.map (·.1) then g.map (λkv=>if kv.1=k then (kv.1,kv.2++[place]) else kv) else g++[(k,[place])]
def Xu(M:Ac):Nat->List (Int × Ac)
 | 0=>[]
 | i+1=>SO (Xu M i) (i:Int) (mk M i)
def JX(M:Ac):List (Int × Ac):=Xu M M.length
theorem zK(g:List (Int × Ac))(p k:Int):(SO g p k).map (·.1)=if k∈g.map (·.1) then g.map (·.1) else g.map (·.1)++[k]:=by
 unfold SO;split
 .rw[Mv];refine YW λkv _=>?_;show(if kv.1=k then (kv.1,kv.2++[p]) else kv).1=kv.1
  split <;> rfl
 .simp
theorem ZG5{g:List (Int × Ac)}{p k:Int}(h:(g.map (·.1)).Nodup):((SO g p k).map (·.1)).Nodup:=by
 rw[zK];split
 .exact h
 .rename_i hk;rw[YS];refine⟨h,by simp,λa ha b hb=>?_⟩;rw[XD]at hb;subst hb;rintro rfl;exact hk ha
theorem tX(M:Ac):∀ i,((Xu M i).map (·.1)).Nodup
 | 0=>by simp[Xu]
 | i+1=>ZG5 (tX M i)
theorem Vr(M:Ac):∀ i kv,kv∈Xu M i->∀ z:Int,z∈kv.2↔(0<=z/\z<(i:Int)/\mk M z.toNat=kv.1)
 | 0,kv,h,z=>by simp[Xu]at h
 | i+1,kv,h,z=>by
  unfold Xu SO at h;split at h
  .rename_i hk;obtain⟨zJ,h0,e⟩:=YC.mp h;have ih:=Vr M i zJ h0 z
   by_cases hc:zJ.1=mk M i
   .rw[if_pos hc]at e;subst e;rw[Xy,ih,XD];constructor
    .rintro(⟨a,b,c⟩ | rfl)
     .exact⟨a,by lia,c⟩
     .exact⟨by lia,by lia,by simpa using hc.symm⟩
    .rintro⟨a,b,c⟩;by_cases hz:z<(i:Int)
     .exact .inl ⟨a,hz,c⟩
     .exact .inr (by lia)
   .rw[if_neg hc]at e;subst e;rw[ih];constructor
    .rintro⟨a,b,c⟩;exact⟨a,by omega,c⟩
    .rintro⟨a,b,c⟩;refine⟨a,?_,c⟩;by_cases hz:z<(i:Int)
     .exact hz
     .have e:z.toNat=i:=by grind
      rw[e]at c;exact absurd c.symm hc
  .rename_i hk;rcases Xy.mp h with h0 | h0
   .have ih:=Vr M i kv h0 z;rw[ih];constructor
    .rintro⟨a,b,c⟩;exact⟨a,by lia,c⟩
    .rintro⟨a,b,c⟩;refine⟨a,?_,c⟩;by_cases hz:z<(i:Int)
     .exact hz
     .have e:z.toNat=i:=by grind
      rw[e]at c;exact absurd (YC.mpr ⟨kv,h0,c.symm⟩) hk
   .rw[XD]at h0;subst h0;simp only [XD];constructor
    .rintro rfl;exact⟨by lia,by lia,by simp⟩
    .rintro⟨a,b,c⟩;by_cases hz:z<(i:Int)
     .exfalso;have key:=grpA_key M i z.toNat (by lia)
      rw[c]at key;exact hk key
     .lia
where
 grpA_key (M:Ac):∀ i j,j<i->mk M j∈(Xu M i).map (·.1)
  | 0,j,h=>absurd h (YZ j)
  | i+1,j,h=>by
   show mk M j∈(SO (Xu M i) (i:Int) (mk M i)).map (·.1);rw[zK];by_cases hj:j<i
   .have:=grpA_key M i j hj
    split
    .exact this
    .exact Ya _ this
   .have e:j=i:=by lia
    subst e;split
    .assumption
    .simp
theorem grpA_key{M:Ac}{i j:Nat}(h:j<i):mk M j∈(Xu M i).map (·.1):=Vr.grpA_key M i j h
theorem zH(M:Ac):∀ i k,k∈(Xu M i).map (·.1)->∃ j,j<i/\mk M j=k
 | 0,k,h=>by simp[Xu]at h
 | i+1,k,h=>by
  have h:k∈(SO (Xu M i) (i:Int) (mk M i)).map (·.1):=h;rw[zK]at h;have old:k∈(Xu M i).map (·.1)->∃ j,j<i+1/\mk M j=k:=λq=>by obtain⟨j,hj,e⟩:=zH M i k q;exact⟨j,by lia,e⟩
  split at h
  .exact old h
  .rcases Xy.mp h with q | q
   .exact old q
   .rw[XD]at q;exact⟨i,by lia,q.symm⟩
theorem EO{M:Ac}(hM:1<=M.length):(JX M).length=1↔∀ i j,i<M.length->j<M.length->mk M i=mk M j:=by
 unfold JX;constructor
 .intro h i j hi hj;obtain⟨kv,e⟩:=List.length_eq_one_iff.mp h;have h1:=grpA_key (M:=M) hi
  have h2:=grpA_key (M:=M) hj;rw[e]at h1 h2;rw[List.map_singleton,XD]at h1 h2;rw[h1,h2]
 .intro h;have nd:=tX M M.length
  have h0:=grpA_key (M:=M) (i:=M.length) (j:=0) (by lia);generalize hg:(Xu M M.length)=g at *
  match g,hg with
  | [],_=>simp at h0
  | [kv],_=>rfl
  | a :: b :: r,hg =>
   exfalso;obtain⟨i,hi,e1⟩:=zH M M.length a.1 (by rw[hg];simp)
   obtain⟨j,hj,e2⟩:=zH M M.length b.1 (by rw[hg];simp);have e3:=h i j hi hj
   have:a.1=b.1:=by rw[<- e1,<- e2,e3]
   simp[this]at nd
theorem SameP.one{m l:Ac}(s:SameP m l):(∀ i j,i<m.length->j<m.length->mk m i=mk m j)↔(∀ i j,i<l.length->j<l.length->mk l i=mk l j):=by
 obtain⟨hl,h⟩:=s;rw[<- hl];constructor
 .intro q i j hi hj;exact(h i j hi hj).mp (q i j hi hj)
 .intro q i j hi hj;exact(h i j hi hj).mpr (q i j hi hj)
theorem tW{M:Ac}:∀ {i:Nat} {kv:Int × Ac},kv∈Xu M i->kv.2.length<=i
 | 0,kv,h=>by simp[Xu]at h
 | i+1,kv,h=>by
  unfold Xu SO at h;split at h
  .obtain⟨zJ,h0,e⟩:=YC.mp h;have ih:=tW h0
   by_cases hc:zJ.1=mk M i
   .rw[if_pos hc]at e;subst e;rw[Xs,Yk];lia
   .rw[if_neg hc]at e;subst e;lia
  .rcases Xy.mp h with h0 | h0
   .have ih:=tW h0;omega
   .rw[XD]at h0;subst h0;simp
end My
namespace My
open PySem L2 PyProof.Rows
theorem NQ(z:Int)(l:Ac):HX (.int z) (IL l)=decide (z∈l):=by
 unfold HX;rw[List.any_map];rw[Pa,xg,YU];constructor
 .rintro⟨y,hy,e⟩;have e':y=z:=by simpa [TU] using e
  rw[<- e'];exact hy
 .intro h;exact⟨z,h,by simp[TU]⟩
theorem ZT(l:Ac):(IL l).all Tf=true:=by rw[List.all_map,QS];intro x _;rfl
theorem tV{K:Ad}{t:Value}:PySem.W.kitOne K t t=some true:=by unfold PySem.W.kitOne;rw[if_pos (Om t)]
theorem ZC{a b:Int}:decide (V.int a=V.int b)=decide (a=b):=by
 by_cases h:a=b
 .subst h;simp
 .have h':¬ V.int a=V.int b:=λz=>h (V.int.inj z);rw[Wh h,Wh h']
end My
namespace My
open PySem L2
def IsSet(m:Nat)(ns:Ac):Prop:=∀ i z,ns[i]?=some z->0<=z/\z<(m:Int)/\∀ y,i≠0->ns[i - 1]?=some y->y<z
def XT(ps:Aa)(ns:Ac):List (Nat × Nat):=ns.map λz=>((ps.getD z.toNat (0,0)).1.toNat,(ps.getD z.toNat (0,0)).2.toNat)
theorem ZK5{ps:Aa}{ns:Ac}{i:Nat}{z:Int}(h:ns[i]?=some z):XT ps (ns.take (i+1))=XT ps (ns.take i)++[((ps.getD z.toNat (0,0)).1.toNat,(ps.getD z.toNat (0,0)).2.toNat)]:=by unfold XT;rw[WA,h];simp
theorem OO{m:Ac}{i:Nat}(h:i<m.length):m[i]?=some (mk m i):=by rw[Xo h];simp[mk,WI,Xo h]
theorem ZR7(n:Int):Wf 0 n=(List.range n.toNat).map λ(i:Nat)=>(i:Int):=by unfold Wf;rw[Aq];refine YW λi _=>?_;lia
def UZ(g:List (Int × Ac))(as:List Addr):List (Key × V):=List.zipWith (λkv a=>((Sum.inl kv.1:Key),V.ref a)) g as
theorem tU{g:List (Int × Ac)}{as:List Addr}(h:as.length=g.length):(UZ g as).length=g.length:=by unfold UZ;rw[He];grind
theorem iq:∀ {g:List (Int × Ac)} {as:List Addr},as.length=g.length->(UZ g as).map (·.2)=as.map V.ref
 | [],[],_=>rfl
 | [],_ :: _,h=>by simp at h
 | _ :: _,[],h=>by simp at h
 | kv :: g,a :: as,h=>by show V.ref a :: (UZ g as).map (·.2)=V.ref a :: as.map V.ref;rw[iq (UD h)]
theorem EN:∀ {g g':List (Int × Ac)} {as:List Addr},g.map (·.1)=g'.map (·.1)->UZ g as=UZ g' as
 | [],[],_,_=>rfl
 | [],_ :: _,_,h=>by simp at h
 | _ :: _,[],_,h=>by simp at h
 | kv :: g,zE :: g',[],_=>rfl
 | kv :: g,zE :: g',a :: as,h=>by
  rw[Wz,Wz,List.cons.injEq]at h;show((Sum.inl kv.1:Key),V.ref a) :: UZ g as=((Sum.inl zE.1:Key),V.ref a) :: UZ g' as
  rw[h.1,EN h.2]
theorem EM:∀ {g:List (Int × Ac)} {as:List Addr} {kv:Int × Ac} {a:Addr},as.length=g.length->UZ (g++[kv]) (as++[a])=UZ g as++[((Sum.inl kv.1:Key),V.ref a)]
 | [],[],_,_,_=>rfl
 | [],_ :: _,_,_,h=>by simp at h
 | _ :: _,[],_,_,h=>by simp at h
 | x :: g,y :: as,kv,a,h=>by show _ :: UZ (g++[kv]) (as++[a])=_ :: (UZ g as++_);rw[EM (UD h)]
theorem JW:∀ {g:List (Int × Ac)} {as:List Addr} {k:Int},as.length=g.length ->
  (Wy (UZ g as) (Sum.inl k:Key)=none/\k∉g.map (·.1))\/∃(j:Nat) (kv:Int × Ac) (a:Addr),g[j]?=some kv/\as[j]?=some a/\kv.1=k/\Wy (UZ g as) (Sum.inl k:Key)=some (.ref a)
 | [],[],k,_=>.inl ⟨rfl,by simp⟩
 | [],_ :: _,_,h=>by simp at h
 | _ :: _,[],_,h=>by simp at h
 | kv :: g,a :: as,k,h=>by
  by_cases e:kv.1=k
  .refine .inr ⟨0,kv,a,rfl,rfl,e,?_⟩;show Wy (((Sum.inl kv.1:Key),V.ref a) :: UZ g as) _=_
   rw[Km (by rw[e])]
  .have e':¬ ((Sum.inl kv.1:Key)=Sum.inl k):=λz=>e (Sum.inl.inj z);have ev:Wy (UZ (kv :: g) (a :: as)) (Sum.inl k:Key)=Wy (UZ g as) (Sum.inl k:Key):=Kl (p:=((Sum.inl kv.1:Key),V.ref a)) e'
   rcases JW (g:=g) (as:=as) (k:=k) (UD h) with ⟨h1,h2⟩ | ⟨j,zE,a',h1,h2,h3,h4⟩
   .refine .inl ⟨by rw[ev];exact h1,?_⟩;rw[Wz,Yg];rintro(z | z)
    .exact e z.symm
    .exact h2 z
   .exact .inr ⟨j+1,zE,a',by simpa using h1,by simpa using h2,h3,by rw[ev];exact h4⟩
structure GrpAt (H0 H:Hp) (g:List (Int × Ac)) (as:List Addr):Prop where
 len:as.length=g.length
 nd:as.Nodup
 at_:∀(i:Nat) (kv:Int × Ac) (a:Addr),g[i]?=some kv->as[i]?=some a->H a=some (.lst (IL kv.2))
 new:∀ a∈as,H0 a=none
theorem GrpAt.same{H0 H H':Hp}{g:List (Int × Ac)}{as:List Addr}(s:Same H H')(h:GrpAt H0 H g as):GrpAt H0 H' g as:=⟨h.len,h.nd,λi kv a e1 e2=>s _ _ (h.at_ i kv a e1 e2),h.new⟩
theorem GrpAt.mem{H0 H:Hp}{g:List (Int × Ac)}{as:List Addr}(h:GrpAt H0 H g as){a:Addr}(ha:a∈as):∃ l,H a=some (.lst l):=by
 obtain⟨i,hi,e⟩:=xx ha;have hg:i<g.length:=by rw[<- h.len];exact hi
 exact⟨_,h.at_ i g[i] a (Xo hg) (by rw[Xo hi,e])⟩
theorem IsSet.all{m:Nat}{ns:Ac}(h:IsSet m ns):∀ z∈ns,0<=z/\z<(m:Int):=λz hz=>by obtain⟨i,hi,e⟩:=xx hz;obtain⟨a,b,_⟩:=h i z (by rw[Xo hi,e]);exact⟨a,b⟩
theorem IsSet.nil(m:Nat):IsSet m []:=λi z e=>by simp at e
theorem IsSet.up{m:Nat}{ns:Ac}(h:IsSet m ns):IsSet (m+1) ns:=λi z e=>by obtain⟨a,b,c⟩:=h i z e;exact⟨a,by omega,c⟩
theorem IsSet.snoc{m:Nat}{ns:Ac}(h:IsSet m ns):IsSet (m+1) (ns++[(m:Int)]):=λi z e=>by
 by_cases hi:i<ns.length
 .rw[Ys hi]at e;obtain⟨a,b,c⟩:=h i z e;refine⟨a,by lia,λy h0 ey=>?_⟩;rw[Ys (by omega)]at ey;exact c y h0 ey
 .have hl:i=ns.length:=by
   have:=(Xp.mp e).1
   rw[Xs,Yk]at this;lia
  subst hl;rw[Yq (XO _),UC]at e;have e:(m:Int)=z:=Yi e
  subst e;refine⟨by lia,by lia,λy h0 ey=>?_⟩;rw[Ys (by omega)]at ey;exact(h _ y ey).2.1
theorem IsSet.len{m:Nat}:∀ {ns:Ac},IsSet m ns->ns.length<=m:=λ{ns} h=>by
 have key:∀(i:Nat) (z:Int),ns[i]?=some z->(i:Int)<=z:=by
  intro i
  induction i with
  | zero=>intro z e;exact(h 0 z e).1
  | succ i ih =>
   intro z e;have hi:i<ns.length:=by have:=(Xp.mp e).1;lia
   have e2:ns[i]?=some ns[i]:=Xo hi
   have:=ih _ e2
   have:=(h (i+1) z e).2.2 ns[i] (by lia) (by rw[xr];exact e2)
   lia
 by_cases h0:ns.length=0
 .lia
 .have e:ns[ns.length - 1]?=some (ns[ns.length - 1]'(by lia)):=Xo _;have a:=key _ _ e
  have b:=(h _ _ e).2.1;lia
end My
namespace L2
open PySem PySem.Spec PyProof.Rows
section
variable{X:Cx}
def tT(K:Ad):V->List V->Hp->VK->Prop:=λx vs H Q=>∃(p:Addr) (ns:Ac) (z:Int) (j:Nat),x=.ref p/\vs=[.int z]/\SqL K H p (ns.map V.int)/\ns[j]?=some z/\(∀ i,i<j->ns[i]?≠some z)/\Q (.int j) H
theorem tS (K:Ad) (h:X.K=K:=by rfl):Ko X "list.index" (tT K):=by
 subst h;intro pins s σ H x vs v us Q I rx rv h;obtain⟨p,ns,z,j,rfl,rfl,hq,hj,Te,q⟩:=h;cases rx;obtain⟨u,rfl,t,rfl⟩:=rv.one;obtain⟨XW,r,⟨o,n,e,hc,hd,JV⟩,hz⟩:=I.list hq;have hl:XW.length=ns.length:=by rw[<- r.length,Yd]
 have NP:j<ns.length:=(Xp.mp hj).1;have hsz:sizeLine=16777216:=Ue
 rw[Yd]at hz;obtain⟨oc,od,tR,Uy⟩:=o;have hc:oc=.type "list":=hc
 have JV:tR=.seq XW.toArray n:=JV;subst hc JV;have at_:∀(i:Nat) (hi:i<XW.length),∃ tk,XW[i]=.int (ns[i]'(by lia)) tk:=λi hi=>by
  obtain⟨x,ex,rx⟩:=r.at hi;rw[Yp,Xo (by omega)]at ex;have ex:V.int (ns[i]'(by omega))=x:=Yi ex
  subst ex;exact rx
 refine Lb F.slot_list_index ⟨_,e,rfl⟩ F.entry_list_index (F.args_list_index_2 _ _) (SeqAt.list_indexAt p XW.toArray n od Uy (.int z t) (λy=>Uj (.int z) y) j (by rw[Yb];lia) (by lia) ?_ ?_) ⟨e,λy hy=>?_,?_⟩
 .obtain⟨tk,e1⟩:=at_ j (by omega);have e2:ns[j]'(by lia)=z:=by rw[Xo NP]at hj;exact Yi hj
  have e3:XW.toArray[j]'(by rw[Yb];lia)=.int z tk:=by rw[<- e2];simpa using e1
  rw[e3];simp[Uj,TU]
 .intro m hm hmj;have Mi:m<XW.length:=by rw[Yb]at hm;exact hm
  obtain⟨tk,e1⟩:=at_ m Mi;have e3:XW.toArray[m]'hm=.int (ns[m]'(by omega)) tk:=by simpa using e1
  rw[e3];have XJ:=Te m hmj
  rw[Xo (by omega)]at XJ;have JU:ns[m]'(by omega)≠z:=λw=>XJ (Xw some w)
  simp[Uj,TU,JU]
 .refine RS (x:=.int z) ⟨t,rfl⟩ rfl r ?_ y (by simpa using hy);rw[List.all_map,QS];intro _ _;rfl
 .exact⟨.int j,H,I.tok _,⟨_,rfl⟩,q⟩
end
end L2
namespace My
open PySem L2
section
variable{K:Ad}{H:Hp}{α:Type}[DecidableEq α]
def Bears(R:V->α->Prop)(xs:List V)(l:List α):Prop:=xs.length=l.length/\∀(i:Nat) (a:α),l[i]?=some a->∃ x,xs[i]?=some x/\R x a
theorem Bears.at{R:V->α->Prop}{xs:List V}{l:List α}(h:Bears R xs l){i:Nat}{x:V}(e:xs[i]?=some x):∃ a,l[i]?=some a/\R x a:=by
 have hi:i<xs.length:=(Xp.mp e).1;have hl:i<l.length:=by rw[<- h.1];exact hi
 obtain⟨x',e1,q⟩:=h.2 i l[i] (Xo hl);rw[e]at e1;cases e1;exact⟨_,Xo hl,q⟩
theorem ip{l m:List α}(h:l.length=m.length):(List.range l.length).all (λi=>decide (l[i]?=m[i]?))=decide (l=m):=by
 rw[Pa,QS,YU];constructor
 .intro q;refine RY λi=>?_;by_cases hi:i<l.length
  .exact Yu (q i (YI.mpr hi))
  .rw[Vy (by lia),Vy (by lia)]
 .rintro rfl i _;simp
theorem EL{R:V->α->Prop}{n:Nat}{p q:Addr}{xs ys:List V}{l m:List α}(hp:SqL K H p xs)(hq:SqL K H q ys)(h1:Bears R xs l)(h2:Bears R ys m)(hR:∀ x y a b,R x a->R y b->EqD K H n x y (decide (a=b))):EqD K H (n+1) (.ref p) (.ref q) (decide (l=m)):=by
 by_cases hl:xs.length=ys.length
 .have e:=ip (l:=l) (m:=m) (by rw[<- h1.1,<- h2.1,hl]);rw[<- e,<- h1.1];refine EqD.lsts hp hq hl λi x y ex ey=>?_;obtain⟨a,ea,ra⟩:=h1.at ex;obtain⟨b,eb,rb⟩:=h2.at ey;rw[ea,eb,show decide (some a=some b)=decide (a=b) by simp];exact hR x y a b ra rb
 .have e:decide (l=m)=false:=Wh λz=>hl (by rw[h1.1,h2.1,z]);rw[e];exact EqD.lens hp hq hl
theorem tQ{R:V->α->Prop}{n:Nat}{p q:Addr}{xs ys:List V}{l m:List α}(hp:SqT K H p xs)(hq:SqT K H q ys)(h1:Bears R xs l)(h2:Bears R ys m)(hR:∀ x y a b,R x a->R y b->EqD K H n x y (decide (a=b))):EqD K H (n+1) (.ref p) (.ref q) (decide (l=m)):=by
 have key:=EqD.tups (e:=λi=>decide (l[i]?=m[i]?)) hp hq λi x y ex ey=>by obtain⟨a,ea,ra⟩:=h1.at ex;obtain⟨b,eb,rb⟩:=h2.at ey;rw[ea,eb,show decide (some a=some b)=decide (a=b) by simp];exact hR x y a b ra rb
 by_cases hl:xs.length=ys.length
 .have e:=ip (l:=l) (m:=m) (by rw[<- h1.1,<- h2.1,hl]);rw[<- hl,Nat.min_self,h1.1,e,show(l.length == l.length)=true by simp,Bool.and_true]at key;exact key
 .have e:decide (l=m)=false:=Wh λz=>hl (by rw[h1.1,h2.1,z]);rw[show(xs.length == ys.length)=false by simpa using hl,Bool.and_false]at key;rw[e];exact key
theorem NO(ns:Ac):Bears (λx (z:Int)=>x=.int z) (IL ns) ns:=⟨Xr ns,λi z e=>⟨_,TQ e,rfl⟩⟩
theorem ik{n:Nat}{x y:V}{a b:Int}(hx:x=.int a)(hy:y=.int b):EqD K H n x y (decide (a=b)):=by
 subst hx hy;have e:decide (a=b)=TU (.int a) (.int b):=by show decide (a=b)=(a == b);rw[jr]
 rw[e];exact EqD.flat rfl rfl
theorem ij{p q:Addr}{ns ms:Ac}(hp:SqL K H p (IL ns))(hq:SqL K H q (IL ms)):EqD K H 1 (.ref p) (.ref q) (decide (ns=ms)) :=
 EL hp hq (NO ns) (NO ms) λ_ _ _ _=>ik
theorem tP{p q:Addr}{ns ms:Ac}(hp:SqT K H p (IL ns))(hq:SqT K H q (IL ms)):EqD K H 1 (.ref p) (.ref q) (decide (ns=ms)) :=
 tQ hp hq (NO ns) (NO ms) λ_ _ _ _=>ik
theorem Zw8{p q:Addr}{bs cs:List Bool}(hp:SqL K H p (bs.map V.bl))(hq:SqL K H q (cs.map V.bl)):EqD K H 1 (.ref p) (.ref q) (decide (bs=cs)):=by
 have be:∀ bs:List Bool,Bears (λx (b:Bool)=>x=.bl b) (bs.map V.bl) bs:=λbs=>⟨Yd ..,λi b e=>⟨_,by rw[Yp,e];rfl,rfl⟩⟩;refine EL hp hq (be bs) (be cs) λx y a b hx hy=>?_;subst hx hy;have e:decide (a=b)=TU (.bl a) (.bl b):=by show decide (a=b)=(a == b);rw[jr]
 rw[e];exact EqD.flat rfl rfl
def ON(H:Hp)(v:V)(l:Ac):Prop:=∃ a,v=.ref a/\H a=some (.lst (IL l))
end
end My
namespace My
def Wu(M:Ac)(p:Nat):Bool:=(List.range p).all λi=>decide (mk M i≠mk M p)
def UY(M:Ac)(k:Int)(i:Nat):Ac:=((List.range i).filter λj=>decide (mk M j=k)).map λ(j:Nat)=>(j:Int)
def VD(M:Ac)(i:Nat):List Nat:=(List.range i).filter (Wu M)
theorem XC{M:Ac}{p:Nat}:Wu M p=true↔∀ i,i<p->mk M i≠mk M p:=by
 unfold Wu;rw[QS];constructor
 .intro h i hi;exact Yu (h i (YI.mpr hi))
 .intro h i hi;exact Yw (h i (YI.mp hi))
theorem JT(M:Ac)(k:Int)(i:Nat):UY M k (i+1)=UY M k i++(if mk M i=k then [(i:Int)] else []):=by
 unfold UY;rw[GU,QW,QP];congr 1;by_cases h:mk M i=k
 .rw[if_pos h,YL,if_pos (by simpa using h)];rfl
 .rw[if_neg h,YL,if_neg (by simpa using h)];rfl
theorem ig(M:Ac)(i:Nat):VD M (i+1)=VD M i++(if Wu M i=true then [i] else []):=by
 unfold VD;rw[GU,QW];congr 1;by_cases h:Wu M i=true
 .rw[if_pos h,YL,if_pos h];rfl
 .rw[if_neg h,YL,if_neg h];rfl
theorem ie(M:Ac):∀ i,Xu M i=(VD M i).map λp=>(mk M p,UY M (mk M p) i)
 | 0=>rfl
 | i+1=>by
  have ih:=ie M i;show SO (Xu M i) (i:Int) (mk M i)=_
  have hk:(mk M i∈(Xu M i).map (·.1))↔Wu M i≠true:=by
   constructor
   .intro h q;obtain⟨j,hj,e⟩:=zH M i _ h;exact XC.mp q j hj e
   .intro h;by_cases q:∃ j,j<i/\mk M j=mk M i
    .obtain⟨j,hj,e⟩:=q;rw[<- e];exact grpA_key hj
    .exact absurd (XC.mpr λj hj e=>q ⟨j,hj,e⟩) h
  unfold SO;by_cases h:mk M i∈(Xu M i).map (·.1)
  .have hf:=hk.mp h;rw[if_pos h,ig,if_neg hf,YF,ih,Mv];refine YW λp _=>?_;show(if mk M p=mk M i then (mk M p,UY M (mk M p) i++[(i:Int)]) else (mk M p,UY M (mk M p) i))=(mk M p,UY M (mk M p) (i+1))
   rw[JT];by_cases e:mk M p=mk M i
   .rw[if_pos e,if_pos e.symm]
   .rw[if_neg e,if_neg (λz=>e z.symm),YF]
  .have hf:Wu M i=true:=by
    cases q:Wu M i with
    | true=>rfl
    | false=>exact absurd (hk.mpr (by rw[q];exact Yv)) h
   rw[if_neg h,ig,if_pos hf,QP,ih];congr 1
   .refine YW λp hp=>?_;have Ql:p<i:=YI.mp (Yf.mp hp).1
    rw[JT,if_neg (λz=>XC.mp hf p Ql z.symm),YF]
   .show [(mk M i,[(i:Int)])]=[(mk M i,UY M (mk M i) (i+1))];rw[JT,if_pos rfl];have e0:UY M (mk M i) i=[]:=by unfold UY;rw[List.filter_eq_nil_iff.mpr λj hj=>by simpa using XC.mp hf j (YI.mp hj)];rfl
    rw[e0];rfl
end My
namespace My
open PySem L2
theorem Bears.snoc{α:Type}[DecidableEq α]{R:V->α->Prop}{xs:List V}{l:List α}{x:V}{a:α}(h:Bears R xs l)(hx:R x a):Bears R (xs++[x]) (l++[a]):=by
 refine⟨by rw[Xs,Xs,h.1];rfl,λi b e=>?_⟩;by_cases hi:i<l.length
 .rw[Ys hi]at e;rw[Ys (by rw[h.1];exact hi)];exact h.2 i b e
 .have hl:i=l.length:=by
   have:=(Xp.mp e).1
   rw[Xs,Yk]at this;lia
  subst hl;rw[Yq (XO _),UC]at e;rw[Yq (by rw[h.1];exact XO _),h.1,UC];have e':a=b:=Yi e
  subst e';exact⟨x,rfl,hx⟩
theorem Bears.imp{α:Type}[DecidableEq α]{R R':V->α->Prop}{xs:List V}{l:List α}(h:Bears R xs l)(f:∀ x a,R x a->R' x a):Bears R' xs l:=⟨h.1,λi a e=>let ⟨x,e1,r⟩:=h.2 i a e;⟨x,e1,f x a r⟩⟩
end My
namespace L2
open PySem PySem.Spec PyProof.Rows
theorem ObjOk.there{P:Program}{w:World}{H:Hp}{h:Heap}{a:Addr}{o:HO}(x:ObjOk P w H h a o):∃ u,h.get? a=some u:=by
 cases o with
 | lst xs=>obtain⟨_,_,_,_,e⟩:=x;exact⟨_,e⟩
 | tup xs=>obtain⟨_,_,_,o,e,_⟩:=x;exact⟨_,e⟩
 | dK kvs=>obtain⟨_,_,_,_,o,_,_,e,_⟩:=x;exact⟨_,e⟩
 | dT kvs=>obtain⟨_,_,_,_,o,_,_,e,_⟩:=x;exact⟨_,e⟩
 | set S n=>obtain⟨o,_,_,_,e,_⟩:=x;exact⟨_,e⟩
 | ins C dx fs=>obtain⟨_,_,_,e,_⟩:=x;exact⟨_,e⟩
 | own y=>exact x
 | xd fs=>obtain⟨_,⟨_,_,_,e,_⟩,_⟩:=x;exact⟨_,e⟩
 | rng lo hi=>obtain⟨_,_,_,e⟩:=x;exact⟨_,e⟩
 | frz ob u=>obtain⟨e,_⟩:=x;exact⟨_,e⟩
 | tbl ps=>exact⟨_,x⟩
 | met f y=>exact⟨_,x⟩
 | ext φ=>obtain⟨_,e,_⟩:=x;exact e
structure Fly (h0:Heap) (H:Hp) (e C:Addr) (h:Heap):Prop where
 ex:∃ oe vs T oT ts a0,h.get? e=some oe/\oe.cls=.ref C/\oe.data=.fields vs/\vs[0]?=some a0/\vs[1]?=some (.ref T)/\T≠e/\h.get? T=some oT/\oT.data=.fields ts/\ts[3]?=some .none/\h0.get? T=none/\H T=none
 new:h0.get? e=none
 free:H e=none
def UX(P:Program)(w:World):RT:=λouter H s E ev s'=>∃(e C:Addr) (H':Hp),ev=Value.ref e/\s'.os=s.os/\AllBare s'.gens/\Un (Wj outer) [] H H' s.heap s'.heap/\HOk P w H' s'.heap/\Fly s.heap H' e C s'.heap/\E (.ref C) none H'
section
variable{X:Cx}{pins:List (Addr × Obj)}{σ:St}{H:Hp}{s:Shared}{e C:Addr}
abbrev WQ(X:Cx)(h:Heap)(ns:List Addr):Heap:=PySem.W.hideAll h (Wj X.stack++ns)
theorem JS{h:Heap}{ns:List Addr}{b:Addr}{o:Obj}(q:h.get? b=some o)(h1:b∉Wj X.stack)(h2:b∉ns):(WQ X h ns).get? b=some o :=
 PySem.W.hideAll_get _ q λz=>(Xy.mp z).elim h1 h2
theorem EK{h:Heap}{ns:List Addr}:(WQ X h ns).StaysIn h:=λ_ _ q=>PySem.W.of_hideAll _ q
theorem Inv.was(I:Inv X pins σ H s)(hex:X.ex=[]){b:Addr}(h:s.heap.get? b=none):X.s₀.heap.get? b=none:=by
 cases q:X.s₀.heap.get? b with
 | none=>rfl
 | some o =>
  obtain⟨o',e⟩:=I.base.there b o q (by rw[hex];simp);rw[h]at e;cases e
theorem EJ{P:Program}{w:World}{h':Heap}{ns:List Addr}{h:Heap}(ok:HOk P w H h)(hf:∀ b∈Wj X.stack,H b=none)(VO:∀ b∈ns,H b=none)(k:(WQ X h ns).StaysIn h'):HOk P w H h':=λa o q =>
 (ok a o q).stay (λb u hb g=>k b u (JS g (λz=>by
  have:=hf b z
  rcases hb with rfl | hb
  .rw[q]at this;cases this
  .rw[hb]at this;cases this) λz=>by
  have:=VO b z
  rcases hb with rfl | hb
  .rw[q]at this;cases this
  .rw[hb]at this;cases this)) (λ_ z=>z) λ_ _ z=>z
theorem Zt8(WB:X.stack=X.env :: X.outer)(RN:X.env.frame=some X.env.locals):Wj X.stack=X.env.locals :: Wj X.outer:=by rw[WB];unfold Wj;rw[Hd,RN]
theorem ic(WB:X.stack=X.env :: X.outer)(RN:X.env.frame=some X.env.locals)(hex:X.ex=[])(I:Inv X pins σ H s){ns:List Addr}(VO:∀ b∈ns,X.s₀.heap.get? b=none/\H b=none){h':Heap}{a0:Value}{E:XK}{s':Shared}
  (RQ:Heap.FlyingW (WQ X s.heap ns) X.outer e (.ref C) a0 h') (up:s.heap.UpToSlots h') (ne:X.s₀.heap.get? e=none) (fe:H e=none) (hE:E (.ref C) none H) (hs:s'.heap=h') (ho:s'.os=s.os) (hg:s'.gens=s.gens) :
  UX X.prog X.w X.outer X.H₀ X.s₀ E (.ref e) s':=by
 subst hs;have fst:=Zt8 (X:=X) WB RN
 have zD:∀ b o,X.s₀.heap.get? b=some o->b≠X.env.locals:=λb o q=>Yt (Yn (Yl q) I.ok.above);have EI:∀ b o,X.s₀.heap.get? b=some o->b∉ns:=λb o q z=>by rw[(VO b z).1]at q;cases q
 have Mh:∀ b o,X.s₀.heap.get? b=some o->b∉Wj X.outer->b∉Wj X.stack:=λb o q n z=>by
  rw[fst]at z;rcases Yg.mp z with z | z
  .exact zD b o q z
  .exact n z
 have SN:∀ b,b∉X.ex:=λb z=>by rw[hex]at z;cases z
 have keep:∀ b o u,X.s₀.heap.get? b=some o->b∉Wj X.outer->s.heap.get? b=some u->s'.heap.get? b=some u:=λb o u q n g=>RQ.1 b u (JS g (Mh b o q n) (EI b o q));have slot:∀ b u,b∈Wj X.outer->s.heap.get? b=some u->∃ sl,s'.heap.get? b=some { u with slots:=sl }:=λb u hb g=>by obtain⟨_,o',WR,hd⟩:=I.funs.mem hb;rw[g]at WR;cases WR;exact up b u g hd
 refine⟨e,C,H,rfl,ho.trans I.os,hg ▸ I.bare,⟨λb o q n hb _=>?_,λb o q n hb _=>?_,λb o q n _=>I.base.free b o q n (SN b),λb o q _=>?_,I.base.tups,I.base.frzs,I.base.tbls⟩,EJ I.hok I.stkFree (λb hb=>(VO b hb).2) RQ.1,⟨?_,ne,fe⟩,hE⟩
 .exact keep b o o q hb (I.base.keep b o q n hb (SN b))
 .obtain⟨sl,g⟩:=I.base.slot b o q n hb (SN b);obtain⟨KN,g'⟩:=slot b _ hb g;exact⟨KN,g'⟩
 .obtain⟨u,g⟩:=I.base.there b o q (SN b);by_cases hb:b∈Wj X.outer
  .obtain⟨sl,g'⟩:=slot b u hb g;exact⟨_,g'⟩
  .exact⟨u,keep b o u q hb g⟩
 .obtain⟨f1,f2,f3,oe,vs,T,oT,ts,he,⟨hc,h0⟩,hd,h1,zC,EH,hT,HN,h3⟩:=RQ;refine⟨oe,vs,T,oT,ts,a0,he,hc,hd,h0,h1,EH,hT,HN,h3,?_,?_⟩
  .cases q:X.s₀.heap.get? T with
   | none=>rfl
   | some o =>
    obtain⟨u,g⟩:=I.base.there T o q (SN T);by_cases hb:T∈Wj X.outer
    .obtain⟨_,o',WR,Uc⟩:=f3.mem hb;rw[hT]at WR;cases WR;exact absurd HN (Uc ts)
    .rw[JS g (Mh T o q hb) (EI T o q)]at zC;cases zC
  .cases q:H T with
   | none=>rfl
   | some ho =>
    obtain⟨u,g⟩:=(I.hok T ho q).there;rw[JS g (λz=>by rw[I.stkFree T z]at q;cases q) (λz=>by rw[(VO T z).2]at q;cases q)]at zC;cases zC
theorem EG(WB:X.stack=X.env :: X.outer)(I:Inv X pins σ H s){h0:Heap}(F:Fly h0 H e C s.heap):∃ T a0,Heap.FlyingW (WQ X s.heap [e,T]) X.stack e (.ref C) a0 s.heap/\h0.get? T=none/\H T=none:=by obtain⟨oe,vs,T,oT,ts,a0,he,hc,hd,tO,h1,EH,hT,HN,h3,nT,fT⟩:=F.ex;refine⟨T,a0,⟨EK,xE _ (by simp),?_,oe,vs,T,oT,ts,he,⟨hc,tO⟩,hd,h1,xE _ (by simp),EH,hT,HN,h3⟩,nT,fT⟩;exact jx I.stack λenv JR a hf=>Ya _ (AE.mpr ⟨env,JR,hf⟩)
theorem Zb8(WB:X.stack=X.env :: X.outer)(RN:X.env.frame=some X.env.locals)(hex:X.ex=[])(I:Inv X pins σ H s)(F:Fly X.s₀.heap H e C s.heap){E:XK}(hE:E (.ref C) none H){E':Ae} :
  wpAny (model X.prog X.w) X.A (leaving X.env (.ref e)) (λ_ UP=>UX X.prog X.w X.outer X.H₀ X.s₀ E (.ref e) UP) E' s:=by
 obtain⟨T,a0,fl,nT,fT⟩:=EG WB I F;rw[WB]at fl;refine wpAny_leaves_onW (by rw[I.ok.frames,WB]) RN fl λh' fl' up=>?_;refine ic WB RN hex I (λb hb=>?_) fl' up F.new F.free hE rfl rfl rfl;rcases Yg.mp hb with rfl | hb
 .exact⟨F.new,F.free⟩
 .rw[XD.mp hb];exact⟨nT,fT⟩
theorem ZN6(WB:X.stack=X.env :: X.outer)(RN:X.env.frame=some X.env.locals)(hex:X.ex=[])(I:Inv X pins σ H s){h':Heap}{vs:Ag}(hm:Heap.MadeExcOf s.heap h' e (.ref C) vs){E:XK}(hE:E (.ref C) none H){E':Ae} :
  wpAny (model X.prog X.w) X.A (leaving X.env (.ref e)) (λ_ UP=>UX X.prog X.w X.outer X.H₀ X.s₀ E (.ref e) UP) E' { s with heap:=h' }:=by
 have ff:s.heap.FunFrames (WQ X s.heap []) X.stack:=jx I.stack λenv JR a hf=>Ya _ (AE.mpr ⟨env,JR,hf⟩);rw[WB]at ff;refine wpAny_leaves_madeW (base:=WQ X s.heap []) (h:=s.heap) (by rw[I.ok.frames,WB]) RN EK ff hm λJQ t fl _ _ up=>?_;have fe:H e=none:=by
  cases q:H e with
  | none=>rfl
  | some ho =>
   obtain⟨u,g⟩:=(I.hok e ho q).there;rw[hm.new]at g;cases g
 exact ic (s':={ s with heap:=JQ }) WB RN hex I (λb hb=>by cases hb) fl ((Heap.UpToSlots.of_keeps hm.keeps).trans up) (I.was hex hm.new) fe hE rfl rfl rfl
theorem Inv.flown{E:XK}{ev:Value}{s':Shared}(I:Inv X pins σ H s)(h:UX X.prog X.w X.stack H s E ev s'):∃ e C H',ev=Value.ref e/\Inv X pins σ H' s'/\Fly s.heap H' e C s'.heap/\E (.ref C) none H':=by obtain⟨e,C,H',rfl,ho,hg,u,ok,F,hE⟩:=h;exact⟨e,C,H',rfl,I.call' (ch:=[]) ho u ok hg (λ_ z=>nomatch z),F,hE⟩
theorem Fly.older{h0 h1 h:Heap}(F:Fly h0 H e C h)(k:∀ b,h0.get? b=none->h1.get? b=none):Fly h1 H e C h:=by obtain⟨oe,vs,T,oT,ts,a0,he,hc,hd,tO,Mg,EH,hT,HN,h3,nT,fT⟩:=F.ex;exact⟨⟨oe,vs,T,oT,ts,a0,he,hc,hd,tO,Mg,EH,hT,HN,h3,k _ nT,fT⟩,k _ F.new,F.free⟩
end
section
variable{P:Program}{w:World}{K:Ad}{mg:Af}{base:Heap}
theorem h8{N:List Str}{qual:Str}{scope:Scope}{f:Addr}{cd:Value}{A:Around}{outer:List Env}{s:Shared}{H:Hp}{E:XK}:Ku (UX P w) (Wr (UX P w) P w K mg base N qual scope f cd A outer s H E) E:=by intro pins σ H1 s1 ev s' I h;obtain⟨e,C,H',rfl,J,F,hE⟩:=I.flown h;exact Zb8 rfl rfl rfl J (F.older λb hb=>I.was rfl hb) hE
theorem Fun.okX{x qual:Str}{st:Stmt}{f:Addr}{fd:FuncData}{N ps:List Str}{k:Nat}{sp:Sp}(F:Fun K x qual st f fd)(S:FnScope N ps (XA st))(len:∀ vs H Q E,sp vs H Q E->vs.length=ps.length)
  (hbody:∀(Xz:Value) (A:Around) (outer:List Env) (s:Shared) (H:Hp) (vs:List V) (Q:VK) (E:XK),Room k (A.deeper (envOfC qual (XA st) s.heap.objs.size f Xz))->sp vs H Q E ->
   ∃ t,PSs (Wr (UX P w) P w K mg base N qual (XA st) f Xz A outer s H E) (Qx st) t/\t { nx:=λ_ H'=>Q .non H',rt:=Q } (start N vs) H):FnOk P w K mg base (UX P w) (k+1) f fd ps sp:=by obtain⟨oc,od,kV,doc,pm,an,Xz,ct,Uy,rfl,lk,Ul⟩:=F.ex;exact Ks lk Ul S len λA outer s H vs Q E hr Tg=>hbody Xz A outer s H vs Q E hr Tg
end
structure XCls (K:Ad) (C:Addr):Prop where
 ex:PySem.W.excIn K C [.type "ValueError",.type "Exception",.type "BaseException",.type "object"] "ValueError.__new__"=true
 ga:PySem.W.findIn K (.ref C) "__getattribute__"=some (some (.builtin "BaseException.__getattribute__"))
 gh:PySem.W.findIn K (.ref C) "__getattr__"=some none
 cl:PySem.W.findIn K (.ref C) "__class__"=some (some (.builtin "object.__class__"))
 ob:PySem.W.mroIn K C (.type "object")=some true
 bx:PySem.W.mroIn K C (.type "BaseException")=some true
theorem XCls.obj {K:Ad} {C:Addr} {h:Heap} (c:XCls K C) (X:K.In h):∃ bm N nm q bs hdct sn sub ab col dd k0 k1 k2 k3 k5 mN,h.get? C=some (excClassObj nm q C N bs bm hdct sn sub ab col dd k0 k1 k2 k3 k5 "ValueError.__new__")/\h.Ns N mN/\mN "__init__"=none/\OwnTail h [.type "ValueError",.type "Exception",.type "BaseException",.type "object"] bm:=by
 have q:=c.ex;unfold PySem.W.excIn at q;split at q
 .rename_i dd cd sl ho;split at q
  .rename_i C' bm k0 k1 k2 k3 n k5 hm hs;simp only [MB,SW,Bool.not_eq_true']at q;obtain⟨⟨⟨⟨⟨rfl,rfl⟩,EF⟩,ht⟩,hok⟩,zB⟩:=q;obtain⟨nm,bs,mro,ns,qn,hd,sn,sub,ab,col,del⟩:=cd;dsimp only at hm EF hok zB;subst hm EF;have JP:sl=#[k0,k1,k2,k3,some (.builtin "ValueError.__new__"),k5]:=by obtain⟨l⟩:=sl;simp only at hs;rw[hs]
   subst JP;exact⟨bm,ns,nm,qn,bs,hd,sn,sub,ab,col,dd,k0,k1,k2,k3,k5,_,X _ _ ho,.of_isNs (PySem.W.isNs_of_in X hok),PySem.W.nsMap_none_of_in X hok zB,PySem.W.tail_of_in X ht⟩
  .cases q
 .cases q
def EE(C:Addr)(E:XK)(t:TA):TS:=λ_ σ H=>t σ H λvs H1=>vs.length<=sizeLine/\E (.ref C) none H1
theorem h7{P:Program}{w:World}{K:Ad}{mg:Af}{base:Heap}{N:List Str}{qual:Str}{scope:Scope}{f:Addr}{cd:Value}{A:Around}{outer:List Env}{s0:Shared}{H0:Hp}{E:XK}{C:Addr}{x:Str}{np Xm pos:Pos}{e₀:Expr}{rest:List Expr}{t:TA}
  (c:XCls K C) (hm:mg x=some (.ref C)) (ha:PA (Wr (UX P w) P w K mg base N qual scope f cd A outer s0 H0 E) (e₀ :: rest) t)
  (hg:Gl (Wr (UX P w) P w K mg base N qual scope f cd A outer s0 H0 E) x:=by rfl) (hd:(x == ("__debug__":Str))=false:=by decide)
  (he:starEach (e₀ :: rest) (Wr (UX P w) P w K mg base N qual scope f cd A outer s0 H0 E).env=(false,eval e₀ (Wr (UX P w) P w K mg base N qual scope f cd A outer s0 H0 E).env) :: starEach rest (Wr (UX P w) P w K mg base N qual scope f cd A outer s0 H0 E).env:=by rfl)
  (Vt:(backTo Xm (starEach rest (Wr (UX P w) P w K mg base N qual scope f cd A outer s0 H0 E).env)).any (·.1)=false:=by rfl) :
  PS (Wr (UX P w) P w K mg base N qual scope f cd A outer s0 H0 E) (.Raise (some (.Call (.Name x np) (e₀ :: rest) [] Xm)) none pos) (EE C E t):=by
 intro pins s σ H D I h;obtain⟨tl,NN,nm,q,bs,hdct,sn,sub,ab,col,dd,k0,k1,k2,k3,k5,mN,hC,hN,zB,T⟩:=c.obj I.ok.mod.kin;refine wpAny_Raise_call_subT (C:=C) (nm:=nm) (q:=q) (N:=NN) (bs:=bs) (bm:=tl) (hdct:=hdct) (sn:=sn) (sub:=sub) (ab:=ab) (col:=col) (dd:=dd) (k0:=k0) (k1:=k1) (k2:=k2) (k3:=k3) (k5:=k5)
  GK (mN:=mN) (T.hasType GK.hasBase) (I.ok.hd rfl) (by rw[he];show(false || (backTo Xm (starEach rest _)).any (·.1))=false;rw[Vt];rfl) zB (Gy I hg hm ⟨rfl,?_⟩ hd)
 have h:=ha Xm pins s σ H _ I h;rw[he]at h ⊢;refine Calls.evalArgs_plain (UG h (λvs s₂ h₂=>?_) λ_ _ y=>y);obtain⟨zs,H2,I2,rz,hz,hE⟩:=h₂;refine⟨rfl,by rw[<- rz.length];exact hz,I2.bk _ _ hC,hN.keeps I2.bk,T.keeps I2.bk,λh' e hme=>?_⟩;exact ZN6 rfl rfl rfl I2 hme hE
section
variable{X:Cx}{pins:List (Addr × Obj)}{σ:St}{H:Hp}{s:Shared}{e:Addr}
theorem Inv.held(I:Inv X pins σ H s){ns:List Addr}{h':Heap}{tk:Nat}(VO:∀ b∈ns,X.s₀.heap.get? b=none/\H b=none/\(∀ p∈X.pn++pins,p.1≠b))(k:(WQ X s.heap ns).StaysIn h')(up:s.heap.UpToSlots h'):Inv X pins σ H { s with heap:=h',toks:=tk }:=by
 have EI:∀ b o,X.s₀.heap.get? b=some o->b∉ns:=λb o q z=>by rw[(VO b z).1]at q;cases q
 have zD:∀ b o,X.s₀.heap.get? b=some o->b≠X.env.locals:=λb o q=>Yt (Yn (Yl q) I.ok.above);have Mh:∀ b,b≠X.env.locals->b∉X.fs->b∉Wj X.stack:=λb h1 h2 z=>(Yg.mp (I.stkSub b z)).elim h1 h2
 have slot:∀ b u,b∈X.fs->s.heap.get? b=some u->∃ sl,h'.get? b=some { u with slots:=sl }:=λb u hb g=>by obtain⟨_,o',WR,hd⟩:=I.funs.mem hb;rw[g]at WR;cases WR;exact up b u g hd
 have cellK:∀ c v,s.heap.IsCell c v->h'.IsCell c v:=λc v ⟨o,ho,hd⟩=>by
  obtain⟨sl,g⟩:=up c o ho λvs q=>by rw[hd]at q;cases q
  exact⟨_,g,hd⟩
 refine⟨I.ok,I.os,I.bare,⟨λb o q n hb hx=>?_,λb o q n hb hx=>?_,I.base.free,λb o q hx=>?_,I.base.tups,I.base.frzs,I.base.tbls⟩,?_,λx c q=>?_,I.free,I.freeC,λp hp=>?_,EJ I.hok I.stkFree (λb hb=>(VO b hb).2.1) k,I.len⟩
 .exact k b o (JS (I.base.keep b o q n hb hx) (Mh b (zD b o q) hb) (EI b o q))
 .obtain⟨sl,g⟩:=I.base.slot b o q n hb hx;obtain⟨KN,g'⟩:=slot b _ hb g;exact⟨KN,g'⟩
 .obtain⟨u,g⟩:=I.base.there b o q hx;by_cases hb:b∈X.fs
  .obtain⟨sl,g'⟩:=slot b u hb g;exact⟨_,g'⟩
  .exact⟨u,k b u (JS g (Mh b (zD b o q) hb) (EI b o q))⟩
 .obtain⟨m,hn,hl⟩:=I.loc;refine⟨m,up.ns hn,λi x v e1 e2 e3=>?_⟩;obtain⟨u,r,l⟩:=hl i x v e1 e2 e3;refine⟨u,r,?_⟩;rcases l with l | ⟨kk,c,q,z⟩
  .exact .inl l
  .exact .inr ⟨kk,c,q,cellK c _ z⟩
 .obtain⟨v,z⟩:=I.cell x c q;exact⟨v,cellK c v z⟩
 .obtain⟨q,n,ne,nf,d⟩:=I.pin p hp;exact⟨k p.1 p.2 (JS q (Mh p.1 ne nf) λz=>(VO p.1 z).2.2 p hp rfl),n,ne,nf,d⟩
theorem Inv.gone(I:Inv X pins σ H s)(hN:X.N.Nodup){i:Nat}{n:Str}{h':Heap}{tk:Nat}{m:Af}{v:Option Value}(hi:X.N[i]?=some n)(hn:s.heap.Ns X.env.locals m)
  (Ub:h'.Ns X.env.locals (λx=>if x=n then v else m x)) (hs:Heap.SameBut X.env.locals s.heap h'):Inv X pins (σ.set i none) H { s with heap:=h',toks:=tk }:=by
 obtain⟨m0,hn0,hl⟩:=id I.loc;have em:m0=m:=by
  funext x
  obtain⟨o,es,ep,ho,hd,_,hf⟩:=hn0;obtain⟨o',Ak,Aj,WR,Uc,_,hf'⟩:=hn;rw[ho]at WR;cases WR;rw[hd]at Uc;cases Uc;rw[<- hf,<- hf']
 subst em;have cne:=I.cne
 have Oj:i<σ.length:=by rw[I.len];exact(Xp.mp hi).1
 obtain⟨oL,_,_,Ms,_⟩:=id hn;refine⟨I.ok,I.os,I.bare,⟨λb o q n hb hx=>?_,λb o q n hb hx=>?_,I.base.free,λb o q hx=>?_,I.base.tups,I.base.frzs,I.base.tbls⟩,⟨_,Ub,λj y v' e1 e2 e3=>?_⟩,λy c q=>?_,I.free,I.freeC,λp hp=>?_,λb ob q=>?_,by simpa using I.len⟩
 .exact(hs.2 b (Yt (Yn (Yl q) I.ok.above))).trans (I.base.keep b o q n hb hx)
 .obtain⟨sl,e1⟩:=I.base.slot b o q n hb hx;exact⟨sl,(hs.2 b (Yt (Yn (Yl q) I.ok.above))).trans e1⟩
 .obtain⟨o',e1⟩:=I.base.there b o q hx;exact⟨o',(hs.2 b (Yt (Yn (Yl q) I.ok.above))).trans e1⟩
 .by_cases hj:j=i
  .subst hj;rw[xH Oj]at e2;cases e2
  .rw[xA (YY hj)]at e2;obtain⟨u',r',q⟩:=hl j y v' e1 e2 e3;refine⟨u',r',?_⟩;rcases q with ⟨k,e⟩ | ⟨k,c,e,z⟩
   .refine .inl ⟨k,?_⟩
    have:y≠n:=λe=>hj (wI hN e1 (e ▸ hi))
    simp[this,e]
   .exact .inr ⟨k,c,e,z.sameBut hs (cne y c e)⟩
 .obtain⟨w',z⟩:=I.cell y c q;exact⟨w',z.sameBut hs (cne y c q)⟩
 .obtain⟨q,n,ne,nf,d⟩:=I.pin p hp;exact⟨(hs.2 p.1 ne).trans q,n,ne,nf,d⟩
 .refine(I.hok b ob q).stay (λc w' hc q'=>(hs.2 c ?_).trans q') (λ_ q=>q) λ_ _ q=>q;rintro rfl;rcases hc with z | hc
  .subst z;rw[I.free]at q;cases q
  .rw[I.free]at hc;cases hc
end
abbrev Qk(X:Cx)(pins:List (Addr × Obj))(R:St->XK):Cx:={ X with pn:=X.pn++pins,xe:=λev s'=>∃(σ:St) (H1:Hp) (s1:Shared),Inv X pins σ H1 s1/\UX X.prog X.w X.stack H1 s1 (R σ) ev s' }
abbrev NM(X:Cx)(pins:List (Addr × Obj))(e:Addr)(oe:Obj):Cx:={ X with A:=X.A.mark (some (.ref e)),calm:=false,pn:=X.pn++pins++[(e,oe)],xe:=λ_ _=>False }
section
variable{X:Cx}{pins pins':List (Addr × Obj)}{σ:St}{H:Hp}{s:Shared}{R:St->XK}{e:Addr}{oe:Obj}
theorem Inv.inTry(I:Inv X pins σ H s):Inv (Qk X pins R) [] σ H s :=
 ⟨⟨I.ok.mod,I.ok.kind,I.ok.glob,I.ok.blt,I.ok.above,I.ok.inj,I.ok.has,I.ok.cab,I.ok.hd,I.ok.frames,I.ok.stk,I.ok.exf,I.ok.bs,I.ok.bsz,I.ok.noex,I.ok.exfs,I.ok.funs,I.ok.frf⟩,I.os,I.bare,I.base,I.loc,I.cell,I.free,I.freeC,λp hp=>I.pin p (by simpa using hp),I.hok,I.len⟩
theorem Inv.outTry(I:Inv (Qk X pins R) pins' σ H s):Inv X pins σ H s :=
 ⟨⟨I.ok.mod,I.ok.kind,I.ok.glob,I.ok.blt,I.ok.above,I.ok.inj,I.ok.has,I.ok.cab,I.ok.hd,I.ok.frames,I.ok.stk,I.ok.exf,I.ok.bs,I.ok.bsz,I.ok.noex,I.ok.exfs,I.ok.funs,I.ok.frf⟩,I.os,I.bare,I.base,I.loc,I.cell,I.free,I.freeC,λp hp=>I.pin p (Ya _ hp),I.hok,I.len⟩
theorem SP.outTry{D:Ends}{f:Flow}(h:SP (Qk X pins R) [] D f s):SP X pins D f s:=by
 cases f with
 | next=>obtain⟨σ',H',I,q⟩:=h;exact⟨σ',H',I.outTry,q⟩
 | brk=>obtain⟨σ',H',I,q⟩:=h;exact⟨σ',H',I.outTry,q⟩
 | cont=>obtain⟨σ',H',I,q⟩:=h;exact⟨σ',H',I.outTry,q⟩
 | ret u=>obtain⟨v,σ',H',I,r,q⟩:=h;exact⟨v,σ',H',I.outTry,r,q⟩
theorem Inv.inHan(I:Inv X pins σ H s)(h1:s.heap.get? e=some oe)(h2:H e=none)(h3:e≠X.env.locals)(h4:e∉X.fs)(h5:∀ v,oe.data≠.cell v):Inv (NM X pins e oe) [] σ H s :=
 ⟨⟨I.ok.mod,I.ok.kind,I.ok.glob,I.ok.blt,I.ok.above,I.ok.inj,I.ok.has,I.ok.cab,(λz=>(nomatch z)),I.ok.frames,I.ok.stk,I.ok.exf,I.ok.bs,I.ok.bsz,I.ok.noex,I.ok.exfs,I.ok.funs,I.ok.frf⟩,I.os,I.bare,I.base,I.loc,I.cell,I.free,I.freeC,λp hp=>by
  rw[YF]at hp;rcases Xy.mp hp with z | z
  .exact I.pin p z
  .rw[XD.mp z];exact⟨h1,h2,h3,h4,h5⟩,I.hok,I.len⟩
theorem Inv.outHan(hd:X.calm=true->X.A.handled=none)(fr:X.A.frames=some X.stack)(I:Inv (NM X pins e oe) pins' σ H s):Inv X pins σ H s :=
 ⟨⟨I.ok.mod,I.ok.kind,I.ok.glob,I.ok.blt,I.ok.above,I.ok.inj,I.ok.has,I.ok.cab,hd,fr,I.ok.stk,I.ok.exf,I.ok.bs,I.ok.bsz,I.ok.noex,I.ok.exfs,I.ok.funs,I.ok.frf⟩,I.os,I.bare,I.base,I.loc,I.cell,I.free,I.freeC,λp hp=>I.pin p (Ya _ (Ya _ hp)),I.hok,I.len⟩
end
def tN(CX:RT)(X:Cx)(R:St->XK):Prop:=∀(pins:List (Addr × Obj)) (σ:St) (H:Hp) (s:Shared) (e:Value) (s':Shared),Inv X pins σ H s->CX X.stack H s (R σ) e s'->X.xe e s'
theorem pxT{X:Cx}{pins:List (Addr × Obj)}{P:Program}{w:World}{R:St->XK}(hP:P=X.prog:=by rfl)(hw:w=X.w:=by rfl):tN (UX P w) (Qk X pins R) R:=by subst hP hw;exact λ_ σ H s _ _ I h=>⟨σ,H,s,I.outTry,h⟩
def ED(sp:Sp)(VB:List V)(R:St->XK)(t:TA):TE:=λσ H Q=>t σ H λvs H1=>sp (vs++VB) H1 Q (R σ)
section
variable{X:Cx}{CX:RT}{k:Nat}{f:Addr}{fd:FuncData}{ps:List Str}{sp:Sp}{VB:List V}{ds:Ag}{R:St->XK}{x:Str}{p pos:Pos}{e:Expr}{es:List Expr}{t:TA}
theorem tL{pins:List (Addr × Obj)}{σ:St}{H:Hp}{s:Shared}{Q:VK}{us:Ag}{vs:List V}(F:FnOk X.prog X.w X.K X.mg X.base CX k f fd ps sp)(hr:Room k X.A)(hb:Binds X.K fd ps ds)(hd:Vals VB ds)(hx:tN CX X R)
  (I:Inv X pins σ H s) (r:Vals vs us) (h:sp (vs++VB) H Q (R σ)):wpAny (model X.prog X.w) X.A (call (.ref f) us) (EP X pins σ Q) X.xe s:=by
 have r2:Vals (vs++VB) (us++ds):=r.append hd;have hl:(us++ds).length=ps.length:=by rw[<- r2.length];exact F.len _ _ _ _ h
 refine Ib (Ow (F.run X.A X.stack s H ⟨us,[]⟩ (us++ds) (vs++VB) Q (R σ) hr I.env0 (hb s us I.kIn hl) r2 h) λr s' hq=>?_);cases r with
 | error e=>exact hx pins σ H s e s' I hq
 | ok fl =>
  cases fl with
  | ret u=>exact I.after hq
  | next=>exact False.elim hq
  | brk=>exact False.elim hq
  | cont=>exact False.elim hq
theorem ZZ9(F:FnOk X.prog X.w X.K X.mg X.base CX k f fd ps sp)(hr:Room k X.A)(hg:Gl X x)(hm:X.mg x=some (.ref f))(hk:PySem.W.keepIn X.K (.ref f)=true)(hb:Binds X.K fd ps ds)(hd:Vals VB ds)(hx:tN CX X R)
  (ha:PA X (e :: es) t) (TX:(x == ("__debug__":Str))=false:=by decide) (he:starEach (e :: es) X.env=(false,eval e X.env) :: starEach es X.env:=by rfl) (Vj:(backTo pos (starEach es X.env)).any (·.1)=false:=by rfl) :
  PE X (.Call (.Name x p) (e :: es) [] pos) (ED sp VB R t):=by intro pins s σ H Q I h;refine QV (Gy I hg hm ?_ TX);refine xt (h₀:=X.base) I.ok.mod.kin hk (thn (ha pos pins s σ H _ I h) λus s1 ⟨vs,H1,I1,r,q⟩=>⟨I1.kIn,?_⟩) he Vj;exact tL F hr hb hd hx I1 r q
end
def Ends.less(D:Ends)(i:Nat):Ends:={ nx:=λσ H=>D.nx (σ.set i none) H,rt:=D.rt,bk:=λσ H=>D.bk (σ.set i none) H,ct:=λσ H=>D.ct (σ.set i none) H }
def tK(K:Ad)(W:Addr)(i:Nat)(tb:(St->XK)->TS)(th:Addr->Addr->TS):TS:=λD σ H =>
 tb (λσ' c _ H'=>∃ C,c=Value.ref C/\PySem.W.exmOne K (.ref C) (.ref W)=some true/\∀ e:Addr,H' e=none->th e C (D.less i) (σ'.set i (some (.ref e))) H') D σ H
theorem tJ{X:Cx}{W:Addr}{i:Nat}{x n:Str}{np RM pos:Pos}{body:List Stmt}{b₀:Stmt}{Mf:List Stmt}{tb:(St->XK)->TS}{th:Addr->Addr->TS}
  (WB:X.stack=X.env :: X.outer) (RN:X.env.frame=some X.env.locals) (hex:X.ex=[]) (hN:X.N.Nodup) (hi:X.N[i]?=some n) (hl:X.env.kindOf n=some .local) (hm:X.mg x=some (.ref W)) (hg:Gl X x)
  (hb:∀(R:St->XK) (pins:List (Addr × Obj)),PSs (Qk X pins R) body (tb R)) (hs:∀(e C:Addr) (oe:Obj) (pins:List (Addr × Obj)),oe.cls=.ref C->PSs (NM X pins e oe) (b₀ :: Mf) (th e C)) (TX:(x == ("__debug__":Str))=false:=by decide) :
  PS X (.Try body [.ExceptHandler (some (.Name x np)) (some n) (b₀ :: Mf) RM] [] [] pos) (tK X.K W i tb th):=by
 intro pins s σ H D I h;refine wpAny_Try_except (UG (hb _ pins [] s σ H D I.inTry h) (λf s1 q=>?_) (λev s1 q=>?_))
 .have q:=SP.outTry q;cases f with
  | next=>exact QN q
  | brk=>exact q
  | cont=>exact q
  | ret u=>exact q
 .obtain⟨σ1,H1,s0,I0,Wv⟩:=q;obtain⟨e,C,H',rfl,J,F,C',eC,hmt,hR⟩:=I0.flown Wv;cases eC;have hR:=hR e F.free
  obtain⟨T,a0,fl,nT,fT⟩:=EG WB J F;have VO:∀ b∈[e,T],X.s₀.heap.get? b=none/\H' b=none/\(∀ p∈X.pn++pins,p.1≠b):=λb hb=>by
   have key:∀ b,s0.heap.get? b=none->H' b=none->X.s₀.heap.get? b=none/\H' b=none/\(∀ p∈X.pn++pins,p.1≠b):=λb n0 f0=>⟨I0.was hex n0,f0,λp hp z=>by
    have:=(I0.pin p hp).1
    rw[z,n0]at this;cases this⟩
   rcases Yg.mp hb with rfl | hb
   .exact key _ F.new F.free
   .rw[XD.mp hb];exact key _ nT fT
  rw[WB]at fl;refine wpAny_looks_onW (by rw[J.ok.frames,WB]) RN fl λh₄ NL EC=>?_;refine wpAny_landsW NL λh₅ Qj JO=>?_;have Me:=EC.trans JO
  have J₅:Inv X pins σ1 H' { s1 with heap:=h₅ }:=J.held (tk:=s1.toks) VO Qj.1 Me;obtain⟨ob,RP,tI⟩:=Qj.there;refine wpAny_handleBy_cons (codeAny_handlers_test (Ld J₅.ok.kind hg (Calls.loadGlobal_global (by rw[J₅.ok.glob];exact J₅.mod.glob.keeps J₅.bk) hm ?_) TX)) (by intro q;cases q);have LT:PySem.W.Looks (model X.prog X.w) h₅ (typeOf (.ref e)) (.ref C):=by rw[<- tI];exact(PySem.W.Looks.ld RP).andThen .now
  refine(PySem.W.exm_one J₅.kIn LT hmt).here ?_;refine codeAny_handlers_suite_as ?_;refine lands_againW Qj λh₆ Md EB=>?_;have J₆:Inv X pins σ1 H' { s1 with heap:=h₆ }:=J.held (tk:=s1.toks) VO Md.1 (Me.trans EB)
  obtain⟨oe,ws,Td,tH,NK,hoe0⟩:=Md.first;have GC:e≠X.env.locals:=λz=>by
   obtain⟨m,⟨o',es,ep,WR,Uc,_⟩,_⟩:=J₆.loc;rw[<- z]at WR;have Qi:h₆.get? e=some oe:=Td
   have TK:h₆.get? e=some o':=WR;rw[Qi]at TK;cases TK;rw[NK]at Uc;cases Uc
  have Mh:e∉X.fs:=λz=>by
   obtain⟨_,o',WR,hd⟩:=J₆.funs.mem z;have Qi:h₆.get? e=some oe:=Td
   have TK:h₆.get? e=some o':=WR;rw[Qi]at TK;cases TK;exact hd ws NK
  refine jk J₆ hN hi (.inl hl) (v:=.ref e) rfl (λs7 J₇ zA=>?_) (.inr hl);obtain⟨a,EA,ha⟩:=zA;have hea:e≠a:=by
   rcases ha with rfl | ha
   .exact GC
   .intro z;obtain⟨v,o',WR,Uc⟩:=J₆.cell _ _ ha;rw[<- z]at WR;have Qi:h₆.get? e=some oe:=Td
    have TK:h₆.get? e=some o':=WR;rw[Qi]at TK;cases TK;rw[NK]at Uc;cases Uc
  have tG:s7.heap.get? e=some oe:=(EA.2 e hea).trans Td;have JH:=J₇.inHan (oe:=oe) tG F.free GC Mh (λv z=>by rw[NK]at z;cases z)
  refine UG (hs e C oe pins tH [] s7 _ H' (D.less i) JH hR) (λf s8 q=>?_) λ_ _ z=>False.elim z;have hp:(X.env.scope.kind == .class || (X.env.scope.kind == .module && X.env.locals != X.env.globals))=false:=by rw[J.ok.kind];rfl
  have fin:∀ {σ8:St} {H8:Hp},Inv (NM X pins e oe) [] σ8 H8 s8->∀ {Q:Flow->Shared->Prop},(∀ s9,Inv X pins (σ8.set i none) H8 s9->Q f s9)->wpAny (model X.prog X.w) X.A (do bindName X.env n .none;unbindBehindTheSuite X.env n RM) (λ_ s9=>Q f s9) X.xe s8:=λ{σ8 H8} J8 {Q} k=>by have J9:=J8.outHan I.ok.hd I.ok.frames;obtain⟨m,hn,_⟩:=id J9.loc;exact wpAny_nameGoes_keeps hl hn hp λh' v Ub Ez=>k _ (J9.gone hN hi hn Ub Ez)
  cases f with
  | next=>obtain⟨σ8,H8,J8,q⟩:=q;exact fin J8 λs9 J9=>⟨_,H8,J9,q⟩
  | brk=>obtain⟨σ8,H8,J8,q⟩:=q;exact fin J8 λs9 J9=>⟨_,H8,J9,q⟩
  | cont=>obtain⟨σ8,H8,J8,q⟩:=q;exact fin J8 λs9 J9=>⟨_,H8,J9,q⟩
  | ret u=>obtain⟨v,σ8,H8,J8,r,q⟩:=q;exact fin J8 λs9 J9=>⟨v,_,H8,J9,r,q⟩
end L2
namespace L2
open PySem PySem.Spec PyProof.Rows PySem.W PySem.Calls Builtin Builtin.ObjectAttr Builtin.Getset_descriptor
section
variable{prog:Program}{w:World}{A:Around}{E:Ae}{K:Ad}{x C:Addr}{ox:Obj}
theorem tE {R:Result->Shared->Prop} {s:Shared} {tp:Value} (X:K.In s.heap) (hx:s.heap.get? x=some ox) (hc:ox.cls=.ref C) (hm:mroIn K C (.type "object")=some true)
  (h:R (.ok (.ret (.ref C))) s):codeAny (model prog w) A (.call (.builtin "getset_descriptor.__get__") ⟨[.builtin "object.__class__",.ref x,tp],[]⟩) R s:=by
 obtain⟨hh,g,dr,t,os⟩:=s;have L0:Looks (model prog w) hh (typeOf (.ref x)) (.ref C):=by rw[<- hc];exact(Looks.ld hx).andThen .now
 have L1:=looks_mroIn (M:=model prog w) X hm;refine AG KF.slot_gs.plain KF.entry_gs (KF.slot_gs.check _ _ _ _ _ _ _ _ KF.type_class (KF.args_gs _ _ _) ?_);unfold Builtin.«getset_descriptor.__get__» descrGet;rw[dga_obj];refine XU (Yj ?_);unfold descrGetter descrCheckInstance descrNameAndClass isInstance;simp only [KF.owner_class]
 repeat lk
 refine⟨GX _ (by decide +kernel),Wg KF.entry_class ?_⟩;unfold Builtin.«object.__class__» shownTypeOf
 repeat lk
 exact h
theorem Zt9{tk:Tok}{Q:Fin->Shared->Prop}{s:Shared}(X:K.In s.heap)(hx:s.heap.get? x=some ox)(hc:ox.cls=.ref C)(c:XCls K C)(hq:Q (.done (.ret (.ref C))) s) :
  wpAny (model prog w) A (Builtin.«object.__getattribute__» ⟨[.ref x,.str "__class__" tk],[]⟩) Q E s:=by
 obtain⟨hh,g,dr,t,os⟩:=s;have L0:Looks (model prog w) hh (typeOf (.ref x)) (.ref C):=by rw[<- hc];exact(Looks.ld hx).andThen .now
 have L1:=looks_findIn (M:=model prog w) X c.cl;have zz:(⟨hh,g,dr,t,os⟩:Shared).TypeIs (.builtin "object.__class__") "getset_descriptor":=F.typeOf_object_class
 have f5:=F.typeOf_object_class;have f6:=F.slot_gs_get.lookup
 have f7:=F.slot_gs_set.lookup
 repeat (any_goals (first | assumption | (with_reducible refine L0.at ?_) | (with_reducible refine L1.at ?_) | wp_step))
 refine tE (s:=⟨hh,g,dr,t,os⟩) X hx hc c.ob ?_;exact Yj hq
theorem Zu9{M:Model}{Mc:Value}{Q:Unit->Shared->Prop}{s:Shared}(X:K.In s.heap)(hx:s.heap.get? x=some ox)(hc:ox.cls=.ref C)(c:XCls K C)(hq:Q () s) :
  wpAny M A (checkBuiltinCall "BaseException.__getattribute__" ⟨[.ref x,Mc],[]⟩) Q E s:=by
 obtain⟨hh,g,dr,t,os⟩:=s;have hk:builtinKind "BaseException.__getattribute__"=some .slot:=by decide +kernel
 have JN:splitId "BaseException.__getattribute__"=some ("BaseException","__getattribute__"):=by decide +kernel
 have ha:=PySem.F.args_bexc_ga (.ref x) Mc;have L0:Looks M hh (typeOf (.ref x)) (.ref C):=by rw[<- hc];exact(Looks.ld hx).andThen .now
 have L1:=looks_mroIn (M:=M) X c.bx;simp only [checkBuiltinCall,hk,JN];refine XU ?_;refine XU (L0.at (L1.at ?_))
 repeat (any_goals (first | assumption | wp_step))
theorem Ey{tk:Tok}{R:Result->Shared->Prop}{s:Shared}(X:K.In s.heap)(hx:s.heap.get? x=some ox)(hc:ox.cls=.ref C)(c:XCls K C)(hq:R (.ok (.ret (.ref C))) s) :
  codeAny (model prog w) A (.call (.builtin "BaseException.__getattribute__") ⟨[.ref x,.str "__class__" tk],[]⟩) R s :=
 AG jz.ga.plain PySem.F.entry_bexc_ga (Zu9 X hx hc c (Zt9 X hx hc c hq))
theorem tD{tk:Tok}{Q:Ae}{s:Shared}(X:K.In s.heap)(hx:s.heap.get? x=some ox)(hc:ox.cls=.ref C)(c:XCls K C)(hq:Q (.ref C) s) :
  wpAny (model prog w) A (getAttrBy (.ref x) (.str "__class__" tk) false) Q E s:=by
 obtain⟨hh,g,dr,t,os⟩:=s;have f3:=jz.ga.bind (.ref x)
 have Ex:(Value.builtin "BaseException.__getattribute__" == Value.builtin "object.__getattribute__")=false:=by decide +kernel
 have g9:(onTheHeap (Value.ref C) && Value.builtin "BaseException.__getattribute__" == Value.builtin "object.__getattribute__")=false:=by rw [Ex];rfl
 have L0:Looks (model prog w) hh (typeOf (.ref x)) (.ref C):=by rw[<- hc];exact(Looks.ld hx).andThen .now
 have L1:=looks_findIn (M:=model prog w) X c.ga;have L2:=looks_findIn (M:=model prog w) X c.gh
 repeat (any_goals (first | assumption | (with_reducible refine L0.at ?_) | (with_reducible refine L1.at ?_) | (with_reducible refine L2.at ?_) | wp_step))
 refine Ey (s:=⟨hh,g,dr,t,os⟩) X hx hc c ?_
 repeat (any_goals (first | assumption | wp_step))
theorem Ew{Q:Option Value->Shared->Prop}{s:Shared}(X:K.In s.heap)(hx:s.heap.get? x=some ox)(hc:ox.cls=.ref C)(c:XCls K C)(hq:Q (some (.ref C)) { s with toks:=s.toks+1 }) :
  wpAny (model prog w) A (getAttr? (.ref x) "__class__") Q E s:=by
 obtain⟨hh,g,dr,t,os⟩:=s;unfold getAttr? getAttrBy?
 repeat (any_goals (first | assumption | with_reducible refine tD (s:=⟨hh,g,dr,_,os⟩) X hx hc c ?_ | wp_step))
theorem tw(c:XCls K C)(Vi:(clsIn K C).isSome=true)(hc:ox.cls=.ref C):KitX K (.ref x) (.ref C) (λh=>h.get? x=some ox) where
 ty:=λ_ _ _ hx=>by rw[<- hc];exact(Looks.ld hx).andThen .now
 it:=λ_ _ X _=>by
  unfold clsIn at Vi;split at Vi
  .rename_i c' d' cd' KN ho;intro A' Q' E' s' k q;unfold isType loadHead;exact XU (wpAny_loadPart (k _ _ (X _ _ ho)) (Yj q))
  .cases Vi
 ne:=λh tp dd XW n sl X JM=>by
  refine Bool.eq_false_iff.mpr λq=>?_;have e:C=tp:=Value.ref.inj (SW.mp q)
  subst e;unfold clsIn at Vi;split at Vi
  .rename_i c' d' cd' KN ho
   have:=X _ _ ho
   rw[JM]at this;cases this
  .cases Vi
 ca:=λ{_ _ _ _ _ s} X hx hq=>Ew X hx hc c hq
end
theorem XCls.isSome{K:Ad}{C:Addr}(c:XCls K C):(clsIn K C).isSome=true:=by
 have q:=c.ex;unfold excIn at q;unfold clsIn;split at q
 .rename_i dd cd sl ho;rw[ho];rfl
 .cases q
section
variable{X:Cx}
theorem zy (K:Ad) {e C:Addr} {oe:Obj} (hp:(e,oe)∈X.pn) (hc:oe.cls=.ref C) (h:X.K=K:=by rfl):UQ X (.builtin "isinstance") (λxs H Q=>∃(d:V) (u:Value) (b:Bool),xs=[.ref e,d]/\(∀ z,RelV d z->z=u)/\XCls K C/\kitOne K (.ref C) u=some b/\Q (.bl b) H):=by
 subst h;intro pins s σ H xs us Q I r h;obtain⟨d,u,b,rfl,hd,c,hk,q⟩:=h;obtain⟨u1,v,rfl,ru,rv⟩:=Kd r;obtain rfl:u1=Value.ref e:=ru;obtain rfl:=hd v rv;have hx:=(I.pin (e,oe) (Ya _ hp)).1
 exact kia_one (tw c c.isSome hc) I.kIn hx hk (λz=>nomatch z) λtk=>⟨.bl b,H,I.tok tk,rfl,q⟩
end
end L2
namespace L2
open PySem PySem.Spec PyProof.Rows
theorem tu{a:Int}(h1:-(10 ^ 70)<a)(h2:a<10 ^ 70):a.natAbs.log2<1920:=by
 have h:a.natAbs<10 ^ 70:=by omega
 by_cases h0:a.natAbs=0
 .rw[h0];decide
 .exact(Nat.log2_lt h0).mpr (Ar h (by decide))
def PJ(X:Cx)(es:List Expr)(t:St->Hp->(Hp->Prop)->Prop):Prop:=∀(n:Nat) (pins:List (Addr × Obj)) (s:Shared) (σ:St) (H:Hp) (acc:Str) (Q:Hp->Prop),acc.length<=4000 * n->n+es.length<=100->Inv X pins σ H s->t σ H Q ->
 wpAny (model X.prog X.w) X.A (joinParts acc (evalEach es X.env)) (λv s'=>∃ x tk H',v=Value.str x tk/\Inv X pins σ H' s'/\Q H') X.xe s
section
variable{X:Cx}{es:List Expr}{e:Expr}{te:TE}{t:St->Hp->(Hp->Prop)->Prop}{pos:Pos}
theorem JL:4000 * 100<=sizeLine:=by decide
theorem Eu:PJ X [] (λ_ H Q=>Q H):=λn pins s σ H acc Q ha hn I h=>by refine joinParts_nil ⟨acc,_,H,rfl,I.tok _,h⟩ (Yr ha (Yr (xy _ ?_) JL));simpa using hn
theorem Et{x:Str}{j:Nat}{p:Pos}(hr:PJ X es t)(hz:x.length<=4000:=by decide +kernel):PJ X (.Constant (.str x) j p :: es) t:=λn pins s σ H acc Q ha hn I h=>by
 have hl:(acc++x).length=acc.length+x.length:=strLen_append ..;rw[Yz]at hn;have hb:(acc++x).length<=4000 * (n+1):=by rw[hl];lia
 refine joinParts_cons (Calls.Constant_str ⟨Yr hb (Yr (xy _ (by lia)) JL),?_⟩);exact hr (n+1) pins _ σ H _ Q hb (by lia) (I.tok _) h
def tq(te:TE)(t:St->Hp->(Hp->Prop)->Prop):St->Hp->(Hp->Prop)->Prop:=λσ H Q=>te σ H λv H1=>∃ a:Int,v=.int a/\-(10 ^ 70)<a/\a<10 ^ 70/\t σ H1 Q
theorem Er{p:Pos}(he:PE X e te)(hr:PJ X es t):PJ X (.FormattedValue e (-1) none p :: es) (tq te t):=λn pins s σ H acc Q ha hn I h=>by
 rw[Yz]at hn;refine joinParts_cons (FormattedValue_plain (thn (he pins s σ H _ I h) λu s1 Xv=>?_));obtain⟨v,H1,I1,r,a,ev,a1,a2,q⟩:=Xv;subst ev;obtain⟨tk,rfl⟩:=r;have Ep:=tu a1 a2
 have hlen:(Str.ofString (toString a)).length<=4000:=by have z:=int_text_length_le (k:=1920) (by decide) Ep;rw[PySem.ofString_length];lia
 refine formatField_int_small Ep ?_;have hl:(acc++Str.ofString (toString a)).length=acc.length+(Str.ofString (toString a)).length:=strLen_append ..
 have hb:(acc++Str.ofString (toString a)).length<=4000 * (n+1):=by rw[hl];lia
 refine⟨Yr hb (Yr (xy _ (by lia)) JL),?_⟩;exact hr (n+1) pins _ σ H1 _ Q hb (by lia) (I1.tok _) q
def Eo(t:St->Hp->(Hp->Prop)->Prop):TE:=λσ H Q=>t σ H λH'=>∀ x:Str,Q (.str x) H'
theorem g8{v₁ v₂:Expr}{rest:List Expr}(h:PJ X (v₁ :: v₂ :: rest) t)(hn:(v₁ :: v₂ :: rest).length<=100:=by decide):PE X (.JoinedStr (v₁ :: v₂ :: rest) pos) (Eo t):=λpins s σ H Q I hq =>
 JoinedStr_many (thn (h 0 pins s σ H Str.empty _ (by decide) (by simpa using hn) I hq) λu s1 ⟨x,tk,H1,eu,I1,q⟩=>by subst eu;exact⟨.str x,H1,I1,⟨tk,rfl⟩,q x⟩)
end
theorem NJ{P:Program}{w:World}{X:Cx}:Ku (UX P w) X E0:=λ_ _ _ _ _ _ _ h=>by obtain⟨_,_,_,_,_,_,_,_,_,z⟩:=h;exact z.elim
end L2
namespace My
open PySem L2
theorem tm{H:Hp}{p1 p2:Addr}{l1 l2:Ac}{Q:VK}(h1:H p1=some (.lst (IL l1)))(h2:H p2=some (.lst (IL l2)))(hl:l1.length+l2.length<=1000000)(k:∀ r,H r=none->Q (.ref r) (upd H r (.lst (IL (l1++l2))))):Fo (.ref p1) (.ref p2) H Q:=by
 refine⟨p1,p2,_,_,rfl,rfl,h1,h2,?_,λr hr=>?_⟩
 .rw[Xr,Xr];exact TN hl
 .have:=k r hr
  rw[EX]at this;exact this
def RL(ns:Ac)(lo hi:Option Int):Ac:=(ns.drop (HT.Vw ns.length 0 lo)).take (HT.Vw ns.length ns.length hi - HT.Vw ns.length 0 lo)
theorem zx(ns:Ac)(lo hi:Option Int):WM (IL ns) lo hi=IL (RL ns lo hi):=by unfold WM RL;rw[EW,uf,Xr]
theorem xI{α:Type}{p:α->Prop}{w:α}(h:p w):∃ x,p x:=⟨w,h⟩
end My
namespace L2
open PySem PySem.Spec PyProof.Rows
theorem ZV:∀ {us:Ag} {ns:Ac},IntsAre us ns->Vals (ns.map V.int) us
 | [],[],_=>.nil
 | _ :: _,[],h=>by cases h
 | [],_ :: _,h=>by cases h
 | u :: us,n :: ns,h=>by
  cases h with
  | cons _ _ t=>exact .cons ⟨_,rfl⟩ (ZV t)
theorem Vals.rev:∀ {xs:List V} {us:Ag},Vals xs us->Vals xs.reverse us.reverse
 | _,_,.nil=>.nil
 | _,_,.cons r t=>by rw[xp,xp];exact(Vals.rev t).append (.cons r .nil)
section
variable{X:Cx}
theorem tj (K:Ad) (hk:X.K=K:=by rfl):UQ X (.builtin "sorted") (λxs H Q=>∃(p:Addr) (ns:Ac),xs=[.ref p]/\SqL K H p (ns.map V.int)/\ns.length<64 /\
  ∀ ms:Ac,ms.Perm ns->ms.Pairwise (·<=·)->∀ l,H l=none->Q (.ref l) (upd H l (.lst (ms.map V.int)))):=by
 subst hk;intro pins s σ H xs us Q I r h;obtain⟨p,ns,rfl,hq,hn,q⟩:=h;obtain⟨u,rfl,ru⟩:=Th r;obtain rfl:u=Value.ref p:=ru;obtain⟨XW,rv,pl,hz⟩:=I.list hq;have hi:=ZL rv
 have hl:XW.length=ns.length:=by rw[<- rv.length,Yd]
 refine sorted_ints pl.isList hi (by lia) λout ms h1 h2 h3=>?_;obtain⟨e,he⟩:=sortedAll_at s.heap XW out;have NI:ms.length=ns.length:=h2.length_eq
 refine⟨.ref (s.heap.objs.size+1),_,I.laid (t':=s.toks) (o:=.lst (ms.map V.int)) (λb o g=>sortedAll_old g) (Um _) ⟨?_,out.toList,e,ZV h1,?_⟩,rfl,q ms h2 h3 _ (I.hok.fresh (Um _))⟩
 .rw[Yd,NI]
  have:sizeLine=16777216:=Ue
  lia
 .exact he
theorem tf:typeLookup (.type "list_reverseiterator") "__length_hint__"=pure (some (.builtin "list_reverseiterator.__length_hint__")):=by rw [Ii,Io];kernel_rfl
theorem ZY7:typeLookup (.type "list_reverseiterator") "__len__"=pure none:=by rw [Ii,Io];kernel_rfl
theorem sZ {prog:Program} {w:World} {A:Around} {E:Ae} {s:Shared} {r:Addr} {Q:Bool->Shared->Prop} (hT:s.TypeIs (.ref r) "list_reverseiterator") (h:Q false s):wpAny (model prog w) A (Builtin.List.listLengthHint (.ref r)) Q E s:=by
 unfold Builtin.List.listLengthHint;refine XU (wpAny_specialOf hT ZY7 ?_);show wpAny _ A (specialOf (Value.ref r) (Str.ofString "__length_hint__") >>= _) _ _ _
 refine XU (wpAny_specialOf hT tf ?_);generalize En:("list_reverseiterator.__length_hint__":String)=sY
 wp_delta
 rw [show splitId sY=some ("list_reverseiterator","__length_hint__") from by subst En;decide +kernel];subst En;refine XU (AA (T:="list_reverseiterator") (b:=true) hT (by rw [Au];kernel_rfl) ?_);exact Yj h
section
variable{prog:Program}{w:World}{A:Around}{E:Ae}{s:Shared}{it a:Addr}{items:Array Value}
theorem ZJ6{R:Result->Shared->Prop}(hh:A.handled=none)(hi:s.heap.IsRevIter it a ((items.size:Int) - 1))(hl:s.heap.IsList a items)(XJ:a≠it){S:Addr}(h1:S≠it)(h2:S≠a){res:Value}{c0:Nat}
  (hS:s.heap.get? S=some { cls:=.type "list",data:=.seq #[] c0 }) (hz:items.size<=sizeLine)
  (k:∀ h' tk acc c,(∀ b o,b≠S->b≠it->s.heap.get? b=some o->h'.get? b=some o)->h'.get? S=some { cls:=.type "list",dict:=none,data:=.seq acc c,slots:=#[] }->ItemsOf (λi v=>items[items.size - 1 - i]?=some v) acc items.size->R (.ok (.ret res)) { s with heap:=h',toks:=tk }) :
  wpAny (model prog w) A.in1 (Builtin.List.listExtendWith (.ref S) (.ref it) res)
   (λfin s'=>match fin with | .done f=>R (.ok f) s' | .again c'=>c'.quiet=true/\codeAny (model prog w) A c' R s') (λe s'=>R (.error e) s') s:=by
 have W:=Walks.listRev (prog:=prog) (w:=w) (A:=A.in1) hh it a XJ items;have SM:S∉[it,a]:=by simp only [Yg,xh,or_false,not_or];exact⟨h1,h2⟩
 have HM:(0<=items.size/\s.heap.IsRevIter it a ((items.size:Int) - 1 - ((0:Nat):Int))/\s.heap.IsList a items):=⟨Yo _,by rw[show((items.size:Int) - 1 - ((0:Nat):Int))=(items.size:Int) - 1 by lia];exact hi,hl⟩;have hT:s.TypeIs (.ref it) "list_reverseiterator":=hi.typeIs
 have key:codeAny (model prog w) A (.builtin "list.extend.loop" ⟨[.ref S,.ref it,res],[]⟩) R s:=by
  refine codeAny_extend_loopS W.toS hz S SM res items.size 0 _ #[] c0 rfl (Yo _) HM hS (ItemsOf.nil _) λs' acc c hm Tc Wa=>?_;rw[Moved.eq_with hm];refine k s'.heap s'.toks acc c (λb o hb hbi e=>hm.heap b o (λhmem=>?_) e) Tc Wa;rcases Yg.mp hmem with e' | hmem
  .exact hb e'
  .exact hbi (XD.mp hmem)
 unfold Builtin.List.listExtendWith;refine XU (GN (T:="list_reverseiterator") hT ?_);have e1:Builtin.List.listSameRef (.ref S) (.ref it)=false:=by simp[Builtin.List.listSameRef,h1]
 rw[if_neg (by rw[e1];decide)];refine XU (wpAny_pyIter_revIter hi ?_);refine XU (Sv (sZ hT ?_));rw[if_neg (by decide)];exact Yj ⟨UE jK _,key⟩
theorem sX{Q:Ae}(hh:A.handled=none)(hi:s.heap.IsRevIter it a ((items.size:Int) - 1))(hl:s.heap.IsList a items)(XJ:a≠it)(hz:items.size<=sizeLine)
  (k:∀ h' tk acc c,(∀ b o,b≠it->s.heap.get? b=some o->h'.get? b=some o)->h'.get? s.heap.objs.size=some { cls:=.type "list",dict:=none,data:=.seq acc c,slots:=#[] }->ItemsOf (λi v=>items[items.size - 1 - i]?=some v) acc items.size ->
   Q (.ref s.heap.objs.size) { s with heap:=h',toks:=tk }):wpAny (model prog w) A (call (.type "list") [.ref it]) Q E s:=by
 obtain⟨oi,hoi,_⟩:=id hi;obtain⟨ol,Rg,_⟩:=id hl;have n1:s.heap.objs.size≠it:=Sb (Yl hoi)
 have n2:s.heap.objs.size≠a:=Sb (Yl Rg);refine callType_codes (Q₁:=λob s₁=>ob=.ref s.heap.objs.size/\s₁={ s with heap:=s.heap.push { cls:=.type "list",data:=.seq #[] } }) PySem.F.called_list (PySem.F.typeCall_list_1 _) PySem.F.entry_list_init (code_list_new _ ⟨rfl,rfl⟩) λob s₁ z=>?_;obtain⟨rfl,rfl⟩:=z;have HL:(s.heap.push { cls:=.type "list",data:=.seq #[] }).get? s.heap.objs.size=some { cls:=.type "list",data:=.seq #[] }:=Ym _ rfl
 refine⟨⟨_,HL,rfl⟩,PySem.F.args_list_init_2 _ _,?_⟩;show wpAny _ A.in1.in1 (do let old <- Builtin.List.listItems (.ref s.heap.objs.size);Builtin.List.listUpdate (.ref s.heap.objs.size) (λ_=>#[]);letGo old.toList.reverse;Builtin.List.listExtendWith (.ref s.heap.objs.size) (.ref it) .none) _ _ _
 refine XU ?_;unfold Builtin.List.listItems;refine XU (Ll HL rfl (Yj ?_));refine XU (Ay (a:=s.heap.objs.size) HL rfl ?_);have Em:=Vx (Obj.mapSeq (λ_=>(#[]:Array Value))) HL rfl
 have JK:∀ b o,b≠s.heap.objs.size->s.heap.get? b=some o->((s.heap.push { cls:=.type "list",data:=.seq #[] }).update s.heap.objs.size (Obj.mapSeq (λ_=>(#[]:Array Value)))).get? b=some o :=
  λb o hb e=>(YM _ _ (YY hb)).trans (Xc _ e)
 refine XU (Ic ?_);refine ZJ6 (A:=A.in1) (items:=items) hh (hi.at λo e=>JK it o (YY n1) e) (hl.at λo e=>JK a o (YY n2) e) XJ n1 n2 Em hz λh' tk acc c hk Tc Wa=>?_;exact⟨rfl,k h' tk acc c (λb o hb e=>hk b o (Yt (Yl e)) hb (JK b o (Yt (Yl e)) e)) Tc Wa⟩
end
end
section
variable{X:Cx}{p p2 pos Vq:Pos}{e:Expr}{t:TA}
def Yz9(K:Ad)(t:TA):TE:=λσ H Q=>t σ H λvs H1=>∃(a:Addr) (ys:List V),vs=[.ref a]/\SqL K H1 a ys/\∀ l,H1 l=none->Q (.ref l) (upd H1 l (.lst ys.reverse))
theorem g7 (K:Ad) (hc:X.calm=true) (g1:Gl X "list") (m1:X.mg "list"=none) (g2:Gl X "reversed") (m2:X.mg "reversed"=none) (ha:PA X [e] t) (hk:X.K=K:=by rfl)
  (he:starEach [e] X.env=[(false,eval e X.env)]:=by rfl)
  (Qr:starEach [.Call (.Name "reversed" p2) [e] [] Vq] X.env=[(false,eval (.Call (.Name "reversed" p2) [e] [] Vq) X.env)]:=by rfl) :
  PE X (.Call (.Name "list" p) [.Call (.Name "reversed" p2) [e] [] Vq] [] pos) (Yz9 K t):=by
 subst hk;intro pins s σ H Q I h;refine QV (VG I g1 m1 Boot.«list» ?_);refine Lw ?_ (by rw[Qr];rfl) rfl;rw[Qr];show wpAny _ _ (spliced ((false,eval (.Call (.Name "reversed" p2) [e] [] Vq) X.env) :: backTo pos [])) _ _ s
 refine xb ?_;refine QV (VG I g2 m2 Boot.«reversed» ?_);refine Lw (thn (ha Vq pins s σ H _ I h) λus s1 ⟨vs,H1,I1,r1,q1⟩=>?_) (by rw[he];rfl) rfl;obtain⟨a,ys,rfl,hq,q⟩:=q1;obtain⟨u,rfl,ru⟩:=Th r1;obtain rfl:u=Value.ref a:=ru;obtain⟨XW,rv,pl,hz⟩:=I1.list hq;refine call_reversed_list pl.isList ?_;refine wZ ?_;have el:XW.toArray.size=ys.length:=by rw[Yb,<- rv.length]
 have hit:(s1.heap.push (revObj a ((XW.toArray.size:Int) - 1))).IsRevIter s1.heap.objs.size a ((XW.toArray.size:Int) - 1):=⟨_,Ym _ rfl,rfl,rfl⟩;have XJ:a≠s1.heap.objs.size:=Yt (let ⟨_,_,e,_⟩:=pl;Yl e)
 refine sX (I.ok.hd hc) hit (pl.isList.push _) XJ (by rw[el];exact hz) λh' tk acc c hk hS zw=>?_;have el2:XW.length=ys.length:=rv.length.symm
 have ea:acc.toList=XW.reverse:=by
  refine RY λi=>?_;have h1:=zw.1
  by_cases hi:i<XW.length
  .obtain⟨v,ev⟩:∃ v,acc[i]?=some v:=⟨_,YE (by rw[h1,Yb];exact hi)⟩;have h2:=zw.2 i v ev
   rw[Ls hi];have e3:acc.toList[i]?=some v:=by simpa using ev
   rw[e3];have e4:XW[XW.length - 1 - i]?=some v:=by simpa using h2
   rw[e4]
  .rw[Vy (by rw[YD,h1,Yb];grind),Vy (by rw[YJ];omega)]
 rw[size_push']at hS ⊢;refine⟨.ref (s1.heap.objs.size+1),_,I1.laid (o:=.lst ys.reverse) (h':=h') (t':=tk) (λb o e=>hk b o (Yt (Yl e)) (Xc _ e)) (Um _) ⟨?_,acc.toList,c,?_,?_⟩,rfl,q _ (I1.hok.fresh (Um _))⟩
 .rw[YJ];exact hz
 .rw[ea];exact rv.rev
 .rw[hS]
end
end L2
namespace My
open PySem L2
theorem XX{m:Nat}{ns:Ac}:IsSet m ns↔(∀ z∈ns,0<=z/\z<(m:Int))/\ns.Pairwise (· < ·):=by
 constructor
 .intro h;refine⟨h.all,?_⟩;rw[Ir];intro i j hi hj Ux
  induction j with
  | zero=>exact absurd Ux (YZ i)
  | succ j ih =>
   have sW:j<ns.length:=by grind
   have key:=(h (j+1) ns[j+1] (Xo hj)).2.2 ns[j] (by lia) (by rw[xr];exact Xo sW);by_cases e:i=j
   .subst e;exact key
   .have:=ih sW (by lia)
    lia
 .rintro⟨ha,hp⟩ i z hz;obtain⟨hi,ei⟩:=Xp.mp hz;have hm:=ha z (Xd hz)
  refine⟨hm.1,hm.2,λy h0 hy=>?_⟩;obtain⟨NH,ei'⟩:=Xp.mp hy
  have:=Ir.mp hp (i - 1) i NH hi (by lia)
  rw[ei,ei']at this;exact this
theorem JJ{ns:Ac}(h:ns.Pairwise (· < ·)):ns.Nodup:=h.imp λVI e=>by lia
theorem IsSet.nodup{m:Nat}{ns:Ac}(h:IsSet m ns):ns.Nodup:=JJ (XX.mp h).2
end My
namespace My
theorem NG{α:Type}{P:List α->Prop}(h0:P [])(h1:∀ l x,P l->P (l++[x])):∀ l,P l:=by
 intro l;rw[<- List.reverse_reverse l]
 induction l.reverse with
 | nil=>exact h0
 | cons x r ih =>
  rw[xp];exact h1 _ _ ih
inductive Conn (es:List (Nat × Nat)):Nat->Nat->Prop
 | refl (i:Nat):Conn es i i
 | edge {a b:Nat} (h:(a,b)∈es):Conn es a b
 | symm {i j:Nat}:Conn es i j->Conn es j i
 | trans {i j k:Nat}:Conn es i j->Conn es j k->Conn es i k
theorem Conn.mono{es fs:List (Nat × Nat)}(h:∀ e∈es,e∈fs){i j:Nat}(c:Conn es i j):Conn fs i j:=by
 induction c with
 | refl i=>exact .refl i
 | edge q=>exact .edge (h _ q)
 | symm _ ih=>exact .symm ih
 | trans _ _ i1 i2=>exact .trans i1 i2
theorem NF{n i:Nat}(h:i<n):mk ((List.range n).map λ(i:Nat)=>(i:Int)) i=(i:Int):=by rw[mk_map' h]
where
 mk_map' {n i:Nat} (h:i<n):mk ((List.range n).map λ(i:Nat)=>(i:Int)) i=(i:Int):=by simp[mk,WI,Yp,xw h]
def InN(n:Nat)(es:List (Nat × Nat)):Prop:=∀ e∈es,e.1<n/\e.2<n
theorem InN.snoc{n:Nat}{es:List (Nat × Nat)}{e:Nat × Nat}(h:InN n (es++[e])):InN n es/\e.1<n/\e.2<n:=⟨λx hx=>h x (Ya _ hx),h e (by simp)⟩
theorem sV{n:Nat}:∀ es:List (Nat × Nat),InN n es->∀ e∈es,mk (WW n es) e.1=mk (WW n es) e.2:=by
 refine NG (λ_ e h=>by cases h) λes x ih hn e he=>?_;obtain⟨h1,h2,h3⟩:=hn.snoc;have hl:=ZB n es
 have hx:=hn e he;rw[NS];refine(ER (by lia) (by lia)).mpr ?_;rcases Xy.mp he with q | q
 .exact .inl (ih h1 e q)
 .rw[XD.mp q];exact .inr ⟨.inl rfl,.inr rfl⟩
theorem sU{n:Nat}:∀ es:List (Nat × Nat),InN n es->∀ i j,i<n->j<n->mk (WW n es) i=mk (WW n es) j->Conn es i j:=by
 refine NG (λ_ i j hi hj h=>?_) λes x ih hn i j hi hj h=>?_
 .have h:mk ((List.range n).map λ(i:Nat)=>(i:Int)) i=mk ((List.range n).map λ(i:Nat)=>(i:Int)) j:=h;rw[NF hi,NF hj]at h
  have:i=j:=by lia
  subst this;exact .refl i
 .obtain⟨h1,h2,h3⟩:=hn.snoc;have hl:=ZB n es
  have up:∀ {i j:Nat},Conn es i j->Conn (es++[x]) i j:=λc=>c.mono λe he=>Ya _ he;have ex:Conn (es++[x]) x.1 x.2:=.edge (by simp)
  rw[NS]at h;rcases(ER (by lia) (by lia)).mp h with q | ⟨q1,q2⟩
  .exact up (ih h1 i j hi hj q)
  .have ci:Conn (es++[x]) i x.1:=by
    rcases q1 with q | q
    .exact up (ih h1 i _ hi h2 q)
    .exact(up (ih h1 i _ hi h3 q)).trans ex.symm
   have cj:Conn (es++[x]) j x.1:=by
    rcases q2 with q | q
    .exact up (ih h1 j _ hj h2 q)
    .exact(up (ih h1 j _ hj h3 q)).trans ex.symm
   exact ci.trans cj.symm
theorem sT{n:Nat}{es:List (Nat × Nat)}(hn:InN n es){i j:Nat}(c:Conn es i j):i=j\/(i<n/\j<n/\mk (WW n es) i=mk (WW n es) j):=by
 induction c with
 | refl i=>exact .inl rfl
 | edge q=>exact .inr ⟨(hn _ q).1,(hn _ q).2,sV es hn _ q⟩
 | symm _ ih =>
  rcases ih with e | ⟨a,b,c⟩
  .exact .inl e.symm
  .exact .inr ⟨b,a,c.symm⟩
 | trans _ _ i1 i2 =>
  rcases i1 with e | ⟨a,b,c⟩
  .rw[e];exact i2
  .rcases i2 with e | ⟨a',b',c'⟩
   .rw[<- e];exact .inr ⟨a,b,c⟩
   .exact .inr ⟨a,b',c.trans c'⟩
theorem ZO{n:Nat}{es:List (Nat × Nat)}(hn:InN n es){i j:Nat}(hi:i<n)(hj:j<n):mk (WW n es) i=mk (WW n es) j↔Conn es i j:=by
 constructor
 .exact sU es hn i j hi hj
 .intro c;rcases sT hn c with e | ⟨_,_,e⟩
  .rw[e]
  .exact e
theorem VN{n:Nat}{es:List (Nat × Nat)}(hn:InN n es){i j:Nat}(hi:i<n)(hj:j<n):mk (Xx n es) i=mk (Xx n es) j↔Conn es i j:=by
 rw[<- ZO hn hi hj];have s:=NR (n:=n) (es:=es) hn
 exact s.2 i j (by rw[Zx];exact hi) (by rw[Zx];exact hj)
def cnt(M:Ac):Nat:=(VD M M.length).length
theorem zv(M:Ac){i:Nat}:∃ p,p<=i/\mk M p=mk M i/\Wu M p=true:=by
 induction i using Nat.strongRecOn with
 | ind i ih =>
  by_cases h:Wu M i=true
  .exact⟨i,XO _,rfl,h⟩
  .have:∃ j,j<i/\mk M j=mk M i:=by
    by_cases q:∃ j,j<i/\mk M j=mk M i
    .exact q
    .exact absurd (XC.mpr λj hj e=>q ⟨j,hj,e⟩) h
   obtain⟨j,hj,e⟩:=this;obtain⟨p,h1,h2,h3⟩:=ih j hj;exact⟨p,by lia,h2.trans e,h3⟩
theorem Zr7{p q:Nat->Bool}{x n:Nat}(hx:x<n)(hpx:p x=true)(h:∀ y,y<n->q y=(p y && !decide (y=x))):((List.range n).filter q).length+1=((List.range n).filter p).length:=by
 induction n with
 | zero=>exact absurd hx (YZ x)
 | succ n ih =>
  rw[GU,QW,QW,Xs,Xs];by_cases e:x=n
  .subst e;have e1:(List.range x).filter q=(List.range x).filter p:=ME λy hy=>by have hy:=YI.mp hy;rw[h y (by lia),show decide (y=x)=false from Wh (by lia)];simp
   have e2:q x=false:=by rw[h x (by lia)];simp
   rw[e1];simp[YL,e2,hpx]
  .have hq:q n=p n:=by rw[h n (by lia),show decide (n=x)=false from Wh (λz=>e z.symm)];simp
   have:=ih (by lia) λy hy=>h y (by lia)
   simp only [YL,KR,hq];lia
theorem zu{M:Ac}{p q:Nat}(hp:Wu M p=true)(hq:Wu M q=true)(e:mk M p=mk M q):p=q:=by
 rcases Nat.lt_trichotomy p q with h | h | h
 .exact absurd e (XC.mp hq p h)
 .exact h
 .exact absurd e.symm (XC.mp hp q h)
theorem zt{m:Ac}{a b:Nat}(ha:a<m.length)(hb:b<m.length)(XJ:mk m a≠mk m b):cnt (lm m a b)+1=cnt m:=by
 obtain⟨A,Qh,Ui,ND⟩:=zv m (i:=a);obtain⟨B,g6,NC,sS⟩:=zv m (i:=b);have hAB:A≠B:=λe=>XJ (by rw[<- Ui,<- NC,e])
 unfold cnt VD;rw[zM];refine Zr7 (x:=max A B) (by grind) ?_ λy hy=>?_
 .rcases Nat.le_total A B with h | h
  .rw[Nat.max_eq_right h];exact sS
  .rw[Nat.max_eq_left h];exact ND
 .rw[Pa,MB,XC,XC];have key:∀ i,i<y->(mk (lm m a b) i=mk (lm m a b) y↔HP m a b i y):=λi hi=>ER (by lia) hy
  have sR:(!decide (y=max A B))=true↔y≠max A B:=by simp
  rw[sR];constructor
  .intro q;refine⟨λi hi e=>q i hi ((key i hi).mpr (.inl e)),λe=>?_⟩;rcases Nat.lt_or_gt_of_ne hAB with h | h
   .have ey:y=B:=by lia
    subst ey;exact q A h ((key A h).mpr (.inr ⟨.inl Ui,.inr NC⟩))
   .have ey:y=A:=by grind
    subst ey;exact q B h ((key B h).mpr (.inr ⟨.inr NC,.inl Ui⟩))
  .rintro⟨q1,q2⟩ i hi e;rcases(key i hi).mp e with e | ⟨e1,e2⟩
   .exact q1 i hi e
   .have fy:Wu m y=true:=XC.mpr q1;rcases e2 with e2 | e2
    .have ey:y=A:=zu fy ND (e2.trans Ui.symm);rcases e1 with e1 | e1
     .exact q1 i hi (e1.trans e2.symm)
     .obtain⟨p,p1,p2,p3⟩:=zv m (i:=i)
      have:p=B:=zu p3 sS (by rw[p2,e1,NC])
      grind
    .have ey:y=B:=zu fy sS (e2.trans NC.symm);rcases e1 with e1 | e1
     .obtain⟨p,p1,p2,p3⟩:=zv m (i:=i)
      have:p=A:=zu p3 ND (by rw[p2,e1,Ui])
      grind
     .exact q1 i hi (e1.trans e2.symm)
theorem sQ(n:Nat):cnt ((List.range n).map λ(i:Nat)=>(i:Int))=n:=by
 unfold cnt VD;rw[Yd,Pc];have e:(List.range n).filter (Wu ((List.range n).map λ(i:Nat)=>(i:Int)))=List.range n:=by
  refine xu.mpr λp hp=>XC.mpr λi hi e=>?_;have hp:=YI.mp hp
  rw[NF (by lia),NF hp]at e;lia
 rw[e,Pc]
theorem sP{M:Ac}(hM:1<=M.length):cnt M=1↔∀ i j,i<M.length->j<M.length->mk M i=mk M j:=by
 have e:cnt M=(JX M).length:=by unfold cnt JX;rw[ie,Yd]
 rw[e];exact EO hM
end My
namespace My
open PySem L2
theorem El{i:Int}{n:Nat}(h0:0<=i)(h1:i<(n:Int)):seqIndex? i n=some i.toNat:=by have e:(if i<0 then i+(n:Int) else i)=i:=if_neg (by lia);unfold seqIndex?;simp only [e];rw[if_pos (by simp;lia)]
def Zf(n:Int)(ps:Aa)(ns:Ac):Prop:=IsSet ps.length ns/\(ns.length:Int)=n - 1/\∀ i j,i<n.toNat->j<n.toNat->Conn (XT ps ns) i j
theorem ZG{n:Int}{ps:Aa}{ns:Ac}(g:Zt n ps)(h:∀ z∈ns,0<=z/\z<(ps.length:Int)):InN n.toNat (XT ps ns):=λe he=>by
 obtain⟨z,hz,rfl⟩:=YC.mp he;obtain⟨z0,z1⟩:=h z hz;have hp:ps[z.toNat]?=some (ps[z.toNat]'(by lia)):=Xo _
 rw[ZP hp];obtain⟨b1,b2,b3,b4⟩:=g.2.2.2 _ (Xd hp);exact⟨by lia,by lia⟩
theorem ZA{ps:Aa}{ns ms:Ac}(h:∀ z∈ns,z∈ms):∀ e∈XT ps ns,e∈XT ps ms:=λe he=>by obtain⟨z,hz,rfl⟩:=YC.mp he;exact YC.mpr ⟨z,h z hz,rfl⟩
theorem gZ{n:Nat}{es:List (Nat × Nat)}(h:InN n es):(∀ i j,i<(WW n es).length->j<(WW n es).length->mk (WW n es) i=mk (WW n es) j)↔∀ i j,i<n->j<n->Conn es i j:=by
 rw[ZB];constructor
 .intro q i j hi hj;exact(ZO h hi hj).mp (q i j hi hj)
 .intro q i j hi hj;exact(ZO h hi hj).mpr (q i j hi hj)
theorem gY{n:Nat}{es:List (Nat × Nat)}(hn:1<=n)(h:InN n es):(JX (Xx n es)).length=1↔∀ i j,i<n->j<n->Conn es i j:=by rw[EO (by rw[Zx];exact hn),(NR h).one];exact gZ h
theorem TJ{ps:Aa}{ns ms:Ac}(h:∀ z,z∈ns↔z∈ms){i j:Nat}:Conn (XT ps ns) i j↔Conn (XT ps ms) i j :=
 ⟨λc=>c.mono (ZA λz hz=>(h z).mp hz),λc=>c.mono (ZA λz hz=>(h z).mpr hz)⟩
section
variable{K:Ad}{a:Addr}{xs:List V}{g:TG}{tt:TT}{te:TE}{o:Nat}{fr:List Nat}{σ:St}{H:Hp}{Q:VK}
theorem zr(Pv:Nat->List V->Hp->Prop)(h0:Pv 0 [] H)(hz:xs.length<sizeLine)(hl:∀ i ys H,i<=xs.length->Pv i ys H->SqL K H a xs/\ys.length<=i)
  (hs:∀(i:Nat) x ys H (p:Addr),H p=none->xs[i]?=some x->Pv i ys H->HU Pv g tt te o fr σ i (.ref p) ys (upd H p (.tup [.int i,x]))) (hd:∀ ys H,Pv xs.length ys H->∀ p,H p=none->Q (.ref p) (upd H p (.lst ys))):Mo (HW K a) g tt te o fr σ H Q:=by
 refine⟨λi m ys H=>m=xs.length - i/\i<=xs.length/\Pv i ys H,⟨xs.length,by simp,Yo _,h0⟩,?_⟩;rintro i m ys H ⟨rfl,hi,p⟩;obtain⟨q,hy⟩:=hl i ys H hi p;by_cases Xi:i<xs.length
 .refine .inr ⟨⟨xs,xs[i],q,by simp[Xi]⟩,by lia,λx H' ⟨T,y,hT,ex,eH,hyy⟩=>?_⟩;subst ex eH;exact hs i y ys H T hT (hyy xs q) p (λj ys H=>∃ m',m'<xs.length - i/\m'=xs.length - j/\j<=xs.length/\Pv j ys H) λys H p'=>⟨xs.length - (i+1),by grind,rfl,Xi,p'⟩
 .have e:i=xs.length:=by lia
  subst e;exact .inl ⟨⟨xs,q,XO _⟩,by lia,hd ys H p⟩
end
def unlike(M:Ac)(ps:Aa)(i:Nat):Ac:=((List.range i).filter λk=>decide (mk M (ps.getD k (0,0)).1.toNat≠mk M (ps.getD k (0,0)).2.toNat)).map λ(k:Nat)=>(k:Int)
theorem gX(M:Ac)(ps:Aa)(i:Nat):unlike M ps (i+1)=unlike M ps i++(if mk M (ps.getD i (0,0)).1.toNat≠mk M (ps.getD i (0,0)).2.toNat then [(i:Int)] else []):=by
 unfold unlike;rw[GU,QW,QP];congr 1;by_cases h:mk M (ps.getD i (0,0)).1.toNat≠mk M (ps.getD i (0,0)).2.toNat
 .rw[if_pos h,YL,if_pos (Yw h)];rfl
 .rw[if_neg h,YL,if_neg (by simpa using h)];rfl
theorem ZY5(M:Ac)(ps:Aa)(i:Nat):(unlike M ps i).length<=i:=by unfold unlike;rw[Yd];exact Yr (YH _ _) (by simp)
def wo(ns:Ac)(z:Int):Ac:=ns.filter λy=>decide (y≠z)
theorem Xq{ns:Ac}{z y:Int}:y∈wo ns z↔y∈ns/\y≠z:=by unfold wo;rw[Yf];simp
theorem Mb(ns:Ac)(z:Int):(wo ns z).length<=ns.length:=YH _ _
theorem gW{ns:Ac}{i:Nat}{y z:Int}(h:ns[i]?=some y):wo (ns.take (i+1)) z=wo (ns.take i) z++(if y≠z then [y] else []):=by
 unfold wo;rw[WA,h,QW];congr 1;by_cases e:y≠z
 .rw[if_pos e];show List.filter _ [y]=_;rw[YL,if_pos (Yw e)];rfl
 .rw[if_neg e];show List.filter _ [y]=_;rw[YL,if_neg (by simpa using e)];rfl
theorem Zu5{n:Int}{ps:Aa}{M L:Ac}(g:Zt n ps)(hM:M.length=n.toNat)(s:SameP M L):unlike M ps ps.length=unlike L ps ps.length:=by
 unfold unlike;congr 1;refine ME λk hk=>?_;have hk:=YI.mp hk
 have hp:ps[k]?=some ps[k]:=Xo hk;rw[ZP hp];obtain⟨b1,b2,b3,b4⟩:=g.2.2.2 _ (Xd hp)
 have:=s.2 ps[k].1.toNat ps[k].2.toNat (by grind) (by grind)
 rw[Pa,YU,YU];exact not_congr this
def WD(n:Int)(ps:Aa)(ns:Ac)(z:Int)(l:Ac):Ac:=l.filter λy=>decide (z∈unlike (WW n.toNat (XT ps (wo ns y))) ps ps.length)
theorem gU{n:Int}{ps:Aa}{ns:Ac}{z:Int}{l:Ac}{i:Nat}{y:Int}(h:l[i]?=some y) :
  WD n ps ns z (l.take (i+1))=WD n ps ns z (l.take i)++(if z∈unlike (WW n.toNat (XT ps (wo ns y))) ps ps.length then [y] else []):=by
 unfold WD;rw[WA,h,QW];congr 1;by_cases e:z∈unlike (WW n.toNat (XT ps (wo ns y))) ps ps.length
 .rw[if_pos e];show List.filter _ [y]=_;rw[YL,if_pos (Yw e)];rfl
 .rw[if_neg e];show List.filter _ [y]=_;rw[YL,if_neg (by simpa using e)];rfl
theorem HK(n:Int)(ps:Aa)(ns:Ac)(z:Int)(l:Ac):(WD n ps ns z l).length<=l.length:=YH _ _
theorem ZX5{M:Ac}{ps:Aa}{z:Int}(h0:0<=z)(h1:z<(ps.length:Int)):z∈unlike M ps ps.length↔mk M (ps.getD z.toNat (0,0)).1.toNat≠mk M (ps.getD z.toNat (0,0)).2.toNat:=by
 unfold unlike;rw[YC];constructor
 .rintro⟨k,hk,rfl⟩
  have:=Yu (Yf.mp hk).2
  rw[YA];exact this
 .intro h;exact⟨z.toNat,Yf.mpr ⟨YI.mpr (by grind),Yw h⟩,by lia⟩
theorem zq{a b:Ac}(h:a.Perm b)(h1:a.Pairwise (·<=·))(h2:b.Pairwise (·<=·)):a=b:=by
 induction a generalizing b with
 | nil=>exact(List.Perm.nil_eq h)
 | cons x a ih =>
  cases b with
  | nil=>exact absurd h.length_eq (by simp)
  | cons y b =>
   obtain⟨hx,ha⟩:=YN.mp h1;obtain⟨hy,hb⟩:=YN.mp h2;have e:x=y:=by
    have m1:y∈x :: a:=h.mem_iff.mpr Ye;have m2:x∈y :: b:=h.mem_iff.mp Ye
    rcases Yg.mp m1 with e1 | e1
    .exact e1.symm
    .rcases Yg.mp m2 with e2 | e2
     .exact e2
     .have:=hx y e1;have:=hy x e2;lia
   subst e;rw[ih (List.Perm.cons_inv h) ha hb]
end My
namespace L2
open PySem PySem.Spec PyProof.Rows
section
variable{prog:Program}{w:World}{A:Around}{E:Ae}{s:Shared}
theorem ZL5 {tp:Addr} {vs:Ag} {Q:List Value->Shared->Prop} {ot:Obj} {m:Nat} (ht:s.heap.get? tp=some ot) (hc:ot.cls=.type "tuple") (hd:ot.data=.seq vs.toArray m) (hz:vs.length<=sizeLine)
  (k:Q vs { s with heap:=(s.heap.push (seqObj "list" #[] 0)).update s.heap.objs.size (Obj.mapSeq (·++vs.toArray)) }):wpAny (model prog w) A (collect (.ref tp)) Q E s:=by
 have gT:(s.heap.push (seqObj "list" #[] 0)).get? tp=some ot:=Xc _ ht;have JI:(s.heap.push (seqObj "list" #[] 0)).get? s.heap.objs.size=some (seqObj "list" #[] 0):=Ym _ rfl
 unfold collect;refine XU (Aw (Wg wY ?_));show wpAny _ _ (do again (.builtin "list.__iadd__" ⟨[<- newList [],.ref tp],[]⟩)) _ _ s
 refine XU (Lk (Yj ⟨GX _ (by decide +kernel),Wg entry_list_iadd' ?_⟩));show wpAny _ _ (Builtin.List.listExtendWith (.ref s.heap.objs.size) (.ref tp) (.ref s.heap.objs.size)) _ _ { s with heap:=s.heap.push (seqObj "list" #[] 0) }
 unfold Builtin.List.listExtendWith;refine XU (GN (T:="tuple") ⟨ot,gT,hc⟩ ?_);rw [if_pos (by rw [show(Value.type "tuple" == Value.type "tuple")=true from rfl];simp)];refine XU (listItems_at gT hd ?_);refine XU (listItems_at (xs:=#[]) (n:=0) JI rfl ?_);rw[if_neg (by simp)];refine XU (Lg (xs:=#[]) (n:=0) JI rfl ?_ (Yo _) (by show(#[]++vs.toArray).size<=sizeLine+1;simp only [Array.size_append,Yb,Ik];lia));refine Yj ?_;refine XU (GH (An JI _) ?_);show wpAny _ _ (pure ((#[]:Array Value)++vs.toArray).toList) Q E _
 rw[show((#[]:Array Value)++vs.toArray).toList=vs by simp];exact Yj k
theorem Zx5 {tp:Addr} {vs:Ag} {ns:Ac} {Q:Ae} {ot:Obj} {m:Nat} (ht:s.heap.get? tp=some ot) (hc:ot.cls=.type "tuple") (hd:ot.data=.seq vs.toArray m) (hI:IntsAre vs ns) (Rf:vs.length<64)
  (k:∀(out:Array Value) (ms:Ac),IntsAre out.toList ms->ms.Perm ns->ms.Pairwise (·<=·)->Q (.ref (s.heap.objs.size+1)) { s with heap:=sortedAll s.heap vs out }) :
  wpAny (model prog w) A (call (.builtin "sorted") [.ref tp]) Q E s:=by
 have JP:sizeLine=16777216:=Ue;have hsz:((s.heap.push (seqObj "list" #[] 0)).update s.heap.objs.size (Obj.mapSeq (·++vs.toArray))).objs.size=s.heap.objs.size+1:=by rw[Heap.size_update,size_push']
 have Ms:(((s.heap.push (seqObj "list" #[] 0)).update s.heap.objs.size (Obj.mapSeq (·++vs.toArray))).push (seqObj "list" vs.toArray 0)).get? (s.heap.objs.size+1)=some (seqObj "list" vs.toArray 0):=by rw[<- hsz];exact Ym _ rfl
 refine Calls.call_function_entry kind_sorted plain_sorted entry_sorted (args_sorted1 _) ?_;unfold Builtin.«sorted»;refine XU (m:=checkCount "sorted" 1 1 _) (Yj ?_);refine XU (ZL5 ht hc hd (by lia) ?_);refine XU (Lk ?_);show wpAny _ _ _ _ _ { s with heap:=((s.heap.push (seqObj "list" #[] 0)).update s.heap.objs.size (Obj.mapSeq (·++vs.toArray))).push (seqObj "list" vs.toArray 0) }
 rw[hsz];refine XU (Sv (MA slot_list_sort ⟨_,Ms,rfl⟩ entry_list_sort (list_sort_tree Ms hI Rf λout ms b1 b2 b3=>⟨_,rfl,?_⟩) (args_list_sort _)));exact Yj ⟨_,rfl,k out ms b1 b2 b3⟩
end
section
variable{X:Cx}
theorem Zq4 (K:Ad) (hk:X.K=K:=by rfl):UQ X (.builtin "sorted") (λxs H Q=>∃(p:Addr) (ns:Ac),xs=[.ref p]/\SqT K H p (ns.map V.int)/\ns.length<64 /\
  ∀ ms:Ac,ms.Perm ns->ms.Pairwise (·<=·)->∀ l,H l=none->Q (.ref l) (upd H l (.lst (ms.map V.int)))):=by
 subst hk;intro pins s σ H xs us Q I r h;obtain⟨p,ns,rfl,hq,hn,q⟩:=h;obtain⟨u,rfl,ru⟩:=Th r;obtain rfl:u=Value.ref p:=ru;obtain⟨XW,rv,⟨ot,h1,h2,m,h3⟩,hz⟩:=I.tuple hq;have hi:=ZL rv
 have hl:XW.length=ns.length:=by rw[<- rv.length,Yd]
 refine Zx5 h1 h2 h3 hi (by lia) λout ms b1 b2 b3=>?_;obtain⟨e,he⟩:=sortedAll_at s.heap XW out;have NI:ms.length=ns.length:=b2.length_eq
 refine⟨.ref (s.heap.objs.size+1),_,I.laid (t':=s.toks) (o:=.lst (ms.map V.int)) (λb o g=>sortedAll_old g) (Um _) ⟨?_,out.toList,e,ZV b1,he⟩,rfl,q ms b2 b3 _ (I.hok.fresh (Um _))⟩;rw[Yd,NI]
 have:sizeLine=16777216:=Ue
 lia
def JG(K:Ad):R2:=λx y H Q=>∃ a b xs ys,x=.ref a/\y=.ref b/\SqT K H a xs/\SqT K H b ys/\xs.length+ys.length<=sizeLine /\
 (xs=[]->Q (.ref b) H)/\(xs≠[]->ys=[]->Q (.ref a) H)/\(xs≠[]->ys≠[]->∀ p,H p=none->Q (.ref p) (upd H p (.tup (xs++ys))))
theorem HJ(K:Ad)(hk:X.K=K:=by rfl):WG X (binaryOp .Add) (JG K):=by
 intro pins s σ H x y v u Q I rx ry h;obtain⟨a,b,xs,ys,e1,e2,ha,hb,hz,q0,q1,q2⟩:=id h;by_cases hx:xs=[]
 .subst hk e1 e2;cases rx;cases ry;obtain⟨XW,r1,p1,_⟩:=I.tuple ha;obtain⟨VP,r2,p2,_⟩:=I.tuple hb;have hi:XW=[]:=r1.nil_iff.mpr hx
  obtain⟨⟨cls,dd,data,sl⟩,ho,hc,n,hd⟩:=id p1;obtain⟨⟨vD,zY,data2,zX⟩,SQ,Ve,n2,hd2⟩:=id p2;simp only at hc hd Ve hd2;subst hc hd Ve hd2;exact concat_meets ⟨_,ho,rfl⟩ ⟨_,SQ,rfl⟩ wX seq_tuple_add Lc Lf (xN _ _)
   (tuple_addW0 a b XW.toArray VP.toArray n n2 dd zY sl zX (by simp[hi])) ⟨ho,SQ,⟨.ref b,H,I,rfl,q0 hx⟩⟩
 .exact ET K hk pins s σ H x y v u Q I rx ry ⟨a,b,xs,ys,e1,e2,ha,hb,hx,hz,q1 hx,q2 hx⟩
end
end L2
namespace My
open PySem L2
theorem Ek{m:Ac}{a b:Nat}(h:mk m a=mk m b):lm m a b=m:=by unfold lm;rw[if_neg (λz=>z h)]
theorem gS{m:Ac}{a b:Nat}(ha:a<m.length)(hb:b<m.length):cnt m<=cnt (lm m a b)+1:=by
 by_cases e:mk m a=mk m b
 .rw[Ek e];lia
 .have:=zt ha hb e;lia
theorem zp{n:Nat}:∀ es:List (Nat × Nat),InN n es->n<=cnt (WW n es)+es.length:=by
 refine NG (λ_=>?_) λes x ih hn=>?_
 .have:cnt (WW n [])=n:=sQ n
  lia
 .obtain⟨h1,h2,h3⟩:=hn.snoc;have hl:=ZB n es
  have:=gS (m:=WW n es) (a:=x.1) (b:=x.2) (by lia) (by lia)
  have:=ih h1
  rw[NS,Xs,Yz,Ik];lia
theorem zm{M:Ac}(h:1<=M.length):1<=cnt M:=by unfold cnt VD;refine QO (a:=0) (Yf.mpr ⟨YI.mpr (by lia),XC.mpr λi hi=>absurd hi (YZ i)⟩)
theorem ZY{n:Nat}{es:List (Nat × Nat)}(hn:1<=n)(h:InN n es):cnt (WW n es)=1↔∀ i j,i<n->j<n->Conn es i j:=by rw[sP (by rw[ZB];exact hn)];exact gZ h
theorem gR{ts:Ac}{o:Int}(hn:ts.Nodup)(ho:o∈ts):(wo ts o).length+1=ts.length:=by
 induction ts with
 | nil=>cases ho
 | cons x r ih =>
  obtain⟨h1,h2⟩:=Rl.mp hn;unfold wo;rw[YL];by_cases e:x=o
  .subst e;rw[if_neg (by simp)]
   have:r.filter (λy=>decide (y≠x))=r:=xu.mpr λy hy=>Yw λe=>h1 (e ▸ hy)
   rw[this];rfl
  .rw[if_pos (Yw e)]
   have:=ih h2 ((Yg.mp ho).resolve_left λz=>e z.symm)
   unfold wo at this;rw[Yz,Yz];lia
def Zq(ps:Aa)(z:Int):Nat × Nat:=((ps.getD z.toNat (0,0)).1.toNat,(ps.getD z.toNat (0,0)).2.toNat)
theorem TH(ps:Aa)(ns:Ac)(z:Int):XT ps (ns++[z])=XT ps ns++[Zq ps z]:=by unfold XT Zq;rw[QP];rfl
theorem Uw{n:Int}{ps:Aa}{z:Int}(g:Zt n ps)(z0:0<=z)(z1:z<(ps.length:Int)):(Zq ps z).1<n.toNat/\(Zq ps z).2<n.toNat:=by
 have:=ZG (ns:=[z]) g (λy hy=>by rw[XD.mp hy];exact⟨z0,z1⟩)
 exact this (Zq ps z) (by unfold XT Zq;simp)
theorem Ma{n:Int}{ps:Aa}{ts:Ac}{o:Int}(hT:Zf n ps ts):∀ y∈wo ts o,0<=y/\y<(ps.length:Int):=λy hy=>hT.1.all y (Xq.mp hy).1
theorem JF{n:Int}{ps:Aa}{ts:Ac}{o z:Int}(g:Zt n ps)(hT:Zf n ps ts)(ho:o∈ts)(z0:0<=z)(z1:z<(ps.length:Int)) :
  (∀ i j,i<n.toNat->j<n.toNat->Conn (XT ps (wo ts o++[z])) i j)↔¬ Conn (XT ps (wo ts o)) (Zq ps z).1 (Zq ps z).2:=by
 have hn:1<=n.toNat:=by have:=g.1;lia
 have hw:=gR hT.1.nodup ho;have hl:(ts.length:Int)=n - 1:=hT.2.1
 have i0:InN n.toNat (XT ps (wo ts o)):=ZG g (Ma hT);have hz:=Uw g z0 z1
 have ob:=hT.1.all o ho;have Td:=Uw g ob.1 ob.2
 have i1:InN n.toNat (XT ps (wo ts o)++[Zq ps z]):=λe he=>(Xy.mp he).elim (i0 e) λq=>by rw[XD.mp q];exact hz
 have i2:InN n.toNat (XT ps (wo ts o)++[Zq ps o]):=λe he=>(Xy.mp he).elim (i0 e) λq=>by rw[XD.mp q];exact Td
 have hL:=ZB n.toNat (XT ps (wo ts o));have le:(XT ps (wo ts o)).length=(wo ts o).length:=by unfold XT;rw[Yd]
 rw[TH];constructor
 .intro hc c;have h1:cnt (WW n.toNat (XT ps (wo ts o)++[Zq ps z]))=1:=(ZY hn i1).mpr hc
  rw[NS,Ek ((ZO i0 hz.1 hz.2).mpr c)]at h1
  have:=zp _ i0
  lia
 .intro hc;have h2:cnt (WW n.toNat (XT ps (wo ts o)++[Zq ps o]))=1:=by
   refine(ZY hn i2).mpr λi j hi hj=>?_;rw[<- TH];refine(TJ λy=>?_).mp (hT.2.2 i j hi hj);rw[Xy,Xq,XD];constructor
   .intro hy;by_cases e:y=o
    .exact .inr e
    .exact .inl ⟨hy,e⟩
   .rintro(q | q)
    .exact q.1
    .rw[q];exact ho
  rw[NS]at h2;have h3:=gS (m:=WW n.toNat (XT ps (wo ts o))) (a:=(Zq ps o).1) (b:=(Zq ps o).2) (by lia) (by lia)
  have h4:=zt (m:=WW n.toNat (XT ps (wo ts o))) (a:=(Zq ps z).1) (b:=(Zq ps z).2) (by lia) (by lia) (λe=>hc ((ZO i0 hz.1 hz.2).mp e));have h5:=zm (M:=lm (WW n.toNat (XT ps (wo ts o))) (Zq ps z).1 (Zq ps z).2) (by rw[zM];lia)
  refine(ZY hn i1).mp ?_;rw[NS];lia
def Vp(n:Int)(ps:Aa)(ts:Ac)(o:Int):Ac:=unlike (WW n.toNat (XT ps (wo ts o))) ps ps.length
theorem ZZ5{M:Ac}{ps:Aa}{i:Nat}{z:Int}(h:z∈unlike M ps i):0<=z/\z<(i:Int):=by
 unfold unlike at h;obtain⟨k,hk,rfl⟩:=YC.mp h
 have:=YI.mp (Yf.mp hk).1
 lia
theorem ZM{n:Int}{ps:Aa}{ts:Ac}{o z:Int}(g:Zt n ps)(hT:Zf n ps ts)(z0:0<=z)(z1:z<(ps.length:Int)):z∈Vp n ps ts o↔¬ Conn (XT ps (wo ts o)) (Zq ps z).1 (Zq ps z).2:=by have hz:=Uw g z0 z1;unfold Vp;rw[ZX5 z0 z1];exact not_congr (ZO (ZG g (Ma hT)) hz.1 hz.2)
def exg(n:Int)(ps:Aa)(ts:Ac)(o z:Int):Prop:=o∈ts/\z≠o/\z∈Vp n ps ts o
instance (n:Int) (ps:Aa) (ts:Ac) (o z:Int):Decidable (exg n ps ts o z):=by unfold exg;infer_instance
theorem Ej{n:Int}{ps:Aa}{ts:Ac}{o z:Int}(g:Zt n ps)(hT:Zf n ps ts) :
  exg n ps ts o z↔o∈ts/\z∉ts/\0<=z/\z<(ps.length:Int)/\∀ i j,i<n.toNat->j<n.toNat->Conn (XT ps (wo ts o++[z])) i j:=by
 constructor
 .rintro⟨h1,h2,h3⟩;obtain⟨z0,z1⟩:=ZZ5 h3;have hc:=(ZM g hT z0 z1).mp h3
  refine⟨h1,λhz=>hc ?_,z0,z1,(JF g hT h1 z0 z1).mpr hc⟩;refine .edge ?_;exact YC.mpr ⟨z,Xq.mpr ⟨hz,h2⟩,rfl⟩
 .rintro⟨h1,h2,z0,z1,hc⟩;exact⟨h1,λe=>h2 (e ▸ h1),(ZM g hT z0 z1).mpr ((JF g hT h1 z0 z1).mp hc)⟩
theorem PairsV.mut{H:Hp}{l:Addr}{ys zs xs:List V}{ps:Aa}(hP:PairsV H xs ps)(hl:H l=some (.lst ys)):PairsV (upd H l (.lst zs)) xs ps:=by refine⟨hP.1,λj p e=>?_⟩;obtain⟨v,e1,tt,e2,e3⟩:=hP.2 j p e;exact⟨v,e1,tt,e2,by rw[Zb (OY e3 hl (λz=>nomatch z))];exact e3⟩
end My
namespace L2
open PySem PySem.Spec PyProof.Rows
section
variable{X:Cx}
theorem gQ{e:Addr->Bool}{n:Nat}{x:V}{w:Value}{pins:List (Addr × Obj)}{σ:St}{H:Hp}{s:Shared}(I:Inv X pins σ H s){A:Around}(hu:A.units+n<cLine)(rx:RelV x w):∀ {xs:List V} {us:Ag},Vals xs us->(∀ v∈xs,∃ a,v=.ref a/\EqD X.K H n v x (e a))->∀ u∈us,SeqAt.EqAt A s u w (match u with | .ref a=>e a | _=>false)
 | _,_,.nil,_=>λu hu=>by cases hu
 | y :: xs,u :: us,.cons r t,h=>λu' sO=>by
  rcases Yg.mp sO with rfl | sO
  .obtain⟨a,rfl,q⟩:=h y Ye;obtain rfl:u'=Value.ref a:=r;exact q.at I hu rfl rx
  .exact gQ I hu rx t (λv hv=>h v (Yh _ hv)) u' sO
end
end L2
namespace My
open PySem L2
theorem HI{n:Int}{ps:Aa}{ts:Ac}{o y:Int}(g:Zt n ps)(hT:Zf n ps ts)(ho:o∈ts)(hy:y∈ts):y∈Vp n ps ts o↔y=o:=by
 have yb:=hT.1.all y hy;rw[ZM g hT yb.1 yb.2];constructor
 .intro h;by_cases e:y=o
  .exact e
  .exact absurd (.edge (YC.mpr ⟨y,Xq.mpr ⟨hy,e⟩,rfl⟩)) h
 .rintro rfl;refine(JF g hT hy yb.1 yb.2).mp λi j hi hj=>(TJ λz=>?_).mp (hT.2.2 i j hi hj);rw[Xy,Xq,XD];constructor
  .intro hz;by_cases e:z=y
   .exact .inr e
   .exact .inl ⟨hz,e⟩
  .rintro(q | q)
   .exact q.1
   .rw[q];exact hy
theorem VM{n:Int}{ps:Aa}{ts l:Ac}{z y:Int}:y∈WD n ps ts z l↔y∈l/\z∈Vp n ps ts y:=by unfold WD;rw[Yf,YU];exact Iff.rfl
theorem zk{n:Int}{ps:Aa}{ts ms:Ac}{o z:Int}(g:Zt n ps)(hT:Zf n ps ts)(hx:exg n ps ts o z)(Uv:ms.Perm (wo ts o++[z]))(NB:ms.Pairwise (·<=·)):Zf n ps ms:=by
 obtain⟨ho,hz,z0,z1,hc⟩:=(Ej g hT).mp hx;have nd:(wo ts o++[z]).Nodup:=iw (hT.1.nodup.sublist List.filter_sublist) λh=>hz (Xq.mp h).1
 have ndm:ms.Nodup:=Uv.nodup_iff.mpr nd;have hl:=gR hT.1.nodup ho
 have Rj:=Uv.length_eq;rw[Xs,Yk]at Rj;refine⟨XX.mpr ⟨λy hy=>?_,(List.pairwise_and_iff.mpr ⟨NB,ndm⟩).imp λ{x y} h=>by have:=h.1;have:=h.2;lia⟩,by rw[Rj,hl];exact hT.2.1,λi j hi hj=>(TJ λy=>Uv.mem_iff).mpr (hc i j hi hj)⟩;rcases Xy.mp (Uv.mem_iff.mp hy) with h | h
 .exact hT.1.all y (Xq.mp h).1
 .rw[XD.mp h];exact⟨z0,z1⟩
section
variable{n:Int}{ps:Aa}{ts ms:Ac}{o z:Int}(g:Zt n ps)(hT:Zf n ps ts)(hx:exg n ps ts o z)(Uv:ms.Perm (wo ts o++[z]))(NB:ms.Pairwise (·<=·))
include g hT hx Uv NB
theorem NA{y:Int}:y∈ms↔(y∈ts/\y≠o)\/y=z:=by rw[Uv.mem_iff,Xy,Xq,XD]
end
def WQ(n:Nat)(ps:Aa):Nat->Ac
 | 0=>[]
 | k+1=>if mk (WW n (XT ps (WQ n ps k))) (Zq ps (k:Int)).1=mk (WW n (XT ps (WQ n ps k))) (Zq ps (k:Int)).2 then WQ n ps k else WQ n ps k++[(k:Int)]
theorem Ei(n:Nat)(ps:Aa)(k:Nat):WQ n ps (k+1)=if mk (WW n (XT ps (WQ n ps k))) (Zq ps (k:Int)).1=mk (WW n (XT ps (WQ n ps k))) (Zq ps (k:Int)).2 then WQ n ps k else WQ n ps k++[(k:Int)]:=rfl
theorem HH{n:Nat}{ps:Aa}:∀ k,∀ z∈WQ n ps k,0<=z/\z<(k:Int)
 | 0,z,h=>by cases h
 | k+1,z,h=>by
  rw[Ei]at h;split at h
  .have:=HH k z h;lia
  .rcases Xy.mp h with h | h
   .have:=HH k z h;lia
   .rw[XD.mp h];lia
theorem zj{n:Nat}{ps:Aa}:∀ k,(WQ n ps k).Pairwise (· < ·)
 | 0=>List.Pairwise.nil
 | k+1=>by
  rw[Ei];split
  .exact zj k
  .rw[Pe];exact⟨zj k,Iq ..,λa ha b hb=>by rw[XD.mp hb];exact(HH k a ha).2⟩
theorem sN{n:Nat}{ps:Aa}{k:Nat}(hk:k<=ps.length):IsSet ps.length (WQ n ps k):=XX.mpr ⟨λz hz=>by have:=HH k z hz;lia,zj k⟩
theorem zh{n:Int}{ps:Aa}(g:Zt n ps){k:Nat}(hk:k<=ps.length):InN n.toNat (XT ps (WQ n.toNat ps k)):=ZG g (sN hk).all
theorem zg{n:Nat}{ps:Aa}{j:Nat}:∀ k,j<=k->∀ z,z∈WQ n ps j↔z∈WQ n ps k/\z<(j:Int)
 | 0,h,z=>by
  have:j=0:=by lia
  subst this;exact⟨λh=>(by cases h),λh=>h.1⟩
 | k+1,h,z=>by
  by_cases e:j=k+1
  .subst e;exact⟨λh=>⟨h,(HH _ z h).2⟩,λh=>h.1⟩
  .have ih:=zg (n:=n) (ps:=ps) (j:=j) k (by lia) z;rw[Ei,ih];split
   .exact Iff.rfl
   .rw[Xy,XD];constructor
    .rintro⟨h1,h2⟩;exact⟨.inl h1,h2⟩
    .rintro⟨h1 | h1,h2⟩
     .exact⟨h1,h2⟩
     .lia
theorem gP{n:Int}{ps:Aa}(g:Zt n ps){k j:Nat}(hk:k<=ps.length)(hj:j<k)(hn:(j:Int)∉WQ n.toNat ps k):Conn (XT ps (WQ n.toNat ps j)) (Zq ps (j:Int)).1 (Zq ps (j:Int)).2:=by
 have he:=Uw (z:=(j:Int)) g (by lia) (by lia);have h1:(j:Int)∉WQ n.toNat ps (j+1):=λh=>hn ((zg k hj _).mp h).1
 rw[Ei]at h1;split at h1
 .rename_i h;exact(ZO (zh g (by lia)) he.1 he.2).mp h
 .exact absurd (Yc _ (XD.mpr rfl)) h1
theorem zf{n:Int}{ps:Aa}(g:Zt n ps):∀ k,k<=ps.length->cnt (WW n.toNat (XT ps (WQ n.toNat ps k)))+(WQ n.toNat ps k).length=n.toNat
 | 0,_=>sQ n.toNat
 | k+1,hk=>by
  have ih:=zf g k (by lia);have he:=Uw (z:=(k:Int)) g (by lia) (by lia)
  have hl:=ZB n.toNat (XT ps (WQ n.toNat ps k));rw[Ei];split
  .exact ih
  .rename_i h;rw[TH,NS,Xs,Yk]
   have:=zt (m:=WW n.toNat (XT ps (WQ n.toNat ps k))) (by lia) (by lia) h
   grind
theorem Eh{n:Int}{ps:Aa}(g:Zt n ps){ts:Ac}(ht:∀ z∈ts,0<=z/\z<(ps.length:Int)){i j:Nat}(c:Conn (XT ps ts) i j):Conn (XT ps (WQ n.toNat ps ps.length)) i j:=by
 induction c with
 | refl i=>exact .refl i
 | symm _ ih=>exact .symm ih
 | trans _ _ i1 i2=>exact .trans i1 i2
 | @edge a b h =>
  obtain⟨z,hz,e⟩:=YC.mp h;obtain⟨z0,z1⟩:=ht z hz;have ez:z=((z.toNat:Nat):Int):=by lia
  by_cases hm:z∈WQ n.toNat ps ps.length
  .exact .edge (YC.mpr ⟨z,hm,e⟩)
  .rw[ez]at hm;have c:=gP g (XO _) (by lia) hm
   have c2:=c.mono (ZA λy hy=>((zg ps.length (by lia) y).mp hy).1);rw[<- ez]at c2;have ea:a=(Zq ps z).1:=(Xw Prod.fst e).symm
   have eb:b=(Zq ps z).2:=(Xw Prod.snd e).symm;rw[ea,eb];exact c2
theorem sM{n:Int}{ps:Aa}(g:Zt n ps){ts:Ac}(hT:Zf n ps ts):Zf n ps (WQ n.toNat ps ps.length):=by
 have hc:∀ i j,i<n.toNat->j<n.toNat->Conn (XT ps (WQ n.toNat ps ps.length)) i j:=λi j hi hj=>Eh g hT.1.all (hT.2.2 i j hi hj);have h1:=(ZY (by have:=g.1;lia) (zh g (XO _))).mpr hc
 have h2:=zf g ps.length (XO _);exact⟨sN (XO _),by have:=g.1;grind,hc⟩
theorem gO{n:Int}{ps:Aa}(g:Zt n ps)(h:¬ ((WQ n.toNat ps ps.length).length:Int)<n - 1):Zf n ps (WQ n.toNat ps ps.length):=by
 have h2:=zf g ps.length (XO _);have h3:=zm (M:=WW n.toNat (XT ps (WQ n.toNat ps ps.length))) (by rw[ZB];have:=g.1;grind)
 exact⟨sN (XO _),by have:=g.1;grind,(ZY (by have:=g.1;grind) (zh g (XO _))).mp (by lia)⟩
theorem JE:∀ {a b:Ac},a.length=b.length->HT.lexLt a b=true->∃(p:Ac) (x y:Int) (r s:Ac),a=p++x :: r/\b=p++y :: s/\x<y
 | [],[],_,h=>by cases h
 | [],_ :: _,e,_=>by simp at e
 | _ :: _,[],e,_=>by simp at e
 | x :: xs,y :: ys,e,h=>by
  rw[HT.Xn]at h;by_cases q:x=y
  .subst q;rw[if_pos rfl]at h;obtain⟨p,u,v,r,s,e1,e2,e3⟩:=JE (by simpa using e) h;exact⟨x :: p,u,v,r,s,by rw[e1];rfl,by rw[e2];rfl,e3⟩
  .rw[if_neg q]at h;exact⟨[],x,y,xs,ys,rfl,rfl,Yu h⟩
theorem Tb:∀ {a b:Ac},HT.lexLt a b=false->HT.lexLt b a=false->a=b
 | [],[],_,_=>rfl
 | [],_ :: _,h,_=>by cases h
 | _ :: _,[],_,h=>by cases h
 | x :: xs,y :: ys,h1,h2=>by
  rw[HT.Xn]at h1 h2;by_cases q:x=y
  .subst q;rw[if_pos rfl]at h1 h2;rw[Tb h1 h2]
  .rw[if_neg q]at h1;rw[if_neg (λe=>q e.symm)]at h2
   have:=of_decide_eq_false h1
   have:=of_decide_eq_false h2
   lia
theorem Zq8{n:Int}{ps:Aa}(g:Zt n ps){ts:Ac}(hT:Zf n ps ts):HT.lexLt ts (WQ n.toNat ps ps.length)=false:=by
 have hG:=sM g hT;cases h:HT.lexLt ts (WQ n.toNat ps ps.length) with
 | false=>rfl
 | true =>
  exfalso;obtain⟨p,x,y,r,s,e1,e2,Nz⟩:=JE (by have:=hT.2.1;have:=hG.2.1;lia) h
  have hx:x∈ts:=by rw[e1];simp
  obtain⟨x0,x1⟩:=hT.1.all x hx;have sL:=(XX.mp hT.1).2
  have ag:=zj (n:=n.toNat) (ps:=ps) ps.length;rw[e1,Pe]at sL;rw[e2,Pe]at ag;have px:∀ z∈p,z<x:=λz hz=>sL.2.2 z hz x Ye
  have ys:∀ z∈y :: s,x<z:=λz hz=>by
   rcases Yg.mp hz with e | hz
   .rw[e];exact Nz
   .have:=(YN.mp ag.2.1).1 z hz;lia
  have ex:x=((x.toNat:Nat):Int):=by lia
  have hn:((x.toNat:Nat):Int)∉WQ n.toNat ps ps.length:=by
   rw[<- ex,e2,Xy];rintro(h | h)
   .have:=px x h;lia
   .have:=ys x h;omega
  have c:=gP g (XO _) (by grind) hn;have c2:Conn (XT ps (wo ts x)) (Zq ps x).1 (Zq ps x).2:=by
   rw[<- ex]at c;refine c.mono (ZA λz hz=>?_);obtain⟨h1,h2⟩:=(zg ps.length (by lia) z).mp hz;rw[<- ex]at h2;rw[e2,Xy]at h1;rcases h1 with h1 | h1
   .exact Xq.mpr ⟨by rw[e1];exact Ya _ h1,by lia⟩
   .have:=ys z h1;lia
  exact(ZM g hT x0 x1).mp ((HI g hT hx hx).mpr rfl) c2
theorem gN:∀ {a b c:Ac},HT.lexLt a b=true->HT.lexLt b c=true->HT.lexLt a c=true
 | [],[],_,h,_=>by cases h
 | [],_ :: _,[],_,h=>by cases h
 | [],_ :: _,_ :: _,_,_=>rfl
 | _ :: _,[],_,h,_=>by cases h
 | _ :: _,_ :: _,[],_,h=>by cases h
 | x :: xs,y :: ys,z :: zs,h1,h2=>by
  rw[HT.Xn]at h1 h2 ⊢;by_cases e1:x=y
  .subst e1;rw[if_pos rfl]at h1;by_cases e2:x=z
   .subst e2;rw[if_pos rfl]at h2 ⊢;exact gN h1 h2
   .rw[if_neg e2]at h2 ⊢;exact h2
  .rw[if_neg e1]at h1;have h1:=Yu h1
   by_cases e2:y=z
   .subst e2;rw[if_neg e1];exact Yw h1
   .rw[if_neg e2]at h2;have h2:=Yu h2
    rw[if_neg (by lia)];exact Yw (by omega)
theorem sJ:∀ a:Ac,HT.lexLt a a=false
 | []=>rfl
 | x :: xs=>by rw[HT.Xn,if_pos rfl];exact sJ xs
theorem Sm(bt:Nat->Nat->Bool):∀ j,argBest bt j<=j
 | 0=>XO _
 | j+1=>by
  unfold argBest;split
  .exact XO _
  .have:=Sm bt j;lia
def Wq(H:Hp)(v:V)(l:Ac):Prop:=∃ a,v=.ref a/\H a=some (.tup (IL l))
def TF(s:Ac):Int:=match s.getLast? with | none=>0 | some x=>x+1
def Uu(m:Int)(s:Ac):Ab:=(List.range (m - TF s).toNat).map λ(i:Nat)=>s++[TF s+(i:Int)]
def Qg(m:Int):Nat->Ab
 | 0=>[[]]
 | k+1=>(Qg m k).flatMap (Uu m)
theorem Eg(s:Ac)(x:Int):TF (s++[x])=x+1:=by unfold TF;rw[List.getLast?_append];rfl
theorem Wt{m:Int}{s l:Ac}:l∈Uu m s↔∃ t,TF s<=t/\t<m/\l=s++[t]:=by
 unfold Uu;rw[YC];constructor
 .rintro⟨i,hi,rfl⟩
  have:=YI.mp hi
  exact⟨_,by lia,by omega,rfl⟩
 .rintro⟨t,h1,h2,rfl⟩;exact⟨(t - TF s).toNat,YI.mpr (by lia),by rw[show TF s+(((t - TF s).toNat:Nat):Int)=t by lia]⟩
theorem TB{m:Nat}{s:Ac}{t:Int}:IsSet m (s++[t])↔IsSet m s/\TF s<=t/\0<=t/\t<(m:Int):=by
 rw[XX,XX,Pe];have last:(∀ a∈s,∀ b∈[t],a<b)/\s.Pairwise (· < ·)->TF s<=t\/t<0:=by
  rintro⟨h,_⟩;unfold TF;cases e:s.getLast? with
  | none=>by_cases h0:0<=t;exact .inl h0;exact .inr (by lia)
  | some x=>have:=h x (xC e) t (by simp);exact .inl (by show x+1<=t;lia)
 constructor
 .rintro⟨h1,h2,_,h3⟩;have ht:=h1 t (by simp)
  refine⟨⟨λz hz=>h1 z (Ya _ hz),h2⟩,?_,ht⟩;rcases last ⟨h3,h2⟩ with h | h
  .exact h
  .omega
 .rintro⟨⟨h1,h2⟩,h3,h4,h5⟩;refine⟨λz hz=>?_,h2,Iq ..,λa ha b hb=>?_⟩
  .rcases Xy.mp hz with h | h
   .exact h1 z h
   .rw[XD.mp h];exact⟨h4,h5⟩
  .rw[XD.mp hb];have key:∀ {s:Ac} {a:Int},s.Pairwise (· < ·)->a∈s->a<TF s:=by
    refine λ{s}=>NG (P:=λs=>∀ {a:Int},s.Pairwise (· < ·)->a∈s->a<TF s) (λ{a} _ h=>by cases h) (λl x ih {a} hp h=>?_) s;rw[Eg];rw[Pe]at hp;rcases Xy.mp h with h | h
    .have:=hp.2.2 a h x (by simp);lia
    .rw[XD.mp h];lia
   have:=key h2 ha
   lia
theorem VZ{m:Nat}:∀ {k:Nat} {l:Ac},l∈Qg (m:Int) k↔l.length=k/\IsSet m l
 | 0,l=>by
  show l∈[[]]↔_;rw[XD];constructor
  .rintro rfl;exact⟨rfl,λi z e=>by simp at e⟩
  .rintro⟨h,_⟩;exact YQ.mp h
 | k+1,l=>by
  show l∈(Qg (m:Int) k).flatMap (Uu m)↔_;rw[List.mem_flatMap];constructor
  .rintro⟨s,hs,hl⟩;obtain⟨t,h1,h2,rfl⟩:=Wt.mp hl;obtain⟨e,hI⟩:=VZ.mp hs;have n0:0<=TF s:=by
    unfold TF;cases q:s.getLast? with
    | none=>exact Ou 0
    | some x=>have:=(hI.all x (xC q)).1;show 0<=x+1;lia
   exact⟨by rw[Xs,e];rfl,TB.mpr ⟨hI,h1,by lia,h2⟩⟩
  .rintro⟨e,hI⟩;have XJ:l≠[]:=λz=>by rw[z]at e;simp at e
   obtain⟨s,t,rfl⟩:∃ s t,l=s++[t]:=⟨l.dropLast,l.getLast XJ,(jL XJ).symm⟩;obtain⟨h1,h2,h3,h4⟩:=TB.mp hI;exact⟨s,VZ.mpr ⟨by rw[Xs]at e;simpa using e,h1⟩,Wt.mpr ⟨t,h2,h4,rfl⟩⟩
theorem sI{m:Nat}{s:Ac}(h:IsSet m s):(Uu (m:Int) s).length<=m:=by
 unfold Uu;rw[Yd,Pc];have n0:0<=TF s:=by
  unfold TF;cases q:s.getLast? with
  | none=>exact Ou 0
  | some x=>have:=(h.all x (xC q)).1;show 0<=x+1;lia
 omega
theorem Ef{m:Nat}:∀ L:Ab,(∀ s∈L,IsSet m s)->(L.flatMap (Uu (m:Int))).length<=m * L.length
 | [],_=>Yo _
 | s :: L,h=>by
  have:=Ef L λx hx=>h x (Yh _ hx)
  have:=sI (h s Ye)
  rw[List.flatMap_cons,Xs,Yz,Nat.mul_succ];lia
theorem Ee:∀ {w t:Ac},t.Pairwise (· < ·)->w.Pairwise (· < ·)->(∀ z∈t,z∈w)->t.Sublist w
 | [],[],_,_,_=>List.Sublist.slnil
 | [],x :: t,_,_,h=>absurd (h x Ye) (by simp)
 | y :: w,[],_,_,_=>List.nil_sublist _
 | y :: w,x :: t,ht,hw,h=>by
  obtain⟨h1,h2⟩:=YN.mp ht;obtain⟨h3,h4⟩:=YN.mp hw;by_cases e:x=y
  .subst e;refine List.Sublist.cons₂ _ (Ee h2 h4 λz hz=>?_);rcases Yg.mp (h z (Yh _ hz)) with q | q
   .have:=h1 z hz;lia
   .exact q
  .have hx:x∈w:=(Yg.mp (h x Ye)).resolve_left e;refine List.Sublist.cons _ (Ee ht h4 λz hz=>?_);rcases Yg.mp (h z hz) with q | q
   .have:=h3 x hx
    rcases Yg.mp hz with q2 | q2
    .rw[q2];exact hx
    .have:=h1 z q2;lia
   .exact q
def OM(M:Ac)(es:List (Nat × Nat)):Ac:=es.foldl (λm e=>pm m e.1 e.2) M
theorem ZU9(M:Ac)(es:List (Nat × Nat))(e:Nat × Nat):OM M (es++[e])=pm (OM M es) e.1 e.2:=by unfold OM;rw[Oq];rfl
theorem Zo6(M:Ac):∀ es:List (Nat × Nat),(OM M es).length=M.length:=by
 intro es;unfold OM
 induction es generalizing M with
 | nil=>rfl
 | cons e l ih=>rw[AD,ih,ES]
theorem gM{xs:List V}{i:Int}(h0:0<=i):WM xs none (some i)=xs.take i.toNat:=by
 have e:HT.Vw xs.length xs.length (some i)=min i.toNat xs.length:=by show(if i<0 then (i+(xs.length:Int)).toNat else min i.toNat xs.length)=_;rw[if_neg (by lia)]
 unfold WM;rw[e,HT.TV,List.drop_zero,Nat.sub_zero];by_cases h:i.toNat<=xs.length
 .rw[GV h]
 .rw[xi (by lia),UH (XO _),UH (by omega)]
def Wo(m:Nat):Ac:=(List.range m).map λ(i:Nat)=>(i:Int)
theorem XB{m:Nat}{z:Int}:z∈Wo m↔0<=z/\z<(m:Int):=by
 unfold Wo;rw[YC];constructor
 .rintro⟨i,hi,rfl⟩
  have:=YI.mp hi
  lia
 .intro h;exact⟨z.toNat,YI.mpr (by lia),by lia⟩
theorem ZJ(m:Nat):(Wo m).length=m:=by unfold Wo;simp
theorem HG(m:Nat):(Wo m).Pairwise (· < ·):=by unfold Wo;rw[MF];exact Hh.imp λh=>by omega
theorem HF(m:Nat):IsSet m (Wo m):=XX.mpr ⟨λz hz=>XB.mp hz,HG m⟩
theorem ZN9(m:Nat):Wf 0 (m:Int)=Wo m:=by unfold Wf Wo;rw[Aq,YA];exact YW λi _=>by lia
def LZ(n:Int)(ps:Aa):Prop:=∀ i j,i<n.toNat->j<n.toNat->Conn (XT ps (Wo ps.length)) i j
end My
namespace L2
open PySem PySem.Spec PyProof.Rows
section
variable{prog:Program}{w:World}{A:Around}{E:Ae}{s:Shared}
theorem ZN5{r:Addr}{a b c:Int}{t u v:Tok}{n:Nat}{Q:List Value->Shared->Prop}(hh:A.handled=none)(hr:IsRange s.heap r a b c t u v)(hm:Builtin.Range.small a b c=true)(hn:Builtin.Range.rangeSize a b c=n)(hl:n<=2 ^ 24)
  (k:∀(h':Heap) (tk:Nat) (acc:Array Value),(∀ b o,s.heap.get? b=some o->h'.get? b=some o)->ItemsOf (λi v=>∃ t,v=.int (a+i * c) t) acc n->Q acc.toList { s with heap:=h',toks:=tk }):wpAny (model prog w) A (collect (.ref r)) Q E s:=by
 have JI:(s.heap.push (seqObj "list" #[] 0)).get? s.heap.objs.size=some (seqObj "list" #[] 0):=Ym _ rfl;unfold collect;refine XU (Aw (Wg wY ?_));show wpAny _ A.in1 (do again (.builtin "list.__iadd__" ⟨[<- newList [],.ref r],[]⟩)) _ _ s
 refine XU (Lk (Yj ⟨GX _ (by decide +kernel),Wg entry_list_iadd' ?_⟩));show wpAny _ A.in1 (Builtin.List.listExtendWith (.ref s.heap.objs.size) (.ref r) (.ref s.heap.objs.size)) _ _ { s with heap:=s.heap.push (seqObj "list" #[] 0) }
 refine UG (wpAny_extend_range (A:=A) (R:=λx s'=>∃(h':Heap) (tk:Nat) (acc:Array Value) (c':Nat),x=.ok (.ret (.ref s.heap.objs.size))/\s'={ s with heap:=h',toks:=tk }/\(∀ b o,s.heap.get? b=some o->h'.get? b=some o) /\
   h'.get? s.heap.objs.size=some { cls:=.type "list",dict:=none,data:=.seq acc c',slots:=#[] }/\ItemsOf (λi v=>∃ t,v=.int (a+i * c) t) acc n)
  (s:={ s with heap:=s.heap.push (seqObj "list" #[] 0) }) hh (Xc _ hr) hm hn hl _ _ 0 JI λh' tk acc c' k1 k2 k3=>⟨h',tk,acc,c',rfl,rfl,λb o e=>k1 b o (Yt (Yl e)) (Xc _ e),k2,k3⟩) (λfin s' z=>?_) (λe s' z=>?_)
 .cases fin with
  | done f =>
   obtain⟨h',tk,acc,c',e,rfl,k1,k2,k3⟩:=z;cases e;refine XU (GH k2 ?_);exact Yj (k h' tk acc k1 k3)
  | again c' =>
   refine⟨z.1,Ow z.2 λx s2 z=>?_⟩;obtain⟨h',tk,acc,c',rfl,rfl,k1,k2,k3⟩:=z;refine XU (GH k2 ?_);exact Yj (k h' tk acc k1 k3)
 .obtain⟨h',tk,acc,c',e,_⟩:=z;cases e
theorem ZI3{r:Addr}{a b c:Int}{t u v:Tok}{n:Nat}(hm:Builtin.Range.small a b c=true)(hn:Builtin.Range.rangeSize a b c=n)(hl:n<=2 ^ 24) :
  Meets (Builtin.«tuple.__new__» ⟨[.type "tuple",.ref r],[]⟩) (λA R s=>A.handled=none/\IsRange s.heap r a b c t u v/\∀(h':Heap) (tk:Nat) (acc:Array Value),(∀ b o,s.heap.get? b=some o->h'.get? b=some o)->ItemsOf (λi v=>∃ t,v=.int (a+i * c) t) acc n ->
   R (.ok (.ret (.ref h'.objs.size))) { s with heap:=h'.push (seqObj "tuple" acc 0),toks:=tk }) :=
 .of_wp λprog w A R s h=>by
  obtain⟨hh,hr,h⟩:=h;have e1:=sub_tuple_self
  have e2:=init_tuple_lookup;have e3:=madeHere_tuple
  have hT:s.TypeIs (.ref r) "range":=⟨_,hr,rfl⟩;have Ec:A.in1.handled=none:=hh
  wp_walk using GN hT,ZN5 Ec hr hm hn hl
  intro h' tk acc hk Wa;show wpAny _ _ (Builtin.Tuple.tupleExact acc.toList.toArray >>= ret) _ _ _
  unfold Builtin.Tuple.tupleExact;have e:acc.toList.toArray=acc:=by simp
  rw[e];refine XU (OA ?_ (by show acc.size<=sizeLine;rw[Wa.1,Ue];exact hl));exact Yj ⟨_,rfl,h h' tk acc hk Wa⟩
theorem ZF2{r:Addr}{a b c:Int}{t u v:Tok}{n:Nat}{Q:Ae}(hh:A.handled=none)(hr:IsRange s.heap r a b c t u v)(hm:Builtin.Range.small a b c=true)(hn:Builtin.Range.rangeSize a b c=n)(hl:n<=2 ^ 24)
  (k:∀(h':Heap) (tk:Nat) (acc:Array Value),(∀ b o,s.heap.get? b=some o->h'.get? b=some o)->ItemsOf (λi v=>∃ t,v=.int (a+i * c) t) acc n->Q (.ref h'.objs.size) { s with heap:=h'.push (seqObj "tuple" acc 0),toks:=tk }):wpAny (model prog w) A (call (.type "tuple") [.ref r]) Q E s :=
 callType_new F.called_tuple (by decide) (F.typeCall_tuple_1 _) (F.newCall_tuple_1 _) (λo=>F.args_object_init_2 o _) F.entry_tuple_new (ZI3 (t:=t) (u:=u) (v:=v) hm hn hl)
  ⟨hh,hr,λh' tk acc hk Wa=>⟨⟨_,Ym _ rfl,rfl⟩,k h' tk acc hk Wa⟩⟩
end
section
variable{X:Cx}
theorem Zl3 (hc:X.calm=true):UQ X (.type "tuple") (λxs H Q=>∃ p lo hi,xs=[.ref p]/\H p=some (.rng lo hi)/\(-(2 ^ 62)<=lo/\lo<2 ^ 62/\-(2 ^ 62)<=hi/\hi<2 ^ 62)/\(hi - lo).toNat<=16777216 /\
  ∀ l,H l=none->Q (.ref l) (upd H l (.tup ((Wf lo hi).map V.int)))):=by
 intro pins s σ H xs us Q I r h;obtain⟨p,lo,hi,rfl,hp,⟨b1,b2,b3,b4⟩,hz,q⟩:=h;obtain⟨u,rfl,ru⟩:=Th r;obtain rfl:u=Value.ref p:=ru;obtain⟨t,u,v,e⟩:=(show ObjOk X.prog X.w H s.heap p (.rng lo hi) from I.hok p _ hp);have hn:Builtin.Range.rangeSize lo hi 1=(((hi - lo).toNat:Nat):Int):=by rw[rangeSize_one];split <;> grind
 refine ZF2 (I.ok.hd hc) (t:=t) (u:=u) (v:=v) e (small_one b1 b2 b3 b4) hn hz λh' tk acc hk ha=>?_;have hl:acc.toList.length=(hi - lo).toNat:=by rw[YD];exact ha.1
 have rv:Vals ((Wf lo hi).map V.int) acc.toList:=iD (lo:=lo) hl λj w ew=>by obtain⟨t,e⟩:=ha.2 j w (by simpa using ew);exact⟨t,by rw[e,Ov]⟩
 have I1:Inv X pins σ H { s with heap:=h',toks:=tk }:=I.kept (t':=tk) hk;have sH:((Wf lo hi).map V.int).length<=sizeLine:=by
  rw[Yd,iE]
  have:sizeLine=16777216:=Ue
  lia
 have I2:Inv X pins σ (upd H h'.objs.size (.tup ((Wf lo hi).map V.int))) { s with heap:=h'.push (seqObj "tuple" acc.toList.toArray 0),toks:=tk } :=
  I1.laid (t':=tk) (λb o e=>Xc _ e) (XO _) (show ObjOk X.prog X.w _ _ _ (.tup ((Wf lo hi).map V.int)) from⟨sH,acc.toList,rv,IsTup.new _ _⟩)
 have ea:acc.toList.toArray=acc:=by simp
 rw[ea]at I2;exact⟨.ref h'.objs.size,_,I2,rfl,q _ (I1.hok.fresh (XO _))⟩
end
end L2
namespace My
open PySem L2
def RJ(n:Nat)(ps:Aa)(G:Ac)(z:Int):Ac:=if mk (WW n (XT ps G)) (Zq ps z).1=mk (WW n (XT ps G)) (Zq ps z).2 then G else G++[z]
def WU(n:Nat)(ps:Aa)(zs:Ac):Ac:=zs.foldl (RJ n ps) []
theorem LY(n:Nat)(ps:Aa)(zs:Ac)(z:Int):WU n ps (zs++[z])=RJ n ps (WU n ps zs) z:=by unfold WU;rw[Oq];rfl
theorem ze(n:Nat)(ps:Aa)(zs:Ac):∀ ys,∃ us,WU n ps (zs++ys)=WU n ps zs++us/\us.Sublist ys:=by
 refine NG ⟨[],by simp⟩ λys y ih=>?_;obtain⟨us,e,s⟩:=ih;rw[<- QU,LY,e];unfold RJ;split
 .exact⟨us,rfl,s.trans (List.sublist_append_left _ _)⟩
 .exact⟨us++[y],by rw[QU],s.append (List.Sublist.refl _)⟩
theorem zd(n:Nat)(ps:Aa)(zs:Ac):(WU n ps zs).Sublist zs:=by obtain⟨us,e,s⟩:=ze n ps [] zs;rw[Mz]at e;rw[e];exact s
theorem sG{n:Nat}{ps:Aa}{zs:Ac}(h:∀ z∈zs,0<=z/\z<(ps.length:Int)):∀ z∈WU n ps zs,0<=z/\z<(ps.length:Int):=λz hz=>h z ((zd n ps zs).subset hz)
theorem HE{n:Int}{ps:Aa}(g:Zt n ps){zs:Ac}(h:∀ z∈zs,0<=z/\z<(ps.length:Int)):InN n.toNat (XT ps (WU n.toNat ps zs)):=ZG g (sG h)
theorem zb{n:Int}{ps:Aa}(g:Zt n ps):∀ zs:Ac,(∀ z∈zs,0<=z/\z<(ps.length:Int))->cnt (WW n.toNat (XT ps (WU n.toNat ps zs)))+(WU n.toNat ps zs).length=n.toNat:=by
 refine NG (λ_=>sQ n.toNat) λzs z ih h=>?_;have h1:∀ z∈zs,0<=z/\z<(ps.length:Int):=λy hy=>h y (Ya _ hy)
 have ih:=ih h1;obtain⟨z0,z1⟩:=h z (Yc _ (XD.mpr rfl));have he:=Uw (z:=z) g z0 z1
 have hl:=ZB n.toNat (XT ps (WU n.toNat ps zs));rw[LY];unfold RJ;split
 .exact ih
 .rename_i h;rw[TH,NS,Xs,Yk]
  have:=zt (m:=WW n.toNat (XT ps (WU n.toNat ps zs))) (by lia) (by lia) h
  grind
theorem Eb{n:Int}{ps:Aa}(g:Zt n ps){zs:Ac}(h:∀ z∈zs,0<=z/\z<(ps.length:Int)):(WU n.toNat ps zs).length<=14:=by
 have:=zb g zs h
 have:=g.2.1
 lia
theorem sF{n:Int}{ps:Aa}(g:Zt n ps):∀ zs:Ac,(∀ z∈zs,0<=z/\z<(ps.length:Int))->∀ {i j:Nat},Conn (XT ps zs) i j->Conn (XT ps (WU n.toNat ps zs)) i j:=by
 refine NG (λ_ _ _ c=>c) λzs z IH h i j c=>?_;have h1:∀ z∈zs,0<=z/\z<(ps.length:Int):=λy hy=>h y (Ya _ hy)
 obtain⟨z0,z1⟩:=h z (Yc _ (XD.mpr rfl));have he:=Uw (z:=z) g z0 z1
 have up:∀ {a b:Nat},Conn (XT ps (WU n.toNat ps zs)) a b->Conn (XT ps (WU n.toNat ps (zs++[z]))) a b:=λc=>by
  rw[LY];unfold RJ;split
  .exact c
  .exact c.mono (ZA λy hy=>Ya _ hy)
 have own:Conn (XT ps (WU n.toNat ps (zs++[z]))) (Zq ps z).1 (Zq ps z).2:=by
  rw[LY];unfold RJ;split
  .rename_i e;exact(ZO (HE g h1) he.1 he.2).mp e
  .rw[TH];exact .edge (Yc _ (XD.mpr rfl))
 induction c with
 | refl i=>exact .refl i
 | symm _ ih=>exact .symm ih
 | trans _ _ i1 i2=>exact .trans i1 i2
 | @edge a b e =>
  rw[TH]at e;rcases Xy.mp e with e | e
  .exact up (IH h1 (.edge e))
  .have e:=XD.mp e;have ea:a=(Zq ps z).1:=Xw Prod.fst e
   have eb:b=(Zq ps z).2:=Xw Prod.snd e;rw[ea,eb];exact own
theorem ZY6{n:Int}{ps:Aa}(g:Zt n ps):LZ n ps↔¬ ((WQ n.toNat ps ps.length).length:Int)<n - 1:=by
 constructor
 .intro h;have hc:∀ i j,i<n.toNat->j<n.toNat->Conn (XT ps (WQ n.toNat ps ps.length)) i j:=λi j hi hj=>Eh g (λz hz=>XB.mp hz) (h i j hi hj)
  have h1:=(ZY (by have:=g.1;lia) (zh g (XO _))).mpr hc;have h2:=zf g ps.length (XO _)
  have:=g.1
  grind
 .intro h i j hi hj;exact((gO g h).2.2 i j hi hj).mono (ZA λz hz=>XB.mpr (by have:=HH ps.length z hz;lia))
end My
namespace PyProof.Rows
open PySem
abbrev dK:Keyed:=(Value.none,Value.none)
section
variable{O:KeyOrd}{key:Keyed->O.α}{kd:SortKind}
def RK(O:KeyOrd)(key:Keyed->O.α)(x y:Keyed):Prop:=O.kle (key x) (key y)
structure MI (O:KeyOrd) (key:Keyed->O.α) (la lb:List Keyed) (out:Array Keyed) (ia ib:Nat):Prop where
 so:out.toList.Pairwise (RK O key)
 oa:∀ x∈out.toList,∀ y∈la.drop ia,RK O key x y
 ob:∀ x∈out.toList,∀ y∈lb.drop ib,RK O key x y
 pm:(out.toList++la.drop ia++lb.drop ib).Perm (la++lb)
abbrev LoS:=Option (Array Keyed) × Array Keyed × Nat × Nat × Nat × Nat × Nat
structure MH (O:KeyOrd) (key:Keyed->O.α) (la lb:List Keyed) (out:Array Keyed) (na nb:Nat):Prop where
 so:out.toList.Pairwise λx y=>RK O key y x
 oa:∀ x∈la.take na,∀ y∈out.toList,RK O key x y
 ob:∀ x∈lb.take nb,∀ y∈out.toList,RK O key x y
 pm:(la.take na++lb.take nb++out.toList).Perm (la++lb)
abbrev HiS:=Option (Array Keyed) × Nat × Nat × Array Keyed × Nat × Nat × Nat
def Ea:List (List Keyed)->Nat->List (Nat × Nat)
 | [],_=>[]
 | g :: gs,o=>(o,g.length) :: Ea gs (o+g.length)
structure PI (O:KeyOrd) (key:Keyed->O.α) (kd:SortKind) (a₀:Array Keyed) (st:SortSt) (JD:List (List Keyed)) (rest:List Keyed):Prop where
 kind:kindOf st=kd
 fail:failedOf st=none
 perm:(arrOf st).Perm a₀
 arr:(arrOf st).toList=JD.flatten++rest
 srt:∀ g∈JD,1<=g.length/\g.Pairwise (RK O key)
 pend:(pendingOf st).toList.map (λp=>(p.1,p.2.1))=Ea JD 0
end
end PyProof.Rows
namespace L2
open PySem PySem.Spec PyProof.Rows
section
def sameBut(a:Addr)(h h':Heap):Prop:=∀ b o,b≠a->h.get? b=some o->h'.get? b=some o
end
end L2
namespace My
open PySem L2
abbrev Ny(a b:Ac):Prop:=HT.lexLt a b=true
theorem gL:∀(p a b:Ac),HT.lexLt (p++a) (p++b)=HT.lexLt a b
 | [],a,b=>rfl
 | x :: p,a,b=>by rw[GW,GW,HT.Xn,if_pos rfl,gL p]
theorem gK:∀ {s t:Ac} (a b:Ac),s.length=t.length->HT.lexLt s t=true->HT.lexLt (s++a) (t++b)=true
 | [],[],a,b,_,h=>by cases h
 | [],_ :: _,a,b,e,_=>by simp at e
 | _ :: _,[],a,b,e,_=>by simp at e
 | x :: s,y :: t,a,b,e,h=>by
  rw[HT.Xn]at h;rw[GW,GW,HT.Xn];split
  .rename_i q;rw[if_pos q]at h;exact gK a b (by simpa using e) h
  .rename_i q;rw[if_neg q]at h;exact h
theorem sE(m:Int):∀ k,∀ l∈Qg m k,l.length=k
 | 0,l,h=>by rw[XD.mp h];rfl
 | k+1,l,h=>by obtain⟨s,hs,hl⟩:=List.mem_flatMap.mp h;obtain⟨t,_,_,rfl⟩:=Wt.mp hl;rw[Xs,sE m k s hs];rfl
theorem gJ(m:Int):∀ k,(Qg m k).Pairwise Ny
 | 0=>Iq ..
 | k+1=>by
  show((Qg m k).flatMap (Uu m)).Pairwise Ny;rw[List.pairwise_flatMap];refine⟨λs _=>?_,jD (λ{s t} hs ht WB=>?_) (gJ m k)⟩
  .unfold Uu;rw[MF];refine Hh.imp λ{i j} Ux=>?_;show HT.lexLt _ _=true
   rw[gL,HT.Xn,if_neg (by lia)];exact Yw (by lia)
  .intro x hx y hy;obtain⟨u,_,_,rfl⟩:=Wt.mp hx;obtain⟨v,_,_,rfl⟩:=Wt.mp hy;exact gK _ _ (by rw[sE m k s hs,sE m k t ht]) WB
theorem JC{α:Type}[DecidableEq α]:∀ {l m:List α},l.Nodup->(∀ x∈l,x∈m)->l.length<=m.length
 | [],m,_,_=>Yo _
 | x :: l,m,h,hs=>by
  obtain⟨h1,h2⟩:=Rl.mp h;have hx:=hs x Ye
  have:=JC (l:=l) (m:=m.erase x) h2 λy hy=>(xB (λ(e:y=x)=>h1 (e ▸ hy))).mpr (hs y (Yh _ hy))
  rw[xJ hx]at this
  have:=QO hx
  rw[Yz];grind
end My
namespace L2
open PySem PySem.Spec PyProof.Rows
def sD(i j:Int):Prop:=(-(10 ^ 200)<i/\i<10 ^ 200)/\(-(10 ^ 200)<j/\j<10 ^ 200)
theorem gI{a:Int}(h1:-(10 ^ 200)<a)(h2:a<10 ^ 200):Builtin.Int.intBits a<=1000:=by
 have h:a.natAbs<10 ^ 200:=by omega
 exact PySem.intBits_le_iff.mpr (Ar h (by decide))
section
variable{X:Cx}
theorem DZ:WG X (binaryOp .Mult) (rI sD λi j=>.int (i * j)):=Kx λ_ _ _ _ _ _ _ hc q=>mul_int q (.of_bits (Yr (gI hc.1.1 hc.1.2) (by decide)) (Yr (gI hc.2.1 hc.2.2) (by decide)))
end
end L2
namespace My
open PySem L2
theorem gH{n:Int}{ps:Aa}{T:Ac}{z:Int}(g:Zt n ps)(hT:Zf n ps T)(z0:0<=z)(z1:z<(ps.length:Int)):Conn (XT ps (WD n ps T z T)) (Zq ps z).1 (Zq ps z).2:=by
 have he:=Uw (z:=z) g z0 z1;have key:∀ D:Ac,(∀ o∈D,o∈T/\z∉Vp n ps T o)->Conn (XT ps (T.filter λy=>decide (y∉D))) (Zq ps z).1 (Zq ps z).2:=by
  intro D
  induction D with
  | nil =>
   intro _;have e:(T.filter λy=>decide (y∉([]:Ac)))=T:=xu.mpr λy _=>by simp
   rw[e];exact hT.2.2 _ _ he.1 he.2
  | cons o D ih =>
   intro hD;have c:=ih λy hy=>hD y (Yh _ hy)
   obtain⟨y9,Ai⟩:=hD o Ye;by_cases zZ:o∈D
   .refine c.mono (ZA λy hy=>?_);obtain⟨h1,h2⟩:=Yf.mp hy;have h2:=Yu h2
    exact Yf.mpr ⟨h1,Yw λh=>(Yg.mp h).elim (λe=>h2 (e ▸ zZ)) h2⟩
   .refine Yx λTe=>?_;have DY:∀ y,y∈(T.filter λy=>decide (y∉o :: D))->y∈wo T o:=λy hy=>by
     obtain⟨h1,h2⟩:=Yf.mp hy;have h2:=Yu h2
     exact Xq.mpr ⟨h1,λe=>h2 (by rw[e];exact Ye)⟩
    have c2:Conn (XT ps ((T.filter λy=>decide (y∉o :: D))++[o])) (Zq ps z).1 (Zq ps z).2:=(TJ λy=>by
     rw[Xy,Yf,Yf,XD];simp only [Lo,Yg,not_or];constructor
     .rintro⟨h1,h2⟩;by_cases e:y=o
      .exact .inr e
      .exact .inl ⟨h1,e,h2⟩
     .rintro(⟨h1,_,h2⟩ | e)
      .exact⟨h1,h2⟩
      .rw[e];exact⟨y9,zZ⟩).mp c
    have Vs:∀ y∈(T.filter λy=>decide (y∉o :: D)),0<=y/\y<(ps.length:Int):=λy hy=>hT.1.all y (Yf.mp hy).1;obtain⟨o0,o1⟩:=hT.1.all o y9;have Wi:InN n.toNat (XT ps (T.filter λy=>decide (y∉o :: D))):=ZG g Vs
    have sC:InN n.toNat (XT ps ((T.filter λy=>decide (y∉o :: D))++[o])):=ZG g λy hy=>by
     rcases Xy.mp hy with h | h
     .exact Vs y h
     .rw[XD.mp h];exact⟨o0,o1⟩
    have Td:=Uw (z:=o) g o0 o1;have hl:=ZB n.toNat (XT ps (T.filter λy=>decide (y∉o :: D)))
    have own:¬ Conn (XT ps (wo T o)) (Zq ps o).1 (Zq ps o).2:=(ZM g hT o0 o1).mp ((HI g hT y9 y9).mpr rfl);have cw:Conn (XT ps (wo T o)) (Zq ps z).1 (Zq ps z).2:=Yx λh=>Ai ((ZM g hT z0 z1).mpr h)
    have up:∀ {i j:Nat},i<n.toNat->j<n.toNat->mk (WW n.toNat (XT ps (T.filter λy=>decide (y∉o :: D)))) i=mk (WW n.toNat (XT ps (T.filter λy=>decide (y∉o :: D)))) j->Conn (XT ps (wo T o)) i j:=λhi hj e=>((ZO Wi hi hj).mp e).mono (ZA DY);have m:=(ZO sC he.1 he.2).mpr c2
    rw[TH,NS,ER (by lia) (by lia)]at m;rcases m with m | ⟨m1,m2⟩
    .exact Te ((ZO Wi he.1 he.2).mp m)
    .rcases m1 with m1 | m1 <;> rcases m2 with m2 | m2
     .exact Te ((ZO Wi he.1 he.2).mp (m1.trans m2.symm))
     .exact own (((up he.1 Td.1 m1).symm.trans cw).trans (up he.2 Td.2 m2))
     .exact own (((up he.2 Td.1 m2).symm.trans cw.symm).trans (up he.1 Td.2 m1))
     .exact Te ((ZO Wi he.1 he.2).mp (m1.trans m2.symm))
 have c:=key (T.filter λy=>decide (z∉Vp n ps T y)) λo ho=>by obtain⟨h1,h2⟩:=Yf.mp ho;exact⟨h1,Yu h2⟩
 refine c.mono (ZA λy hy=>?_);obtain⟨h1,h2⟩:=Yf.mp hy;have h2:=Yu h2
 exact VM.mpr ⟨h1,Yx λh=>h2 (Yf.mpr ⟨h1,Yw h⟩)⟩
inductive WP (n:Int) (ps:Aa) (W:Ac) (T0:Ac):Ac->Aa->Ac->Prop
 | nil:WP n ps W T0 [] [] T0
 | skip {l:Ac} {ws:Aa} {T:Ac} {z:Int}:WP n ps W T0 l ws T->z∈T->WP n ps W T0 (l++[z]) ws T
 | step {l:Ac} {ws:Aa} {T T':Ac} {z o:Int}:WP n ps W T0 l ws T->z∉T->o∈WD n ps T z T->o∉W->(∀ y∈WD n ps T z T,y∉W->o<=y)->T'.Perm (wo T o++[z])->T'.Pairwise (·<=·)->WP n ps W T0 (l++[z]) (ws++[(o,z)]) T'
theorem sy{a b:Ac}(ha:a.Pairwise (· < ·))(hb:b.Pairwise (· < ·))(h:∀ z,z∈a↔z∈b):a=b :=
 (Ee ha hb λz hz=>(h z).mp hz).eq_of_length (KU (Ee ha hb λz hz=>(h z).mp hz).length_le (Ee hb ha λz hz=>(h z).mpr hz).length_le)
theorem gG{xs:List V}{i:Int}(h0:0<=i):WM xs (some i) none=xs.drop i.toNat:=by
 have e:HT.Vw xs.length 0 (some i)=min i.toNat xs.length:=by show(if i<0 then (i+(xs.length:Int)).toNat else min i.toNat xs.length)=_;rw[if_neg (by lia)]
 unfold WM;rw[e,HT.TV,UH (by rw[QT];exact XO _)];by_cases h:i.toNat<=xs.length
 .rw[GV h]
 .rw[xi (by lia),Lu (XO _),Lu (by omega)]
def cutz{α:Type}(l:List α)(z:Int):List α:=l.take z.toNat++l.drop (z.toNat+1)
theorem sv{xs:List V}{z:Int}(h0:0<=z):WM xs none (some z)++WM xs (some (z+1)) none=cutz xs z:=by rw[gM h0,gG (by lia),show(z+1).toNat=z.toNat+1 by lia];rfl
theorem su{α:Type}(l:List α)(z:Int):(cutz l z).length<=l.length:=by unfold cutz;rw[Xs,YB,QT];grind
def dn(lo hi i:Int):Int:=if i=hi then lo else if i<hi then i else i - 1
theorem gF(i:Nat):Wo (i+1)=Wo i++[(i:Int)]:=by unfold Wo;rw[GU,QP];rfl
end My
namespace L2
open PySem PySem.Spec PyProof.Rows
theorem Rc{N a b:St->Hp->Prop}{r:VK}{σ:St}{H:Hp}(h:N σ H):Ends.nx { nx:=N,rt:=r,bk:=a,ct:=b } σ H:=h
end L2
namespace My
theorem DX{α:Type}{l:List α}(h:l.length=1):∃ a,l=[a]:=by
 cases l with
 | nil=>cases h
 | cons a l=>cases l with
  | nil=>exact⟨a,rfl⟩
  | cons b l=>simp at h
theorem DW{α:Type}{l:List α}(h:l.length=2):∃ a b,l=[a,b]:=by
 cases l with
 | nil=>cases h
 | cons a l =>
  obtain⟨b,rfl⟩:=DX (UD h);exact⟨a,b,rfl⟩
theorem DV{α:Type}{l:List α}(h:l.length=3):∃ a b c,l=[a,b,c]:=by
 cases l with
 | nil=>cases h
 | cons a l =>
  obtain⟨b,c,rfl⟩:=DW (UD h);exact⟨a,b,c,rfl⟩
theorem DU{α:Type}{l:List α}(h:l.length=4):∃ a b c d,l=[a,b,c,d]:=by
 cases l with
 | nil=>cases h
 | cons a l =>
  obtain⟨b,c,d,rfl⟩:=DV (UD h);exact⟨a,b,c,d,rfl⟩
end My
namespace My
open PySem L2
theorem ZU{l:Ac}{f:Int->Bool}{i:Nat}{y:Int}(h:l[i]?=some y):(l.take (i+1)).filter f=(l.take i).filter f++(if f y=true then [y] else []):=by
 rw[WA,h,QW];congr 1;by_cases e:f y=true
 .rw[if_pos e];show List.filter _ [y]=_;rw[YL,if_pos e];rfl
 .rw[if_neg e];show List.filter _ [y]=_;rw[YL,if_neg e];rfl
theorem Conn.lift{es fs:List (Nat × Nat)}(h:∀ e∈es,Conn fs e.1 e.2){i j:Nat}(c:Conn es i j):Conn fs i j:=by
 induction c with
 | refl i=>exact .refl i
 | edge e=>exact h _ e
 | symm _ ih=>exact ih.symm
 | trans _ _ Qf Ta=>exact Qf.trans Ta
theorem sr{n:Int}{ps:Aa}{T W:Ac}{z:Int}(g:Zt n ps)(hT:Zf n ps T)(hW:Zf n ps W)(hz:z∈T)(hzW:z∉W):∃ y,exg n ps T z y/\exg n ps W y z:=by
 obtain⟨z0,z1⟩:=hT.1.all z hz;refine Yx λTe=>?_;refine(ZM g hT z0 z1).mp ((HI g hT hz hz).mpr rfl) ((gH g hW z0 z1).lift λe he=>?_);unfold XT at he;obtain⟨y,hy,rfl⟩:=YC.mp he;obtain⟨sq,hyc⟩:=VM.mp hy;obtain⟨y0,y1⟩:=hW.1.all y sq;have gE:y≠z:=λe=>hzW (e ▸ sq)
 have:=(ZM (o:=z) g hT y0 y1)
 exact Yx λh=>Te ⟨y,⟨hz,gE,this.mpr h⟩,⟨sq,YY gE,hyc⟩⟩
theorem sj(l:Ac):∃ m:Ac,m.Perm l/\m.Pairwise (·<=·):=by
 induction l with
 | nil=>exact⟨[],.refl _,.nil⟩
 | cons x l ih =>
  obtain⟨m,h1,h2⟩:=ih;have key:∀ m:Ac,m.Pairwise (·<=·)->∃ k:Ac,k.Perm (x :: m)/\k.Pairwise (·<=·):=by
   intro m
   induction m with
   | nil=>intro _;exact⟨[x],.refl _,Iq _ _⟩
   | cons y m Ta =>
    intro hp;obtain⟨hy,hm⟩:=YN.mp hp;by_cases Nz:x<=y
    .refine⟨x :: y :: m,.refl _,YN.mpr ⟨λz hz=>?_,hp⟩⟩;rcases Yg.mp hz with e | e
     .rw[e];exact Nz
     .exact Ie Nz (hy z e)
    .obtain⟨k,k1,k2⟩:=Ta hm;refine⟨y :: k,(k1.cons y).trans (List.Perm.swap x y m),YN.mpr ⟨λz hz=>?_,k2⟩⟩;rcases Yg.mp (k1.mem_iff.mp hz) with e | e
     .rw[e];lia
     .exact hy z e
  obtain⟨k,k1,k2⟩:=key m h2;exact⟨k,k1.trans (h1.cons x),k2⟩
inductive Wk (n:Int) (ps:Aa) (T0:Ac):Aa->Ac->Prop
 | nil:Wk n ps T0 [] T0
 | step {ws:Aa} {T T':Ac} {o z:Int}:Wk n ps T0 ws T->exg n ps T o z->T'.Perm (wo T o++[z])->T'.Pairwise (·<=·)->Wk n ps T0 (ws++[(o,z)]) T'
theorem si{M N:Ac}(s:SameP M N):cnt M=cnt N:=by
 unfold cnt VD;rw[<- s.1];refine Xw List.length (ME λp hp=>?_);have hp:=YI.mp hp
 rw[Pa,XC,XC];constructor
 .intro h i hi e;exact h i hi ((s.2 i p (by lia) hp).mpr e)
 .intro h i hi e;exact h i hi ((s.2 i p (by lia) hp).mp e)
theorem gD{n:Int}{ps:Aa}{U:Ac}(g:Zt n ps)(hU:Zf n ps U):∀ V:Ac,V.Nodup->(∀ z∈V,z∈U)->WU n.toNat ps V=V:=by
 refine NG (λ_ _=>rfl) λV z ih hn hs=>?_;have Ub:=YS.mp hn
 have hV:∀ y∈V,y∈U:=λy hy=>hs y (Ya _ hy);have hz:z∈U:=hs z (Yc _ (XD.mpr rfl))
 have hzV:z∉V:=λh=>Ub.2.2 z h z (XD.mpr rfl) rfl;obtain⟨z0,z1⟩:=hU.1.all z hz;have he:=Uw (z:=z) g z0 z1
 rw[LY,ih Ub.1 hV];unfold RJ;rw[if_neg];intro e;have c:=(ZO (ZG g λy hy=>hU.1.all y (hV y hy)) he.1 he.2).mp e
 exact(ZM g hU z0 z1).mp ((HI g hU hz hz).mpr rfl) (c.mono (ZA λy hy=>Xq.mpr ⟨hV y hy,λe'=>hzV (by rw[<- e'];exact hy)⟩))
theorem sf{n:Int}{ps:Aa}{as bs:Ac}{z:Int}(g:Zt n ps)(h:∀ y∈as,0<=y/\y<(ps.length:Int))(z0:0<=z)(z1:z<(ps.length:Int))(hz:z∉WU n.toNat ps (as++z :: bs)):Conn (XT ps (WU n.toNat ps as)) (Zq ps z).1 (Zq ps z).2:=by
 obtain⟨us,e,_⟩:=ze n.toNat ps (as++[z]) bs;rw[QU]at e;have e:WU n.toNat ps (as++z :: bs)=WU n.toNat ps (as++[z])++us:=e
 rw[e,LY]at hz;have he:=Uw (z:=z) g z0 z1
 refine(ZO (HE g h) he.1 he.2).mp (Yx λXJ=>hz ?_);unfold RJ;rw[if_neg XJ];exact Ya _ (Yc _ (XD.mpr rfl))
theorem se{n:Nat}{ps:Aa}{as bs:Ac}{y:Int}(h:y∈WU n ps as):y∈WU n ps (as++bs):=by obtain⟨us,e,_⟩:=ze n ps as bs;rw[e];exact Ya _ h
theorem gC{α:Type}(p:α->Bool)(l:List α):(l.filter p).length+(l.filter λx=>!p x).length=l.length:=by
 induction l with
 | nil=>rfl
 | cons x l ih =>
  rw[YL,YL];cases p x with
  | true=>simp only [OZ,Bool.not_true,Hb,La,Yz];lia
  | false=>simp only [Bool.not_false,OZ,Hb,La,Yz];lia
def Fr(n:Nat)(ps:Aa)(l:Ac):Bool:=decide (WU n ps l=l)
def Wj(n:Nat)(ps:Aa)(k:Nat):Ab:=(Qg (ps.length:Int) k).filter (Fr n ps)
theorem sd{n:Int}{ps:Aa}(g:Zt n ps){l:Ac}:l∈Wj n.toNat ps (n - 1).toNat↔Zf n ps l:=by
 unfold Wj;rw[Yf,VZ];have g1:=g.1
 constructor
 .rintro⟨⟨h1,h2⟩,h3⟩;have e:WU n.toNat ps l=l:=Yu h3
  have c:=zb g l h2.all;rw[e]at c;exact⟨h2,by lia,(ZY (by grind) (ZG g h2.all)).mp (by grind)⟩
 .intro h;exact⟨⟨by have:=h.2.1;lia,h.1⟩,Yw (gD g h l h.1.nodup λz hz=>hz)⟩
theorem y8{n:Int}{ps:Aa}{T:Ac}(hT:Zf n ps T):T.Pairwise (· < ·):=(XX.mp hT.1).2
theorem Vo{a:Ac}(h:a.Pairwise (·<=·))(hn:a.Nodup):a.Pairwise (· < ·):=(h.and hn).imp λh=>by have:=h.1;have:=h.2;lia
theorem Zp8{n:Int}{ps:Aa}(g:Zt n ps):∀ zs:Ac,(∀ z∈zs,0<=z/\z<(ps.length:Int))->(WU n.toNat ps zs).Nodup:=by
 refine NG (λ_=>List.Pairwise.nil) λzs z ih hb=>?_;have Qt:∀ y∈zs,0<=y/\y<(ps.length:Int):=λy hy=>hb y (Ya _ hy)
 obtain⟨z0,z1⟩:=hb z (Yc _ (XD.mpr rfl));have he:=Uw (z:=z) g z0 z1
 rw[LY];unfold RJ;split
 .exact ih Qt
 .next XJ =>
  refine YS.mpr ⟨ih Qt,by simp,λa ha b r9 e=>?_⟩;rw[XD.mp r9]at e;subst e;refine XJ ((ZO (HE g Qt) he.1 he.2).mpr (.edge ?_));exact YC.mpr ⟨a,ha,rfl⟩
theorem ZH5{n:Int}{ps:Aa}{zs ms:Ac}(g:Zt n ps)(hb:∀ z∈zs,0<=z/\z<(ps.length:Int))(hl:¬ ((WU n.toNat ps zs).length:Int)<n - 1)(Uv:ms.Perm (WU n.toNat ps zs))(NB:ms.Pairwise (·<=·)):Zf n ps ms:=by
 have g1:=g.1;have h2:=zb g zs hb
 have h3:=zm (M:=WW n.toNat (XT ps (WU n.toNat ps zs))) (by rw[ZB];grind);have Qe:=(ZY (by grind) (HE g hb)).mp (by grind)
 refine⟨XX.mpr ⟨λz hz=>hb z ((zd _ _ _).subset (Uv.mem_iff.mp hz)),Vo NB (Uv.nodup_iff.mpr (Zp8 g zs hb))⟩,by rw[Uv.length_eq];grind,λi j hi hj=>?_⟩;exact(TJ λy=>Uv.mem_iff).mpr (Qe i j hi hj)
theorem rZ{n:Int}{ps:Aa}{I os U:Ac}(g:Zt n ps)(hU:Zf n ps U)(hI:I.Nodup)(rY:∀ z∈I,z∈U)(rX:∀ z∈U,z∈I++os)(hb:∀ z∈I++os,0<=z/\z<(ps.length:Int)):(WU n.toNat ps (I++os)).take I.length=I/\¬ ((WU n.toNat ps (I++os)).length:Int)<n - 1:=by
 have g1:=g.1;obtain⟨us,e,_⟩:=ze n.toNat ps I os;rw[gD g hU I hI rY]at e;refine⟨by rw[e,List.take_left],?_⟩;have Qe:∀ i j,i<n.toNat->j<n.toNat->Conn (XT ps (WU n.toNat ps (I++os))) i j:=λi j hi hj=>sF g _ hb ((hU.2.2 i j hi hj).mono (ZA rX))
 have h1:=(ZY (by lia) (HE g hb)).mpr Qe;have h2:=zb g (I++os) hb
 grind
theorem y7{p r:Ac}{x:Int}(h:(p++x :: r).Pairwise (· < ·)):(∀ z∈p,z<x)/\∀ z∈x :: r,x<=z:=by
 have a:=Pe.mp h;refine⟨λz hz=>a.2.2 z hz x Ye,λz hz=>?_⟩;rcases Yg.mp hz with h | h
 .rw[h];exact Ou _
 .exact Li ((YN.mp a.2.1).1 z h)
theorem ZW6{n:Int}{ps:Aa}{I os U F:Ac}(g:Zt n ps)(hU:Zf n ps U)(rY:∀ z∈I,z∈U)(rX:∀ z∈U,z∈I++os)(hb:∀ z∈I++os,0<=z/\z<(ps.length:Int))(ho:os.Pairwise (· < ·))(hF:Zf n ps F)(hf:F.Perm (WU n.toNat ps (I++os)))(hIF:∀ z∈I,z∈F):HT.lexLt U F=false:=by
 cases Nx:HT.lexLt U F with
 | false=>rfl
 | true =>
  exfalso;obtain⟨p,x,y,r,s,eU,ef,Nz⟩:=JE (by have:=hF.2.1;have:=hU.2.1;lia) Nx
  have JB:x∈U:=by rw[eU];exact Yc _ Ye
  obtain⟨x0,x1⟩:=hU.1.all x JB;have aU:=y7 (eU ▸ y8 hU)
  have aF:=y7 (ef ▸ y8 hF);have rW:x∉F:=λh=>by
   rw[ef]at h;rcases Xy.mp h with h | h
   .have:=aU.1 x h
    lia
   .have:=aF.2 x h
    lia
  have hxI:x∉I:=λh=>rW (hIF x h);have hxo:x∈os:=(Xy.mp (rX x JB)).resolve_left hxI
  obtain⟨as,bs,eo⟩:=List.append_of_mem hxo;have ao:=y7 (eo ▸ ho)
  have Qt:∀ z∈I++as,0<=z/\z<(ps.length:Int):=λz hz=>hb z ((Xy.mp hz).elim (λh=>Ya _ h) λh=>Yc _ (by rw[eo];exact Ya _ h));have hxG:x∉WU n.toNat ps ((I++as)++x :: bs):=by rw[QU,<- eo];exact λh=>rW (hf.mem_iff.mpr h)
  have c:=sf g Qt x0 x1 hxG;refine(ZM g hU x0 x1).mp ((HI g hU JB JB).mpr rfl) (c.mono (ZA λz hz=>?_));have HD:z∈F:=hf.mem_iff.mpr (by
   have:=se (bs:=x :: bs) hz
   rw[QU,<- eo]at this;exact this)
  have hzx:z≠x:=λe=>rW (e ▸ HD);refine Xq.mpr ⟨?_,hzx⟩;rcases Xy.mp ((zd _ _ _).subset hz) with h | h
  .exact rY z h
  .have h1:=ao.1 z h;rw[ef]at HD;rcases Xy.mp HD with h | h
   .rw[eU];exact Ya _ h
   .have:=aF.2 z h
    lia
def With(n:Int)(ps:Aa)(I O U:Ac):Prop:=Zf n ps U/\(∀ z∈I,z∈U)/\∀ z∈O,z∉U
theorem With.sub{n:Int}{ps:Aa}{I O U os:Ac}(h:With n ps I O U)(ho:∀ z,z∈os↔(0<=z/\z<(ps.length:Int))/\z∉O):∀ z∈U,z∈I++os:=λz hz=>Yc _ ((ho z).mpr ⟨h.1.1.all z hz,λh2=>h.2.2 z h2 hz⟩)
def TC(n:Int)(ps:Aa)(c:Nat):Prop:=∃ L:Ab,L.Nodup/\(∀ l,l∈L↔Zf n ps l)/\L.length=c
theorem TC.uniq{n:Int}{ps:Aa}{c d:Nat}(h1:TC n ps c)(h2:TC n ps d):c=d:=by obtain⟨L,a1,a2,rfl⟩:=h1;obtain⟨M,b1,b2,rfl⟩:=h2;exact((Lv a1 b1).mpr λl=>by rw[a2,b2]).length_eq
theorem Qd{m:Nat}{T:Ac}:IsSet (m+1) (T++[(m:Int)])↔IsSet m T:=by
 constructor
 .intro h;have a:=XX.mp h
  have b:=Pe.mp a.2;refine XX.mpr ⟨λz hz=>?_,b.1⟩;have c:=a.1 z (Ya _ hz)
  have d:=b.2.2 z hz m (XD.mpr rfl);omega
 .exact λh=>h.snoc
theorem gB{m:Nat}{T:Ac}(h:IsSet (m+1) T):IsSet m T\/∃ T',T=T'++[(m:Int)]/\IsSet m T':=by
 have a:=XX.mp h;by_cases hm:(m:Int)∈T
 .obtain⟨p,r,e⟩:=List.append_of_mem hm;have b:=y7 (e ▸ a.2)
  cases r with
  | nil=>exact .inr ⟨p,e,Qd.mp (e ▸ h)⟩
  | cons y r =>
   have h1:=a.1 y (by rw[e];simp);have h2:=(YN.mp (Pe.mp (e ▸ a.2)).2.1).1 y Ye
   omega
 .refine .inl (XX.mpr ⟨λz hz=>?_,a.2⟩);have h1:=a.1 z hz
  have h2:z≠(m:Int):=λe=>hm (e ▸ hz);lia
theorem gz{es:List (Nat × Nat)}{a b i j:Nat}(c:Conn (es++[(a,b)]) i j):Conn (es++[(b,a)]) i j:=c.lift λe he=>by
 rcases Xy.mp he with q | q
 .exact .edge (Ya _ q)
 .rw[XD.mp q];exact .symm (.edge (by simp))
theorem Ze4 {K:Ad}:PySem.W.kitOne K (.type "int") (.type "bool")=some false:=by unfold PySem.W.kitOne;rw[if_neg (by decide)];rfl
theorem gy{a b M N:Int}(a0:0<=a)(aM:a<M)(b0:0<=b)(bN:b<N):0<=a * b/\a * b<M * N:=⟨Int.mul_nonneg a0 b0,Int.lt_of_le_of_lt (Int.mul_le_mul_of_nonneg_left (Li bN) a0) (Int.mul_lt_mul_of_pos_right aM (by lia))⟩
end My
namespace L2
open PySem PySem.Spec PyProof.Rows
def HC(K:Ad)(a b:Addr):It :=
 ⟨λi H=>∃ xs ys x y,SqL K H a xs/\SqL K H b ys/\xs[i]?=some x/\ys[i]?=some y,λi H v H'=>∃ T x y,H T=none/\v=.ref T/\H'=upd H T (.tup [x,y])/\(∀ xs,SqL K H a xs->xs[i]?=some x)/\∀ ys,SqL K H b ys->ys[i]?=some y,
  λi H=>∃ xs ys,SqL K H a xs/\SqL K H b ys/\(xs.length<=i\/ys.length<=i)⟩
theorem Zw9{P:Program}{w:World}{K:Ad}{elts:List Expr}{x1:Nat}{pos:Pos}(a b z TI TO i1 i2:Addr)(D:ZipApart z TI TO i1 i2 a b) :
  Turn P w K (.Tuple elts x1 pos) (HC K a b) [z,TI,TO,i1,i2] z (λi h=>IsZip h z TI TO .none/\IsPair h TI (.ref i1) (.ref i2)/\(∃ c d,IsPair h TO c d)/\h.IsListIter i1 a i/\h.IsListIter i2 b i) where
 mem:=by simp
 obj:=λi h st c hc=>by
  obtain⟨hz,Qc,⟨u,v,OL⟩,⟨o1,e1,_,d1⟩,⟨o2,e2,_,d2⟩⟩:=st;have WH:c=z\/c=TI\/c=TO\/c=i1\/c=i2:=by simpa using hc
  rcases WH with rfl | rfl | rfl | rfl | rfl
  .exact⟨_,hz,λv q=>by have q':Data.fields _=Data.cell v:=q;cases q'⟩
  .exact⟨_,Qc,λv q=>by have q':Data.seq _ _=Data.cell v:=q;cases q'⟩
  .exact⟨_,OL,λv q=>by have q':Data.seq _ _=Data.cell v:=q;cases q'⟩
  .exact⟨o1,e1,λv q=>by rw[d1]at q;cases q⟩
  .exact⟨o2,e2,λv q=>by rw[d2]at q;cases q⟩
 keep:=λi h h' st k=>by obtain⟨hz,Qc,⟨u,v,OL⟩,h1,h2⟩:=st;exact⟨k z (by simp) _ hz,k TI (by simp) _ Qc,⟨u,v,k TO (by simp) _ OL⟩,h1.at λo e=>k i1 (by simp) o e,h2.at λo e=>k i2 (by simp) o e⟩
 item:=by
  intro X hP hw hK hc i pins s σ H E I hf st hg;subst hP hw hK;obtain⟨xs,ys,x,y,hq,LX,hx,hy⟩:=hg;obtain⟨hz,Qc,⟨u0,v0,OL⟩,h1,h2⟩:=st;obtain⟨XW,rv,p,_⟩:=I.list hq;obtain⟨u,hu,ru⟩:=rv.get hx;obtain⟨VP,y6,p2,_⟩:=I.list LX;obtain⟨v,hv,rV⟩:=y6.get hy;have fz:=hf z (by simp)
  have RH:=hf TO (by simp);have RG:=hf i1 (by simp)
  have RF:=hf i2 (by simp);have uw:H s.heap.objs.size=none:=I.hok.fresh (XO _)
  refine wpAny_pyNext_zip_item D hz Qc OL h1 h2 p.isList p2.isList (x:=u) (y:=v) (by simpa using hu) (by simpa using hv) λh' a1 a2 a3 a4 a5 hsz hk=>?_;have OQ:∀ b ob,s.heap.get? b=some ob->b≠s.heap.objs.size:=λb ob z=>Yt (Yl z)
  have Qs:∀ b ob,H b=some ob->b≠s.heap.objs.size:=λb ob z=>Yt (I.hok.lt z);have OP:∀ c ob,H c=some ob->c≠z/\c≠TO/\c≠i1/\c≠i2:=λc ob q=>⟨λe=>(by rw[e,fz.1]at q;cases q),λe=>(by rw[e,RH.1]at q;cases q),λe=>(by rw[e,RG.1]at q;cases q),λe=>(by rw[e,RF.1]at q;cases q)⟩
  have LW:∀ c o,c∉[z,TO,i1,i2]->s.heap.get? c=some o->h'.get? c=some o:=λc o Wv q=>hk c o (λe=>Wv (by simp[e])) (λe=>Wv (by simp[e])) (λe=>Wv (by simp[e])) (λe=>Wv (by simp[e])) q;have I1:Inv X pins σ (upd H s.heap.objs.size (.tup [x,y])) { s with heap:=h' }:=by
   refine I.step (g':=s.gens) (d':=s.drawn) (t':=s.toks) (ch:=[z,TO,i1,i2]) (λc hb=>?_) (λc o _ _ Wv q _=>LW c o Wv q) (λc o _ _ Wv q _=>⟨o.slots,LW c o Wv q⟩)
    (λc o _ q n=>by rw[Zb (OQ c o q)];exact n) (λc o Wv q=>⟨o,LW c o Wv q⟩) (λc ys q=>by rw[Zb (Qs c _ q)];exact q) (λc o v q=>by rw[Zb (Qs c _ q)];exact q)
    (λc ps q=>⟨#[],by rw[Zb (Qs c _ q),q];simp⟩) (λm hm=>?_) (λc v' q=>?_) I.bare
   .have WH:c=z\/c=TO\/c=i1\/c=i2:=by simpa using hb
    rcases WH with rfl | rfl | rfl | rfl
    .exact⟨fz.2.2.2.1,fz.2.1,fz.2.2.2.2.1,fz.2.2.2.2.2⟩
    .exact⟨RH.2.2.2.1,RH.2.1,RH.2.2.2.2.1,RH.2.2.2.2.2⟩
    .exact⟨RG.2.2.2.1,RG.2.1,RG.2.2.2.2.1,RG.2.2.2.2.2⟩
    .exact⟨RF.2.2.2.1,RF.2.1,RF.2.2.2.2.1,RF.2.2.2.2.2⟩
   .obtain⟨o,es,ep,WR,r⟩:=hm;exact⟨o,es,ep,hk _ o (YY fz.2.1) (YY RH.2.1) (YY RG.2.1) (YY RF.2.1) WR,r⟩
   .by_cases hb:c=s.heap.objs.size
    .subst hb;rw[XR]at q;cases q;exact⟨by show 2<=sizeLine;decide,[u,v],.cons ru (.cons rV .nil),⟨_,a5,rfl,_,rfl⟩⟩
    .rw[Zb hb]at q;refine(I.hok c v' q).stay (λe w' WH q'=>?_) (λe q=>by rw[Zb (Qs e _ q)];exact q) λe ys q=>by rw[Zb (Qs e _ q)];exact q
     rcases WH with rfl | WH
     .have:=OP e _ q
      exact hk e w' this.1 this.2.1 this.2.2.1 this.2.2.2 q'
     .have:=OP e _ WH
      exact hk e w' this.1 this.2.1 this.2.2.1 this.2.2.2 q'
  refine⟨_,rfl,wpAny_letOwnedTupleGo_zip a1 λh2 sH RU=>?_⟩;have fT:z≠s.heap.objs.size:=OQ z _ hz
  have I2:Inv X pins σ (upd H s.heap.objs.size (.tup [x,y])) { s with heap:=h2 }:=Inv.turned (s:={ s with heap:=h' }) (h':=h2) (t':=s.toks) (it:=z) I1 (λb o hb q=>RU.extBut b o hb q) (by rw[Zb fT];exact fz.1) fz.2.1 fz.2.2.2.1 fz.2.2.2.2.1 fz.2.2.2.2.2;refine⟨.ref s.heap.objs.size,_,I2,rfl,⟨_,x,y,uw,rfl,rfl,λys Kg=>by rw[I.list_inj Kg hq];exact hx,λys Kg=>by rw[I.list_inj Kg LX];exact hy⟩,
   ⟨sH,RU.extBut _ _ D.TIz (LW _ _ (by have:=D.TIz;have:=D.TITO;have:=D.TIi1;have:=D.TIi2;simp;exact⟨D.TIz,D.TITO,D.TIi1,D.TIi2⟩) Qc),⟨u,v,RU.extBut _ _ D.TOz a2⟩,a3.at λo q=>RU.extBut i1 o D.i1z q,a4.at λo q=>RU.extBut i2 o D.i2z q⟩,λc hc=>?_⟩
  have WH:c=z\/c=TI\/c=TO\/c=i1\/c=i2:=by simpa using hc
  have hn:=(hf c hc).1;rcases WH with rfl | rfl | rfl | rfl | rfl
  .rw[Zb fT];exact hn
  .rw[Zb (OQ _ _ Qc)];exact hn
  .rw[Zb (OQ _ _ OL)];exact hn
  .obtain⟨o,eo,_⟩:=h1;rw[Zb (OQ _ o eo)];exact hn
  .obtain⟨o,eo,_⟩:=h2;rw[Zb (OQ _ o eo)];exact hn
 done:=by
  intro X hP hw hK hc i pins s σ H E I hf st hg;subst hP hw hK;obtain⟨xs,ys,hq,LX,rT⟩:=hg;obtain⟨hz,Qc,⟨u0,v0,OL⟩,h1,h2⟩:=st;obtain⟨XW,rv,p,_⟩:=I.list hq;obtain⟨VP,y6,p2,_⟩:=I.list LX;have l1:=rv.length
  have l2:=y6.length;have fz:=hf z (by simp)
  have RH:=hf TO (by simp);have RG:=hf i1 (by simp)
  have RF:=hf i2 (by simp);refine wpAny_pyNext_zip_end (I.ok.hd hc) D hz Qc OL h1 h2 p.isList p2.isList (by
   rcases rT with e | e
   .exact .inl (by simp;lia)
   .exact .inr (by simp;lia)) λh' hk=>⟨rfl,?_⟩
  have LW:∀ c o,c∉[z,TO,i1,i2]->s.heap.get? c=some o->h'.get? c=some o:=λc o Wv q=>hk c o (λe=>Wv (by simp[e])) (λe=>Wv (by simp[e])) (λe=>Wv (by simp[e])) (λe=>Wv (by simp[e])) q;have OP:∀ c ob,H c=some ob->c≠z/\c≠TO/\c≠i1/\c≠i2:=λc ob q=>⟨λe=>(by rw[e,fz.1]at q;cases q),λe=>(by rw[e,RH.1]at q;cases q),λe=>(by rw[e,RG.1]at q;cases q),λe=>(by rw[e,RF.1]at q;cases q)⟩
  refine I.step (g':=s.gens) (d':=s.drawn) (t':=s.toks) (ch:=[z,TO,i1,i2]) (λc hb=>?_) (λc o _ _ Wv q _=>LW c o Wv q) (λc o _ _ Wv q _=>⟨o.slots,LW c o Wv q⟩)
   (λc o _ q n=>n) (λc o Wv q=>⟨o,LW c o Wv q⟩) (λc ys q=>q) (λc o v q=>q)
   (λc ps q=>⟨#[],by rw[q];simp⟩) (λm hm=>?_) (λc v' q=>?_) I.bare
  .have WH:c=z\/c=TO\/c=i1\/c=i2:=by simpa using hb
   rcases WH with rfl | rfl | rfl | rfl
   .exact⟨fz.2.2.2.1,fz.2.1,fz.2.2.2.2.1,fz.2.2.2.2.2⟩
   .exact⟨RH.2.2.2.1,RH.2.1,RH.2.2.2.2.1,RH.2.2.2.2.2⟩
   .exact⟨RG.2.2.2.1,RG.2.1,RG.2.2.2.2.1,RG.2.2.2.2.2⟩
   .exact⟨RF.2.2.2.1,RF.2.1,RF.2.2.2.2.1,RF.2.2.2.2.2⟩
  .obtain⟨o,es,ep,WR,r⟩:=hm;exact⟨o,es,ep,hk _ o (YY fz.2.1) (YY RH.2.1) (YY RG.2.1) (YY RF.2.1) WR,r⟩
  .refine(I.hok c v' q).stay (λe w' WH q'=>?_) (λe q=>q) λe ys q=>q;rcases WH with rfl | WH
   .have:=OP e _ q
    exact hk e w' this.1 this.2.1 this.2.2.1 this.2.2.2 q'
   .have:=OP e _ WH
    exact hk e w' this.1 this.2.1 this.2.2.1 this.2.2.2 q'
 self:=λ_ _ _ _ _ st h=>wpAny_pyIter_zip st.1 h
def rS(K:Ad)(ta:TA):TI:=λσ H R=>ta σ H λvs H1=>∃ a b,vs=[.ref a,.ref b]/\(∃ xs ys,SqL K H1 a xs/\SqL K H1 b ys)/\R (HC K a b) H1
section
variable{X:Cx}
theorem DT (K:Ad) {elts:List Expr} {x1:Nat} {SS:Pos} {e f:Expr} {ta:TA} {p pos:Pos} (hg:Gl X "zip") (hm:X.mg "zip"=none) (ha:PA X [e,f] ta) (hs:starEach [e,f] X.env=(false,eval e X.env) :: starEach [f] X.env:=by rfl) (Vj:(backTo pos (starEach [f] X.env)).any (·.1)=false:=by rfl) (hk:X.K=K:=by rfl) :
  PI X (.Tuple elts x1 SS) (.Call (.Name "zip" p) [e,f] [] pos) (rS K ta):=by
 subst hk;intro pins s σ H R I h;refine Call_ (VG I hg hm Boot.«zip» (Lw (thn (ha pos pins s σ H _ I h) λus s1 Xv=>?_) hs Vj));obtain⟨vs,H1,I1,r1,q1⟩:=Xv;obtain⟨a,b,ev,⟨xs,ys,hq,LX⟩,q⟩:=q1;subst ev;obtain⟨u,u',rfl,ru,ru'⟩:=QC r1;obtain rfl:u=Value.ref a:=ru;obtain rfl:u'=Value.ref b:=ru';obtain⟨XW,rv,pl,_⟩:=I1.list hq;obtain⟨VP,y6,gx,_⟩:=I1.list LX;have lt1:a<s1.heap.objs.size:=let ⟨_,_,e,_⟩:=pl;Yl e
 have lt2:b<s1.heap.objs.size:=let ⟨_,_,e,_⟩:=gx;Yl e
 have D:ZipApart (s1.heap.objs.size+4) (s1.heap.objs.size+2) (s1.heap.objs.size+3) s1.heap.objs.size (s1.heap.objs.size+1) a b:=by
  have key:∀ n x y:Nat,x<n->y<n->ZipApart (n+4) (n+2) (n+3) n (n+1) x y:=λn x y h1 h2=>by constructor <;> (intro q;have q':(_:Nat)=_:=q;lia)
  exact key _ _ _ lt1 lt2
 refine call_zip_2 pl.isList gx.isList λh' hz Qc OL rR VA hsz hk=>?_;refine wpAny_pyIter_zip (s:={ s1 with heap:=h' }) hz ?_;refine⟨s1.heap.objs.size+4,[s1.heap.objs.size+4,s1.heap.objs.size+2,s1.heap.objs.size+3,s1.heap.objs.size,s1.heap.objs.size+1],_,_,H1,rfl,I1.kept (t':=s1.toks) hk,Zw9 a b _ _ _ _ _ D,⟨hz,Qc,⟨_,_,OL⟩,rR,VA⟩,λc hc=>?_,q⟩;have hle:s1.heap.objs.size<=c:=by
  have WH:c=s1.heap.objs.size+4\/c=s1.heap.objs.size+2\/c=s1.heap.objs.size+3\/c=s1.heap.objs.size\/c=s1.heap.objs.size+1:=by simpa using hc
  rcases WH with e | e | e | e | e <;> rw[e] <;> first | exact XO _ | exact Nat.le_add_right _ _
 exact I1.fpOk hle (I1.hok.fresh hle)
end
end L2
namespace My
open PySem L2
section
variable{K:Ad}{a b:Addr}{xs ys:List V}{g:TG}{tt:TT}{te:TE}{o:Nat}{fr:List Nat}{σ:St}{H:Hp}{Q:VK}
theorem rQ(Pv:Nat->List V->Hp->Prop)(h0:Pv 0 [] H)(Nz:xs.length=ys.length)(hz:xs.length<sizeLine)(hl:∀ i zs H,i<=xs.length->Pv i zs H->SqL K H a xs/\SqL K H b ys/\zs.length<=i)
  (hs:∀(i:Nat) x y zs H (p:Addr),H p=none->xs[i]?=some x->ys[i]?=some y->Pv i zs H->HU Pv g tt te o fr σ i (.ref p) zs (upd H p (.tup [x,y]))) (hd:∀ zs H,Pv xs.length zs H->∀ p,H p=none->Q (.ref p) (upd H p (.lst zs))):Mo (HC K a b) g tt te o fr σ H Q:=by
 refine⟨λi m zs H=>m=xs.length - i/\i<=xs.length/\Pv i zs H,⟨xs.length,by simp,Yo _,h0⟩,?_⟩;rintro i m zs H ⟨rfl,hi,p⟩;obtain⟨q,q2,hy⟩:=hl i zs H hi p;by_cases Xi:i<xs.length
 .refine .inr ⟨⟨xs,ys,xs[i],ys[i]'(by lia),q,q2,by simp[Xi],Xo (by omega)⟩,by lia,λx H' ⟨T,u,v,hT,ex,eH,hu,hv⟩=>?_⟩;subst ex eH;exact hs i u v zs H T hT (hu xs q) (hv ys q2) p (λj zs H=>∃ m',m'<xs.length - i/\m'=xs.length - j/\j<=xs.length/\Pv j zs H) λzs H p'=>⟨xs.length - (i+1),by grind,rfl,Xi,p'⟩
 .have e:i=xs.length:=by lia
  subst e;exact .inl ⟨⟨xs,ys,q,q2,.inl (XO _)⟩,by lia,hd zs H p⟩
end
end My
namespace My
abbrev Mx:=Nat->Nat->Int
def sm:Nat->(Nat->Int)->Int
 | 0,_=>0
 | n+1,f=>sm n f+f n
theorem Zy{f g:Nat->Int}:∀ {n:Nat},(∀ i,i<n->f i=g i)->sm n f=sm n g
 | 0,_=>rfl
 | n+1,h=>by show sm n f+f n=sm n g+g n;rw[Zy λi hi=>h i (by lia),h n (by lia)]
theorem SK{f g:Nat->Int}:∀ {n:Nat},sm n (λi=>f i+g i)=sm n f+sm n g
 | 0=>rfl
 | n+1=>by show sm n (λi=>f i+g i)+(f n+g n)=sm n f+f n+(sm n g+g n);rw[SK];lia
theorem Hz{c:Int}{f:Nat->Int}:∀ {n:Nat},sm n (λi=>c * f i)=c * sm n f
 | 0=>(Su c).symm
 | n+1=>by show sm n (λi=>c * f i)+c * f n=c * (sm n f+f n);rw[Hz,Lh]
theorem Ut:∀ {n:Nat},sm n (λ_=>0)=0
 | 0=>rfl
 | n+1=>by show sm n (λ_=>0)+0=0;rw[Ut];rfl
theorem JA{f:Nat->Int}{n:Nat}(h:∀ i,i<n->f i=0):sm n f=0:=by rw[Zy h];exact Ut
theorem DS{f:Nat->Int}:∀ {n:Nat},sm (n+1) f=f 0+sm n (λi=>f (i+1))
 | 0=>by show 0+f 0=f 0+0;lia
 | n+1=>by show sm (n+1) f+f (n+1)=f 0+(sm n (λi=>f (i+1))+f (n+1));rw[DS];lia
theorem rP{f:Nat->Nat->Int}{m:Nat}:∀ {n:Nat},sm n (λi=>sm m (f i))=sm m (λj=>sm n (λi=>f i j))
 | 0=>Ut.symm
 | n+1=>by show sm n (λi=>sm m (f i))+sm m (f n)=sm m (λj=>sm n (λi=>f i j)+f n j);rw[rP,SK]
def sk(j k:Nat):Nat:=if k<j then k else k+1
def mn(A:Mx)(j:Nat):Mx:=λi k=>A (i+1) (sk j k)
def sg(j:Nat):Int:=if j % 2=0 then 1 else -1
theorem yZ(j:Nat):sg (j+1)=- sg j:=by
 unfold sg;by_cases h:j % 2=0
 .rw[if_pos h,if_neg (by omega)]
 .rw[if_neg h,if_pos (by lia)];rfl
def det:Nat->Mx->Int
 | 0,_=>1
 | n+1,A=>sm (n+1) λj=>sg j * A 0 j * det n (mn A j)
theorem Qb{j k n:Nat}(h:k<n):sk j k<n+1:=by unfold sk;split <;> lia
theorem Zj:∀ {n:Nat} {A B:Mx},(∀ i j,i<n->j<n->A i j=B i j)->det n A=det n B
 | 0,_,_,_=>rfl
 | n+1,A,B,h=>Zy λj hj=>by rw[h 0 j (by lia) hj,Zj (A:=mn A j) (B:=mn B j) λi k hi hk=>h (i+1) (sk j k) (by lia) (Qb hk)]
theorem Jz:∀ {n:Nat} {A B C:Mx} {c:Int} {i:Nat},i<n->(∀ r j,r<n->j<n->r≠i->A r j=B r j/\A r j=C r j)->(∀ j,j<n->A i j=c * B i j+C i j)->det n A=c * det n B+det n C
 | 0,_,_,_,_,_,hi,_,_=>absurd hi (YZ _)
 | n+1,A,B,C,c,i,hi,h1,h2=>by
  show sm (n+1) (λj=>sg j * A 0 j * det n (mn A j))=c * sm (n+1) (λj=>sg j * B 0 j * det n (mn B j))+sm (n+1) (λj=>sg j * C 0 j * det n (mn C j));rw[<- Hz,<- SK];refine Zy λj hj=>?_;cases i with
  | zero =>
   have e1:det n (mn B j)=det n (mn A j):=Zj λr k hr hk=>(h1 (r+1) (sk j k) (by omega) (Qb hk) (by lia)).1.symm;have e2:det n (mn C j)=det n (mn A j):=Zj λr k hr hk=>(h1 (r+1) (sk j k) (by lia) (Qb hk) (by lia)).2.symm
   rw[e1,e2,h2 j hj];generalize det n (mn A j)=d;generalize sg j=s;rw[Lh,Ao,<- Sw s c,QQ s c,Sw c s,Sw c]
  | succ i =>
   have e:=Jz (n:=n) (A:=mn A j) (B:=mn B j) (C:=mn C j) (c:=c) (i:=i) (by lia) (λr k hr hk XJ=>h1 (r+1) (sk j k) (by lia) (Qb hk) (by lia)) (λk hk=>h2 (sk j k) (Qb hk));have e0:=h1 0 j (by lia) hj (by lia)
   rw[e,<- e0.1,<- e0.2];generalize det n (mn B j)=d;generalize det n (mn C j)=d';generalize sg j * A 0 j=s;rw[Lh,<- Sw,<- Sw,QQ s c]
theorem rO{A:Mx}{j k i l:Nat}(h:j<=k):mn (mn A j) k i l=mn (mn A (k+1)) j i l:=by
 show A (i+1+1) (sk j (sk k l))=A (i+1+1) (sk (k+1) (sk j l));refine Xw _ ?_;unfold sk;by_cases h1:l<j
 .rw[if_pos (show l<k by lia),if_pos h1,if_pos (show l<k+1 by lia)]
 .rw[if_neg h1];by_cases h2:l<k
  .rw[if_pos h2,if_neg h1,if_pos (show l+1<k+1 by lia)]
  .rw[if_neg h2,if_neg (show ¬ l+1<j by lia),if_neg (show ¬ l+1<k+1 by lia)]
theorem rN:∀ {n:Nat} {A:Mx} {i:Nat},i+1<n->(∀ j,j<n->A i j=A (i+1) j)->det n A=0
 | 0,_,_,hi,_=>absurd hi (YZ _)
 | n+1,A,i+1,hi,h=>JA λj hj=>by rw[rN (A:=mn A j) (i:=i) (by lia) λk hk=>h (sk j k) (Qb hk),Su]
 | 1,_,0,hi,_=>absurd hi (by omega)
 | n+2,A,0,_,h=>by
  obtain⟨t,ht⟩:∃ t:Nat->Nat->Int,t=λj k=>sg j * A 0 j * (sg k * A 1 (sk j k) * det n (mn (mn A j) k)):=⟨_,rfl⟩;have e1:det (n+2) A=sm (n+2) λj=>sm (n+1) (t j):=Zy λj hj=>by rw[ht,Hz];rfl
  have e2:∀ j k,j<=k->k<n+1->t (k+1) j=- t j k:=λj k hjk hk=>by
   rw[ht];show sg (k+1) * A 0 (k+1) * (sg j * A 1 (sk (k+1) j) * det n (mn (mn A (k+1)) j))=- (sg j * A 0 j * (sg k * A 1 (sk j k) * det n (mn (mn A j) k)))
   have f1:sk (k+1) j=j:=by unfold sk;rw[if_pos (by lia)]
   have f2:sk j k=k+1:=by unfold sk;rw[if_neg (by lia)]
   have f3:det n (mn (mn A (k+1)) j)=det n (mn (mn A j) k):=Zj λi l _ _=>(rO hjk).symm;rw[f1,f2,f3,yZ,<- h j (by lia),<- h (k+1) (by lia)];generalize det n (mn (mn A j) k)=d;generalize A 0 j=x;generalize A 0 (k+1)=y;generalize sg j=s;generalize sg k=u;simp only [Ap,Int.neg_inj];simp only [QQ,Oo,Sw]
  have e3:sm (n+2) (λj=>sm (n+1) (t j))=sm (n+2) (λj=>sm (n+1) λk=>if k<j then t j k else 0)+sm (n+2) (λj=>sm (n+1) λk=>if k<j then 0 else t j k):=by rw[<- SK];refine Zy λj _=>?_;rw[<- SK];refine Zy λk _=>?_;split <;> lia
  have e4:sm (n+2) (λj=>sm (n+1) λk=>if k<j then t j k else 0)=sm (n+1) (λk=>sm (n+1) λj=>if k<=j then t (j+1) k else 0):=by
   rw[rP];refine Zy λk _=>?_;rw[DS,if_neg (by lia),Ig];refine Zy λj _=>?_;by_cases c:k<=j
   .rw[if_pos c,if_pos (by omega)]
   .rw[if_neg c,if_neg (by lia)]
  have e5:sm (n+2) (λj=>sm (n+1) λk=>if k<j then 0 else t j k)=sm (n+1) (λj=>sm (n+1) λk=>if j<=k then t j k else 0):=by
   show sm (n+1) (λj=>sm (n+1) λk=>if k<j then 0 else t j k)+sm (n+1) (λk=>if k<n+1 then 0 else t (n+1) k)=_;rw[JA (f:=λk=>if k<n+1 then 0 else t (n+1) k) λk hk=>if_pos hk,Sa];refine Zy λj _=>Zy λk _=>?_;by_cases c:j<=k
   .rw[if_pos c,if_neg (by lia)]
   .rw[if_neg c,if_pos (by lia)]
  rw[e1,e3,e4,e5,<- SK];refine JA λj hj=>?_;rw[<- SK];refine JA λk hk=>?_;by_cases c:j<=k
  .rw[if_pos c,if_pos c,e2 j k c hk];lia
  .rw[if_neg c,if_neg c];rfl
def put2(A:Mx)(i:Nat)(x y:Nat->Int):Mx:=λr=>if r=i then x else if r=i+1 then y else A r
theorem rM{n:Nat}{A:Mx}{i:Nat}{x x' y:Nat->Int}(hi:i+1<n):det n (put2 A i (λj=>x j+x' j) y)=det n (put2 A i x y)+det n (put2 A i x' y):=by
 have:=Jz (n:=n) (A:=put2 A i (λj=>x j+x' j) y) (B:=put2 A i x y) (C:=put2 A i x' y) (c:=1) (i:=i) (by lia) (λr j _ _ XJ=>by unfold put2;rw[if_neg XJ,if_neg XJ,if_neg XJ];exact⟨rfl,rfl⟩) (λj _=>by unfold put2;rw[if_pos rfl,if_pos rfl,if_pos rfl,SX])
 rw[this,SX]
theorem DR{n:Nat}{A:Mx}{i:Nat}{x y y':Nat->Int}(hi:i+1<n):det n (put2 A i x (λj=>y j+y' j))=det n (put2 A i x y)+det n (put2 A i x y'):=by
 have ne:¬ i+1=i:=by lia
 have:=Jz (n:=n) (A:=put2 A i x (λj=>y j+y' j)) (B:=put2 A i x y) (C:=put2 A i x y') (c:=1) (i:=i+1) (by lia) (λr j _ _ XJ=>by unfold put2;rw[if_neg XJ,if_neg XJ,if_neg XJ];exact⟨rfl,rfl⟩) (λj _=>by unfold put2;rw[if_neg ne,if_neg ne,if_neg ne,if_pos rfl,if_pos rfl,if_pos rfl,SX])
 rw[this,SX]
theorem rL{n:Nat}{A:Mx}{i:Nat}{x:Nat->Int}(hi:i+1<n):det n (put2 A i x x)=0:=rN hi λj _=>by unfold put2;rw[if_pos rfl,if_neg (by lia),if_pos rfl]
theorem rK{n:Nat}{A:Mx}{i:Nat}{x y:Nat->Int}(hi:i+1<n):det n (put2 A i y x)=- det n (put2 A i x y):=by have h:=rL (A:=A) (x:=λj=>x j+y j) hi;rw[rM hi,DR hi,DR hi,rL hi,rL hi]at h;lia
theorem ZR9{A:Mx}{i:Nat}:put2 A i (A i) (A (i+1))=A:=by
 funext r
 unfold put2;by_cases h:r=i
 .rw[if_pos h,h]
 .rw[if_neg h];by_cases h2:r=i+1
  .rw[if_pos h2,h2]
  .rw[if_neg h2]
theorem gu{n:Nat}{A:Mx}{i:Nat}(hi:i+1<n):det n (put2 A i (A (i+1)) (A i))=- det n A:=by
 have:=rK (A:=A) (x:=A i) (y:=A (i+1)) hi
 rw[ZR9]at this;exact this
theorem yY{n:Nat}{a:Nat}:∀ {d:Nat} {A:Mx},a+d+1<n->(∀ j,j<n->A a j=A (a+d+1) j)->det n A=0
 | 0,A,hn,h=>rN hn h
 | d+1,A,hn,h=>by
  have e:=gu (n:=n) (A:=A) (i:=a+d+1) (by lia);have z:det n (put2 A (a+d+1) (A (a+d+1+1)) (A (a+d+1)))=0:=by refine yY (a:=a) (d:=d) (by lia) λj hj=>?_;unfold put2;rw[if_neg (by lia),if_neg (by lia),if_pos rfl];exact h j hj
  lia
def rotN(k t i:Nat):Nat:=if i<k then i else if i=k then k+t else if i<=k+t then i - 1 else i
theorem ZQ7(k i:Nat):rotN k 0 i=i:=by
 unfold rotN;by_cases h:i<k
 .rw[if_pos h]
 .rw[if_neg h];by_cases h2:i=k
  .rw[if_pos h2,h2];rfl
  .rw[if_neg h2,if_neg (by lia)]
theorem rJ{n k:Nat}:∀ {t:Nat} {A:Mx},k+t<n->det n (λi=>A (rotN k t i))=sg t * det n A
 | 0,A,_=>by rw[show sg 0=1 from rfl,SX];exact Zj λi j _ _=>by rw[ZQ7]
 | t+1,A,h=>by
  have e:=rJ (n:=n) (k:=k) (t:=t) (A:=put2 A (k+t) (A (k+t+1)) (A (k+t))) (by lia);rw[gu (by lia)]at e;have f:det n (λi=>A (rotN k (t+1) i))=det n (λi=>put2 A (k+t) (A (k+t+1)) (A (k+t)) (rotN k t i)):=Zj λi j _ _=>by
   refine congrFun ?_ j;have r1:rotN k (t+1) i=if i<k then i else if i=k then k+(t+1) else if i<=k+(t+1) then i - 1 else i:=rfl
   have r2:rotN k t i=if i<k then i else if i=k then k+t else if i<=k+t then i - 1 else i:=rfl
   unfold put2;by_cases h1:i<k
   .rw[if_pos h1]at r1 r2;rw[r1,r2,if_neg (by lia),if_neg (by lia)]
   .rw[if_neg h1]at r1 r2;by_cases h2:i=k
    .rw[if_pos h2]at r1 r2;rw[r1,r2,if_pos rfl];rfl
    .rw[if_neg h2]at r1 r2;by_cases h3:i<=k+t
     .rw[if_pos (by lia)]at r1;rw[if_pos h3]at r2;rw[r1,r2,if_neg (by lia),if_neg (by lia)]
     .rw[if_neg h3]at r2;by_cases h4:i=k+t+1
      .rw[if_pos (by lia)]at r1;rw[r1,r2,if_neg (by grind),if_pos h4];exact Xw A (by lia)
      .rw[if_neg (by lia)]at r1;rw[r1,r2,if_neg (by lia),if_neg h4]
  rw[f,e,yZ,Int.mul_neg,Ap]
theorem rH:∀ {n:Nat} {A:Mx},(∀ i,i<n+1->A i 0=0)->det (n+1) A=0
 | 0,A,h=>by show 0+sg 0 * A 0 0 * 1=0;rw[h 0 (by omega),Su];rfl
 | n+1,A,h=>JA λj hj=>by
  cases j with
  | zero=>rw[h 0 (by lia),Su,GQ]
  | succ j =>
   rw[rH (A:=mn A (j+1)) λi hi=>?_,Su];show A (i+1) (sk (j+1) 0)=0
   rw[show sk (j+1) 0=0 from rfl];exact h (i+1) (by lia)
theorem ZA8{n:Nat}{A:Mx}(h:∀ i,i<n->A (i+1) 0=0):det (n+1) A=A 0 0 * det n (λi j=>A (i+1) (j+1)):=by
 show sm (n+1) (λj=>sg j * A 0 j * det n (mn A j))=_;rw[DS,JA λj hj=>?_]
 .rw[Sa,show sg 0=1 from rfl,SX];refine Xw (A 0 0 * ·) (Zj λi j _ _=>?_);rfl
 .cases n with
  | zero=>exact absurd hj (YZ _)
  | succ n =>
   rw[rH (A:=mn A (j+1)) λi hi=>?_,Su];exact h i hi
theorem gr{n:Nat}{A:Mx}{i:Nat}(hi:i<n)(h:∀ j,j<n->A i j=0):det n A=0:=by
 have:=Jz (A:=A) (B:=A) (C:=A) (c:=1) hi (λr j _ _ _=>⟨rfl,rfl⟩) (λj hj=>by rw[h j hj];rfl)
 grind
theorem DQ{c:Int}:∀ {n:Nat} {A:Mx},det n (λi j=>c * A i j)=c ^ n * det n A
 | 0,_=>by show(1:Int)=c ^ 0 * 1;rw[Lj];rfl
 | n+1,A=>by
  show sm (n+1) (λj=>sg j * (c * A 0 j) * det n (mn (λi j=>c * A i j) j))=c ^ (n+1) * sm (n+1) (λj=>sg j * A 0 j * det n (mn A j));rw[<- Hz];refine Zy λj _=>?_;have e:det n (mn (λi j=>c * A i j) j)=c ^ n * det n (mn A j):=DQ (A:=mn A j)
  rw[e,GP];generalize det n (mn A j)=d;generalize c ^ n=p;generalize sg j=s;generalize A 0 j=x;simp only [QQ,Oo,Sw]
def offN(R:Mx):Mx:=λi j=>R 0 0 * R (i+1) (j+1) - R (i+1) 0 * R 0 (j+1)
def WT(R:Mx)(k:Nat):Mx:=λr j=>if r=0 then R 0 j else if r<=k then R 0 0 * R r j - R r 0 * R 0 j else R r j
theorem gq{m:Nat}{R:Mx}:∀ {k:Nat},k<m+1->det (m+1) (WT R k)=R 0 0 ^ k * det (m+1) R
 | 0,_=>by
  rw[Lj,SX];refine Zj λi j _ _=>?_;unfold WT;by_cases h:i=0
  .rw[if_pos h,h]
  .rw[if_neg h,if_neg (by lia)]
 | k+1,hk=>by
  have ih:=gq (m:=m) (R:=R) (k:=k) (by lia);obtain⟨C,hC⟩:∃ C:Mx,C=λr j=>if r=k+1 then - R (k+1) 0 * R 0 j else WT R k r j:=⟨_,rfl⟩
  obtain⟨B,hB⟩:∃ B:Mx,B=λr j=>if r=k+1 then R 0 j else WT R k r j:=⟨_,rfl⟩
  obtain⟨Z,hZ⟩:∃ Z:Mx,Z=λr j=>if r=k+1 then 0 else WT R k r j:=⟨_,rfl⟩
  have hBz:det (m+1) B=0:=yY (n:=m+1) (a:=0) (d:=k) (by lia) λj hj=>by
   rw[hB];show(if 0=k+1 then _ else WT R k 0 j)=if 0+k+1=k+1 then _ else _
   rw[if_neg (by lia),if_pos (by lia)];rfl
  have hZz:det (m+1) Z=0:=gr (i:=k+1) hk λj hj=>by rw[hZ];exact if_pos rfl
  have hCz:det (m+1) C=0:=by
   have:=Jz (A:=C) (B:=B) (C:=Z) (c:=- R (k+1) 0) hk (λr j _ _ XJ=>by
    rw[hC,hB,hZ];show(if r=k+1 then _ else WT R k r j)=(if r=k+1 then _ else WT R k r j)/\(if r=k+1 then _ else WT R k r j)=(if r=k+1 then _ else WT R k r j)
    rw[if_neg XJ,if_neg XJ,if_neg XJ];exact⟨rfl,rfl⟩) (λj _=>by
    rw[hC,hB,hZ];show(if k+1=k+1 then _ else _)=_ * (if k+1=k+1 then _ else _)+(if k+1=k+1 then _ else _)
    rw[if_pos rfl,if_pos rfl,if_pos rfl,Sa])
   rw[this,hBz,hZz,Su];rfl
  have:=Jz (A:=WT R (k+1)) (B:=WT R k) (C:=C) (c:=R 0 0) hk (λr j _ _ XJ=>by
   have e1:WT R (k+1) r j=WT R k r j:=by
    unfold WT;by_cases h0:r=0
    .rw[if_pos h0,if_pos h0]
    .rw[if_neg h0,if_neg h0];by_cases h1:r<=k
     .rw[if_pos h1,if_pos (by lia)]
     .rw[if_neg h1,if_neg (by lia)]
   refine⟨e1,?_⟩;rw[hC,e1];show _=if r=k+1 then _ else _
   rw[if_neg XJ]) (λj _=>by
   have e1:WT R (k+1) (k+1) j=R 0 0 * R (k+1) j - R (k+1) 0 * R 0 j:=by unfold WT;rw[if_neg (by lia),if_pos (by lia)]
   have e2:WT R k (k+1) j=R (k+1) j:=by unfold WT;rw[if_neg (by omega),if_neg (by lia)]
   rw[e1,e2,hC];show _=_+(if k+1=k+1 then - R (k+1) 0 * R 0 j else _)
   rw[if_pos rfl,Ap]
   rfl)
  rw[this,hCz,ih,Sa,GP];rw[<- Sw,QQ (R 0 0)]
theorem rG{m:Nat}{R:Mx}:R 0 0 * det m (offN R)=R 0 0 ^ m * det (m+1) R:=by
 rw[<- gq (k:=m) (by lia),ZA8 λi hi=>?_]
 .have e0:WT R m 0 0=R 0 0:=if_pos rfl;rw[e0];refine Xw (R 0 0 * ·) (Zj λi j hi hj=>?_);unfold WT offN;rw[if_neg (by lia),if_pos (by lia)]
 .unfold WT;rw[if_neg (by lia),if_pos (by lia),QQ];lia
def ex(k:Nat)(r:Nat->Nat)(i:Nat):Nat:=if i<k then i else k+r (i - k)
def Sl(A:Mx)(k M:Nat)(R:Mx)(last:Int):Prop:=last≠0/\∀(m:Nat) (r c:Nat->Nat),(∀ i,i<m+1->r i<M/\c i<M) ->
 det (m+1) (λi j=>R (r i) (c j))=det (k+m+1) (λi j=>A (ex k r i) (ex k c j)) * last ^ m
theorem ZD8(A:Mx)(n:Nat):Sl A 0 n A 1:=⟨by decide,λm r c _=>by rw[Int.one_pow,Ov,Mw];refine Zj λi j _ _=>?_;unfold ex;rw[if_neg (YZ _),if_neg (YZ _),Mw,Mw,Nat.sub_zero,Nat.sub_zero]⟩
theorem rF{p:Int}(h:p≠0):∀ n:Nat,p ^ n≠0
 | 0=>by rw[Lj];decide
 | n+1=>by rw[GP];exact Int.mul_ne_zero (rF h n) h
def Qa(r:Nat->Nat):Nat->Nat
 | 0=>0
 | i+1=>r i+1
theorem DP(k:Nat)(r:Nat->Nat)(i:Nat):ex k (Qa r) i=ex (k+1) r i:=by
 unfold ex;by_cases h:i<k
 .rw[if_pos h,if_pos (by lia)]
 .rw[if_neg h];by_cases h2:i=k
  .rw[if_pos (by lia),h2,UC];rfl
  .rw[if_neg (by lia)];obtain⟨d,rfl⟩:∃ d,i=k+d+1:=⟨i - k - 1,by grind⟩;rw[show k+d+1 - k=d+1 by lia,show k+d+1 - (k+1)=d by lia];show k+(r d+1)=k+1+r d
   lia
theorem gp{A:Mx}{k M:Nat}{R:Mx}{last:Int}(h:Sl A k (M+1) R last)(hp:R 0 0≠0){m:Nat}{r c:Nat->Nat}(hb:∀ i,i<m+1->r i<M/\c i<M) :
  det (m+1) (λi j=>offN R (r i) (c j))=R 0 0 ^ m * (last ^ (m+1) * det (k+1+m+1) (λi j=>A (ex (k+1) r i) (ex (k+1) c j))):=by
 have e1:=rG (m:=m+1) (R:=λi j=>R (Qa r i) (Qa c j));have e2:=h.2 (m+1) (Qa r) (Qa c) λi hi=>by
  cases i with
  | zero=>exact⟨Nat.succ_pos _,Nat.succ_pos _⟩
  | succ i=>have:=hb i (by lia);exact⟨Nat.succ_lt_succ this.1,Nat.succ_lt_succ this.2⟩
 have e3:det (m+1) (offN λi j=>R (Qa r i) (Qa c j))=det (m+1) (λi j=>offN R (r i) (c j)):=rfl;have e4:det (k+(m+1)+1) (λi j=>A (ex k (Qa r) i) (ex k (Qa c) j))=det (k+1+m+1) (λi j=>A (ex (k+1) r i) (ex (k+1) c j)):=by rw[show k+(m+1)+1=k+1+m+1 by lia];exact Zj λi j _ _=>by rw[DP,DP]
 rw[e3]at e1;rw[e4]at e2;have e5:R (Qa r 0) (Qa c 0)=R 0 0:=rfl
 rw[e5,e2]at e1;generalize det (m+1) (λi j=>offN R (r i) (c j))=x at *;generalize det (k+1+m+1) (λi j=>A (ex (k+1) r i) (ex (k+1) c j))=y at *;rw[GP]at e1;refine jH hp ?_;rw[e1,QQ y,QQ (R 0 0 ^ m),Sw]
theorem rE(A:Mx):det 1 A=A 0 0:=by show 0+sg 0 * A 0 0 * 1=A 0 0;rw[show sg 0=1 from rfl];lia
theorem rD{A:Mx}{k M:Nat}{R:Mx}{last:Int}(h:Sl A k (M+1) R last)(hp:R 0 0≠0){i j:Nat}(hi:i<M)(hj:j<M) :
  offN R i j=last * det (k+2) (λa b=>A (ex (k+1) (λ_=>i) a) (ex (k+1) (λ_=>j) b)):=by
 have:=gp h hp (m:=0) (r:=λ_=>i) (c:=λ_=>j) λ_ _=>⟨hi,hj⟩
 rw[rE,Lj,SX,GP,Lj,SX]at this;exact this
theorem rC{A:Mx}{k M:Nat}{R R':Mx}{last:Int}(h:Sl A k (M+1) R last)(hp:R 0 0≠0)(hR:∀ i j,i<M->j<M->R' i j=(offN R i j).fdiv last):Sl A (k+1) M R' (R 0 0):=by
 refine⟨hp,λm r c hb=>?_⟩;have rB:∀ i j,i<M->j<M->offN R i j=last * R' i j:=λi j hi hj=>by rw[hR i j hi hj,rD h hp hi hj,Int.mul_fdiv_cancel_left _ h.1]
 have e1:=gp h hp hb;have e2:det (m+1) (λi j=>offN R (r i) (c j))=last ^ (m+1) * det (m+1) (λi j=>R' (r i) (c j)):=by rw[<- DQ];exact Zj λi j hi hj=>rB _ _ (hb i hi).1 (hb j hj).2
 rw[e2]at e1;refine jH (rF h.1 (m+1)) ?_;rw[e1];generalize det (k+1+m+1) (λi j=>A (ex (k+1) r i) (ex (k+1) c j))=y;rw[Oo,QQ y]
theorem rq{A:Mx}{k M t:Nat}{R:Mx}{last:Int}(h:Sl A k M R last)(ht:t<M):Sl (λi=>A (rotN k t i)) k M (λi=>R (rotN 0 t i)) last:=by
 refine⟨h.1,λm r c hb=>?_⟩;have e:=h.2 m (λi=>rotN 0 t (r i)) c λi hi=>⟨by
  have:=(hb i hi).1
  unfold rotN;rw[if_neg (by lia)];split
  .lia
  .split <;> lia,(hb i hi).2⟩
 rw[e];refine Xw (· * last ^ m) (Zj λi j _ _=>?_);refine Xw (λa=>A a (ex k c j)) ?_;unfold ex;by_cases hi:i<k
 .rw[if_pos hi,if_pos hi];unfold rotN;rw[if_pos hi]
 .rw[if_neg hi,if_neg hi];show k+rotN 0 t (r (i - k))=rotN k t (k+r (i - k))
  generalize r (i - k)=a;have r1:rotN 0 t a=if a<0 then a else if a=0 then 0+t else if a<=0+t then a - 1 else a:=rfl
  have r2:rotN k t (k+a)=if k+a<k then k+a else if k+a=k then k+t else if k+a<=k+t then k+a - 1 else k+a:=rfl
  rw[if_neg (by lia)]at r1 r2;by_cases h1:a=0
  .rw[if_pos h1]at r1;rw[if_pos (by lia)]at r2;rw[r1,r2];lia
  .rw[if_neg h1]at r1;rw[if_neg (by lia)]at r2;by_cases h2:a<=t
   .rw[if_pos (by lia)]at r1;rw[if_pos (by lia)]at r2;rw[r1,r2];lia
   .rw[if_neg (by lia)]at r1;rw[if_neg (by lia)]at r2;rw[r1,r2]
theorem Nw(k i:Nat):ex k (λi=>i) i=i:=by
 unfold ex;by_cases h:i<k
 .rw[if_pos h]
 .rw[if_neg h];show k+(i - k)=i
  grind
theorem rp{A:Mx}{k M:Nat}{R:Mx}{last:Int}(h:Sl A k (M+1) R last)(h0:∀ i,i<M+1->R i 0=0):det (k+M+1) A=0:=by
 have e:=h.2 M (λi=>i) (λi=>i) λi hi=>⟨hi,hi⟩;rw[rH (A:=λi j=>R i j) h0]at e;have e2:det (k+M+1) (λi j=>A (ex k (λi=>i) i) (ex k (λi=>i) j))=det (k+M+1) A:=Zj λi j _ _=>by rw[Nw,Nw]
 rw[e2]at e;rcases Int.mul_eq_zero.mp e.symm with z | z
 .exact z
 .exact absurd z (rF h.1 M)
theorem rn{A:Mx}{k:Nat}{R:Mx}{last:Int}(h:Sl A k 1 R last):R 0 0=det (k+1) A:=by
 have e:=h.2 0 (λi=>i) (λi=>i) λi hi=>⟨by lia,by omega⟩;rw[rE,Lj,Ov]at e;have e2:det (k+0+1) (λi j=>A (ex k (λi=>i) i) (ex k (λi=>i) j))=det (k+1) A:=Zj λi j _ _=>by rw[Nw,Nw]
 rw[e2]at e;exact e
end My
namespace L2
open PySem PySem.Spec PyProof.Rows
def rm(i j:Int):Prop:=i.natAbs<2 ^ 9000/\j.natAbs<2 ^ 9000
def rj(i j:Int):Prop:=j≠0/\j.natAbs<2 ^ 9000
theorem gn{a:Int}(h:a.natAbs<2 ^ 9000):Builtin.Int.intBits a<=9000:=PySem.intBits_le_iff.mpr h
section
variable{X:Cx}
theorem rh:WG X (binaryOp .Mult) (rI rm λi j=>.int (i * j)):=Kx λ_ _ _ _ _ _ _ hc q=>mul_int q (.of_bits (Yr (gn hc.1) (by decide)) (Yr (gn hc.2) (by decide)))
theorem DO:WG X (binaryOp .FloorDiv) (rI rj λi j=>.int (i.fdiv j)):=Kx λ_ _ _ _ _ _ _ hc q=>floordiv_int hc.1 q (.inl (PyProof.noPylong_of_log2 ((Nat.log2_lt (by have:=hc.1;lia)).mpr hc.2)))
end
end L2
namespace My
def fnL(L:Ab):Mx:=λi j=>(L.getD i []).getD j 0
theorem OK{L:Ab}{l:Ac}{i j:Nat}{x:Int}(h:L[i]?=some l)(h2:l[j]?=some x):fnL L i j=x:=by
 have e:L.getD i []=l:=by rw[WI,h];rfl
 unfold fnL;rw[e,WI,h2];rfl
def yX(B:Nat):Nat->Nat
 | 0=>1
 | n+1=>(n+1) * (B * yX B n)
theorem DN{f:Nat->Int}{C:Nat}:∀ {n:Nat},(∀ i,i<n->(f i).natAbs<=C)->(sm n f).natAbs<=n * C
 | 0,_=>by show(0:Int).natAbs<=0 * C;rw[Nat.zero_mul];exact XO 0
 | n+1,h=>by
  have h1:=DN (n:=n) λi hi=>h i (by lia);have h2:=h n (by lia)
  have h3:(sm n f+f n).natAbs<=(sm n f).natAbs+(f n).natAbs:=Int.natAbs_add_le ..;show(sm n f+f n).natAbs<=(n+1) * C
  rw[Nat.succ_mul];lia
theorem gm{B:Nat}:∀ {n:Nat} {A:Mx},(∀ i j,i<n->j<n->(A i j).natAbs<=B)->(det n A).natAbs<=yX B n
 | 0,_,_=>XO 1
 | n+1,A,h=>by
  refine DN λj hj=>?_;have e:(sg j).natAbs=1:=by unfold sg;split <;> rfl
  rw[w4,w4,e,Nat.one_mul];exact Lm (h 0 j (by lia) hj) (gm λi k hi hk=>h (i+1) (sk j k) (by lia) (Qb hk))
theorem DM{b:Nat}:∀ {n:Nat},n<=16->yX (2 ^ b) n<=2 ^ ((b+4) * n)
 | 0,_=>by show 1<=2 ^ ((b+4) * 0);rw[Nat.mul_zero];exact XO 1
 | n+1,h=>by
  have ih:=DM (b:=b) (n:=n) (by lia);have e:2 ^ ((b+4) * (n+1))=16 * (2 ^ b * 2 ^ ((b+4) * n)):=by rw[Nat.mul_succ,Nat.pow_add,Nat.pow_add,As (2 ^ ((b+4) * n)),As (2 ^ b) (2 ^ 4),Nat.mul_assoc]
  rw[e];show(n+1) * (2 ^ b * yX (2 ^ b) n)<=_
  exact Lm h (Lm (XO _) ih)
theorem Yz8{n:Nat}{A:Mx}(hn:n<=16)(h:∀ i j,i<n->j<n->(A i j).natAbs<=2 ^ 400):(det n A).natAbs<2 ^ 9000:=by
 have h1:=gm h;have h2:=DM (b:=400) hn
 have h3:2 ^ ((400+4) * n)<=2 ^ (404 * 16):=xD (by decide) (Lm (XO _) hn);have h4:2 ^ (404 * 16)<2 ^ 9000:=Nat.pow_lt_pow_right (by decide) (by decide)
 exact AF (Yr h1 (Yr h2 h3)) h4
theorem rg{A:Mx}{k M:Nat}{R:Mx}{last:Int}(h:Sl A k M R last){i j:Nat}(hi:i<M)(hj:j<M):R i j=det (k+1) (λa b=>A (ex k (λ_=>i) a) (ex k (λ_=>j) b)):=by
 have:=h.2 0 (λ_=>i) (λ_=>j) λ_ _=>⟨hi,hj⟩
 rw[rE,Lj,Ov]at this;exact this
theorem ZE8{A:Mx}{k M n:Nat}{R:Mx}{last:Int}(h:Sl A k M R last)(hn:k+M=n)(hn16:n<=16)(hA:∀ i j,i<n->j<n->(A i j).natAbs<=2 ^ 400){i j:Nat}(hi:i<M)(hj:j<M):(R i j).natAbs<2 ^ 9000:=by
 rw[rg h hi hj];refine Yz8 (by lia) λa b ha hb=>hA _ _ ?_ ?_
 .have e:ex k (λ_=>i) a=if a<k then a else k+i:=rfl
  rw[e];split <;> lia
 .have e:ex k (λ_=>j) b=if b<k then b else k+j:=rfl
  rw[e];split <;> lia
theorem rf{L:Ab}{l:Ac}{t:Nat}(h:L[t]?=some l)(i:Nat):(l :: L.eraseIdx t)[i]?=L[rotN 0 t i]?:=by
 have ht:=(Xp.mp h).1;have r:rotN 0 t i=if i<0 then i else if i=0 then 0+t else if i<=0+t then i - 1 else i:=rfl
 rw[if_neg (by lia)]at r;cases i with
 | zero =>
  rw[if_pos rfl,Mw]at r;rw[r,h];rfl
 | succ i =>
  rw[if_neg (by lia),Mw]at r;rw[r,List.getElem?_cons_succ,xG];by_cases c:i+1<=t
  .rw[if_pos c,if_pos (by lia)];rfl
  .rw[if_neg c,if_neg (by lia)]
theorem rd{L:Ab}{l:Ac}{t:Nat}(h:L[t]?=some l):fnL (l :: L.eraseIdx t)=λi=>fnL L (rotN 0 t i):=by
 funext i j
 show((l :: L.eraseIdx t).getD i []).getD j 0=(L.getD (rotN 0 t i) []).getD j 0;refine Xw (λr:Ac=>r.getD j 0) ?_;rw[WI,WI,rf h]
def PZ(y:Int)(p:Ac)(last:Int)(l:Ac):Ac:=List.zipWith (λown other=>(y * own - l.headD 0 * other).fdiv last) l.tail p
theorem gk{y last:Int}{p l:Ac}(h:l.length=p.length+1):(PZ y p last l).length=p.length:=by unfold PZ;rw[He,List.length_tail];grind
theorem q9{y last:Int}{p:Ac}{L:Ab}{M:Nat}(hp:p.length=M)(hL:L.length=M)(hl:∀ l∈L,l.length=M+1){i j:Nat}(hi:i<M)(hj:j<M) :
  fnL (L.map (PZ y p last)) i j=(offN (fnL ((y :: p) :: L)) i j).fdiv last:=by
 obtain⟨l,LV⟩:∃ l,L[i]?=some l:=⟨_,Xo (by lia)⟩;have Hy:=hl l (Xd LV)
 obtain⟨x,l',rfl⟩:∃ x l',l=x :: l':=by
  cases l with
  | nil=>cases Hy
  | cons x l'=>exact⟨x,l',rfl⟩
 have Ss:l'.length=M:=by rw[Yz]at Hy;lia
 obtain⟨u,hu⟩:∃ u,l'[j]?=some u:=⟨_,Xo (by lia)⟩;obtain⟨v,hv⟩:∃ v,p[j]?=some v:=⟨_,Xo (by lia)⟩;have e1:fnL (L.map (PZ y p last)) i j=(y * u - x * v).fdiv last:=OK (l:=PZ y p last (x :: l')) (by rw[Yp,LV];rfl) (by
  show(List.zipWith _ l' p)[j]?=_;rw[Ip,hu,hv]
  rfl)
 have e2:fnL ((y :: p) :: L) 0 0=y:=rfl;have e3:fnL ((y :: p) :: L) (i+1) (j+1)=u:=OK (l:=x :: l') LV hu
 have e4:fnL ((y :: p) :: L) (i+1) 0=x:=OK (l:=x :: l') LV rfl;have e5:fnL ((y :: p) :: L) 0 (j+1)=v:=OK (l:=y :: p) rfl hv
 rw[e1];unfold offN;rw[e2,e3,e4,e5]
end My
namespace My
open PySem L2
def DL(K:Ad)(H:Hp)(v:V)(l:Ac):Prop:=∃(r:Addr) (k:Bool),v=.ref r/\SqK k K H r (IL l)
def LiV(d:Addr)(H:Hp)(v:V)(l:Ac):Prop:=∃ r,v=.ref r/\H r=some (.lst (IL l))/\r≠d
theorem LiV.same{d:Addr}{H H':Hp}{v:V}{l:Ac}(s:Same H H')(h:LiV d H v l):LiV d H' v l:=by obtain⟨r,e,h,n⟩:=h;exact⟨r,e,s _ _ h,n⟩
theorem LiV.mut{d:Addr}{H:Hp}{v:V}{l:Ac}{o:HO}(h:LiV d H v l):LiV d (upd H d o) v l:=by obtain⟨r,e,h,n⟩:=h;exact⟨r,e,by rw[Zb n];exact h,n⟩
theorem LiV.list{d:Addr}{H:Hp}{v:V}{l:Ac}(h:LiV d H v l):ON H v l:=by obtain⟨r,e,h,_⟩:=h;exact⟨r,e,h⟩
theorem Bears.erase{α:Type}[DecidableEq α]{R:V->α->Prop}{xs:List V}{l:List α}(h:Bears R xs l)(t:Nat):Bears R (xs.eraseIdx t) (l.eraseIdx t):=by
 have hl:=h.1;refine⟨by rw[AI,AI,hl],λi a e=>?_⟩;rw[xG]at e;rw[xG];split at e
 .next c=>rw[if_pos c];exact h.2 _ _ e
 .next c=>rw[if_neg c];exact h.2 _ _ e
theorem gj(x:Int)(l:Ac):WM (IL (x :: l)) (some 1) none=IL l:=by rw[gG (by decide)];rfl
theorem DK(t:Nat):sg t * sg t=1:=by unfold sg;split <;> rfl
end My
namespace My
theorem ZF9{f:Nat->Nat->Int}{n m:Nat}:sm n (λi=>sm m (λj=>f i j))=sm m (λj=>sm n (λi=>f i j)):=rP
theorem gf:∀ {n:Nat} {A:Mx},det (n+1) A=sm (n+1) λi=>sg i * A i 0 * det n (λr c=>A (sk i r) (c+1))
 | 0,A=>rfl
 | n+1,A=>by
  have e1:det (n+2) A=sg 0 * A 0 0 * det (n+1) (mn A 0)+sm (n+1) λj=>sg (j+1) * A 0 (j+1) * det (n+1) (mn A (j+1)):=DS;have e2:sm (n+2) (λi=>sg i * A i 0 * det (n+1) (λr c=>A (sk i r) (c+1)))=sg 0 * A 0 0 * det (n+1) (λr c=>A (sk 0 r) (c+1))+sm (n+1) λi=>sg (i+1) * A (i+1) 0 * det (n+1) (λr c=>A (sk (i+1) r) (c+1)):=DS
  rw[e1,e2];have e3:det (n+1) (mn A 0)=det (n+1) (λr c=>A (sk 0 r) (c+1)):=Zj λr c _ _=>rfl
  rw[e3];refine Xw (λz:Int=>sg 0 * A 0 0 * det (n+1) (λr c=>A (sk 0 r) (c+1))+z) ?_;obtain⟨D,hD⟩:∃ D:Nat->Nat->Int,D=λi j=>det n (λr c=>A (sk i r+1) (sk (j+1) (c+1))):=⟨_,rfl⟩;have e4:∀ j,j<n+1->det (n+1) (mn A (j+1))=sm (n+1) λi=>sg i * A (i+1) 0 * D i j:=λj _=>by rw[gf,hD];rfl
  have e5:∀ i,i<n+1->det (n+1) (λr c=>A (sk (i+1) r) (c+1))=sm (n+1) λj=>sg j * A 0 (j+1) * D i j:=λi hi=>by
   show sm (n+1) (λj=>sg j * A (sk (i+1) 0) (j+1) * det n (mn (λr c=>A (sk (i+1) r) (c+1)) j))=_;refine Zy λj _=>?_;rw[hD];show sg j * A (sk (i+1) 0) (j+1) * det n (mn (λr c=>A (sk (i+1) r) (c+1)) j)=sg j * A 0 (j+1) * det n (λr c=>A (sk i r+1) (sk (j+1) (c+1)))
   rw[show sk (i+1) 0=0 from rfl];refine Xw (sg j * A 0 (j+1) * ·) (Zj λr c _ _=>?_);show A (sk (i+1) (r+1)) (sk j c+1)=A (sk i r+1) (sk (j+1) (c+1))
   have f1:sk (i+1) (r+1)=sk i r+1:=by
    unfold sk;by_cases h:r<i
    .rw[if_pos h,if_pos (by lia)]
    .rw[if_neg h,if_neg (by lia)]
   have f2:sk j c+1=sk (j+1) (c+1):=by
    unfold sk;by_cases h:c<j
    .rw[if_pos h,if_pos (by lia)]
    .rw[if_neg h,if_neg (by lia)]
   rw[f1,f2]
  have e6:sm (n+1) (λj=>sg (j+1) * A 0 (j+1) * det (n+1) (mn A (j+1)))=sm (n+1) λj=>sm (n+1) λi=>sg (j+1) * A 0 (j+1) * (sg i * A (i+1) 0 * D i j):=Zy λj hj=>by rw[e4 j hj,Hz]
  have e7:sm (n+1) (λi=>sg (i+1) * A (i+1) 0 * det (n+1) (λr c=>A (sk (i+1) r) (c+1)))=sm (n+1) λi=>sm (n+1) λj=>sg (i+1) * A (i+1) 0 * (sg j * A 0 (j+1) * D i j):=Zy λi hi=>by rw[e5 i hi,Hz]
  rw[e6,e7,ZF9];refine Zy λi _=>Zy λj _=>?_;rw[yZ,yZ];generalize D i j=d;generalize A 0 (j+1)=x;generalize A (i+1) 0=y;generalize sg i=s;generalize sg j=u;simp only [Ap,Int.neg_inj];simp only [QQ,Oo,Sw]
theorem PY:∀ {n:Nat} {A:Mx},det n (λi j=>A j i)=det n A
 | 0,_=>rfl
 | n+1,A=>by
  rw[gf (A:=A)];refine Zy λj _=>?_;show sg j * A j 0 * det n (λi k=>A (sk j k) (i+1))=sg j * A j 0 * det n (λr c=>A (sk j r) (c+1))
  rw[<- PY (A:=λr c=>A (sk j r) (c+1))]
theorem q8{n a b:Nat}{A:Mx}(ha:a<n)(hb:b<n)(XJ:a≠b)(h:∀ j,j<n->A a j=A b j):det n A=0:=by
 rcases Nat.lt_or_gt_of_ne XJ with c | c
 .obtain⟨d,rfl⟩:∃ d,b=a+d+1:=⟨b - a - 1,by grind⟩;exact yY hb h
 .obtain⟨d,rfl⟩:∃ d,a=b+d+1:=⟨a - b - 1,by grind⟩;exact yY ha λj hj=>(h j hj).symm
def putr(A:Mx)(i:Nat)(x:Nat->Int):Mx:=λr=>if r=i then x else A r
theorem gd{n i:Nat}{A:Mx}{c:Int}{x y:Nat->Int}(hi:i<n):det n (putr A i (λj=>c * x j+y j))=c * det n (putr A i x)+det n (putr A i y) :=
 Jz hi (λr j _ _ XJ=>by unfold putr;rw[if_neg XJ,if_neg XJ,if_neg XJ];exact⟨rfl,rfl⟩) (λj _=>by unfold putr;rw[if_pos rfl,if_pos rfl,if_pos rfl])
theorem gc{A:Mx}{i:Nat}:putr A i (A i)=A:=by
 funext r
 unfold putr;by_cases h:r=i
 .rw[if_pos h,h]
 .rw[if_neg h]
theorem gb{n a b:Nat}{A:Mx}{c:Int}(ha:a<n)(hb:b<n)(XJ:a≠b):det n (putr A a (λj=>A a j+c * A b j))=det n A:=by
 have e:(λj=>A a j+c * A b j)=λj=>c * A b j+A a j:=by funext j;lia
 rw[e,gd ha,gc,q8 ha hb XJ (A:=putr A a (A b)) λj _=>?_,Su,Ig];unfold putr;rw[if_pos rfl,if_neg (YY XJ)]
theorem qZ(a i:Nat):rotN 0 a (i+1)=sk a i:=by
 have r:rotN 0 a (i+1)=if i+1<0 then i+1 else if i+1=0 then 0+a else if i+1<=0+a then i+1 - 1 else i+1:=rfl
 rw[if_neg (by lia),if_neg (by lia)]at r;rw[r];unfold sk;by_cases h:i<a
 .rw[if_pos h,if_pos (by lia)];lia
 .rw[if_neg h,if_neg (by lia)]
theorem f9{f:Nat->Int}{a:Nat}:∀ {n:Nat},a<n->(∀ j,j<n->j≠a->f j=0)->sm n f=f a
 | 0,h,_=>absurd h (YZ _)
 | n+1,h,h0=>by
  show sm n f+f n=f a;by_cases c:a=n
  .rw[JA λi hi=>h0 i (by grind) (by lia),c,Ig]
  .rw[f9 (n:=n) (by lia) λj hj XJ=>h0 j (by lia) XJ,h0 n (by lia) (by lia),Sa]
theorem qY{n a:Nat}{A:Mx}(ha:a<n+1):det (n+1) (putr A a (λj=>if j=a then 1 else 0))=det n (λi j=>A (sk a i) (sk a j)):=by
 have e:=rJ (n:=n+1) (k:=0) (t:=a) (A:=putr A a (λj=>if j=a then 1 else 0)) (by lia);have r0:rotN 0 a 0=a:=by show(if 0<0 then 0 else if 0=0 then 0+a else _)=a;rw[if_neg (by lia),if_pos rfl,Mw]
 have top:det (n+1) (λi=>putr A a (λj=>if j=a then 1 else 0) (rotN 0 a i))=sg a * det n (λi j=>A (sk a i) (sk a j)):=by
  show sm (n+1) (λj=>sg j * putr A a (λj=>if j=a then 1 else 0) (rotN 0 a 0) j * det n (mn (λi=>putr A a (λj=>if j=a then 1 else 0) (rotN 0 a i)) j))=_;rw[f9 ha λj _ XJ=>?_]
  .rw[r0];have e1:putr A a (λj=>if j=a then 1 else 0) a a=1:=by unfold putr;rw[if_pos rfl,if_pos rfl]
   rw[e1,Ov];refine Xw (sg a * ·) (Zj λi j _ _=>?_);show putr A a (λj=>if j=a then 1 else 0) (rotN 0 a (i+1)) (sk a j)=A (sk a i) (sk a j)
   rw[qZ];unfold putr;rw[if_neg (by unfold sk;split <;> lia)]
  .rw[r0];have e1:putr A a (λj=>if j=a then 1 else 0) a j=0:=by unfold putr;rw[if_pos rfl,if_neg XJ]
   rw[e1,Su,GQ]
 rw[top]at e;have h:=Xw (sg a * ·) e
 simp only [<- Sw]at h;rw[show sg a * sg a=1 by unfold sg;split <;> rfl,SX,SX]at h
 exact h.symm
theorem fZ{n a:Nat}{A:Mx}{w:Int}(ha:a<n+1):det (n+1) (λi j=>A i j+w * ((if i=a then 1 else 0) * (if j=a then 1 else 0)))=det (n+1) A+w * det n (λi j=>A (sk a i) (sk a j)):=by
 have e:det (n+1) (λi j=>A i j+w * ((if i=a then 1 else 0) * (if j=a then 1 else 0)))=det (n+1) (putr A a (λj=>w * (λj=>if j=a then 1 else 0) j+A a j)):=Zj λi j _ _=>by
  unfold putr;by_cases h:i=a
  .subst h;rw[if_pos rfl,if_pos rfl,SX];show A i j+w * (if j=i then 1 else 0)=w * (if j=i then 1 else 0)+A i j
   exact Int.add_comm ..
  .rw[if_neg h,if_neg h,GQ,Su,Sa]
 rw[e,gd ha,gc,qY ha];lia
def ind(u v i:Nat):Int:=(if i=u then 1 else 0) - (if i=v then 1 else 0)
def Rb(A:Mx)(a b:Nat):Mx:=λi j=>(A i j+(if i=b then A a j else 0))+(if j=b then A i a+(if i=b then A a a else 0) else 0)
theorem DJ{n a b:Nat}{A:Mx}(ha:a<n)(hb:b<n)(XJ:a≠b):det n (Rb A a b)=det n A:=by
 have e1:det n A=det n (putr A b (λj=>A b j+1 * A a j)):=(gb hb ha (YY XJ)).symm;obtain⟨R,hR⟩:∃ R:Mx,R=putr A b (λj=>A b j+1 * A a j):=⟨_,rfl⟩;have e2:det n R=det n (putr (λi j=>R j i) b (λj=>(λi j=>R j i) b j+1 * (λi j=>R j i) a j)):=by rw[gb (A:=λi j=>R j i) hb ha (YY XJ)];exact PY.symm
 rw[e1,<- hR,e2,<- PY (A:=putr (λi j=>R j i) b (λj=>(λi j=>R j i) b j+1 * (λi j=>R j i) a j))];refine Zj λi j _ _=>?_;have rv:∀ r c,R r c=A r c+(if r=b then A a c else 0):=λr c=>by
  rw[hR];unfold putr;by_cases h:r=b
  .rw[if_pos h,if_pos h,h];lia
  .rw[if_neg h,if_neg h];lia
 unfold Rb;show _=(putr (λi j=>R j i) b (λj=>R j b+1 * R j a)) j i
 unfold putr;by_cases h:j=b
 .rw[if_pos h,if_pos h,rv,rv,h];by_cases h2:i=b
  .rw[if_pos h2,if_pos h2];lia
  .rw[if_neg h2,if_neg h2];lia
 .rw[if_neg h,if_neg h];show _=R i j
  rw[rv];lia
theorem qX{n a b:Nat}{A:Mx}{w:Int}(ha:a<n+1)(hb:b<n+1)(XJ:a≠b):det (n+1) (λi j=>A i j+w * (ind a b i * ind a b j))=det (n+1) A+w * det n (λi j=>Rb A a b (sk a i) (sk a j)):=by
 have e1:=DJ (A:=λi j=>A i j+w * (ind a b i * ind a b j)) ha hb XJ;have e2:det (n+1) (Rb (λi j=>A i j+w * (ind a b i * ind a b j)) a b)=det (n+1) (λi j=>Rb A a b i j+w * ((if i=a then 1 else 0) * (if j=a then 1 else 0))):=Zj λi j _ _=>by
  have na:¬ a=b:=XJ;have nb:¬ b=a:=YY XJ
  unfold Rb ind;by_cases hi:i=b
  .subst hi;by_cases hj:j=i
   .subst hj;simp[na,nb];lia
   .by_cases Ra:j=a
    .subst Ra;simp[na,nb,hj];lia
    .simp[na,nb,hj,Ra]
  .by_cases VA:i=a
   .subst VA;by_cases hj:j=b
    .subst hj;simp[na,nb];lia
    .by_cases Ra:j=i
     .subst Ra;simp[na,nb]
     .simp[na,nb,hj,Ra]
   .by_cases hj:j=b
    .subst hj;simp[na,nb,hi,VA]
    .by_cases Ra:j=a
     .subst Ra;simp[na,nb,hi,VA]
     .simp[na,nb,hi,VA,hj,Ra]
 rw[<- e1,e2,fZ ha,DJ ha hb XJ]
end My
namespace My
open PySem L2
abbrev Ed:=Nat × Nat × Int
def lapE:List Ed->Mx
 | []=>λ_ _=>0
 | e :: E=>λi j=>e.2.2 * (ind e.1 e.2.1 i * ind e.1 e.2.1 j)+lapE E i j
theorem qW(E:List Ed)(e:Ed)(i j:Nat):lapE (E++[e]) i j=lapE E i j+e.2.2 * (ind e.1 e.2.1 i * ind e.1 e.2.1 j):=by
 induction E with
 | nil=>show _+0=0+_;lia
 | cons f E ih =>
  show _+lapE (E++[e]) i j=_+lapE E i j+_;rw[ih];lia
def Uh(E:List Ed)(z:Int):Nat × Nat:=((E.getD z.toNat (0,0,0)).1,(E.getD z.toNat (0,0,0)).2.1)
def UW(E:List Ed):Ac->Int
 | []=>1
 | z :: T=>(E.getD z.toNat (0,0,0)).2.2 * UW E T
theorem DI(E:List Ed)(S T:Ac):UW E (S++T)=UW E S * UW E T:=by
 induction S with
 | nil=>show _=1 * _;rw[SX];rfl
 | cons z S ih=>show _ * UW E (S++T)=_ * _ * _;rw[ih,Sw]
def IsT(k:Nat)(E:List Ed)(T:Ac):Prop:=IsSet E.length T/\T.length=k/\∀ i j,i<k+1->j<k+1->Conn (T.map (Uh E)) i j
def TW(k:Nat)(E:List Ed)(s:Int):Prop:=∃ L:Ab,L.Nodup/\(∀ T,T∈L↔IsT k E T)/\(L.map (UW E)).sum=s
theorem fY{E:List Ed}{e:Ed}{z:Int}(h0:0<=z)(h1:z<(E.length:Int)):(E++[e]).getD z.toNat (0,0,0)=E.getD z.toNat (0,0,0):=by rw[WI,WI,Ys (by lia)]
theorem fX(E:List Ed)(e:Ed):(E++[e]).getD (E.length:Int).toNat (0,0,0)=e:=by rw[WI,YA,Yq (XO _),UC];rfl
theorem PX{E:List Ed}{e:Ed}{T:Ac}(h:IsSet E.length T):T.map (Uh (E++[e]))=T.map (Uh E):=YW λz hz=>by
 have:=h.all z hz
 unfold Uh;rw[fY this.1 this.2]
theorem Jy{E:List Ed}{e:Ed}{T:Ac}(h:∀ z∈T,0<=z/\z<(E.length:Int)):UW (E++[e]) T=UW E T:=by
 induction T with
 | nil=>rfl
 | cons z T ih =>
  have hz:=h z Ye;show _ * UW (E++[e]) T=_ * UW E T
  rw[fY hz.1 hz.2,ih λy hy=>h y (Yh _ hy)]
theorem yW{k:Nat}{E:List Ed}{e:Ed}{T:Ac}(h:IsSet E.length T):IsT k (E++[e]) T↔IsT k E T:=by
 have h2:IsSet (E++[e]).length T:=by rw[Xs];exact h.up
 constructor
 .rintro⟨_,a,b⟩;exact⟨h,a,by rw[PX h]at b;exact b⟩
 .rintro⟨_,a,b⟩;exact⟨h2,a,by rw[PX h];exact b⟩
theorem fW{E:List Ed}{e:Ed}{T:Ac}(h:IsSet E.length T):(T++[(E.length:Int)]).map (Uh (E++[e]))=T.map (Uh E)++[(e.1,e.2.1)]:=by
 rw[QP,PX h];show _++[Uh (E++[e]) (E.length:Int)]=_
 unfold Uh;rw[fX]
def sh(a x:Nat):Nat:=if x<a then x else x - 1
def dl(a b x:Nat):Nat:=if x=a then sh a b else sh a x
theorem PV(a y:Nat):sh a (sk a y)=y:=by
 unfold sk;by_cases h:y<a
 .rw[if_pos h];unfold sh;rw[if_pos h]
 .rw[if_neg h];unfold sh;rw[if_neg (by lia)];lia
theorem DH(a y:Nat):sk a y≠a:=by unfold sk;split <;> lia
theorem Nv{a x:Nat}(h:x≠a):sk a (sh a x)=x:=by
 unfold sh;by_cases c:x<a
 .rw[if_pos c];unfold sk;rw[if_pos c]
 .rw[if_neg c];unfold sk;rw[if_neg (by lia)];lia
theorem Nu(a b y:Nat):dl a b (sk a y)=y:=by unfold dl;rw[if_neg (DH a y),PV]
theorem qV{a x y:Nat}(hx:x≠a)(hy:y≠a)(h:sh a x=sh a y):x=y:=by
 have:=Xw (sk a) h
 rw[Nv hx,Nv hy]at this;exact this
theorem qU{a b x y:Nat}(XJ:b≠a)(h:dl a b x=dl a b y):x=y\/(x=a/\y=b)\/(x=b/\y=a):=by
 unfold dl at h;by_cases hx:x=a
 .rw[if_pos hx]at h;by_cases hy:y=a
  .exact .inl (hx.trans hy.symm)
  .rw[if_neg hy]at h;exact .inr (.inl ⟨hx,(qV XJ hy h).symm⟩)
 .rw[if_neg hx]at h;by_cases hy:y=a
  .rw[if_pos hy]at h;exact .inr (.inr ⟨qV hx XJ h,hy⟩)
  .rw[if_neg hy]at h;exact .inl (qV hx hy h)
theorem qT(a b:Nat)(XJ:b≠a):dl a b a=dl a b b:=by unfold dl;rw[if_pos rfl,if_neg XJ]
theorem qS{a b:Nat}{es:List (Nat × Nat)}{i j:Nat}(XJ:b≠a)(c:Conn (es++[(a,b)]) i j):Conn (es.map λe=>(dl a b e.1,dl a b e.2)) (dl a b i) (dl a b j):=by
 induction c with
 | refl i=>exact .refl _
 | edge q =>
  rcases Xy.mp q with q | q
  .exact .edge (YC.mpr ⟨_,q,rfl⟩)
  .have e:=XD.mp q;injection e with e1 e2
   rw[e1,e2,qT a b XJ];exact .refl _
 | symm _ ih=>exact .symm ih
 | trans _ _ a b=>exact .trans a b
theorem qR{a b:Nat}{es:List (Nat × Nat)}{u v:Nat}(XJ:b≠a)(c:Conn (es.map λe=>(dl a b e.1,dl a b e.2)) u v):∀ i j,dl a b i=u->dl a b j=v->Conn (es++[(a,b)]) i j:=by
 have he:Conn (es++[(a,b)]) a b:=.edge (by simp);have same:∀ i j,dl a b i=dl a b j->Conn (es++[(a,b)]) i j:=λi j e=>by
  rcases qU XJ e with e | ⟨e1,e2⟩ | ⟨e1,e2⟩
  .rw[e];exact .refl _
  .rw[e1,e2];exact he
  .rw[e1,e2];exact he.symm
 induction c with
 | refl u=>exact λi j e1 e2=>same i j (e1.trans e2.symm)
 | edge q =>
  intro i j e1 e2;obtain⟨⟨x,y⟩,Nz,e⟩:=YC.mp q;injection e with x1 x2
  exact(same i x (e1.trans x1.symm)).trans (.trans (.edge (Ya _ Nz)) (same y j (x2.trans e2.symm)))
 | symm _ ih=>exact λi j e1 e2=>(ih j i e2 e1).symm
 | @trans x y z _ _ Qf Ta=>exact λi j e1 e2=>(Qf i (sk a y) e1 (Nu a b y)).trans (Ta (sk a y) j (Nu a b y) e2)
theorem Nt{a b x k:Nat}(ha:a<k+1)(hb:b<k+2)(XJ:b≠a)(hx:x<k+2):dl a b x<k+1:=by
 unfold dl sh;by_cases h:x=a
 .rw[if_pos h];split <;> grind
 .rw[if_neg h];split <;> grind
theorem fV{a b k:Nat}{es:List (Nat × Nat)}(ha:a<k+1)(hb:b<k+2)(XJ:b≠a):(∀ i j,i<k+2->j<k+2->Conn (es++[(a,b)]) i j)↔∀ i j,i<k+1->j<k+1->Conn (es.map λe=>(dl a b e.1,dl a b e.2)) i j:=by
 constructor
 .intro c i j h1 h2
  have:=qS XJ (c (sk a i) (sk a j) (Qb h1) (Qb h2))
  rw[Nu,Nu]at this;exact this
 .exact λc i j h1 h2=>qR XJ (c _ _ (Nt ha hb XJ h1) (Nt ha hb XJ h2)) i j rfl rfl
def SY(a b:Nat)(E:List Ed):List Ed:=E.map λe=>(dl a b e.1,dl a b e.2.1,e.2.2)
theorem fU{a b:Nat}{E:List Ed}{z:Int}(h0:0<=z)(h1:z<(E.length:Int)):(SY a b E).getD z.toNat (0,0,0)=(dl a b (E.getD z.toNat (0,0,0)).1,dl a b (E.getD z.toNat (0,0,0)).2.1,(E.getD z.toNat (0,0,0)).2.2):=by unfold SY;rw[WI,WI,Yp,Xo (by omega)];rfl
theorem fS{a b:Nat}{E:List Ed}{T:Ac}(h:IsSet E.length T):T.map (Uh (SY a b E))=(T.map (Uh E)).map λe=>(dl a b e.1,dl a b e.2):=by
 rw[Mv];refine YW λz hz=>?_
 have:=h.all z hz
 unfold Uh;rw[fU this.1 this.2];rfl
theorem qQ{a b:Nat}{E:List Ed}{T:Ac}(h:∀ z∈T,0<=z/\z<(E.length:Int)):UW (SY a b E) T=UW E T:=by
 induction T with
 | nil=>rfl
 | cons z T ih =>
  have hz:=h z Ye;show _ * UW (SY a b E) T=_ * UW E T
  rw[fU hz.1 hz.2,ih λy hy=>h y (Yh _ hy)]
theorem DG{k a b:Nat}{E:List Ed}{e:Ed}{T:Ac}(ha:a<k+1)(hb:b<k+2)(XJ:b≠a)(he:(e.1=a/\e.2.1=b)\/(e.1=b/\e.2.1=a))(h:IsSet E.length T):IsT (k+1) (E++[e]) (T++[(E.length:Int)])↔IsT k (SY a b E) T:=by
 have hl:(SY a b E).length=E.length:=Yd ..;have hc:(∀ i j,i<k+2->j<k+2->Conn ((T++[(E.length:Int)]).map (Uh (E++[e]))) i j)↔∀ i j,i<k+2->j<k+2->Conn (T.map (Uh E)++[(a,b)]) i j:=by
  rw[fW h];rcases he with ⟨e1,e2⟩ | ⟨e1,e2⟩
  .rw[e1,e2]
  .rw[e1,e2];exact⟨λc i j x y=>gz (c i j x y),λc i j x y=>gz (c i j x y)⟩
 have h2:IsSet (E++[e]).length (T++[(E.length:Int)]):=by rw[Xs];exact h.snoc
 constructor
 .rintro⟨_,x,y⟩;refine⟨hl ▸ h,?_,?_⟩
  .rw[Xs,Yk]at x;lia
  .rw[fS h];exact(fV ha hb XJ).mp (hc.mp y)
 .rintro⟨_,x,y⟩;rw[fS h]at y;refine⟨h2,by rw[Xs,Yk,x],hc.mpr ((fV ha hb XJ).mpr y)⟩
theorem qP{k:Nat}{E:List Ed}{e:Ed}{T:Ac}(hE:∀ f∈E,f.1<k+1/\f.2.1<k+1)(he:e.1=e.2.1)(h:IsSet E.length T):¬ IsT k (E++[e]) (T++[(E.length:Int)]):=by
 rintro⟨_,x,y⟩;rw[fW h]at y;have Qe:∀ i j,i<k+1->j<k+1->Conn (T.map (Uh E)) i j:=λi j hi hj=>(y i j hi hj).lift λf hf=>by
  rcases Xy.mp hf with q | q
  .exact .edge q
  .rw[XD.mp q,he];exact .refl _
 have Wi:InN (k+1) (T.map (Uh E)):=λf hf=>by
  obtain⟨z,hz,rfl⟩:=YC.mp hf
  have:=h.all z hz
  unfold Uh;rw[WI,Xo (by lia)];exact hE _ (MC _)
 have h2:=(ZY (by lia) Wi).mpr Qe;have h3:=zp _ Wi
 rw[Yd]at h3;rw[Xs,Yk]at x;lia
theorem qO{k:Nat}{E:List Ed}{e:Ed}{s:Int}(hE:∀ f∈E,f.1<k+1/\f.2.1<k+1)(he:e.1=e.2.1)(h:TW k E s):TW k (E++[e]) s:=by
 obtain⟨L,a1,a2,a3⟩:=h;refine⟨L,a1,λT=>?_,?_⟩
 .rw[a2];constructor
  .exact λh=>(yW h.1).mpr h
  .intro h;have hs:=h.1
   rw[Xs]at hs;rcases gB hs with c | ⟨T',c,c2⟩
   .exact(yW c).mp h
   .exact absurd (c ▸ h) (qP hE he c2)
 .rw[<- a3];refine Xw List.sum (YW λT hT=>Jy ((a2 T).mp hT).1.all)
theorem qN(a b:Ac):(a++b).sum=a.sum+b.sum:=by
 induction a with
 | nil=>rw[Mz,List.sum_nil,Ig]
 | cons x a ih=>rw[GW,QM,QM,ih];lia
theorem ZM7(w:Int)(l:Ab)(f:Ac->Int):(l.map λT=>f T * w).sum=w * (l.map f).sum:=by
 induction l with
 | nil=>rw[List.map_nil,List.map_nil,List.sum_nil,Su]
 | cons x l ih=>rw[Wz,Wz,QM,QM,ih,Lh,QQ]
theorem qM{k a b:Nat}{E:List Ed}{e:Ed}{s1 s2:Int}(ha:a<k+1)(hb:b<k+2)(XJ:b≠a)(he:(e.1=a/\e.2.1=b)\/(e.1=b/\e.2.1=a))(h1:TW (k+1) E s1)(h2:TW k (SY a b E) s2):TW (k+1) (E++[e]) (s1+e.2.2 * s2):=by
 obtain⟨L,a1,a2,a3⟩:=h1;obtain⟨M,b1,b2,b3⟩:=h2;have hl:(SY a b E).length=E.length:=Yd ..
 refine⟨L++M.map (·++[(E.length:Int)]),YS.mpr ⟨a1,?_,λx hx y hy c=>?_⟩,λT=>?_,?_⟩
 .exact List.Pairwise.map _ (λx y h c=>h (List.append_cancel_right c)) b1
 .obtain⟨z,hz,c2⟩:=YC.mp hy
  have:=((a2 x).mp hx).1.all (E.length:Int) (by rw[c,<- c2];simp)
  lia
 .rw[Xy,a2,YC];constructor
  .rintro(h | ⟨T',hT,rfl⟩)
   .exact(yW h.1).mpr h
   .have:=(b2 T').mp hT
    exact(DG ha hb XJ he (hl ▸ this.1)).mpr this
  .intro h;have hs:=h.1
   rw[Xs]at hs;rcases gB hs with c | ⟨T',c,c2⟩
   .exact .inl ((yW c).mp h)
   .exact .inr ⟨T',(b2 T').mpr ((DG ha hb XJ he c2).mp (c ▸ h)),c.symm⟩
 .rw[QP,qN,Mv];have e1:L.map (UW (E++[e]))=L.map (UW E):=YW λT hT=>Jy ((a2 T).mp hT).1.all
  have e2:M.map (UW (E++[e]) ∘ (·++[(E.length:Int)]))=M.map λT=>UW (SY a b E) T * e.2.2:=YW λT hT=>by
   have hs:IsSet E.length T:=hl ▸ ((b2 T).mp hT).1;show UW (E++[e]) (T++[(E.length:Int)])=_
   rw[DI,Jy hs.all,qQ hs.all];show _ * (((E++[e]).getD (E.length:Int).toNat (0,0,0)).2.2 * 1)=_
   rw[fX,Ov]
  rw[e1,e2,a3,ZM7,b3]
theorem DF{a b u v i:Nat}(XJ:b≠a):ind (dl a b u) (dl a b v) i=ind u v (sk a i)+(if sk a i=b then ind u v a else 0):=by
 have key:∀ x:Nat,((if i=dl a b x then 1 else 0:Int))=(if sk a i=x then 1 else 0)+(if sk a i=b then (if a=x then 1 else 0) else 0):=λx=>by
  unfold dl;by_cases hx:x=a
  .rw[if_pos hx,if_neg (show ¬ sk a i=x from hx ▸ DH a i),Ig];by_cases h:sk a i=b
   .rw[if_pos h,if_pos hx.symm,if_pos];rw[<- h,PV]
   .rw[if_neg h,if_neg];intro e;exact h (by rw[e,Nv XJ])
  .rw[if_neg hx];have e2:(if sk a i=b then (if a=x then 1 else 0:Int) else 0)=0:=by rw[if_neg (YY hx)];split <;> rfl
   rw[e2,Sa];by_cases h:sk a i=x
   .rw[if_pos h,if_pos];rw[<- h,PV]
   .rw[if_neg h,if_neg];intro e;exact h (by rw[e,Nv hx])
 unfold ind;rw[key u,key v];by_cases h:sk a i=b
 .rw[if_pos h,if_pos h,if_pos h];lia
 .rw[if_neg h,if_neg h,if_neg h];lia
theorem DE{a b:Nat}(XJ:b≠a)(i j:Nat):∀ E:List Ed,lapE (SY a b E) i j=Rb (lapE E) a b (sk a i) (sk a j)
 | []=>by
  show(0:Int)=_;unfold Rb lapE;by_cases h:sk a i=b
  .by_cases h2:sk a j=b
   .rw[if_pos h,if_pos h2];rfl
   .rw[if_pos h,if_neg h2];rfl
  .by_cases h2:sk a j=b
   .rw[if_neg h,if_pos h2];rfl
   .rw[if_neg h,if_neg h2];rfl
 | e :: E=>by
  have ih:=DE XJ i j E;show e.2.2 * (ind (dl a b e.1) (dl a b e.2.1) i * ind (dl a b e.1) (dl a b e.2.1) j)+lapE (SY a b E) i j=_
  rw[ih,DF XJ,DF XJ];unfold Rb;show _=(e.2.2 * (ind e.1 e.2.1 (sk a i) * ind e.1 e.2.1 (sk a j))+lapE E (sk a i) (sk a j)+(if sk a i=b then e.2.2 * (ind e.1 e.2.1 a * ind e.1 e.2.1 (sk a j))+lapE E a (sk a j) else 0))+(if sk a j=b then (e.2.2 * (ind e.1 e.2.1 (sk a i) * ind e.1 e.2.1 a)+lapE E (sk a i) a)+(if sk a i=b then e.2.2 * (ind e.1 e.2.1 a * ind e.1 e.2.1 a)+lapE E a a else 0) else 0)
  generalize ind e.1 e.2.1 (sk a i)=x;generalize ind e.1 e.2.1 (sk a j)=y;generalize ind e.1 e.2.1 a=z;generalize e.2.2=w;by_cases h:sk a i=b
  .by_cases h2:sk a j=b
   .simp only [if_pos h,if_pos h2,Lh,Ao];lia
   .simp only [if_pos h,if_neg h2,Lh,Ao,Sa,Su];lia
  .by_cases h2:sk a j=b
   .simp only [if_neg h,if_pos h2,Lh,Ao,Sa,GQ];lia
   .simp only [if_neg h,if_neg h2,Sa]
theorem fR(u v i:Nat):ind v u i=- ind u v i:=by unfold ind;lia
theorem qL{k a b:Nat}{E:List Ed}{e:Ed}(ha:a<k+1)(hb:b<k+2)(XJ:b≠a)(he:(e.1=a/\e.2.1=b)\/(e.1=b/\e.2.1=a)):det (k+1) (lapE (E++[e]))=det (k+1) (lapE E)+e.2.2 * det k (lapE (SY a b E)):=by
 have e1:det (k+1) (lapE (E++[e]))=det (k+1) (λi j=>lapE E i j+e.2.2 * (ind a b i * ind a b j)):=Zj λi j _ _=>by
  rw[qW];rcases he with ⟨x,y⟩ | ⟨x,y⟩
  .rw[x,y]
  .rw[x,y,fR a b i,fR a b j,Int.neg_mul_neg]
 have e2:det k (lapE (SY a b E))=det k (λi j=>Rb (lapE E) a b (sk a i) (sk a j)):=Zj λi j _ _=>DE XJ i j E;rw[e1,e2];by_cases hk:b<k+1
 .exact qX ha hk (YY XJ)
 .have e3:det (k+1) (λi j=>lapE E i j+e.2.2 * (ind a b i * ind a b j))=det (k+1) (λi j=>lapE E i j+e.2.2 * ((if i=a then 1 else 0) * (if j=a then 1 else 0))):=Zj λi j hi hj=>by unfold ind;rw[if_neg (show ¬ i=b by lia),if_neg (show ¬ j=b by lia),Aq,Aq]
  have e4:det k (λi j=>Rb (lapE E) a b (sk a i) (sk a j))=det k (λi j=>lapE E (sk a i) (sk a j)):=Zj λi j hi hj=>by
   have h1:=Qb (j:=a) hi;have h2:=Qb (j:=a) hj
   unfold Rb;rw[if_neg (show ¬ sk a i=b by lia),if_neg (show ¬ sk a j=b by lia),Sa,Sa]
  rw[e3,e4];exact fZ ha
theorem fQ{E:List Ed}{e:Ed}(he:e.1=e.2.1):lapE (E++[e])=lapE E:=by
 funext i j
 rw[qW,he];unfold ind;rw[Int.sub_self,GQ,Su,Sa]
theorem yV:∀(m k:Nat) (E:List Ed),E.length=m->(∀ e∈E,e.1<k+1/\e.2.1<k+1)->TW k E (det k (lapE E))
 | 0,k,E,hm,_=>by
  obtain rfl:=YQ.mp hm;cases k with
  | zero =>
   refine⟨[[]],by simp,λT=>?_,rfl⟩;rw[XD];constructor
   .rintro rfl;exact⟨IsSet.nil _,rfl,λi j hi hj=>by
     have:i=j:=by lia
     rw[this];exact .refl j⟩
   .intro h;exact YQ.mp h.2.1
  | succ k =>
   refine⟨[],.nil,λT=>⟨λh=>(by cases h),λh=>?_⟩,?_⟩
   .have h1:=h.1.len;have h2:=h.2.1
    rw[Ik]at h1;lia
   .exact(gr (i:=0) (by lia) λj _=>rfl).symm
 | m+1,k,E,hm,hE=>by
  obtain⟨E',e,rfl⟩:∃ E' e,E=E'++[e]:=⟨E.dropLast,E.getLast (λh=>by rw[h]at hm;cases hm),(jL _).symm⟩;have Mi:E'.length=m:=by rw[Xs]at hm;simpa using hm
  have qK:∀ f∈E',f.1<k+1/\f.2.1<k+1:=λf hf=>hE f (Ya _ hf);have he:=hE e (by simp)
  have ih:=yV m k E' Mi qK;by_cases hl:e.1=e.2.1
  .rw[fQ hl];exact qO qK hl ih
  .obtain⟨k',rfl⟩:∃ k',k=k'+1:=⟨k - 1,by lia⟩;obtain⟨a,b,ha,hb,XJ,VI⟩:∃ a b,a<k'+1/\b<k'+2/\b≠a/\((e.1=a/\e.2.1=b)\/(e.1=b/\e.2.1=a)):=by
    by_cases c:e.1<k'+1
    .exact⟨e.1,e.2.1,c,he.2,λh=>hl h.symm,.inl ⟨rfl,rfl⟩⟩
    .exact⟨e.2.1,e.1,by lia,he.1,hl,.inr ⟨rfl,rfl⟩⟩
   have Ta:=yV m k' (SY a b E') (by unfold SY;rw[Yd];exact Mi) λf hf=>by
    obtain⟨g,hg,rfl⟩:=YC.mp hf
    have:=qK g hg
    exact⟨Nt ha hb XJ this.1,Nt ha hb XJ this.2⟩
   rw[qL ha hb XJ VI];exact qM ha hb XJ VI ih Ta
def Xa(ps:Aa)(ws:Ac):List Ed:=List.zipWith (λp w=>(p.1.toNat,p.2.toNat,w)) ps ws
theorem DD{n:Int}{ps:Aa}{ws:Ac}{T:Ac}(h1:1<=n)(hw:ws.length=ps.length):IsT (n - 1).toNat (Xa ps ws) T↔Zf n ps T:=by
 have hl:(Xa ps ws).length=ps.length:=by unfold Xa;rw[He];grind
 have hm:IsSet ps.length T->T.map (Uh (Xa ps ws))=XT ps T:=λhs=>YW λz hz=>by
  have:=hs.all z hz
  unfold Uh Xa;rw[WI,Ip,Xo (by lia),Xo (show z.toNat<ws.length by lia),WI,Xo (by omega)];rfl
 unfold IsT Zf;rw[hl];constructor
 .rintro⟨a,b,c⟩;rw[hm a]at c;exact⟨a,by lia,λi j hi hj=>c i j (by lia) (by grind)⟩
 .rintro⟨a,b,c⟩;rw[hm a];exact⟨a,by lia,λi j hi hj=>c i j (by lia) (by lia)⟩
theorem LU{E:List Ed}(h:∀ e∈E,e.2.2=1):∀ {T:Ac},(∀ z∈T,0<=z/\z<(E.length:Int))->UW E T=1
 | [],_=>rfl
 | z :: T,hb=>by
  have hz:=hb z Ye;show(E.getD z.toNat (0,0,0)).2.2 * UW E T=1
  rw[LU h λy hy=>hb y (Yh _ hy),Ov,WI,Xo (by lia)];exact h _ (MC _)
theorem ZA9{l:Ab}{f:Ac->Int}(h:∀ T∈l,f T=1):(l.map f).sum=(l.length:Int):=by
 induction l with
 | nil=>rfl
 | cons x l ih =>
  rw[Wz,QM,ih λT hT=>h T (Yh _ hT),h x Ye,Yz];lia
theorem DC{n:Int}{ps:Aa}(g:Zt n ps)(ws:Ac):∀ e∈Xa ps ws,e.1<(n - 1).toNat+1/\e.2.1<(n - 1).toNat+1:=λe he=>by
 unfold Xa at he;obtain⟨i,hi⟩:=VH he;rw[Ip]at hi;have g1:=g.1
 cases h1:ps[i]? with
 | none=>rw[h1]at hi;cases hi
 | some p =>
  cases h2:ws[i]? with
  | none=>rw[h1,h2]at hi;cases hi
  | some w =>
   rw[h1,h2]at hi;obtain rfl:=Yi hi;obtain⟨a,b,c,d⟩:=g.2.2.2 p (Xd h1);exact⟨by show p.1.toNat<_;grind,by show p.2.toNat<_;lia⟩
theorem Zy9{n:Int}{ps:Aa}(g:Zt n ps){L:Ab}(hL:L.Nodup)(hm:∀ l,l∈L↔Zf n ps l):det (n - 1).toNat (lapE (Xa ps (List.replicate ps.length 1)))=(L.length:Int):=by
 have g1:=g.1;have hw:(List.replicate ps.length (1:Int)).length=ps.length:=YG
 obtain⟨M,a1,a2,a3⟩:=yV _ (n - 1).toNat (Xa ps (List.replicate ps.length 1)) rfl (DC g _);have hl:(Xa ps (List.replicate ps.length 1)).length=ps.length:=by unfold Xa;rw[He,hw];grind
 have w1:∀ e∈Xa ps (List.replicate ps.length (1:Int)),e.2.2=1:=λe he=>by
  unfold Xa at he;obtain⟨i,hi⟩:=VH he;rw[Ip]at hi;cases h1:ps[i]? with
  | none=>rw[h1]at hi;cases hi
  | some p =>
   cases h2:(List.replicate ps.length (1:Int))[i]? with
   | none=>rw[h1,h2]at hi;cases hi
   | some w =>
    rw[h1,h2]at hi;obtain rfl:=Yi hi;exact AN (Xd h2)
 rw[<- a3,ZA9 λT hT=>LU w1 ((a2 T).mp hT).1.all];have hp:M.Perm L:=(Lv a1 hL).mpr λl=>by rw[a2,hm,DD g1 hw]
 rw[hp.length_eq]
end My
namespace L2
open PySem PySem.Spec PyProof.Rows
section
variable{X:Cx}
def qJ(K:Ad):V->V->Hp->VK->Prop:=λx y H Q=>∃ p xs i v,x=.ref p/\y=.int i/\SqL K H p xs/\0<=i/\xs[i.toNat]?=some v/\Q v H
theorem yU(K:Ad)(hk:X.K=K:=by rfl):Ge X (qJ K):=by
 subst hk;intro pins s σ H o i ov iv Q I ro ri h;obtain⟨p,xs,j,z,rfl,rfl,hq,h0,he,q⟩:=h;cases ro;obtain⟨t,rfl⟩:=ri;obtain⟨XW,r,pl,hz⟩:=I.list hq;obtain⟨w,ew,Ob⟩:=r.get he;have hl:=r.length
 have hn:=FO;have Xi:=(Xp.mp he).1
 exact wpAny_getItem_list pl.isList h0 (by lia) (by simpa using ew) ⟨z,H,I,Ob,q⟩
end
end L2
namespace My
open PySem L2
theorem qI{K:Ad}{a b:Addr}{xs ys:List V}{g:TG}{tb:TS}{D:Ends}{σ:St}{H:Hp}(Nz:xs.length=ys.length)(Pv:Nat->St->Hp->Prop)(h0:Pv 0 σ H)(hl:∀ i σ H,i<=xs.length->Pv i σ H->SqL K H a xs/\SqL K H b ys)
  (hs:∀(i:Nat) x y σ H (p:Addr),H p=none->xs[i]?=some x->ys[i]?=some y->Pv i σ H->g (.ref p) σ (upd H p (.tup [x,y])) λσ2 H2=>tb { D with nx:=Pv (i+1),ct:=Pv (i+1),bk:=D.nx } σ2 H2) (hd:∀ σ H,Pv xs.length σ H->D.nx σ H) :
  ∃ W:Nat->Nat->St->Hp->Prop,(∃ m,W 0 m σ H)/\∀ i m σ H,W i m σ H ->
   ((HC K a b).stop i H/\D.nx σ H)\/((HC K a b).go i H/\∃ N:St->Hp->Prop,(∀ σ' H',N σ' H'->∃ m',m'<m/\W (i+1) m' σ' H')/\∀ x H',(HC K a b).yld i H x H'->g x σ H' λσ2 H2=>tb { D with nx:=N,ct:=N,bk:=D.nx } σ2 H2):=by
 refine⟨λi m σ H=>m=xs.length - i/\i<=xs.length/\Pv i σ H,⟨xs.length,by simp,Yo _,h0⟩,?_⟩;rintro i m σ H ⟨rfl,hi,p⟩;obtain⟨q,q2⟩:=hl i σ H hi p;by_cases Xi:i<xs.length
 .refine .inr ⟨⟨xs,ys,xs[i],ys[i]'(by lia),q,q2,by simp[Xi],Xo (by omega)⟩,Pv (i+1),λσ' H' p'=>⟨xs.length - (i+1),by grind,rfl,Xi,p'⟩,λx H' ⟨T,u,v,hT,ex,eH,hu,hv⟩=>?_⟩;subst ex eH;exact hs i u v σ H T hT (hu xs q) (hv ys q2) p
 .have e:i=xs.length:=by lia
  subst e;exact .inl ⟨⟨xs,ys,q,q2,.inl (XO _)⟩,hd σ H p⟩
structure TabAt (H0:Hp) (r:Addr) (n:Nat) (H:Hp) (ys:List V) (L:Ab):Prop where
 tab:H r=some (.lst ys)
 rows:Bears (LiV r H) ys L
 len:L.length=n
 all:∀ l∈L,l.length=n
 nd:ys.Nodup
 new:∀ A,V.ref A∈ys->H0 A=none
theorem TabAt.same{H0 H H':Hp}{r:Addr}{n:Nat}{ys:List V}{L:Ab}(s:Same H H')(h:TabAt H0 r n H ys L):TabAt H0 r n H' ys L:=⟨s _ _ h.tab,h.rows.imp λ_ _ q=>q.same s,h.len,h.all,h.nd,h.new⟩
theorem TabAt.at{H0 H:Hp}{r:Addr}{n:Nat}{ys:List V}{L:Ab}(h:TabAt H0 r n H ys L){i:Nat}(hi:i<n):∃(A:Addr) (l:Ac),ys[i]?=some (.ref A)/\L[i]?=some l/\H A=some (.lst (IL l))/\l.length=n/\H0 A=none/\A≠r:=by have hl:=h.len;obtain⟨l,e⟩:∃ l,L[i]?=some l:=⟨_,Xo (by lia)⟩;obtain⟨v,e1,A,rfl,e2,e3⟩:=h.rows.2 i l e;exact⟨A,l,e1,e,e2,h.all l (Xd e),h.new A (Xd e1),e3⟩
theorem TabAt.put{H0 H:Hp}{r:Addr}{n:Nat}{ys:List V}{L:Ab}(h:TabAt H0 r n H ys L){i:Nat}{A:Addr}{l l':Ac}(e1:ys[i]?=some (.ref A))(e2:L[i]?=some l)(e3:A≠r)(hl:l'.length=n):TabAt H0 r n (upd H A (.lst (IL l'))) ys (L.set i l'):=by
 have hi:=(Xp.mp e2).1;have Vn:=(Xp.mp e1).1
 refine⟨by rw[Zb (YY e3)];exact h.tab,⟨by rw[SV];exact h.rows.1,λj m em=>?_⟩,by rw[SV];exact h.len,λm hm=>?_,h.nd,h.new⟩
 .rw[GZ]at em;by_cases c:i=j
  .subst c;rw[if_pos rfl,if_pos hi]at em;obtain rfl:=Yi em;exact⟨_,e1,A,rfl,XR,e3⟩
  .rw[if_neg c]at em;obtain⟨v,f1,B,rfl,f2,f3⟩:=h.rows.2 j m em;refine⟨_,f1,B,rfl,?_,f3⟩;rw[Zb]
   .exact f2
   .intro e;rw[e]at f1;exact c (HS h.nd e1 f1)
 .rcases List.mem_or_eq_of_mem_set hm with e | e
  .exact h.all m e
  .rw[e];exact hl
theorem qH{L:Ab}{l:Ac}{i j:Nat}{x:Int}(hi:L[i]?=some l)(hj:j<l.length)(a b:Nat):fnL (L.set i (l.set j x)) a b=if a=i/\b=j then x else fnL L a b:=by
 have Vn:=(Xp.mp hi).1;unfold fnL;by_cases ha:a=i
 .subst ha;have e1:(L.set a (l.set j x)).getD a []=l.set j x:=by rw[WI,GZ,if_pos rfl,if_pos Vn];rfl
  have e2:L.getD a []=l:=by rw[WI,hi];rfl
  rw[e1,e2];by_cases hb:b=j
  .subst hb;rw[if_pos ⟨rfl,rfl⟩,WI,GZ,if_pos rfl,if_pos hj];rfl
  .rw[if_neg (λh=>hb h.2),WI,GZ,if_neg (YY hb),<- WI]
 .have e1:(L.set i (l.set j x)).getD a []=L.getD a []:=by rw[WI,WI,GZ,if_neg (YY ha)]
  rw[e1,if_neg (λh=>ha h.1)]
theorem four{A:Mx}{u v:Nat}{w:Int}(XJ:u≠v)(a b:Nat){B C D E:Mx}(h1:∀ a b,B a b=if a=u/\b=u then A u u+w else A a b)(h2:∀ a b,C a b=if a=v/\b=v then B v v+w else B a b)(h3:∀ a b,D a b=if a=u/\b=v then C u v - w else C a b)(h4:∀ a b,E a b=if a=v/\b=u then D v u - w else D a b):E a b=A a b+w * (ind u v a * ind u v b):=by
 have nv:¬ v=u:=YY XJ;unfold ind;by_cases x1:a=u
 .subst x1;by_cases y1:b=a
  .subst y1;simp[h4,h3,h2,h1,XJ,nv]
  .by_cases y2:b=v
   .subst y2;simp[h4,h3,h2,h1,XJ,nv];lia
   .simp[h4,h3,h2,h1,XJ,nv,y1,y2]
 .by_cases x2:a=v
  .subst x2;by_cases y1:b=u
   .subst y1;simp[h4,h3,h2,h1,XJ,nv];omega
   .by_cases y2:b=a
    .subst y2;simp[h4,h3,h2,h1,XJ,nv]
    .simp[h4,h3,h2,h1,XJ,nv,y1,y2]
  .simp[h4,h3,h2,h1,XJ,nv,x1,x2]
theorem qG{ps:Aa}{ws:Ac}{i:Nat}{p:Int × Int}{w:Int}(hp:ps[i]?=some p)(hw:ws[i]?=some w):Xa (ps.take (i+1)) (ws.take (i+1))=Xa (ps.take i) (ws.take i)++[(p.1.toNat,p.2.toNat,w)]:=by
 have h1:=(Xp.mp hp).1;have h2:=(Xp.mp hw).1
 unfold Xa;rw[WA,WA,hp,hw];rw[List.zipWith_append (by rw[YB,YB];grind)];rfl
theorem Conn.image{es fs:List (Nat × Nat)}{f:Nat->Nat}(h:∀ e∈es,Conn fs (f e.1) (f e.2)){i j:Nat}(c:Conn es i j):Conn fs (f i) (f j):=by
 induction c with
 | refl i=>exact .refl _
 | edge e=>exact h _ e
 | symm _ ih=>exact ih.symm
 | trans _ _ Qf Ta=>exact Qf.trans Ta
theorem qF{n:Int}{ps:Aa}{T:Ac}(g:Zt n ps)(h:IsSet ps.length T)(c:∀ i j,i<n.toNat->j<n.toNat->Conn (XT ps T) i j):n - 1<=(T.length:Int):=by
 have g1:=g.1;have Wi:=ZG (ns:=T) g h.all
 have h2:=(ZY (by lia) Wi).mpr c;have h3:=zp _ Wi
 rw[show(XT ps T).length=T.length from Yd ..]at h3;lia
end My
namespace L2
open PySem
def RE(t:SetTable):Prop:=t.place.toList.Pairwise (· < ·)
theorem yT{xs:Array Nat}(h:xs.toList.Pairwise (· < ·)){i k a b:Nat}(qE:i<k)(ha:xs[i]?=some a)(hb:xs[k]?=some b):a<b:=by rw[<- YT]at ha hb;obtain⟨h1,e1⟩:=Xp.mp ha;obtain⟨h2,e2⟩:=Xp.mp hb;rw[<- e1,<- e2];exact Ir.mp h i k h1 h2 qE
theorem qD{xs:Array Nat}{j:Nat}(h:xs.toList.Pairwise (· < ·)):∀(f lo hi:Nat),hi - lo<=f->lo<=hi->hi<=xs.size->(∀ i v,xs[i]?=some v->i<lo->v<j)->(∀ i v,xs[i]?=some v->hi<=i->j<=v) ->
  SetTable.below.go xs j f lo hi<=xs.size/\∀ i v,xs[i]?=some v->(i<SetTable.below.go xs j f lo hi↔v<j)
 | 0,lo,hi,hf,hl,hs,a,b=>by
  have e:lo=hi:=by grind
  unfold SetTable.below.go;refine⟨by lia,λi v hv=>⟨a i v hv,λhvj=>Nat.lt_of_not_le λhc=>?_⟩⟩
  have:=b i v hv (by lia)
  lia
 | f+1,lo,hi,hf,hl,hs,a,b=>by
  unfold SetTable.below.go;by_cases c:lo<hi
  .rw[if_pos c];dsimp only;obtain⟨m,hm⟩:∃ m,xs[(lo+hi) / 2]?=some m:=⟨_,YE (by lia)⟩;have em:xs.getD ((lo+hi) / 2) j=m:=by rw[Yy,hm];rfl
   rw[em];by_cases d:m<j
   .rw[if_pos d];refine qD h f _ hi (by grind) (by lia) hs (λi v hv VA=>?_) b;by_cases e:i=(lo+hi) / 2
    .rw[e,hm]at hv;exact Yi hv ▸ d
    .have:=yT h (show i<(lo+hi) / 2 by lia) hv hm
     lia
   .rw[if_neg d];refine qD h f lo _ (by grind) (by lia) (by lia) a λi v hv VA=>?_;by_cases e:i=(lo+hi) / 2
    .rw[e,hm]at hv
     have:=Yi hv
     lia
    .have:=yT h (show(lo+hi) / 2<i by lia) hm hv
     lia
  .rw[if_neg c];refine⟨by grind,λi v hv=>⟨a i v hv,λhvj=>Nat.lt_of_not_le λhc=>?_⟩⟩
   have:=b i v hv (by lia)
   lia
theorem yS{xs:Array Nat}(h:xs.toList.Pairwise (· < ·))(j:Nat):SetTable.below xs j<=xs.size/\∀ i v,xs[i]?=some v->(i<SetTable.below xs j↔v<j) :=
 qD h xs.size 0 xs.size (by lia) (Yo _) (XO _) (λi v _ h=>absurd h (YZ _)) λi v hv hi=>by rw[AL hi]at hv;cases hv
theorem qC{xs:Array Nat}(h:xs.toList.Pairwise (· < ·)){i v:Nat}(hv:xs[i]?=some v):SetTable.below xs v=i:=by
 obtain⟨h1,h2⟩:=yS h v;have a:¬ i<SetTable.below xs v:=λq=>by have:=(h2 i v hv).mp q;lia
 refine KU (by lia) (Ol λq=>?_);have Xi:=(Array.getElem?_eq_some_iff.mp hv).1
 obtain⟨u,hu⟩:∃ u,xs[SetTable.below xs v]?=some u:=⟨_,YE (by lia)⟩;have b:=yT h q hu hv
 have:=(h2 _ u hu).mpr b
 lia
theorem ZC7{xs:Array Nat}(h:xs.toList.Pairwise (· < ·)){i v:Nat}(hv:xs[i]?=some v):SetTable.below xs (v+1)=i+1:=by
 obtain⟨h1,h2⟩:=yS h (v+1);have a:=(h2 i v hv).mpr (Pb v)
 refine KU (Ol λq=>?_) a;obtain⟨u,hu⟩:∃ u,xs[i+1]?=some u:=⟨_,YE (by lia)⟩;have b:=(h2 _ u hu).mp q
 have:=yT h (Pb i) hv hu
 lia
theorem ZB7{xs:Array Nat}(h:xs.toList.Pairwise (· < ·)):SetTable.below xs 0=0:=by obtain⟨h1,h2⟩:=yS h 0;refine Nat.le_zero.mp (Ol λq=>?_);obtain⟨u,hu⟩:∃ u,xs[0]?=some u:=⟨_,YE (by lia)⟩;exact YZ _ ((h2 _ u hu).mp q)
def Hx(t:SetTable)(j:Nat):Prop:=t.place[SetTable.below t.place j]?≠some j
theorem qB{t:SetTable}{j:Nat}(h:RE t)(hn:Hx t j):RE (t.put j).1:=by
 obtain⟨h1,h2⟩:=yS h j;have up:∀ i v,t.place[i]?=some v->SetTable.below t.place j<=i->j<v:=λi v hv hi=>by
  have a:¬ v<j:=λq=>by have:=(h2 i v hv).mpr q;lia
  have b:v≠j:=λe=>hn (by rw[e]at hv;rw[qC h hv];exact hv);lia
 show(SetTable.insertAt t.place (SetTable.below t.place j) j).toList.Pairwise (· < ·);rw[SetTable.toList_insertAt];have dn:∀ x∈t.place.toList.take (SetTable.below t.place j),x<j:=λx hx=>by
  obtain⟨i,hi⟩:=VH hx;rw[Hc]at hi;split at hi
  .rename_i q;rw[YT]at hi;exact(h2 i x hi).mp q
  .cases hi
 have ub:∀ x∈t.place.toList.drop (SetTable.below t.place j),j<x:=λx hx=>by obtain⟨i,hi⟩:=VH hx;rw[xq,YT]at hi;exact up _ x hi (Nat.le_add_right _ _)
 refine Pe.mpr ⟨js (List.take_sublist _ _) h,YN.mpr ⟨ub,js (List.drop_sublist _ _) h⟩,λa ha b hb=>?_⟩;rcases Yg.mp hb with e | e
 .rw[e];exact dn a ha
 .exact Ar (dn a ha) (ub b e)
theorem fP{t:SetTable}{j:Nat}(h:t.slot j=.empty\/t.slot j=.dummy):Hx t j:=λe=>by
 have e2:t.slot j=.live (SetTable.below t.place j):=by unfold SetTable.slot;dsimp only;rw[if_pos (by rw[e];simp)]
 rw[e2]at h;rcases h with h | h <;> cases h
theorem qz{t:SetTable}{f:Nat->Int}{h:Int}:∀(n:Nat) (p:SetTable.Probe) (j:Nat) (d:Option Nat),(∀ e,p.dummy=some e->Hx t e)->SetTable.probe.go t f h n p=some (.empty j d)->Hx t j/\∀ e,d=some e->Hx t e
 | 0,p,j,d,_,h=>by cases h
 | n+1,p,j,d,hp,h=>by
  have fO:∀ q:SetTable.Probe,(t.advance q).dummy=q.dummy:=λq=>by unfold SetTable.advance;split <;> rfl
  unfold SetTable.probe.go at h;split at h
  .rename_i hs;cases h;exact⟨fP (.inl hs),hp⟩
  .rename_i hs;exact qz n _ j d (λe he=>by rw[fO]at he;cases he;exact fP (.inr hs)) h
  .split at h
   .cases h
   .exact qz n _ j d (λe he=>hp e (by rw[fO]at he;exact he)) h
theorem Zu8{t:SetTable}{h:Int}{s:Nat}{b:Bool}(e:t.freeSlot h=some (s,b)):Hx t s:=by
 unfold SetTable.freeSlot at e;split at e
 .rename_i j d hp;obtain⟨a1,a2⟩:=qz _ _ j d (λe he=>by cases he) hp;have e1:=Xw Prod.fst (Yi e)
  dsimp only at e1;rw[<- e1];cases d with
  | none=>exact a1
  | some x=>exact a2 x rfl
 .cases e
theorem yR(t:SetTable)(n:Nat):RE (t.standIn n):=by show(Array.range n).toList.Pairwise (· < ·);rw[Array.toList_range];exact Hh
theorem qy{t:SetTable}(h:RE t)(es:Array (Int × Value))(k:Int)(x:Value):RE (layNew t es k x).2.1/\(layNew t es k x).2.1.led=t.led:=by
 unfold layNew;split
 .rename_i s b e;dsimp only;unfold SetTable.orStandIn;split
  .exact⟨qB h (Zu8 e),rfl⟩
  .exact⟨yR _ _,rfl⟩
 .exact⟨yR _ _,rfl⟩
theorem ZS7{t:SetTable}(h:RE t)(es:Array (Int × Value))(n:Nat):RE (relayAll t es n).2.1/\(relayAll t es n).2.1.led=t.led:=by
 unfold relayAll;split
 .rename_i t' order e;dsimp only;split
  .unfold SetTable.relaid SetTable.laid at e;cases ho:SetTable.layClean (SetTable.sizeAbove n - 1) (es.map (·.1)) with
   | none=>rw[ho]at e;cases e
   | some owner =>
    rw[ho]at e;have e1:=Xw Prod.fst (Yi e)
    dsimp only at e1;rw[<- e1];refine⟨?_,rfl⟩;show(List.map _ (List.filterMap _ _)).toArray.toList.Pairwise (· < ·)
    rw[List.toList_toArray,MF,List.pairwise_filterMap];refine Hh.imp λ{a b} VI x hx y hy=>?_;have ex:x.1=a:=by
     cases q:owner.getD a none with
     | none=>rw[q]at hx;cases hx
     | some z=>rw[q]at hx;cases hx;rfl
    have ey:y.1=b:=by
     cases q:owner.getD b none with
     | none=>rw[q]at hy;cases hy
     | some z=>rw[q]at hy;cases hy;rfl
    rw[ex,ey];exact VI
  .exact⟨yR _ _,rfl⟩
 .exact⟨yR _ _,rfl⟩
end L2
namespace L2
open PySem PySem.Spec PyProof.Rows
def SetR(P:Program)(w:World)(h:Heap)(a:Addr)(led:Bool)(S:Int->Bool)(n:Nat):Prop :=
 ∃(o:Obj) (es:Array (Int × Value)) (ep:Nat) (t:SetTable),h.get? a=some o/\o.ExactSet/\o.data=.set es ep t/\ElemsOf (intKind P w) es.toList/\(∀ z,S z=true↔∃ y∈es.toList,(intKind P w).is z y.2=true)/\es.size<scanBound/\t.fits es.size=true/\es.size=n/\RE t/\t.led=led
theorem SetR.at{P:Program}{w:World}{h h':Heap}{a:Addr}{led:Bool}{S:Int->Bool}{n:Nat}(q:SetR P w h a led S n)(k:∀ o,h.get? a=some o->h'.get? a=some o):SetR P w h' a led S n :=
 let ⟨o,es,ep,t,ho,r⟩:=q
 ⟨o,es,ep,t,k o ho,r⟩
section
variable{prog:Program}{w:World}{A:Around}{E:Ae}{s:Shared}
theorem fN{h:Heap}{a:Addr}{o:Obj}{es:Array (Int × Value)}{ep:Nat}{t:SetTable}(ho:h.get? a=some o)(hx:o.ExactSet)(hd:o.data=.set es ep t)(fs:Array (Int × Value))(u:SetTable) :
  (h.update a (Obj.putSet fs u)).get? a=some { o with data:=.set fs (ep+1) u }/\({ o with data:=.set fs (ep+1) u }:Obj).ExactSet:=by have q:=Vx (Obj.putSet fs u) ho (by rw[putSet_of fs u hd];rfl);rw[putSet_of fs u hd]at q;exact⟨q,hx⟩
theorem qx{gv:Bool->Sem Unit}(hgv:∀(b:Bool) (s1:Shared) (R:Unit->Shared->Prop),R () s1->wpAny (model prog w) A (gv b) R E s1)
  {a:Addr} {o:Obj} {es fs:Array (Int × Value)} {ep:Nat} {t u:SetTable} (ho:s.heap.get? a=some o) (hx:o.ExactSet) (hd:o.data=.set es ep t)
  {S:Int->Bool} (he:ElemsOf (intKind prog w) fs.toList) (hm:∀ z,S z=true↔∃ y∈fs.toList,(intKind prog w).is z y.2=true) (hb:fs.size<scanBound) (hf:u.fits fs.size=true) (hr:RE u) {dm:Bool} {R:Option Bool->Shared->Prop}
  (k:∀ h',Heap.SameBut a s.heap h'->SetR prog w h' a u.led S fs.size->R (some true) { s with heap:=h' }) :
  wpAny (model prog w) A (do
   storeSet a fs u
   if (!dm && u.tooFull)=true then do
    gv (relayAll u fs (SetTable.grown fs.size)).2.2
    storeSet a (relayAll u fs (SetTable.grown fs.size)).1 (relayAll u fs (SetTable.grown fs.size)).2.1
    pure (some true)
   else pure (some true)) R E s:=by
 obtain⟨h1,x1⟩:=fN ho hx hd fs u;have b1:=MG s.heap a (Obj.putSet fs u)
 refine XU (wpAny_storeSet_of ho hd ?_ (fits_of_scanBound hb));by_cases c:(!dm && u.tooFull)=true
 .rw[if_pos c];have p:=relayAll_perm u fs (SetTable.grown fs.size)
  have f:=relayAll_fits u fs (SetTable.grown fs.size);obtain⟨r,l⟩:=ZS7 hr fs (SetTable.grown fs.size);generalize relayAll u fs (SetTable.grown fs.size)=Z at p f r l ⊢;obtain⟨gs,v,gave⟩:=Z;dsimp only at p f r l ⊢;have ez:gs.size=fs.size:=by rw[<- YD,p.length_eq,YD]
  obtain⟨h2,x2⟩:=fN h1 x1 rfl gs v;refine XU (hgv _ _ _ (XU (wpAny_storeSet_of h1 rfl (Yj ?_) (fits_of_scanBound (by rw[ez];exact hb)))));exact k _ (b1.trans (MG _ a _)) ⟨_,gs,_,v,h2,x2,rfl,he.perm p,λz=>(hm z).trans ⟨λ⟨y,hy,q⟩=>⟨y,p.mem_iff.mpr hy,q⟩,λ⟨y,hy,q⟩=>⟨y,p.mem_iff.mp hy,q⟩⟩,by rw[ez];exact hb,f,ez,r,l⟩
 .rw[if_neg c];exact Yj (k _ b1 ⟨_,fs,_,u,h1,x1,rfl,he,hm,hb,hf,rfl,hr,rfl⟩)
theorem qw{a:Addr}{S:Int->Bool}{n:Nat}{z:Int}{x:Value}{led:Bool}{R:Bool->Shared->Prop}(hz:(intKind prog w).is z x=true)(Rh:x.scannable=true)(hS:SetR prog w s.heap a led S n)(room:n+1<scanBound)
  (k:∀ h',Heap.SameBut a s.heap h'->SetR prog w h' a led (λy=>S y || decide (y=z)) (if S z then n else n+1)->R (!S z) { s with heap:=h' }) :
  wpAny (model prog w) A (setAddHashed a x ((intKind prog w).hash z)) R E s:=by
 obtain⟨o,es,ep,t,ho,hx,hd,he,hm,hb,hf,hn,hr,hl⟩:=hS;unfold setAddHashed setAddHashedIn;refine Sv (XU (Il ho hd hf ?_));dsimp only;rw[if_pos (byScan_of Rh hb he)];unfold setAddByScan;refine XU (XU (GI (XU (wpAny_setScan_of hz ho hd hf he ?_))));cases hw:List.findIdx? (λy=>(intKind prog w).is z y.2) es.toList with
 | some j =>
  obtain⟨j1,j2,_⟩:=List.findIdx?_eq_some_iff_getElem.mp hw;have yes:S z=true:=(hm z).mpr ⟨es.toList[j],MC j1,j2⟩
  have fin:=k s.heap (Heap.SameBut.refl a s.heap) ⟨o,es,ep,t,ho,hx,hd,he,λy=>by rw[xa,Lo,<- hm y];exact⟨λq=>q.elim id λq=>q ▸ yes,.inl⟩,hb,hf,by rw[yes];exact hn,hr,hl⟩
  rw[yes]at fin;dsimp only;exact Yj (Yj fin)
 | none =>
  have no:S z=false:=Bool.eq_false_iff.mpr λq=>by
   obtain⟨y,hy,hp⟩:=(hm z).mp q
   have:=List.findIdx?_eq_none_iff.mp hw y hy
   rw[hp]at this;cases this
  dsimp only;have p:=layNew_perm t es ((intKind prog w).hash z) x
  have f:=layNew_fits t es ((intKind prog w).hash z) x;obtain⟨r,l⟩:=qy hr es ((intKind prog w).hash z) x;generalize layNew t es ((intKind prog w).hash z) x=Z at p f r l ⊢;obtain⟨fs,u,dm,gave⟩:=Z;dsimp only at p f r l ⊢;rw[xm]at p;have ez:fs.size=n+1:=by rw[<- YD,p.length_eq,Xs,YD,hn];rfl
  have gw:∀(b:Bool) {s1:Shared} {R':Unit->Shared->Prop},R' () s1->wpAny (model prog w) A (match b with | true=>rule "set.scan.the-table-gave-way" | false=>pure ()) R' E s1:=λb s1 R' q=>by
   cases b
   .exact Yj q
   .exact GI q
  have fin:∀ h',Heap.SameBut a s.heap h'->SetR prog w h' a led (λy=>S y || decide (y=z)) fs.size->R true { s with heap:=h' }:=λh' q1 q2=>by have q:=k h' q1;rw[no]at q;rw[ez]at q2;exact q q2
  have DB:=(he.push hz Rh).perm p;have Tz:∀ y,(S y || decide (y=z))=true↔∃ v∈fs.toList,(intKind prog w).is y v.2=true:=mem_push_iff hz hm p
  have yQ:fs.size<scanBound:=by lia
  refine XU (gw _ ?_);have tail:∀ v:SetTable,v.fits fs.size=true->RE v->v.led=led->wpAny (model prog w) A (do
    storeSet a fs v
    if (!dm && v.tooFull)=true then do
     (match (relayAll v fs (SetTable.grown fs.size)).2.2 with | true=>rule "set.scan.the-table-gave-way" | false=>pure ())
     storeSet a (relayAll v fs (SetTable.grown fs.size)).1 (relayAll v fs (SetTable.grown fs.size)).2.1
     pure (some true)
    else pure (some true)) (λy s1=>wpAny (model prog w) A (match y with | some added=>pure added | none=>setAddHashedIn a x ((intKind prog w).hash z) 99999) R E s1) E s:=λv a1 a2 a3 =>
   qx (gv:=λb=>match b with | true=>rule "set.scan.the-table-gave-way" | false=>pure ()) (λb s1 R' q=>gw b q) ho hx hd DB Tz yQ a1 a2 λh' q1 q2=>Yj (fin h' q1 (a3 ▸ q2))
  split
  .refine XU ?_;rw[hashByValue_scannable 8 Rh];refine Yj ?_;split
   .exact tail u f r (l.trans hl)
   .exact tail _ (SetTable.fits_plain_off f) r (l.trans hl)
  .refine XU (Yj ?_);rw[if_pos rfl];exact tail u f r (l.trans hl)
end
section
variable{prog:Program}{w:World}{A:Around}{R:Result->Shared->Prop}{I:Addr}{fp wr:List Addr}{G:Array GenState->Array GenState->Prop}{n:Nat}{P:Nat->Value->Prop}{St:Nat->Shared->Prop}
theorem fM(W:WalksS prog w A.in1 I fp wr G n P St)(b:Addr)(LS:b∉fp){led:Bool}(val:Nat->Int)(hv:∀ i v,P i v->∃ t,v=.int (val i) t)(hn:n+1<scanBound) :
  ∀(k i:Nat) (s:Shared),n - i=k->i<=n->St i s->SetR prog w s.heap b led (λz=>(firstMet val i).any (· == z)) (firstMet val i).length ->
   (∀ s',Moved (b :: wr) G s s'->SetR prog w s'.heap b led (λz=>(firstMet val n).any (· == z)) (firstMet val n).length->R (.ok (.ret .none)) s') ->
   codeAny (model prog w) A (.builtin "set.update.loop" ⟨[.ref b,.ref I],[]⟩) R s
 | 0,i,s,hk,hi,st,hS,q=>by
  have e:i=n:=by grind
  subst e;refine Wg F.entry_set_update_loop ?_;rw[Lp xk _];show wpAny _ A.in1 (pyNext (.ref I) >>= _) _ _ s
  refine XU (W.done s _ _ st λs1 m=>?_);show wpAny _ A.in1 (ret Value.none) _ _ s1
  exact Yj (q s1 (m.mono λc hc=>.tail _ hc) (hS.at λo ho=>m.heap b o (λhc=>LS (W.sub _ hc)) ho))
 | k+1,i,s,hk,hi,st,hS,q=>by
  have Xi:i<n:=by grind
  refine Wg F.entry_set_update_loop ?_;rw[Lp xk _];show wpAny _ A.in1 (pyNext (.ref I) >>= _) _ _ s
  refine XU (W.item i s _ _ Xi st λv s1 hP Ke m=>?_);obtain⟨t,rfl⟩:=hv i v hP;have DA:=hS.at (h':=s1.heap) λo ho=>m.heap b o (λhc=>LS (W.sub _ hc)) ho
  show wpAny _ A.in1 (holding [Value.int (val i) t] (setAdd b (.int (val i) t)) >>= _) _ _ s1;refine XU (Sv ?_);unfold setAdd;refine Sv (XU ((intKind prog w).pyHash (k:=val i) (intKind_is _ _ _ _) ?_));have fm:=firstMet_length_le val i
  refine qw (s:={ s1 with toks:=s1.toks+1 }) (intKind_is _ _ _ _) rfl DA (by lia) λh2 sb Em=>?_;have hS3:SetR prog w h2 b led (λz=>(firstMet val (i+1)).any (· == z)) (firstMet val (i+1)).length:=by
   have e1:(λz=>(firstMet val (i+1)).any (· == z))=λy=>((firstMet val i).any (· == y) || decide (y=val i)):=funext λy=>by rw[firstMet_succ,step_any]
   rw[e1,firstMet_succ,step_length];exact Em
  have kept:∀ c o,c≠b->s1.heap.get? c=some o->h2.get? c=some o:=λc o hc e=>(sb.2 c hc).trans e;refine Yj ⟨UE xk _,fM W b LS val hv hn k (i+1) _ (by grind) Xi (W.frame _ s1 _ _ Ke (Um _) λc hc o e=>kept c o (λe'=>LS (e' ▸ hc)) e) hS3 λs2 m2 hS4=>?_⟩;exact q s2 (Moved.trans W.gtrans ((m.mono λc hc=>.tail _ hc).then_heap (Um _) λc o hc e=>kept c o (λe'=>hc (e' ▸ .head _)) e) m2) hS4
end
section
variable{prog:Program}{w:World}{A:Around}{E:Ae}{s:Shared}
def LR (w:World):Obj:={ cls:=.type "set",dict:=none,data:=.set #[] 0 (.fresh 0 0 (!w.params.followText "set-order")) }
theorem Dz(a:Value){Q:Ae}(k:Q (.ref s.heap.objs.size) { s with heap:=s.heap.push (LR w) }) :
  codeAny (model prog w) A (.call (.builtin "set.__new__") ⟨[.type "set",a],[]⟩) (wants Q E) s:=by
 refine codeAny_of_tree ?_;show wpAny _ A.in1 (checkBuiltinCall "set.__new__" ⟨[.type "set",a],[]⟩ >>= λ_=>again (.builtin "set.__new__" ⟨[.type "set",a],[]⟩)) _ _ s
 refine XU (Ot (F.newCall_set_1 a) (Yj ⟨UE F.plain_set_new _,Wg F.entry_set_new ?_⟩));rw[Lp F.plain_set_new _];have DY:=sub_set_self
 unfold Builtin.«set.__new__» Builtin.Frozenset.newClass;obtain⟨hp,g,d,tk,os⟩:=s;dsimp only
 wp_walk
 refine Ij (Yj ?_);simp only [newObj];refine XU (wpAny_alloc (Yj (Yj k)))
theorem ZT7 {h:Heap} {a:Addr} (e:h.get? a=some (LR w)):SetR prog w h a (!w.params.followText "set-order") (λz=>(firstMet (λ_=>0) 0).any (· == z)) 0:=by refine⟨_,#[],0,_,e,⟨rfl,rfl,rfl⟩,rfl,λy hy=>(by cases hy),λz=>⟨λq=>(by cases q),λ⟨y,hy,_⟩=>(by cases hy)⟩,by decide,by simp[SetTable.fits,SetTable.fresh,SetTable.fill],rfl,.nil,rfl⟩
theorem ZO9{l:Addr}{items:Array Value}{ns:Ac}{h0:Heap}{b:Addr}{Q:Ae}(hh:A.handled=none)(Nr:h0.get? b=some (LR w))(hl:h0.IsList l items)(XJ:l≠b)(hi:IntsAre items.toList ns)(hn:items.size+1<scanBound)
  (k:∀ h' tk,SetR prog w h' b (!w.params.followText "set-order") (λz=>(firstMet (λi=>ns.getD i 0) items.size).any (· == z)) (firstMet (λi=>ns.getD i 0) items.size).length->(∀ c o,c≠b->h0.get? c=some o->h'.get? c=some o)->Q .none { s with heap:=h',toks:=tk }) :
  wpAny (model prog w) A.in1 (Builtin.«set.__init__» ⟨[.ref b,.ref l],[]⟩) (λfin s'=>match fin with | .done f=>wants Q E (.ok f) s' | .again c'=>c'.quiet=true/\codeAny (model prog w) A c' (wants Q E) s') (λe s'=>wants Q E (.error e) s') { s with heap:=h0 }:=by
 have hT:Shared.TypeIs { s with heap:=h0 } (.ref b) "set":=⟨_,Nr,rfl⟩;have QZ:=hl
 obtain⟨⟨ocls,fL,fK,qv⟩,Rg,Vi,nl,yP⟩:=hl;simp only at Vi yP;subst Vi yP;have q1:=F.sub_list_set
 have q2:=F.sub_list_frozenset;have q3:(Value.type "list" == Value.type "dict")=false:=by decide
 unfold LR at Nr;unfold Builtin.«set.__init__» noKeywords Builtin.Frozenset.updateFrom;generalize hPI:pyIter=PI
 wp_walk
 subst hPI;refine w9 QZ ?_;refine XU (Aw ?_);have qu:l<h0.objs.size:=Yl Rg
 have ltb:b<h0.objs.size:=Yl Nr;have bf:b∉[h0.objs.size,l]:=λq=>by
  rcases Yg.mp q with e | e
  .exact Yt ltb e
  .exact XJ (XD.mp e).symm
 refine fM ((Walks.list (A:=A.in1.in1) (by simp [hh]) _ l (Yt qu) items).toS) b bf (led:=!w.params.followText "set-order") (λi=>ns.getD i 0) (λi v hv=>IntsAre.int_at hi i v (by rw [YT];exact hv)) hn (items.size - 0) 0 _ (by lia) (Yo _)
  ⟨⟨_,Ym _ rfl,rfl,rfl⟩,QZ.push _⟩ ?_ ?_
 .exact ZT7 (Xc _ Nr)
 .rintro⟨h',g',d',tk',vG⟩ m hS;have e1:g'=s.gens:=m.gens
  have e2:d'=s.drawn:=m.drawn;have e3:vG=s.os:=m.os
  subst e1 e2 e3;show wpAny _ _ _ _ _ _
  refine Yj ?_;show wpAny _ _ (ret Value.none) _ _ _
  refine Yj (k h' tk' hS λc o hc e=>m.heap c o (λq=>?_) (Xc _ e));rcases Yg.mp q with e' | e'
  .exact hc e'
  .exact Yt (Yl e) (XD.mp e')
set_option maxRecDepth 100000 in
set_option maxHeartbeats 3000000 in
theorem qt{l:Addr}{items:Array Value}{ns:Ac}{Q:Ae}(hh:A.handled=none)(hl:s.heap.IsList l items)(hi:IntsAre items.toList ns)(hn:items.size+1<scanBound)
  (k:∀ h' tk,SetR prog w h' s.heap.objs.size (!w.params.followText "set-order") (λz=>(firstMet (λi=>ns.getD i 0) items.size).any (· == z)) (firstMet (λi=>ns.getD i 0) items.size).length->(∀ c o,s.heap.get? c=some o->h'.get? c=some o)->Q (.ref s.heap.objs.size) { s with heap:=h',toks:=tk }) :
  wpAny (model prog w) A (call (.type "set") [.ref l]) Q E s:=by
 obtain⟨c,tl,hmro⟩:=Mu.mro;have a1:=Mu.made
 have a2:=Mu.sub;have a3:=Mu.notType
 have a4:=Mu.canCreate;have a5:=F.typeCall_set_1 (.ref l)
 refine Ib (codeAny_of_tree ?_);show wpAny _ _ (callAny (.type "set") _) _ _ _
 refine Yj ⟨GX _ (by decide +kernel),Wg F.entry_type_call ?_⟩;rw [Around.under_plain (weight_type_call_type "set" [.ref l] []) rfl]
 repeat any_goals first | assumption | wp_step
 refine Ow (Dz (.ref l) (E:=E) (Q:=λob s1=>ob=.ref s.heap.objs.size/\s1={ s with heap:=s.heap.push (LR w) }) ⟨rfl,rfl⟩) λr s1 hr=>?_
 match r,hr with
 | .error e,hr=>exact hr
 | .ok (.ret ob),hr =>
  obtain⟨rfl,rfl⟩:=hr;have Nr:(s.heap.push (LR w)).get? s.heap.objs.size=some (LR w):=Ym _ rfl
  have hT:Shared.TypeIs { s with heap:=s.heap.push (LR w) } (.ref s.heap.objs.size) "set":=⟨_,Nr,rfl⟩;have a6:=Mu.init.lookup
  have a7:=Mu.init.bind (.ref s.heap.objs.size)
  repeat any_goals first | assumption | wp_step
  have qu:l<s.heap.objs.size:=let ⟨_,e,_⟩:=hl;Yl e
  refine Ow (AG (R:=wants (λr s2=>r=.none/\Q (.ref s.heap.objs.size) s2) E) Mu.init.plain F.entry_set_init (check_set_init_1 hT (ZO9 (A:=_) (s:=s) ?_ Nr (hl.push _) (Yt qu) hi hn λh' tk hS kp=>⟨rfl,k h' tk hS λc o e=>kp c o (Yt (Yl e)) (Xc _ e)⟩))) λr2 s2 Vh=>?_
  .simp[hh]
  .match r2,Vh with
   | .error e,Vh=>exact Vh
   | .ok (.ret v),Vh =>
    obtain⟨rfl,q⟩:=Vh
    repeat any_goals first | assumption | wp_step
end
theorem fJ:Manifest.owners.lookup (String.ofList ['r','o','t','a','r','e','t','i','_','t','e','s'].reverse)=some Manifest.sig_set_iterator:=by kernel_rfl
theorem Xf:PySem.Slot "set_iterator" "__next__" "set_iterator.__next__" :=
 .of (owner:="set_iterator") (n:="__next__") (by rw [Ii,Io];kernel_rfl) (by decide +kernel) (by decide +kernel) (by decide +kernel)
  (by first | exact .inl (by decide +kernel) | exact .inr (by decide +kernel)) (by rw[Au];kernel_rfl)
theorem yN:entryFor table "set_iterator.__next__"=some Builtin.«set_iterator.__next__»:=entryFor_of_tree (by kernel_rfl)
theorem yM (a:Value):argsOk "set_iterator.__next__" ⟨[a],[]⟩:=by unfold argsOk;rw [signature?_of (id:="set_iterator.__next__") (n:=['_','_','t','x','e','n','_','_']) (o:=['r','o','t','a','r','e','t','i','_','t','e','s']) (by kernel_rfl) fJ];kernel_rfl
theorem fI:PySem.Slot "set_iterator" "__iter__" "set_iterator.__iter__" :=
 .of (owner:="set_iterator") (n:="__iter__") (by rw [Ii,Io];kernel_rfl) (by decide +kernel) (by decide +kernel) (by decide +kernel)
  (by first | exact .inl (by decide +kernel) | exact .inr (by decide +kernel)) (by rw[Au];kernel_rfl)
theorem ZI9 (a:Value):argsOk "set_iterator.__iter__" ⟨[a],[]⟩:=by unfold argsOk;rw [signature?_of (id:="set_iterator.__iter__") (n:=['_','_','r','e','t','i','_','_']) (o:=['r','o','t','a','r','e','t','i','_','t','e','s']) (by kernel_rfl) fJ];kernel_rfl
theorem ZH9:entryFor table "set_iterator.__iter__"=some Builtin.«dict_keyiterator.__iter__» :=
 entryFor_alias (id':="dict_keyiterator.__iter__") (by kernel_rfl) (by first | rfl | decide +kernel | (unfold String.splitOn;simp +decide [String.splitOnAux])) (by decide +kernel) (by kernel_rfl)
theorem ZC9:Manifest.owners.lookup (String.ofList ['t','e','s'].reverse)=some Manifest.sig_set:=by kernel_rfl
theorem fH:PySem.Slot "set" "__iter__" "set.__iter__" :=
 .of (owner:="set") (n:="__iter__") (by rw [Ii,Io];kernel_rfl) (by decide +kernel) (by decide +kernel) (by decide +kernel)
  (by first | exact .inl (by decide +kernel) | exact .inr (by decide +kernel)) (by rw[Au];kernel_rfl)
theorem ZE9 (a:Value):argsOk "set.__iter__" ⟨[a],[]⟩:=by unfold argsOk;rw [signature?_of (id:="set.__iter__") (n:=['_','_','r','e','t','i','_','_']) (o:=['t','e','s']) (by kernel_rfl) ZC9];kernel_rfl
theorem ZD9:entryFor table "set.__iter__"=some Builtin.«frozenset.__iter__» :=
 entryFor_alias (id':="frozenset.__iter__") (by kernel_rfl) (by first | rfl | decide +kernel | (unfold String.splitOn;simp +decide [String.splitOnAux])) (by decide +kernel) (by kernel_rfl)
def IsSi (h:Heap) (I a:Addr) (f:Value) (i n ep:Nat):Prop:=∃ o,h.get? I=some o/\o.cls=.type "set_iterator"/\o.data=.fields #[f,rawInt (i:Int),.ref a,rawInt (n:Int),rawInt (ep:Int)]
theorem IsSi.ty {s:Shared} {I a:Addr} {f:Value} {i n ep:Nat} (x:IsSi s.heap I a f i n ep):s.TypeIs (.ref I) "set_iterator":=let ⟨o,p,q,_⟩:=x;⟨o,p,q⟩
theorem IsSi.keep{h h':Heap}{I a:Addr}{f:Value}{i n ep:Nat}(x:IsSi h I a f i n ep)(e:∀ o,h.get? I=some o->h'.get? I=some o):IsSi h' I a f i n ep:=let ⟨o,p,q⟩:=x;⟨o,e _ p,q⟩
def SetIs(h:Heap)(a:Addr)(es:Array (Int × Value))(ep:Nat)(t:SetTable):Prop:=∃ o,h.get? a=some o/\o.ExactSet/\o.data=.set es ep t
theorem SetIs.keep{h h':Heap}{a:Addr}{es:Array (Int × Value)}{ep:Nat}{t:SetTable}(x:SetIs h a es ep t)(e:∀ o,h.get? a=some o->h'.get? a=some o):SetIs h' a es ep t:=let ⟨o,p,q⟩:=x;⟨o,e _ p,q⟩
section
variable{prog:Program}{w:World}{A:Around}{E:Ae}{s:Shared}
theorem Zy7{M:Model}{src:Source}{n:Nat}{Q:Nat->Shared->Prop}(hn:n≠0)(k:∀ i,i<n->∀ d,Q i { s with drawn:=d }):wpAny M A (choose src n) Q E s :=
 λΓ p _=>⟨hn,k _ (Nat.mod_lt _ (Nat.pos_of_ne_zero hn)) _⟩
theorem qr{α:Type}:∀ {l:List α} {i:Nat} {y:α},l[i]?=some y->(y :: l.eraseIdx i).Perm l
 | [],_,_,h=>by simp at h
 | x :: l,0,y,h=>by obtain rfl:x=y:=Yi h;exact .rfl
 | x :: l,i+1,y,h=>(List.Perm.swap x y (l.eraseIdx i)).trans ((qr (l:=l) (i:=i) h).cons x)
theorem fG{M:Model}{α:Type}:∀(n:Nat) (xs:List α) (s:Shared) (Q:List α->Shared->Prop),n=xs.length->(∀ ys d,ys.Perm xs->Q ys { s with drawn:=d })->wpAny M A (drawOrder n xs) Q E s
 | 0,xs,s,Q,h,k=>by have e:xs=[]:=YQ.mp h.symm;subst e;exact Yj (k [] s.drawn .rfl)
 | n+1,[],s,Q,h,k=>by cases h
 | n+1,x :: xs,s,Q,h,k=>by show wpAny M A (choose .order (x :: xs).length >>= _) Q E s;refine XU (Zy7 (by simp) λi hi d=>?_);obtain⟨y,hy⟩:∃ y,(x :: xs)[i]?=some y:=⟨_,Xo hi⟩;rw[hy];dsimp only;refine XU (fG n ((x :: xs).eraseIdx i) _ _ (by rw[GJ hi];lia) λys d' hp=>Yj (k (y :: ys) d' ?_));exact(hp.cons y).trans (qr hy)
theorem fF{α:Type}{f:Nat->Nat}:∀(n k:Nat) (l:List α) (out:Array α),n=l.length->(pickOrder.go f n k l out).toList.Perm (out.toList++l)
 | 0,k,l,out,h=>by rw[YQ.mp h.symm,YF];exact .rfl
 | n+1,k,l,out,h=>by have hi:f k % l.length<l.length:=Nat.mod_lt _ (by lia);obtain⟨y,hy⟩:∃ y,l[f k % l.length]?=some y:=⟨_,Xo hi⟩;unfold pickOrder.go;rw[hy];dsimp only;refine(fF n (k+1) _ _ (by rw[GJ hi];lia)).trans ?_;rw[xm,QU];refine List.Perm.append_left _ ?_;exact qr hy
theorem fE{I a:Addr}{f:Value}{i n ep:Nat}{Q:Ae}(hr:IsSi s.heap I a f i n ep)(h:Q (.ref I) s):wpAny (model prog w) A (pyIter (.ref I)) Q E s:=by
 refine wpAny_pyIter_slot hr.ty fI (MA fI hr.ty ZH9 ?_ (ZI9 _));show wpAny _ _ (ret (.ref I)) _ _ s
 exact Yj ⟨_,rfl,"set_iterator",_,hr.ty,Xf.lookup,h⟩
def Hw(prog:Program)(w:World)(a:Addr)(es:Array (Int × Value))(ep:Nat)(t:SetTable)(ord:Ag)(sl:Nat->Nat):Prop :=
 ∀(A:Around) (E:Ae) (s:Shared) (i:Nat) (Q:Option (Value × Nat)->Shared->Prop),SetIs s.heap a es ep t->i<=ord.length->Q ((ord[i]?).map λx=>(x,sl (i+1))) s->wpAny (model prog w) A (setNext a (sl i) i ep) Q E s
theorem qq{I a:Addr}{es:Array (Int × Value)}{ep:Nat}{t:SetTable}{ord:Ag}{sl:Nat->Nat}{i:Nat}{x:Value}{Q:Option Value->Shared->Prop}(hN:Hw prog w a es ep t ord sl)(hS:SetIs s.heap a es ep t)(hf:t.fits es.size=true)(hi:IsSi s.heap I a (rawInt (sl i:Nat)) i es.size ep)(hx:ord[i]?=some x)
  (k:∀ h',IsSi h' I a (rawInt (sl (i+1):Nat)) (i+1) es.size ep->Heap.SameBut I s.heap h'->Q (some x) { s with heap:=h' }):wpAny (model prog w) A (pyNext (.ref I)) Q E s:=by
 obtain⟨o,ho,hc,hd⟩:=id hi;obtain⟨oa,LQ,qp,RD⟩:=id hS;unfold pyNext;refine XU (GO (AK (name:=Str.ofString "__next__") hi.ty Xf (MA Xf hi.ty yN ?_ (yM _))));unfold Builtin.«set_iterator.__next__»;refine XU (Ot (a:=(Value.ref I,[])) rfl ?_);dsimp only;refine XU (Av ho hd ?_);dsimp only [rawInt];refine XU (Ha LQ RD hf ?_);rw[if_neg (by simp)];rw[YA,YA,YA];refine XU (hN _ _ s i _ hS (UB (Xp.mp hx).1) ?_);rw[hx];dsimp only [Option.map_some];refine XU (Ih ho hd (by simp) ?_);have SQ:=Vx (Obj.mapFields (λvs=>vs.setIfInBounds 0 (rawInt (sl (i+1):Nat)))) ho (AH (Pd hd _))
 refine XU (Ih SQ (Pd hd _) (by simp) ?_);refine Yj ⟨x,rfl,Yj (k _ ⟨_,Vx _ SQ (AH (Pd (Pd hd _) _)),?_,?_⟩ ((MG ..).trans (MG ..)))⟩
 .rw[w6,w6];exact hc
 .rw[Pd (Pd hd _)];simp;rfl
theorem Dy{I a:Addr}{es:Array (Int × Value)}{ep:Nat}{t:SetTable}{ord:Ag}{sl:Nat->Nat}{Q:Option Value->Shared->Prop}(hh:A.handled=none)(hN:Hw prog w a es ep t ord sl)(hS:SetIs s.heap a es ep t)(hf:t.fits es.size=true)(hi:IsSi s.heap I a (rawInt (sl ord.length:Nat)) ord.length es.size ep)
  (k:∀ h',Heap.ExtBut I s.heap h'->Q none { s with heap:=h' }):wpAny (model prog w) A (pyNext (.ref I)) Q E s:=by
 obtain⟨o,ho,hc,hd⟩:=id hi;obtain⟨oa,LQ,qp,RD⟩:=id hS;unfold pyNext;refine XU (GO (AK (name:=Str.ofString "__next__") hi.ty Xf (MA Xf hi.ty yN ?_ (yM _))));unfold Builtin.«set_iterator.__next__»;refine XU (Ot (a:=(Value.ref I,[])) rfl ?_);dsimp only;refine XU (Av ho hd ?_);dsimp only [rawInt];refine XU (Ha LQ RD hf ?_);rw[if_neg (by simp)];rw[YA,YA,YA];refine XU (hN _ _ s ord.length _ hS (XO _) ?_);rw[Vy (XO _)];dsimp only [Option.map_none];refine XU (Ih ho hd (by simp) ?_);show wpAny _ _ (newExc (.type "StopIteration") [] >>= _) _ _ _
 refine XU ?_;simp only [newExc,newTuple];refine XU (OA ?_ (by size_fits));refine XU (m:=firstArgMember _ _) (Ot (a:=Value.none) (by first | rfl | (simp only [firstArgMember];rfl)) ?_)
 refine OA ?_ (by size_fits);simp only [raiseNew];refine XU (wpAny_handled ?_);rw[show A.in1.handled=none from hh];refine XU (Yj (wpAny_throw ?_));refine XU (AA (T:="StopIteration") (b:=true) ⟨_,Ym _ rfl,rfl⟩ isSubtype_stop ?_);exact Yj (k _ ((((MG ..).extBut).push _).push _))
theorem ZG9{I a:Addr}{es:Array (Int × Value)}{ep:Nat}{t:SetTable}{ord:Ag}{sl:Nat->Nat}(hh:A.handled=none)(hN:Hw prog w a es ep t ord sl)(hf:t.fits es.size=true)(XJ:a≠I) :
  Walks prog w A I [I,a] [I] ord.length (λi v=>ord[i]?=some v) (λi h=>i<=ord.length/\IsSi h I a (rawInt (sl i:Nat)) i es.size ep/\SetIs h a es ep t) where
 sub:=λb hb=>Yg.mpr (.inl (XD.mp hb))
 frame:=λ_ _ _ x hk=>⟨x.1,x.2.1.keep λo e=>hk I (by simp) o e,x.2.2.keep λo e=>hk a (by simp) o e⟩
 item:=λi s Q E hi ⟨_,x1,x2⟩ hQ=>by have hx:ord[i]?=some (ord[i]'hi):=Xo hi;exact qq hN x2 hf x1 hx λh' y hs=>hQ _ h' s.toks hx ⟨hi,y,x2.keep λo e=>(hs.2 a XJ).trans e⟩ λb o hb eo=>hs.extBut b o (λe=>hb (by simp[e])) eo
 done:=λs Q E ⟨_,x1,x2⟩ hQ=>Dy hh hN x2 hf x1 λh' he=>hQ h' s.toks λb o hb eo=>he b o (λe=>hb (by simp[e])) eo
 self:=λ_ _ _ _ x hQ=>fE x.2.1 hQ
theorem Dx {a:Addr} {es:Array (Int × Value)} {ep:Nat} {t:SetTable} (hf:t.fits es.size=true) (hr:RE t) (hb:w.params.followText "set-order"=false) (hl:t.led=true) (hd:(!t.plain && decide (es.size > 1))=false) :
  Hw prog w a es ep t (es.toList.map (·.2)) (λi=>if i=0 then 0 else (t.place.getD (i - 1) 0)+1):=by
 intro A E s i Q ⟨o,ho,hx,RD⟩ hi q;have hps:t.place.size=es.size:=by unfold SetTable.fits at hf;simp only [MB,SW]at hf;exact hf.1
 rw[Yd,YD]at hi;unfold setNext;refine XU (Il ho RD hf ?_);dsimp only;refine XU ?_;unfold setsByText;refine XU (Ij (Yj ?_));show wpAny _ _ (if (w.params.followText "set-order")=true then _ else _) _ _ _
 rw[if_neg (by rw[hb];decide)];show wpAny _ _ (if (!t.plain && decide (es.size > 1))=true then _ else _) _ _ _
 rw[if_neg (by rw[hd];decide)];refine XU ?_;show wpAny _ _ (if (!t.led && !es.isEmpty)=true then _ else _) _ _ _
 rw[if_neg (by rw[hl];simp)];refine Yj ?_;have eb:SetTable.below t.place (if i=0 then 0 else (t.place.getD (i - 1) 0)+1)=i:=by
  by_cases c:i=0
  .rw[if_pos c,c];exact ZB7 hr
  .rw[if_neg c];obtain⟨v,hv⟩:∃ v,t.place[i - 1]?=some v:=⟨_,YE (by lia)⟩;have e:t.place.getD (i - 1) 0=v:=by rw[Yy,hv];rfl
   rw[e,ZC7 hr hv];lia
 rw[eb];refine Yj ?_;by_cases c:i<es.size
 .obtain⟨v,hv⟩:∃ v,t.place[i]?=some v:=⟨_,YE (by lia)⟩;obtain⟨y,hy⟩:∃ y,es[i]?=some y:=⟨_,YE c⟩;have e:t.place.getD i 0=v:=by rw[Yy,hv];rfl
  rw[Yp,YT,hy]at q;rw[hv,hy];simp only [KW,xr,e,if_neg (Nat.succ_ne_zero i)]at q;exact q
 .have e1:es[i]?=none:=AL (by lia);rw[Yp,YT,e1]at q;rw[e1];exact q
theorem ZZ7 {a:Addr} {es:Array (Int × Value)} {ep:Nat} {t:SetTable} (hf:t.fits es.size=true) (hb:w.params.followText "set-order"=true) :
  Hw prog w a es ep t ((pickOrder (w.params.setOrder a ep) es).toList.map (·.2)) (λ_=>0):=by
 intro A E s i Q ⟨o,ho,hx,RD⟩ hi q;unfold setNext;refine XU (Il ho RD hf ?_);dsimp only;refine XU ?_;unfold setsByText;refine XU (Ij (Yj ?_));show wpAny _ _ (if (w.params.followText "set-order")=true then _ else _) _ _ _
 rw[if_pos hb,if_neg (by simp)];refine XU ?_;unfold setWalk;refine XU (Il ho RD hf ?_);dsimp only;refine XU ?_;unfold setsByText;refine XU (Ij (Yj ?_));show wpAny _ _ (if (w.params.followText "set-order")=true then _ else _) _ _ _
 rw[if_pos hb];refine XU (Ij (Yj ?_));rw[Yp,YT,Option.map_map]at q;exact Yj q
def IsPl(h:Heap)(b:Addr)(pl:List Nat):Prop:=∃ o n,h.get? b=some o/\o.data=.seq (pl.map λ(i:Nat)=>rawInt (i:Int)).toArray n
theorem IsPl.keep{h h':Heap}{b:Addr}{pl:List Nat}(x:IsPl h b pl)(e:∀ o,h.get? b=some o->h'.get? b=some o):IsPl h' b pl:=let ⟨o,n,p,q⟩:=x;⟨o,n,e _ p,q⟩
theorem qo{I a b:Addr}{es:Array (Int × Value)}{ep:Nat}{t:SetTable}{pl:List Nat}{i j:Nat}{x:Int × Value}{Q:Option Value->Shared->Prop}(hS:SetIs s.heap a es ep t)(hf:t.fits es.size=true)(hi:IsSi s.heap I a (.ref b) i es.size ep)(hb:IsPl s.heap b pl)(hj:pl[i]?=some j)(hx:es[j]?=some x)
  (k:∀ h',IsSi h' I a (.ref b) (i+1) es.size ep->Heap.SameBut I s.heap h'->Q (some x.2) { s with heap:=h' }):wpAny (model prog w) A (pyNext (.ref I)) Q E s:=by
 obtain⟨o,ho,hc,hd⟩:=id hi;obtain⟨oa,LQ,qp,RD⟩:=id hS;obtain⟨ob,nb,RP,TX⟩:=hb;unfold pyNext;refine XU (GO (AK (name:=Str.ofString "__next__") hi.ty Xf (MA Xf hi.ty yN ?_ (yM _))));unfold Builtin.«set_iterator.__next__»;refine XU (Ot (a:=(Value.ref I,[])) rfl ?_);dsimp only;refine XU (Av ho hd ?_);dsimp only [rawInt];refine XU (Ha LQ RD hf ?_);rw[if_neg (by simp)];refine XU (Ll RP TX ?_);dsimp only;have e:(pl.map λ(i:Nat)=>rawInt (i:Int)).toArray[(i:Int).toNat]?=some (.int (j:Int) 0):=by rw[YA,jt,Yp,hj];rfl
 rw[e];dsimp only;rw[YA,YA];refine XU ?_;unfold setNextDrawn;refine XU (Il LQ RD hf ?_);dsimp only;rw[if_neg (by simp),hx];refine Yj ?_;refine XU (Ih ho hd (by simp) ?_);refine Yj ⟨x.2,rfl,Yj (k _ ⟨_,Vx _ ho (AH (Pd hd _)),?_,?_⟩ (MG ..))⟩
 .rw[w6];exact hc
 .rw[Pd hd];simp;rfl
theorem qm{I a b:Addr}{es:Array (Int × Value)}{ep:Nat}{t:SetTable}{pl:List Nat}{Q:Option Value->Shared->Prop}(hh:A.handled=none)(hS:SetIs s.heap a es ep t)(hf:t.fits es.size=true)(hi:IsSi s.heap I a (.ref b) pl.length es.size ep)(hb:IsPl s.heap b pl)
  (k:∀ h',Heap.ExtBut I s.heap h'->Q none { s with heap:=h' }):wpAny (model prog w) A (pyNext (.ref I)) Q E s:=by
 obtain⟨o,ho,hc,hd⟩:=id hi;obtain⟨oa,LQ,qp,RD⟩:=id hS;obtain⟨ob,nb,RP,TX⟩:=hb;unfold pyNext;refine XU (GO (AK (name:=Str.ofString "__next__") hi.ty Xf (MA Xf hi.ty yN ?_ (yM _))));unfold Builtin.«set_iterator.__next__»;refine XU (Ot (a:=(Value.ref I,[])) rfl ?_);dsimp only;refine XU (Av ho hd ?_);dsimp only [rawInt];refine XU (Ha LQ RD hf ?_);rw[if_neg (by simp)];refine XU (Ll RP TX ?_);dsimp only;have e:(pl.map λ(i:Nat)=>rawInt (i:Int)).toArray[(pl.length:Int).toNat]?=none:=by rw[YA,jt];exact Vy (by simp)
 rw[e];dsimp only;refine XU (Ih ho hd (by simp) ?_);have SQ:=Vx (Obj.mapFields (λvs=>vs.setIfInBounds 0 (rawInt 0))) ho (AH (Pd hd _))
 refine XU (Ih SQ (Pd hd _) (by simp) ?_);show wpAny _ _ (newExc (.type "StopIteration") [] >>= _) _ _ _
 refine XU ?_;simp only [newExc,newTuple];refine XU (OA ?_ (by size_fits));refine XU (m:=firstArgMember _ _) (Ot (a:=Value.none) (by first | rfl | (simp only [firstArgMember];rfl)) ?_)
 refine OA ?_ (by size_fits);simp only [raiseNew];refine XU (wpAny_handled ?_);rw[show A.in1.handled=none from hh];refine XU (Yj (wpAny_throw ?_));refine XU (AA (T:="StopIteration") (b:=true) ⟨_,Ym _ rfl,rfl⟩ isSubtype_stop ?_);exact Yj (k _ (((((MG ..).trans (MG ..)).extBut).push _).push _))
theorem ZL9{I a b:Addr}{es:Array (Int × Value)}{ep:Nat}{t:SetTable}{pl:List Nat}(hh:A.handled=none)(hp:pl.Perm (List.range es.size))(hf:t.fits es.size=true)(XJ:a≠I)(hnb:b≠I) :
  Walks prog w A I [I,a,b] [I] pl.length (λi v=>(pl.filterMap λj=>(es[j]?).map (·.2))[i]?=some v) (λi h=>i<=pl.length/\IsSi h I a (.ref b) i es.size ep/\SetIs h a es ep t/\IsPl h b pl) where
 sub:=λc hc=>Yg.mpr (.inl (XD.mp hc))
 frame:=λ_ _ _ x hk=>⟨x.1,x.2.1.keep λo e=>hk I (by simp) o e,x.2.2.1.keep λo e=>hk a (by simp) o e,x.2.2.2.keep λo e=>hk b (by simp) o e⟩
 item:=λi s Q E hi ⟨_,x1,x2,x3⟩ hQ=>by
  have hj:pl[i]?=some (pl[i]'hi):=Xo hi;have Xi:=YI.mp (hp.mem_iff.mp (Xd hj))
  have hx:es[pl[i]'hi]?=some (es[pl[i]'hi]'Xi):=YE Xi;have fm:∀(l:List Nat),(∀ j∈l,j<es.size)->l.filterMap (λj=>(es[j]?).map (·.2))=l.map λj=>(es.getD j (0,.none)).2:=λl hl=>by
   induction l with
   | nil=>rfl
   | cons y l ih =>
    have hy:=hl y Ye;rw[Hd,Wz,ih λj h=>hl j (Yh _ h),YE hy,Yy,YE hy];rfl
  have hv:(pl.filterMap λj=>(es[j]?).map (·.2))[i]?=some (es[pl[i]'hi]'Xi).2:=by rw[fm pl λj hj=>YI.mp (hp.mem_iff.mp hj),Yp,hj,KW,Yy,hx];rfl
  exact qo x2 hf x1 x3 hj hx λh' y hs=>hQ _ h' s.toks hv ⟨hi,y,x2.keep λo e=>(hs.2 a XJ).trans e,x3.keep λo e=>(hs.2 b hnb).trans e⟩ λc o hc eo=>hs.extBut c o (λe=>hc (by simp[e])) eo
 done:=λs Q E ⟨_,x1,x2,x3⟩ hQ=>qm hh x2 hf x1 x3 λh' he=>hQ h' s.toks λc o hc eo=>he c o (λe=>hc (by simp[e])) eo
 self:=λ_ _ _ _ x hQ=>fE x.2.1 hQ
end
section
variable{prog:Program}{w:World}{A B:Around}{E:Ae}{s:Shared}
theorem SetIs.ty {a:Addr} {es:Array (Int × Value)} {ep:Nat} {t:SetTable} (x:SetIs s.heap a es ep t):s.TypeIs (.ref a) "set":=let ⟨o,p,q,_⟩:=x;⟨o,p,q.1⟩
theorem ZK9 {a:Addr} {es:Array (Int × Value)} {ep:Nat} {t:SetTable} {Q:Ae} (hh:A.handled=none) (hS:SetIs s.heap a es ep t) (hf:t.fits es.size=true) (hr:RE t) (hl:t.led=!w.params.followText "set-order") (hz:es.size<=sizeLine)
  (k:∀(I:Addr) (h':Heap) d (ord:Ag) (fp:List Addr) (St:Nat->Heap->Prop),ord.Perm (es.toList.map (·.2))->Walks prog w A I fp [I] ord.length (λi v=>ord[i]?=some v) St->St 0 h'->(∀ b∈fp,b<h'.objs.size/\(b=a\/s.heap.objs.size<=b))->I∈fp->s.heap.objs.size<=I->(∀ c o,s.heap.get? c=some o->h'.get? c=some o)->Q (.ref I) { s with heap:=h',drawn:=d }) :
  wpAny (model prog w) B (pyIter (.ref a)) Q E s:=by
 obtain⟨o,ho,hx,hd⟩:=id hS;have LP:a<s.heap.objs.size:=Yl ho
 refine wpAny_pyIter_slot hS.ty fH (MA fH hS.ty ZD9 ?_ (ZE9 _));unfold Builtin.«frozenset.__iter__»;refine XU (Ot (a:=a) rfl ?_);refine XU ?_;unfold Builtin.Frozenset.sizeOf;refine XU (Ha ho hd hf (Yj ?_));refine XU ?_;unfold setDrawn;refine XU (Il ho hd hf ?_);dsimp only;refine XU ?_;unfold setsByText;refine XU (Ij (Yj (Yj ?_)));have num:∀(ord:Ag) (sl:Nat->Nat),sl 0=0->Hw prog w a es ep t ord sl->ord.Perm (es.toList.map (·.2))->wpAny (model prog w) B.in1 (pure (rawInt 0) >>= λfirst=>setEpoch a >>= λe=>newFields "set_iterator" [first,rawInt 0,.ref a,rawInt (es.size:Int),rawInt (e:Int)] >>= λit=>ret it)
   (λfin s'=>∃ v,fin=Fin.done (Flow.ret v)/\∃ T' r,s'.TypeIs v T'/\typeLookup (Value.type T') (Str.ofString "__next__")=pure (some r)/\Q v s') E s:=λord sl h0 hN hp=>by
  refine XU (Yj (XU (wpAny_setEpoch_of ho hd hf (XU ?_))));unfold newFields;refine OA ?_ (by size_fits);have hI:IsSi (s.heap.push { cls:=.type "set_iterator",data:=.fields [rawInt 0,rawInt 0,.ref a,rawInt (es.size:Int),rawInt (ep:Int)].toArray }) s.heap.objs.size a (rawInt (sl 0:Nat)) 0 es.size ep:=⟨_,Ym _ rfl,rfl,by rw [h0];rfl⟩
  refine Yj ⟨_,rfl,"set_iterator",_,IsSi.ty (s:={ s with heap:=_ }) hI,Xf.lookup,?_⟩;have ne:a≠s.heap.objs.size:=Yt LP
  refine k _ _ s.drawn ord _ _ hp (ZG9 hh hN hf ne) ⟨Yo _,hI,hS.keep λo e=>Xc _ e⟩ (λb hb=>?_) (by simp) (XO _) λc o e=>Xc _ e;rw[Oy];rcases Yg.mp hb with e | e
  .rw[e];exact⟨Pb _,.inr (XO _)⟩
  .rw[XD.mp e];exact⟨RZ LP,.inl rfl⟩
 by_cases hb:w.params.followText "set-order"=true
 .rw [if_neg (by show ¬ (!w.params.followText "set-order" && _)=true;rw [hb];simp)];refine num _ (λ_=>0) rfl (ZZ7 hf hb) ?_
  have:=fF (f:=w.params.setOrder a ep) es.size 0 es.toList #[] (by rw[YD])
  exact this.map _
 .have Qt:w.params.followText "set-order"=false:=by simpa using hb
  rw[Qt]at hl;by_cases c:(!t.plain && decide (es.size > 1))=true
  .rw [if_pos (by show(!w.params.followText "set-order" && (!t.plain && decide (es.size > 1)))=true;rw [Qt,c];rfl)];refine XU (fG es.size (List.range es.size) s _ (by rw[Pc]) λpl d hp=>?_);have Vj:pl.length=es.size:=by rw[hp.length_eq,Pc]
   refine XU (wpAny_newTuple ?_ (by rw[Yd,Vj];exact hz));have hoS:∀(h:Heap) o,h.get? a=some o->(h.push { cls:=.type "tuple",data:=.seq (List.map (λi=>rawInt ((i:Nat):Int)) pl).toArray }).get? a=some o:=λh o e=>Xc _ e
   refine XU (wpAny_setEpoch_of (hoS s.heap o ho) hd hf (XU ?_));unfold newFields;refine OA ?_ (by size_fits);have ne:a≠s.heap.objs.size:=Yt LP
   generalize Ec:s.heap.push { cls:=.type "tuple",data:=.seq (List.map (λi=>rawInt ((i:Nat):Int)) pl).toArray }=h1;have s1:h1.objs.size=s.heap.objs.size+1:=by rw[<- Ec];exact Oy ..
   have Dw:∀ c o,s.heap.get? c=some o->h1.get? c=some o:=λc o e=>by rw[<- Ec];exact Xc _ e
   have Nq:IsPl h1 s.heap.objs.size pl:=by rw[<- Ec];exact⟨_,0,Ym _ rfl,rfl⟩
   have hI:IsSi (h1.push { cls:=.type "set_iterator",data:=.fields [Value.ref s.heap.objs.size,rawInt 0,.ref a,rawInt (es.size:Int),rawInt (ep:Int)].toArray }) h1.objs.size a (.ref s.heap.objs.size) 0 es.size ep:=⟨_,Ym _ rfl,rfl,rfl⟩;refine Yj ⟨_,rfl,"set_iterator",_,IsSi.ty (s:={ s with heap:=_,drawn:=d }) hI,Xf.lookup,?_⟩;have PU:(pl.filterMap λj=>(es[j]?).map (·.2)).Perm (es.toList.map (·.2)):=by refine(hp.filterMap _).trans ?_;rw[<- filterMap_getElem?_range es,List.map_filterMap]
   have Rg:(pl.filterMap λj=>(es[j]?).map (·.2)).length=pl.length:=by rw[PU.length_eq,Yd,YD,Vj]
   have W:=ZL9 (prog:=prog) (w:=w) (A:=A) (I:=h1.objs.size) (a:=a) (b:=s.heap.objs.size) (es:=es) (ep:=ep) (t:=t) hh hp hf (by rw[s1];exact Yt (RZ LP)) (by rw[s1];exact Yt (Pb _));rw[<- Rg]at W;refine k _ _ d _ _ _ PU W ⟨Yo _,hI,hS.keep λo e=>Xc _ (Dw _ o e),Nq.keep λo e=>Xc _ e⟩ (λb hb=>?_) (by simp) (by rw[s1];exact Um _) λc o e=>Xc _ (Dw c o e);rw[Oy,s1];rcases Yg.mp hb with e | e
   .rw[e,s1];exact⟨Pb _,.inr (Um _)⟩
   .rcases Yg.mp e with e | e
    .rw[e];exact⟨RZ (RZ LP),.inl rfl⟩
    .rw[XD.mp e];exact⟨RZ (Pb _),.inr (XO _)⟩
  .have c':(!t.plain && decide (es.size > 1))=false:=by simpa using c
   rw [if_neg (by show ¬ (!w.params.followText "set-order" && (!t.plain && decide (es.size > 1)))=true;rw [c'];simp)];exact num _ _ rfl (Dx hf hr Qt hl c') .rfl
end
theorem Dv:typeLookup (.type "set") "__len__"=pure (some (.builtin "set.__len__")):=by rw [Ii,Io];kernel_rfl
section
variable{prog:Program}{w:World}{A:Around}{E:Ae}{s:Shared}
theorem ql {r:Addr} {Q:Bool->Shared->Prop} (hT:s.TypeIs (.ref r) "set") (h:Q false s):wpAny (model prog w) A (Builtin.List.listLengthHint (.ref r)) Q E s:=by
 unfold Builtin.List.listLengthHint;refine XU (wpAny_specialOf hT Dv ?_);generalize En:("set.__len__":String)=sY
 wp_delta
 rw [show splitId sY=some ("set","__len__") from by subst En;decide +kernel];subst En;refine XU (AA (T:="set") (b:=true) hT sub_set_self ?_);show wpAny _ A (typeOf (Value.ref r) >>= _) _ _ _
 exact XU (GN (T:="set") hT (Yj h))
theorem ZM5 {a:Addr} {es:Array (Int × Value)} {ep:Nat} {t:SetTable} {Q:List Value->Shared->Prop} (hh:A.handled=none) (hS:SetIs s.heap a es ep t) (hf:t.fits es.size=true) (hr:RE t) (hl:t.led=!w.params.followText "set-order") (hz:es.size<=sizeLine)
  (k:∀(out:Ag) h' tk d,out.Perm (es.toList.map (·.2))->s.heap.objs.size<=h'.objs.size->(∀ c o,s.heap.get? c=some o->h'.get? c=some o)->Q out { s with heap:=h',toks:=tk,drawn:=d }):wpAny (model prog w) A (collect (.ref a)) Q E s:=by
 have JI:(s.heap.push (seqObj "list" #[] 0)).get? s.heap.objs.size=some (seqObj "list" #[] 0):=Ym _ rfl;have DA:SetIs (s.heap.push (seqObj "list" #[] 0)) a es ep t:=hS.keep λo e=>Xc _ e
 have LP:a<s.heap.objs.size:=let ⟨_,e,_⟩:=hS;Yl e
 unfold collect;refine XU (Aw (Wg wY ?_));show wpAny _ _ (newList [] >>= λv=>again (.builtin "list.__iadd__" ⟨[v,.ref a],[]⟩)) _ _ s
 refine XU (Lk (Yj ⟨GX _ (by decide +kernel),Wg entry_list_iadd' ?_⟩));show wpAny _ _ (Builtin.List.listExtendWith (.ref s.heap.objs.size) (.ref a) (.ref s.heap.objs.size)) _ _ { s with heap:=s.heap.push (seqObj "list" #[] 0) }
 unfold Builtin.List.listExtendWith;refine XU (GN (T:="set") (SetIs.ty (s:={ s with heap:=s.heap.push (seqObj "list" #[] 0) }) DA) ?_);have e1:Builtin.List.listSameRef (.ref s.heap.objs.size) (.ref a)=false:=by show(s.heap.objs.size == a)=false;exact KZ (Sb LP)
 rw[if_neg (by rw[e1];decide)];refine XU (ZK9 (A:=A.in1) (by simp[hh]) DA hf hr hl hz λI h' d ord fp St PU W HM yL hI PR kp=>?_);have hT':Shared.TypeIs { s with heap:=h',drawn:=d } (.ref a) "set":=SetIs.ty (s:={ s with heap:=h',drawn:=d }) (DA.keep λo e=>kp a o e)
 refine XU (Sv (ql hT' ?_));rw[if_pos (by decide +kernel)];have fD:=kp _ _ JI
 refine XU (GI (XU ?_));unfold Builtin.List.listTouch;refine XU (Lg (xs:=#[]) (n:=0) fD rfl ?_ (Yo _) (by show 1<=sizeLine+1;lia));have fC:=Vx (Obj.mapSeq (·.push Value.none)) fD rfl
 refine Lg (xs:=#[].push Value.none) (n:=1) fC rfl ?_ (by show 1<=sizeLine;decide) (by show 0<=sizeLine+1;lia);have hL4:=Vx (Obj.mapSeq Array.pop) fC rfl
 have old:∀ c o,c≠s.heap.objs.size->h'.get? c=some o->((h'.update s.heap.objs.size (Obj.mapSeq (·.push Value.none))).update s.heap.objs.size (Obj.mapSeq Array.pop)).get? c=some o:=λc o hc e=>by rw[YM _ _ (YY hc),YM _ _ (YY hc)];exact e
 generalize (h'.update s.heap.objs.size (Obj.mapSeq (·.push Value.none))).update s.heap.objs.size (Obj.mapSeq Array.pop)=h4 at *;have SM:s.heap.objs.size∉fp:=λq=>by
  rcases(yL _ q).2 with e | e
  .exact Sb LP e
  .rw [show({ s with heap:=s.heap.push (seqObj "list" #[] 0) }:Shared).heap.objs.size=s.heap.objs.size+1 from Oy ..] at e;exact Nat.not_succ_le_self _ e
 have qk:ord.length=es.size:=by rw[PU.length_eq,Yd,YD]
 refine Yj ⟨UE jK _,codeAny_extend_loopS W.toS (by rw[qk];exact hz) s.heap.objs.size SM _ ord.length 0 _ #[] _ rfl (Yo _) (W.frame 0 _ _ HM λb hb o e=>old b o (λq=>SM (q ▸ hb)) e) hL4 (ItemsOf.nil _) λs2 acc c m fB Wa=>?_⟩;have eo:acc.toList=ord:=by
  refine RY λi=>?_;rw[YT];by_cases hi:i<ord.length
  .have q:acc[i]?=some (acc[i]'(by rw[Wa.1];exact hi)):=YE _;rw[q,Wa.2 i _ q]
  .rw[Vy (by grind),AL (by rw[Wa.1];omega)]
 show wpAny _ A (load s.heap.objs.size >>= _) Q E s2;refine XU (GH fB ?_);refine Yj ?_;rw[eo,Moved.eq_with m];refine k ord s2.heap s2.toks d PU (UB (Yl fB)) λc o e=>?_;have lt:=Yl e
 refine m.heap c o (λq=>?_) (old c o (Yt lt) (kp c o (Xc _ e)));rcases Yg.mp q with e' | e'
 .exact Yt lt e'
 .rw[XD.mp e']at lt
  have:=Yn lt (Yr (Um _) (Oy .. ▸ PR))
  exact Rk _ this
end
theorem fw{m:Ac}:∀ {l:Ac},m.Nodup->l.length=m.length->(∀ x∈m,x∈l)->l.Perm m:=by
 induction m with
 | nil=>intro l _ h _;rw[YQ.mp h]
 | cons x m ih =>
  intro l hn hl hs;have hx:=hs x Ye
  have Ub:=Rl.mp hn;refine(List.perm_cons_erase hx).trans ((ih Ub.2 (by rw[xJ hx,hl];rfl) λy hy=>?_).cons x);have ne:y≠x:=λe=>Ub.1 (by rw[<- e];exact hy)
  exact(xB ne).mpr (hs y (Yh _ hy))
theorem Zm8{us vs:Ag}(p:us.Perm vs):∀ {ns:Ac},IntsAre vs ns->∃ ms,IntsAre us ms/\ms.Perm ns:=by
 induction p with
 | nil=>intro ns h;exact⟨ns,h,.rfl⟩
 | cons x _ ih =>
  intro ns h;cases h with
  | cons n t h =>
   obtain⟨ms,h1,h2⟩:=ih h;exact⟨n :: ms,.cons n t h1,h2.cons n⟩
 | swap x y l =>
  intro ns h;cases h with
  | cons n t h =>
   cases h with
   | cons m u h=>exact⟨m :: n :: _,.cons m u (.cons n t h),.swap n m _⟩
 | trans _ _ Qf Ta =>
  intro ns h;obtain⟨ms,h1,h2⟩:=Ta h;obtain⟨ls,h3,h4⟩:=Qf h1;exact⟨ls,h3,h4.trans h2⟩
theorem qj{vs:Ag}{ns:Ac}(h:IntsAre vs ns):vs.length=ns.length:=by
 induction h with
 | nil=>rfl
 | cons n t _ ih=>rw[Yz,Yz,ih]
theorem yK(val:Nat->Int):∀ i,(firstMet val i).Nodup
 | 0=>.nil
 | i+1=>by
  rw[firstMet_succ];unfold step_dedup;split
  .exact yK val i
  .rename_i h;refine YS.mpr ⟨yK val i,by simp,λa ha b hb e=>?_⟩;rw[XD.mp hb]at e;exact h (xg.mpr ⟨a,ha,by rw[e];simp⟩)
section
variable{prog:Program}{w:World}{A:Around}{E:Ae}{s:Shared}
theorem fv:∀ {l:List (Int × Value)},ElemsOf (intKind prog w) l->∃ ms,IntsAre (l.map (·.2)) ms/\∀ z,z∈ms↔∃ y∈l,(intKind prog w).is z y.2=true
 | [],_=>⟨[],.nil,λz=>⟨λh=>(by cases h),λ⟨y,h,_⟩=>(by cases h)⟩⟩
 | y :: l,h=>by
  obtain⟨ms,h1,h2⟩:=fv h.tail;obtain⟨⟨z,hz,_⟩,_⟩:=h.head;obtain⟨hy,v⟩:=y;obtain⟨u,rfl⟩:=Value.isInt_shape (show Value.isInt z v=true from hz);refine⟨z :: ms,.cons z u h1,λx=>?_⟩;rw[Yg,h2];constructor
  .rintro(e | ⟨y,hy,q⟩)
   .exact⟨_,Ye,e ▸ hz⟩
   .exact⟨y,Yh _ hy,q⟩
  .rintro⟨y,hy,q⟩;rcases Yg.mp hy with e | e
   .rw[e]at q;exact .inl ((intKind prog w).inj _ _ _ q hz)
   .exact .inr ⟨y,e,q⟩
theorem qi {a:Addr} {led:Bool} {S:Int->Bool} {n:Nat} {Q:Ae} (hh:A.handled=none) (hS:SetR prog w s.heap a (!w.params.followText "set-order") S n) (Rf:n<64)
  (k:∀(ms:Ac) (out:Ag) r h' tk d c,IntsAre out ms->ms.Pairwise (·<=·)->ms.length=n->(∀ z,z∈ms↔S z=true)->s.heap.objs.size<=r->h'.get? r=some (seqObj "list" out.toArray c)->(∀ c o,s.heap.get? c=some o->h'.get? c=some o)->Q (.ref r) { s with heap:=h',toks:=tk,drawn:=d }) :
  wpAny (model prog w) A (call (.builtin "sorted") [.ref a]) Q E s:=by
 obtain⟨o,es,ep,t,ho,hx,hd,he,hm,hb,hf,hn,hr,hl⟩:=hS;obtain⟨ns,hI,hmem⟩:=fv he;have JP:sizeLine=16777216:=Ue
 refine Calls.call_function_entry kind_sorted plain_sorted entry_sorted (args_sorted1 _) ?_;unfold Builtin.«sorted»;refine XU (m:=checkCount "sorted" 1 1 _) (Yj ?_);refine XU (ZM5 (A:=A.in1) (by simp[hh]) ⟨o,ho,hx,hd⟩ hf hr hl (by lia) λout h1 tk d hp PR kp=>?_);obtain⟨ls,ft,VU⟩:=Zm8 hp hI;have lo:=qj ft
 have ll:ls.length=n:=by rw[<- lo,hp.length_eq,Yd,YD,hn]
 refine XU (Lk ?_);have hL:(h1.push (seqObj "list" out.toArray 0)).get? h1.objs.size=some (seqObj "list" out.toArray 0):=Ym _ rfl
 refine XU (Sv (MA slot_list_sort ⟨_,hL,rfl⟩ entry_list_sort (list_sort_tree hL ft (by lia) λres ms b1 b2 b3=>⟨_,rfl,?_⟩) (args_list_sort _)));obtain⟨c,hc⟩:=sortedHeap_at (out:=res) hL;refine Yj ⟨_,rfl,k ms res.toList h1.objs.size _ tk d c b1 b3 (by rw[b2.length_eq,ll]) (λz=>by rw[b2.mem_iff,VU.mem_iff,hmem,hm]) PR (by rw[Array.toArray_toList];exact hc) λb ob e=>?_⟩;have lt:=Yl (kp b ob e)
 rw[sortedHeap_old (Yt lt) (by rw[size_push'];exact RZ lt)];exact Xc _ (kp b ob e)
end
section
variable{X:Cx}{p p2 pos Vq:Pos}{e:Expr}{t:TA}
theorem Inv.drew{X:Cx}{pins:List (Addr × Obj)}{σ:St}{H:Hp}{s:Shared}(I:Inv X pins σ H s)(d:Drawn):Inv X pins σ H { s with drawn:=d } :=
 I.step (g':=s.gens) (d':=d) (t':=s.toks) (h':=s.heap) (ch:=[]) (λb hb=>(by cases hb)) (λb o _ _ _ q _=>q) (λb o _ _ _ q _=>⟨o.slots,q⟩) (λb o _ _ n=>n) (λb o _ q=>⟨o,q⟩) (λb xs q=>q) (λb o u q=>q) (λb ps q=>⟨#[],by rw[q];simp⟩) (λm hm=>hm) I.hok I.bare
def qh(K:Ad)(t:TA):TE:=λσ H Q=>t σ H λvs H1=>∃(a:Addr) (ns:Ac),vs=[.ref a]/\SqL K H1 a (ns.map V.int)/\ns.length<64/\∀ ms:Ac,ms.Pairwise (· < ·)->(∀ z,z∈ms↔z∈ns)->∀ l,H1 l=none->Q (.ref l) (upd H1 l (.lst (ms.map V.int)))
theorem Za4 (K:Ad) (hc:X.calm=true) (g1:Gl X "sorted") (m1:X.mg "sorted"=none) (g2:Gl X "set") (m2:X.mg "set"=none) (ha:PA X [e] t) (hk:X.K=K:=by rfl)
  (he:starEach [e] X.env=[(false,eval e X.env)]:=by rfl)
  (Qr:starEach [.Call (.Name "set" p2) [e] [] Vq] X.env=[(false,eval (.Call (.Name "set" p2) [e] [] Vq) X.env)]:=by rfl) :
  PE X (.Call (.Name "sorted" p) [.Call (.Name "set" p2) [e] [] Vq] [] pos) (qh K t):=by
 subst hk;intro pins s σ H Q I h;refine QV (VG I g1 m1 Boot.«sorted» ?_);refine jN ?_ (by rw[Qr];rfl) rfl;rw[Qr];show wpAny _ _ (spliced ((false,eval (.Call (.Name "set" p2) [e] [] Vq) X.env) :: backTo pos [])) _ _ s
 refine xb ?_;refine QV (VG I g2 m2 Boot.«set» ?_);refine Lw (thn (ha Vq pins s σ H _ I h) λus s1 ⟨vs,H1,I1,r1,q1⟩=>?_) (by rw[he];rfl) rfl;obtain⟨a,ns,rfl,hq,hn,q⟩:=q1;obtain⟨u,rfl,ru⟩:=Th r1;obtain rfl:u=Value.ref a:=ru;obtain⟨XW,rv,pl,hz⟩:=I1.list hq;have hi:=ZL rv
 have el:XW.toArray.size=ns.length:=by rw[Yb,<- rv.length,Yd]
 have sb:scanBound=4096:=rfl;refine qt (I.ok.hd hc) pl.isList (ns:=ns) (by simpa using hi) (by lia) λh2 tk hS kp=>?_;refine wZ ?_;have fl:=firstMet_length_le (λi=>ns.getD i 0) XW.toArray.size
 refine qi (led:=true) (s:={ s1 with heap:=h2,toks:=tk }) (I.ok.hd hc) hS (by lia) λms out r h3 tk3 d c hI hs hl hmem PR hr kp3=>?_;have em:∀ z,z∈ms↔z∈ns:=λz=>by
  rw[hmem,firstMet_any,el];have e1:(List.range ns.length).map (λi=>ns.getD i 0)=ns:=by
   refine RY λi=>?_;rw[Yp];by_cases c:i<ns.length
   .rw[xw c,Xo c,KW,WI,Xo c];rfl
   .rw[Vy (by rw[Pc];lia),Vy (by omega)];rfl
  rw[e1];simp
 have Tx:ms.Nodup:=(fw (yK _ _) hl λx hx=>(hmem x).mpr (xg.mpr ⟨x,hx,by simp⟩)).nodup_iff.mpr (yK _ _);have Xi:s1.heap.objs.size<=h2.objs.size:=let ⟨_,_,_,_,e,_⟩:=hS;UB (Yl e)
 have Du:s1.heap.objs.size<=r:=Yr Xi PR;have NI:ms.length<=ns.length:=by rw[hl,<- el];exact fl
 have I2:=(I1.laid (o:=.lst (ms.map V.int)) (h':=h3) (t':=tk3) (λb o e=>kp3 b o (kp b o e)) Du ⟨by rw[Yd];have:sizeLine=16777216:=Ue;lia,out,c,ZV hI,hr⟩).drew d;exact⟨.ref r,_,I2,rfl,q ms (My.Vo hs Tx) em r (I1.hok.fresh Du)⟩
end
end L2
namespace My
open PySem L2
theorem Zt7{A B:List (Nat × Nat)}{f g:Nat->Nat}{N k:Nat}(hf:∀ i j,i<N->j<N->(f i=f j↔Conn A i j))(hk:∀ i,i<N->f i<k)(hg:∀ a,a<k->g a<N/\f (g a)=a)(hA:InN N A)(hB:InN N B) :
  (∀ i j,i<N->j<N->Conn (A++B) i j)↔∀ a b,a<k->b<k->Conn (B.map λe=>(f e.1,f e.2)) a b:=by
 have gi:∀ i,i<N->Conn A (g (f i)) i:=λi hi=>by obtain⟨h1,h2⟩:=hg (f i) (hk i hi);exact(hf _ _ h1 hi).mp h2
 constructor
 .intro c a b ha hb;obtain⟨a1,a2⟩:=hg a ha;obtain⟨b1,b2⟩:=hg b hb;have q:=(c (g a) (g b) a1 b1).image (f:=f) (fs:=B.map λe=>(f e.1,f e.2)) λe he=>by
   rcases Xy.mp he with q | q
   .obtain⟨e1,e2⟩:=hA e q;rw[(hf _ _ e1 e2).mpr (.edge q)];exact .refl _
   .exact .edge (YC.mpr ⟨e,q,rfl⟩)
  rw[a2,b2]at q;exact q
 .intro c i j hi hj;have up:∀ {i j:Nat},Conn A i j->Conn (A++B) i j:=λq=>q.mono λe he=>Ya _ he
  have q:=(c (f i) (f j) (hk i hi) (hk j hj)).image (f:=g) (fs:=A++B) λe he=>by obtain⟨d,hd,rfl⟩:=YC.mp he;obtain⟨d1,d2⟩:=hB d hd;exact(up (gi _ d1)).trans ((Conn.edge (Yc _ hd)).trans (up (gi _ d2)).symm)
  exact(up (gi i hi)).symm.trans (q.trans (up (gi j hj)))
def PC(n:Int)(ps:Aa)(I O:Ac)(c:Nat):Prop:=∃ L:Ab,L.Nodup/\(∀ l,l∈L↔Zf n ps l/\(∀ z∈I,z∈l)/\∀ z∈O,z∉l)/\L.length=c
theorem PC.uniq{n:Int}{ps:Aa}{I O:Ac}{c d:Nat}(h1:PC n ps I O c)(h2:PC n ps I O d):c=d:=by
 obtain⟨L,a1,a2,a3⟩:=h1;obtain⟨M,b1,b2,b3⟩:=h2
 have:L.Perm M:=(Lv a1 b1).mpr λl=>by rw[a2,b2]
 rw[<- a3,<- b3,this.length_eq]
def XE(m:Nat)(gone:Ac):Ac:=(Wo m).filter λz=>decide (z∉gone)
theorem WZ{m:Nat}{gone:Ac}{z:Int}:z∈XE m gone↔(0<=z/\z<(m:Int))/\z∉gone:=by unfold XE;rw[Yf,YU,XB]
theorem Dt(m:Nat)(gone:Ac):(XE m gone).Pairwise (· < ·):=(XX.mp (HF m)).2.filter _
def Tw(f:Nat->Nat)(ps:Aa)(R:Ac):Aa:=R.map λz=>((f (Zq ps z).1:Int),(f (Zq ps z).2:Int))
def RC(R:Ac)(S:Ac):Ac:=S.map λt=>R.getD t.toNat 0
theorem Ds{R S:Ac}(hR:R.Pairwise (· < ·))(hS:IsSet R.length S):(RC R S).Pairwise (· < ·):=by
 obtain⟨a1,a2⟩:=XX.mp hS;refine MF.mpr (a2.imp_of_mem λ{a b} ha hb VI=>?_);have h1:=a1 a ha
 have h2:=a1 b hb;rw[WI,WI,Xo (by lia),Xo (by lia)];exact Ir.mp hR a.toNat b.toNat (by omega) (by omega) (by grind)
theorem Dr{R S:Ac}(hS:IsSet R.length S){z:Int}(h:z∈RC R S):z∈R:=by
 obtain⟨t,ht,rfl⟩:=YC.mp h;have h1:=hS.all t ht
 rw[WI,Xo (by lia)];exact MC _
theorem qg{f:Nat->Nat}{ps:Aa}{R S:Ac}(hS:IsSet R.length S):XT (Tw f ps R) S=(XT ps (RC R S)).map λe=>(f e.1,f e.2):=by
 unfold XT RC;rw[Mv,Mv];refine YW λt ht=>?_;have h1:=hS.all t ht
 have e:(Tw f ps R).getD t.toNat (0,0)=((f (Zq ps (R.getD t.toNat 0)).1:Int),(f (Zq ps (R.getD t.toNat 0)).2:Int)):=by unfold Tw;rw[WI,Yp,WI,Xo (by omega)];rfl
 rw[e];rfl
def Sk(m:Nat)(I R S:Ac):Ac:=(Wo m).filter λz=>decide (z∈I\/z∈RC R S)
theorem qf(m:Nat)(I R S:Ac):(Sk m I R S).Pairwise (· < ·):=(XX.mp (HF m)).2.filter _
theorem Xb{m:Nat}{I R S:Ac}{z:Int}:z∈Sk m I R S↔(0<=z/\z<(m:Int))/\(z∈I\/z∈RC R S):=by unfold Sk;rw[Yf,YU,XB]
section
variable{n:Int}{ps:Aa}{I O S:Ac}{f g:Nat->Nat}{k:Nat}
theorem qd(hI:IsSet ps.length I)(hS:IsSet (XE ps.length (I++O)).length S):(Sk ps.length I (XE ps.length (I++O)) S).Perm (I++RC (XE ps.length (I++O)) S):=by
 have ua:=Ds (Dt ps.length (I++O)) hS;refine(Lv (JJ (qf _ _ _ _)) (YS.mpr ⟨hI.nodup,JJ ua,λa ha b hb e=>?_⟩)).mpr λz=>?_
 .have:=(WZ.mp (Dr hS hb)).2
  exact this (Ya _ (e ▸ ha))
 .rw[Xb,Xy];refine⟨λh=>h.2,λh=>⟨?_,h⟩⟩;rcases h with q | q
  .exact hI.all z q
  .exact(WZ.mp (Dr hS q)).1
theorem fq(g0:Zt n ps)(hI:IsSet ps.length I)(hf:∀ i j,i<n.toNat->j<n.toNat->(f i=f j↔Conn (XT ps I) i j))(hk:∀ i,i<n.toNat->f i<k)(hg:∀ a,a<k->g a<n.toNat/\f (g a)=a)(hS:IsSet (XE ps.length (I++O)).length S) :
  ((∀ i j,i<n.toNat->j<n.toNat->Conn (XT ps (Sk ps.length I (XE ps.length (I++O)) S)) i j)↔∀ a b,a<k->b<k->Conn (XT (Tw f ps (XE ps.length (I++O))) S) a b):=by
 have hp:=qd (O:=O) hI hS;have hA:=ZG (ns:=I) g0 hI.all
 have hB:=ZG (ns:=RC (XE ps.length (I++O)) S) g0 λz hz=>(WZ.mp (Dr hS hz)).1;have e:XT ps (I++RC (XE ps.length (I++O)) S)=XT ps I++XT ps (RC (XE ps.length (I++O)) S):=by unfold XT;exact QP
 rw[qg hS,<- Zt7 hf hk hg hA hB,<- e];exact⟨λc i j hi hj=>(TJ λz=>hp.mem_iff).mp (c i j hi hj),λc i j hi hj=>(TJ λz=>hp.mem_iff).mpr (c i j hi hj)⟩
theorem Dq{T:Ac}(hI:IsSet ps.length I)(hT:IsSet ps.length T)(h1:∀ z∈I,z∈T)(h2:∀ z∈O,z∉T):∃ S,IsSet (XE ps.length (I++O)).length S/\T=Sk ps.length I (XE ps.length (I++O)) S:=by
 refine⟨(Wo (XE ps.length (I++O)).length).filter λt=>decide ((XE ps.length (I++O)).getD t.toNat 0∈T),XX.mpr ⟨λt ht=>XB.mp (Yf.mp ht).1,(XX.mp (HF _)).2.filter _⟩,sy (XX.mp hT).2 (qf _ _ _ _) λz=>?_⟩;rw[Xb];constructor
 .intro hz;refine⟨hT.all z hz,?_⟩;by_cases c:z∈I
  .exact .inl c
  .right;have hR:z∈XE ps.length (I++O):=WZ.mpr ⟨hT.all z hz,λq=>by
    rcases Xy.mp q with q | q
    .exact c q
    .exact h2 z q hz⟩
   obtain⟨t,ht⟩:=VH hR;have e:(XE ps.length (I++O)).getD ((t:Int)).toNat 0=z:=by rw[YA];exact ZP ht
   refine YC.mpr ⟨(t:Int),Yf.mpr ⟨XB.mpr ⟨by lia,by have:=(Xp.mp ht).1;omega⟩,Yw (by rw[e];exact hz)⟩,e⟩
 .rintro⟨_,q | q⟩
  .exact h1 z q
  .obtain⟨t,ht,rfl⟩:=YC.mp q;exact Yu (Yf.mp ht).2
theorem ZF8{S':Ac}(hS:IsSet (XE ps.length (I++O)).length S)(Tc:IsSet (XE ps.length (I++O)).length S')(e:Sk ps.length I (XE ps.length (I++O)) S=Sk ps.length I (XE ps.length (I++O)) S'):S=S':=by
 have key:∀ {A B:Ac},IsSet (XE ps.length (I++O)).length A->IsSet (XE ps.length (I++O)).length B->Sk ps.length I (XE ps.length (I++O)) A=Sk ps.length I (XE ps.length (I++O)) B->∀ t,t∈A->t∈B:=λ{A B} hA hB e t ht=>by
  have h1:=hA.all t ht;have hm:(XE ps.length (I++O)).getD t.toNat 0∈RC (XE ps.length (I++O)) A:=YC.mpr ⟨t,ht,rfl⟩
  have hR:=WZ.mp (Dr hA hm);have h2:(XE ps.length (I++O)).getD t.toNat 0∈Sk ps.length I (XE ps.length (I++O)) B:=e ▸ Xb.mpr ⟨hR.1,.inr hm⟩
  rcases(Xb.mp h2).2 with q | q
  .exact absurd (Ya _ q) hR.2
  .obtain⟨u,hu,e2⟩:=YC.mp q;have h3:=hB.all u hu
   rw[WI,WI,Xo (by lia),Xo (by lia)]at e2
   have:=HS (JJ (Dt ps.length (I++O))) (i:=u.toNat) (j:=t.toNat) (Xo (by omega)) (by rw[Xo (by omega)];exact Xw some e2.symm)
   have e3:u=t:=by lia
   exact e3 ▸ hu
 exact sy (XX.mp hS).2 (XX.mp Tc).2 λt=>⟨key hS Tc e t,key Tc hS e.symm t⟩
theorem yJ(f:Nat->Nat)(ps:Aa)(R:Ac):(Tw f ps R).length=R.length:=Yd ..
theorem qc(g0:Zt n ps)(hI:IsSet ps.length I)(Vm:∀ z∈I,z∉O)(hf:∀ i j,i<n.toNat->j<n.toNat->(f i=f j↔Conn (XT ps I) i j))(hk:∀ i,i<n.toNat->f i<k)(hg:∀ a,a<k->g a<n.toNat/\f (g a)=a)(hn:(k:Int)+(I.length:Int)=n){c:Nat}(h:TC k (Tw f ps (XE ps.length (I++O))) c):PC n ps I O c:=by
 obtain⟨L,h1,h2,h3⟩:=h;have hs:∀ l∈L,IsSet (XE ps.length (I++O)).length l:=λl hl=>yJ f ps _ ▸ ((h2 l).mp hl).1
 have len:∀ {S:Ac},IsSet (XE ps.length (I++O)).length S->(Sk ps.length I (XE ps.length (I++O)) S).length=I.length+S.length:=λ{S} hS=>by rw[(qd hI hS).length_eq,Xs];unfold RC;rw[Yd]
 have iff:∀ {S:Ac},IsSet (XE ps.length (I++O)).length S->(Zf n ps (Sk ps.length I (XE ps.length (I++O)) S)↔Zf k (Tw f ps (XE ps.length (I++O))) S):=λ{S} hS=>by
  have l:=len hS;have q:=fq (O:=O) g0 hI hf hk hg hS
  constructor
  .rintro⟨a1,a2,a3⟩;exact⟨by rw[yJ];exact hS,by lia,λa b ha hb=>q.mp a3 a b (by lia) (by lia)⟩
  .rintro⟨a1,a2,a3⟩;exact⟨XX.mpr ⟨λz hz=>(Xb.mp hz).1,qf _ _ _ _⟩,by lia,q.mpr λa b ha hb=>a3 a b (by lia) (by lia)⟩
 refine⟨L.map (Sk ps.length I (XE ps.length (I++O))),MF.mpr (h1.imp_of_mem λ{a b} ha hb VI e=>VI (ZF8 (hs a ha) (hs b hb) e)),λT=>?_,by rw[Yd,h3]⟩;rw[YC];constructor
 .rintro⟨S,hS,rfl⟩;refine⟨(iff (hs S hS)).mpr ((h2 S).mp hS),λz hz=>Xb.mpr ⟨hI.all z hz,.inl hz⟩,λz hz q=>?_⟩;rcases(Xb.mp q).2 with q | q
  .exact Vm z q hz
  .exact(WZ.mp (Dr (hs S hS) q)).2 (Yc _ hz)
 .rintro⟨hT,q1,q2⟩;obtain⟨S,hS,rfl⟩:=Dq hI hT.1 q1 q2;exact⟨S,(h2 S).mpr ((iff hS).mp hT),rfl⟩
theorem fo(g0:Zt n ps)(gone:Ac)(hk:∀ i,i<n.toNat->f i<k)(k1:1<=k)(kn:k<=n.toNat):Zt k (Tw f ps (XE ps.length gone)):=by
 obtain⟨g1,g2,g3,g4⟩:=g0;refine⟨by lia,by lia,?_,λp hp=>?_⟩
 .rw[yJ]
  have:(XE ps.length gone).length<=(Wo ps.length).length:=YH ..
  have:=(HF ps.length).len
  lia
 .obtain⟨z,hz,rfl⟩:=YC.mp hp;have hz1:=(WZ.mp hz).1
  obtain⟨q,hq⟩:∃ q,ps[z.toNat]?=some q:=⟨_,Xo (by lia)⟩;obtain⟨e1,e2,e3,e4⟩:=g4 q (Xd hq);have ee:Zq ps z=(q.1.toNat,q.2.toNat):=by unfold Zq;rw[ZP hq]
  rw[ee];have a:=hk q.1.toNat (by grind)
  have b:=hk q.2.toNat (by grind);exact⟨by show(0:Int)<=(f q.1.toNat:Int);lia,by show(f q.1.toNat:Int)<(k:Int);grind,by show(0:Int)<=(f q.2.toNat:Int);lia,by show(f q.2.toNat:Int)<(k:Int);grind⟩
theorem qb(g0:Zt n ps)(hI:IsSet ps.length I)(hf:∀ i j,i<n.toNat->j<n.toNat->(f i=f j↔Conn (XT ps I) i j))(hk:∀ i,i<n.toNat->f i<k)(hg:∀ a,a<k->g a<n.toNat/\f (g a)=a)(k1:1<=k)(kn:k<=n.toNat)(hn:n<(k:Int)+(I.length:Int)):PC n ps I O 0:=by
 refine⟨[],.nil,λT=>⟨λh=>(by cases h),λ⟨hT,q1,q2⟩=>?_⟩,rfl⟩;obtain⟨S,hS,rfl⟩:=Dq hI hT.1 q1 q2;have q:=(fq (O:=O) g0 hI hf hk hg hS).mp hT.2.2
 have gg:=fo (f:=f) g0 (I++O) hk k1 kn;have l:=qF gg (by rw[yJ];exact hS) λa b ha hb=>q a b (by grind) (by grind)
 have l2:=hT.2.1;rw[(qd hI hS).length_eq,Xs]at l2;unfold RC at l2;rw[Yd]at l2;omega
end
def Vl:Ac->Int->Nat
 | [],_=>0
 | x :: l,z=>if x=z then 0 else Vl l z+1
theorem Jx:∀ {l:Ac} {z:Int},z∈l->l[Vl l z]?=some z
 | x :: l,z,h=>by
  unfold Vl;by_cases c:x=z
  .rw[if_pos c,c];rfl
  .rw[if_neg c];exact Jx ((Yg.mp h).resolve_left λe=>c e.symm)
theorem qa{l:Ac}{z:Int}(h:z∈l):Vl l z<l.length:=(Xp.mp (Jx h)).1
theorem Dp{l:Ac}{z y:Int}(hz:z∈l)(hy:y∈l):Vl l z=Vl l y↔z=y:=by
 refine⟨λe=>?_,λe=>by rw[e]⟩;have h1:=Jx hz
 rw[e,Jx hy]at h1;exact(Yi h1).symm
theorem p9{l:Ac}(hn:l.Nodup){i:Nat}{z:Int}(h:l[i]?=some z):Vl l z=i:=HS hn (Jx (Xd h)) h
theorem LO{M:Ac}{i:Nat}(h:i<M.length):mk M i∈M:=by unfold mk;rw[WI,Xo h];exact MC h
section
variable{N:Nat}{es:List (Nat × Nat)}{F:Ac}
theorem Dn(h:InN N es)(hF:F.Pairwise (· < ·))(hm:∀ z,z∈F↔z∈Xx N es) :
  ∃ g:Nat->Nat,(∀ i j,i<N->j<N->(Vl F (mk (Xx N es) i)=Vl F (mk (Xx N es) j)↔Conn es i j))/\(∀ i,i<N->Vl F (mk (Xx N es) i)<F.length)/\∀ a,a<F.length->g a<N/\Vl F (mk (Xx N es) (g a))=a:=by
 have hl:=Zx N es;have p8:∀ i,i<N->mk (Xx N es) i∈F:=λi hi=>(hm _).mpr (LO (by lia))
 have ex:∀ a,∃ i,a<F.length->i<N/\Vl F (mk (Xx N es) i)=a:=λa=>by
  by_cases c:a<F.length
  .have q:=(hm _).mp (MC c);obtain⟨i,hi⟩:=VH q;have VA:=(Xp.mp hi).1
   refine⟨i,λ_=>⟨by lia,?_⟩⟩;have e:mk (Xx N es) i=F[a]:=by unfold mk;exact ZP hi
   rw[e];exact p9 (JJ hF) (Xo c)
  .exact⟨0,λh=>absurd h c⟩
 refine⟨λa=>Classical.choose (ex a),λi j hi hj=>?_,λi hi=>qa (p8 i hi),λa ha=>Classical.choose_spec (ex a) ha⟩;rw[Dp (p8 i hi) (p8 j hj)];exact VN h hi hj
theorem p7{M:Ac}:∀(i:Nat),∃ p,p<=i/\Wu M p=true/\mk M p=mk M i:=by
 intro i
 induction i using Nat.strongRecOn with
 | _ i ih =>
  by_cases c:Wu M i=true
  .exact⟨i,XO _,c,rfl⟩
  .obtain⟨j,hj,e⟩:∃ j,j<i/\mk M j=mk M i:=Yx λno=>c (XC.mpr λj hj e=>no ⟨j,hj,e⟩);obtain⟨p,h1,h2,h3⟩:=ih j hj;exact⟨p,by lia,h2,h3.trans e⟩
theorem Zv8{M:Ac}(hF:F.Pairwise (· < ·))(hm:∀ z,z∈F↔z∈M):F.length=cnt M:=by
 have e:F.Perm ((VD M M.length).map (mk M)):=by
  refine(Lv (JJ hF) ?_).mpr λz=>?_
  .refine MF.mpr ?_;unfold VD;refine(Hh.filter (Wu M)).imp_of_mem λ{a b} ha hb VI=>?_;exact XC.mp (Yf.mp hb).2 a VI
  .rw[hm,YC];constructor
   .intro hz;obtain⟨i,hi⟩:=VH hz;have VA:=(Xp.mp hi).1
    obtain⟨p,h1,h2,h3⟩:=p7 (M:=M) i;refine⟨p,Yf.mpr ⟨YI.mpr (by lia),h2⟩,h3.trans ?_⟩;unfold mk;exact ZP hi
   .rintro⟨p,hp,rfl⟩;exact LO (YI.mp (Yf.mp hp).1)
 rw[e.length_eq,Yd];rfl
theorem Zj4(h:InN N es)(hN:1<=N)(hF:F.Pairwise (· < ·))(hm:∀ z,z∈F↔z∈Xx N es):1<=F.length/\F.length<=N/\N<=F.length+es.length:=by
 have e:=Zv8 hF hm;have hl:=Zx N es
 have e2:=si (NR (n:=N) (es:=es) h);have e3:=zp es h
 have e4:=zm (M:=Xx N es) (by lia);have e5:cnt (Xx N es)<=N:=by unfold cnt VD;refine Yr (YH ..) ?_;rw[Pc];lia
 grind
end
def FD(A B:Ac)(t:Int):Prop:=t∈A/\t∉B/\∀ s,s<t->(s∈A↔s∈B)
theorem Jw:∀ {A B:Ac},A.Pairwise (· < ·)->B.Pairwise (· < ·)->A.length=B.length->(HT.lexLt A B=true↔∃ t,FD A B t)
 | [],[],_,_,_=>⟨λh=>(by cases h),λ⟨t,h,_⟩=>(by cases h)⟩
 | x :: A,y :: B,hA,hB,hl=>by
  obtain⟨a1,a2⟩:=YN.mp hA;obtain⟨b1,b2⟩:=YN.mp hB;have Ss:A.length=B.length:=UD hl
  show(if x=y then HT.lexLt A B else decide (x<y))=true↔_;by_cases c:x=y
  .subst c;rw[if_pos rfl,Jw a2 b2 Ss];constructor
   .rintro⟨t,h1,h2,h3⟩;have tx:=a1 t h1
    refine⟨t,Yh _ h1,λq=>?_,λs hs=>?_⟩
    .rcases Yg.mp q with e | e
     .lia
     .exact h2 e
    .rw[Yg,Yg,h3 s hs]
   .rintro⟨t,h1,h2,h3⟩;have tx:t≠x:=λe=>h2 (e ▸ Ye)
    have Mg:=(Yg.mp h1).resolve_left tx;refine⟨t,Mg,λq=>h2 (Yh _ q),λs hs=>?_⟩
    have:=h3 s hs
    rw[Yg,Yg]at this;by_cases e:s=x
    .rw[e];exact⟨λq=>absurd (a1 x q) (Int.lt_irrefl x),λq=>absurd (b1 x q) (Int.lt_irrefl x)⟩
    .exact⟨λq=>(this.mp (.inr q)).resolve_left e,λq=>(this.mpr (.inr q)).resolve_left e⟩
  .rw[if_neg c,YU];constructor
   .intro h;refine⟨x,Ye,λq=>?_,λs hs=>⟨λq=>?_,λq=>?_⟩⟩
    .rcases Yg.mp q with e | e
     .exact c e
     .have:=b1 x e;lia
    .rcases Yg.mp q with e | e
     .lia
     .have:=a1 s e;lia
    .rcases Yg.mp q with e | e
     .lia
     .have:=b1 s e;lia
   .rintro⟨t,h1,h2,h3⟩;have tx:x<=t:=by
     rcases Yg.mp h1 with e | e
     .lia
     .have:=a1 t e;lia
    refine Yx λhc=>?_;have hyx:y<x:=by lia
    have:=(h3 y (by grind)).mpr Ye
    rcases Yg.mp this with e | e
    .lia
    .have:=a1 y e;grind
theorem Dm{α:Type}[DecidableEq α]:∀ {l m:List α},l.Nodup->(∀ x∈l,x∈m)->l.length<=m.length
 | [],_,_,_=>Yo _
 | x :: l,m,hn,hs=>by
  have hx:=hs x Ye;obtain⟨h1,h2⟩:=Rl.mp hn
  have:=Dm (m:=m.erase x) h2 λy hy=>(xB λe=>h1 (by rw[<- e];exact hy)).mpr (hs y (Yh _ hy))
  rw[xJ hx]at this
  have:=QO hx
  rw[Yz];grind
theorem Np{s rest:TS}{D:Ends}{σ:L2.St}{H:Hp}(P:L2.St->Hp->Prop)(h1:∀ σ' H',P σ' H'->rest D σ' H')(h2:∀ K:L2.St->Hp->Prop,(∀ σ' H',P σ' H'->K σ' H')->s { D with nx:=K } σ H):Ua s rest D σ H:=h2 _ h1
theorem fk{m:Nat}(hm:m<=30):∀ k,(Qg (m:Int) k).length<=30 ^ k
 | 0=>XO 1
 | k+1=>by
  have h1:=Ef (m:=m) (Qg (m:Int) k) λs hs=>(VZ.mp hs).2;have h2:=fk hm k
  have h3:m * (Qg (m:Int) k).length<=30 * 30 ^ k:=Lm hm h2;rw[Nat.pow_succ,As];exact Yr h1 h3
theorem Jv{n:Int}{ps:Aa}{c:Nat}(g:Zt n ps)(h:TC n ps c):c<10 ^ 20:=by
 obtain⟨L,hn,hm,rfl⟩:=h;obtain⟨g1,g2,g3,_⟩:=g;refine AF (m:=30 ^ 13) (Yr (Dm (m:=Qg (ps.length:Int) (n - 1).toNat) hn λx hx=>VZ.mpr ⟨?_,((hm x).mp hx).1⟩) (Yr (fk (by lia) _) (xD (by decide) (by omega)))) (by decide)
 have:=((hm x).mp hx).2.1
 lia
theorem p6{n:Int}{ps:Aa}(g:Zt n ps):∃ L:Ab,(∀ l,l∈L↔Zf n ps l)/\L.Pairwise Ny:=⟨Wj n.toNat ps (n - 1).toNat,λ_=>sd g,(gJ _ _).filter _⟩
def Dl(ps:Aa):List (Nat × Nat):=ps.map λp=>(p.1.toNat,p.2.toNat)
theorem fj(ps:Aa){e:Nat × Nat}:e∈XT ps (Wo ps.length)↔e∈Dl ps:=by
 unfold XT Dl;rw[YC,YC];constructor
 .rintro⟨z,hz,rfl⟩;obtain⟨z0,z1⟩:=XB.mp hz;have hp:ps[z.toNat]?=some (ps[z.toNat]'(by lia)):=Xo (by omega)
  refine⟨_,Xd hp,?_⟩;rw[ZP hp]
 .rintro⟨p,hp,rfl⟩;obtain⟨i,hi⟩:=VH hp
  have:=(Xp.mp hi).1
  refine⟨(i:Int),XB.mpr (by lia),?_⟩;rw[YA,ZP hi]
theorem RB{n:Int}{ps:Aa}:LZ n ps↔∀ i j,i<n.toNat->j<n.toNat->Conn (Dl ps) i j :=
 ⟨λh i j hi hj=>(h i j hi hj).mono λe he=>(fj ps).mp he,λh i j hi hj=>(h i j hi hj).mono λe he=>(fj ps).mpr he⟩
end My
namespace L2
open PySem PySem.Spec PyProof.Rows
structure CompScopeD (sc0:Scope) (N N':List Str) (o:Nat) (fr:List Nat) (scope:Scope) (xo:Str):Prop where
 kind:scope.kind=.function
 one:(scope.names.filter λy=>y.2 == .cell)=[(xo,.cell)]
 loc:(scope.names.all λy=>y.2 != .local || scope.names.lookup y.1 == some .local)=true
 free:(scope.names.all λy=>y.2 != .free || (y.1 != xo && (sc0.names.lookup y.1 == some .cell || sc0.names.lookup y.1 == some .free)))=true
 len:N'.length=o+fr.length
 sees:((List.range fr.length).all λj=>match fr[j]? with
  | none=>false
  | some y=>match N[y]? with
   | none=>false
   | some x=>N'[o+j]? == some x && scope.names.lookup x == some .free)=true
end L2
namespace My
open PySem L2
def ev(b:Int):Ac->Int
 | []=>0
 | d :: l=>d+b * ev b l
abbrev Ju(ls:Ac)(z:Int):Int:=ls.getD z.toNat 0
def lwS(ls:Ac)(x:Int):Ac:=(Wo ls.length).filter λz=>decide (Ju ls z<x)
def mA(N:Nat)(ps:Aa)(ls:Ac)(x:Int):Ac:=Xx N (XT ps (lwS ls x))
def lvl(ls:Ac)(x:Int)(i:Nat):Ac:=(Wo i).filter λz=>decide (Ju ls z=x)
def Dk(ls T:Ac):Int:=(T.map (Ju ls)).sum
section
variable{n:Int}{ps:Aa}{T:Ac}(g:Zt n ps)
include g
theorem Zx9{W:Ac}(hT:Zf n ps T)(hW:Zf n ps W)(h:∀ z∈T,z∈W):T.Perm W:=by
 have:=fw (l:=W) hT.1.nodup (by have:=hT.2.1;have:=hW.2.1;lia) h
 exact this.symm
end
theorem Zx8{n:Int}{ps:Aa}{T W:Ac}(hT:Zf n ps T)(hW:Zf n ps W):(T.filter λy=>decide (y∉W)).length=(W.filter λy=>decide (y∉T)).length:=by
 have e1:=gC (λy=>decide (y∈W)) T;have e2:=gC (λy=>decide (y∈T)) W
 have p:(T.filter λy=>decide (y∈W)).Perm (W.filter λy=>decide (y∈T)):=(Lv (hT.1.nodup.filter _) (hW.1.nodup.filter _)).mpr λy=>by rw[Yf,Yf,YU,YU];exact And.comm
 have f1:(T.filter λy=>decide (y∉W))=T.filter λy=>!decide (y∈W):=ME λy _=>by simp
 have f2:(W.filter λy=>decide (y∉T))=W.filter λy=>!decide (y∈T):=ME λy _=>by simp
 have:=p.length_eq
 have h1:=hT.2.1;have h2:=hW.2.1
 rw[f1,f2];lia
end My
namespace HT
open PySem PyProof.Rows
section
def ltP(x y:Int × Ac):Bool:=decide (x.1<y.1) || (decide (x.1=y.1) && lexLt x.2 y.2)
end
end HT
namespace My
open PySem L2
def bkD(d:Int):Int:=if d % 2=0 then d+1 else d - 1
def fi(ps:Aa)(p:Int):Nat->Ac
 | 0=>[]
 | i+1=>fi ps p i++(if (ps.getD i (0,0)).1=p then [2 * (i:Int)] else [])++(if (ps.getD i (0,0)).2=p then [2 * (i:Int)+1] else [])
def dts(ps:Aa)(p:Int):Ac:=fi ps p ps.length
def VT(n:Nat)(ps:Aa)(ts:Ab):Prop:=ts.length=n/\∀(p:Nat) (row:Ac),ts[p]?=some row->row.Perm (dts ps (p:Int))
def bhR(row:Ac)(k:Nat):Aa:=(List.range k).map λi=>(bkD (row.getD i 0),row.getD ((i+1) % row.length) 0)
def bhL(ts:Ab):Aa:=ts.flatMap λrow=>bhR row row.length
def Orb(B:Aa)(d:Int)(row:Ac):Prop:=row[0]?=some d/\row.Nodup/\(∀ i x y,row[i]?=some x->row[i+1]?=some y->(x,y)∈B)/\∀ x,row[row.length - 1]?=some x->(x,d)∈B
def fh(B:Aa):Nat->Ab->Prop
 | 0,R=>R=[]
 | k+1,R=>∃ R',fh B k R'/\(((k:Int)∈R'.flatten/\R=R')\/((k:Int)∉R'.flatten/\∃ row,Orb B k row/\R=R'++[row]))
structure JagAt (H0:Hp) (r:Addr) (H:Hp) (ys:List V) (L:Ab):Prop where
 tab:H r=some (.lst ys)
 rows:Bears (LiV r H) ys L
 nd:ys.Nodup
 new:∀ A,V.ref A∈ys->H0 A=none
def RdW(ps:Aa)(ts:Ab)(R:Ab):Prop:=(ps.length=0/\R=[[]])\/(0<ps.length/\fh (bhL ts) (2 * ps.length) R)
def plR(row:Ac)(k:Int):Aa:=row.map λd=>(d,k)
def fg(ts:Ab):Nat->Aa
 | 0=>[]
 | i+1=>fg ts i++plR (ts.getD i []) i
def Flat(n:Int)(ps:Aa)(R:Ab):Prop:=LZ n ps/\n - (ps.length:Int)+(R.length:Int)=2
def fc(R:Ab)(d:Int):Int:=((fg R R.length).find? λp=>decide (p.1=d)).elim 0 (·.2)
def Hv(R:Ab)(m:Nat):Aa:=(List.range m).map λ(k:Nat)=>(fc R (2 * (k:Int)),fc R (2 * (k:Int)+1))
section
variable{one d0 d1:Int}{other:Option Int}
def i4(one:Int)(other:Option Int)(d0 d1 y:Int):Int:=if y=one then d0 else if some y=other then d1 else y
end
structure Back (n:Nat) (ps:Aa) (ts R D:Ab):Prop where
 flat:Flat n ps R
 uW:R.length<=14
 rows:∀ l∈R,l.length<64
 good:Zt R.length (Hv R ps.length)
 vt:VT R.length (Hv R ps.length) R
 rds:RdW (Hv R ps.length) R D
 fb:Flat R.length (Hv R ps.length) D
 len:D.length=n
 good2:Zt n (Hv D ps.length)
 tc:∀ c,TC n ps c->TC n (Hv D ps.length) c
 nd:D.flatten.Nodup
 all:∀ x:Int,0<=x->x<2 * (ps.length:Int)->x∈D.flatten
 small:D.flatten.length<=100
end My
namespace L2
open PySem PySem.Spec PyProof.Rows
section
variable{X:Cx}{a b:Expr}
theorem pZ:WG X (compareOp .IsNot) (λx y H Q=>∃ a b:Bool,x=.bl a/\y=.bl b/\Q (.bl (!decide (a=b))) H):=by intro pins s σ H x y v u Q I rx ry h;obtain⟨a,b,rfl,rfl,q⟩:=h;cases rx;cases ry;refine PySem.wpAny_isNot_plain rfl (ZF I q ?_);cases a <;> cases b <;> rfl
end
end L2
namespace My
open PySem L2
def nT(i:Int):Str:=Str.ofString (toString i)
def Told(l:Ac):Prop:=∀ z∈l,-(10 ^ 60)<z/\z<(10:Int) ^ 60
abbrev Tr:=Int × Aa × Ac
def e9(T:Tr):Prop:=Zt T.1 T.2.1/\T.2.2.length=T.2.1.length/\Told T.2.2
def pY(C:Addr)(H:Hp)(v:V)(T:Tr):Prop:=∃ t w a,v=.ref t/\H t=some (.tup [.ref w,.ref a])/\WebAt C H w T.1 T.2.1/\H a=some (.lst (IL T.2.2))
def pX(H:Hp)(v:V)(T:Tr):Prop:=∃ p l b xs,v=.ref p/\H p=some (.tup [.int T.1,.ref l,.ref b])/\H l=some (.lst xs)/\PairsV H xs T.2.1/\H b=some (.lst (IL T.2.2))
def pW (C:Addr) (H:Hp) (x d:Addr) (zs:List V):Prop:=∃ dx,H x=some (.ins C dx (XQ "stages" (.ref d) []))/\H d=some (.lst zs)
structure DSt (CD C:Addr) (H:Hp) (x d pA:Addr) (zs ys:List V) (L M:List Tr):Prop where
 desk:pW CD H x d zs
 st:Bears (pY C H) zs L
 pst:H pA=some (.lst ys)
 past:Bears (pX H) ys M
 okL:∀ T∈L,e9 T
 okM:∀ T∈M,e9 T
 posL:0<L.length
 posM:0<M.length
end My
namespace L2
open PySem PySem.Spec PyProof.Rows
section
variable{H:Hp}{e C:Addr}{fl:Value}{h0:Heap}
structure FlyM (h0:Heap) (H:Hp) (e C:Addr) (fl:Value) (h:Heap):Prop where
 ex:∃ oe vs T oT ts a0,h.get? e=some oe/\oe.cls=.ref C/\oe.data=.fields vs/\vs[0]?=some a0/\vs[1]?=some (.ref T)/\T≠e/\h.get? T=some oT/\oT.data=.fields ts/\ts[3]?=some fl/\h0.get? T=none/\H T=none
 new:h0.get? e=none
 free:H e=none
end
end L2
namespace My
open PySem PySem.W PyProof.Rows
def UM{α:Type}(c:Nat->Nat->Bool):KasT α->α
 | .ret a=>a
 | .ask i j k=>UM c (k (c i j))
theorem RA{α β:Type}{c:Nat->Nat->Bool}{f:α->KasT β}:∀ t:KasT α,UM c (t.bind f)=UM c (f (UM c t))
 | .ret _=>rfl
 | .ask i j k=>RA (k (c i j))
section
variable{n:Nat}{key:Nat->Int}
def Ahd(key:Nat->Int)(i j:Nat):Prop:=key i<key j\/(key i=key j/\i<j)
theorem Ahd.trans{i j k:Nat}(h1:Ahd key i j)(h2:Ahd key j k):Ahd key i k:=by unfold Ahd at *;grind
structure Ord (n m:Nat) (p:Array Nat):Prop where
 perm:p.Perm (List.range n).toArray
 suf:∀ i,m<=i->i<n->p.getD i 0=i
theorem Ord.size{m:Nat}{p:Array Nat}(h:Ord n m p):p.size=n:=by rw[h.perm.size_eq];simp
theorem Nn{p:Array Nat}{i:Nat}(h:i<p.size):p[i]?=some (p.getD i 0):=by rw[Yy,YE h];rfl
theorem Ord.inj{m:Nat}{p:Array Nat}(h:Ord n m p){i j:Nat}(hi:i<n)(hj:j<n)(e:p.getD i 0=p.getD j 0):i=j:=by
 have hn:p.toList.Nodup:=(Ox.mp h.perm).nodup_iff.mpr List.nodup_range;have hs:=h.size
 have e1:=Nn (p:=p) (i:=i) (by lia);have e2:=Nn (p:=p) (i:=j) (by lia)
 rw[<- YT]at e1 e2;exact(xn (i:=i) (j:=j) (by rw[YD];omega) hn).mp (by rw[e1,e2,e])
theorem Ord.lt{m:Nat}{p:Array Nat}(h:Ord n m p)(hm:m<=n){i:Nat}(hi:i<m):p.getD i 0<m:=by
 by_cases hc:p.getD i 0<m
 .exact hc
 .have hs:=h.size;have hb:p.getD i 0<n:=by have e1:=Nn (p:=p) (i:=i) (by grind);rw[<- YT]at e1;exact YI.mp ((Ox.mp h.perm).mem_iff.mp (Xd e1))
  have e:=h.inj (by lia) hb (h.suf _ (by omega) hb).symm;grind
theorem Ord.mono{m k:Nat}{p:Array Nat}(h:Ord n m p)(hk:m<=k):Ord n k p:=⟨h.perm,λi hi=>h.suf i (by lia)⟩
theorem OJ{p:Array Nat}{i j k:Nat}(hj:j<=p.size):(kas_rev p i j).getD k 0=if i<=k/\k<j then p.getD (i+j - 1 - k) 0 else p.getD k 0:=by unfold kas_rev;rw[Yy,getElem?_mirror_all hj,apply_ite (λo:Option Nat=>o.getD 0),<- Yy,<- Yy]
theorem Ord.rev{m i j:Nat}{p:Array Nat}(h:Ord n m p)(hj:j<=m)(hm:m<=n):Ord n m (kas_rev p i j):=by have hs:=h.size;refine⟨(mirror_perm _ _ _ _).trans h.perm,λk hk hn=>?_⟩;rw[OJ (by lia),if_neg (by lia)];exact h.suf k hk hn
def Asc(key:Nat->Int)(m:Nat)(p:Array Nat):Prop:=∀ i j,i<j->j<m->Ahd key (p.getD i 0) (p.getD j 0)
theorem Asc.more{m:Nat}{p:Array Nat}(hm:1<=m)(h:Asc key m p)(h2:Ahd key (p.getD (m - 1) 0) (p.getD m 0)):Asc key (m+1) p:=λi j Ux hj=>by
 by_cases e:j=m
 .subst e;by_cases e2:i=j - 1
  .rw[e2];exact h2
  .exact(h i (j - 1) (by lia) (by omega)).trans h2
 .exact h i j Ux (by lia)
theorem Jt:∀(f m:Nat) (p:Array Nat),m+f=n->1<=m->Ord n m p->Asc key m p->∃ k,UM (λi j=>decide (key i<key j)) (kas_asc p f m)=k/\m<=k/\k<=n/\Asc key k p/\(k<n->key (p.getD k 0)<key (p.getD (k - 1) 0))
 | 0,m,p,hf,h1,ho,ha=>⟨m,rfl,XO _,by lia,ha,λh=>by lia⟩
 | f+1,m,p,hf,h1,ho,ha=>by
  show ∃ k,UM _ (if decide (key (p.getD m 0)<key (p.getD (m - 1) 0))=true then KasT.ret m else kas_asc p f (m+1))=k/\_;by_cases hc:key (p.getD m 0)<key (p.getD (m - 1) 0)
  .rw[if_pos (Yw hc)];exact⟨m,rfl,XO _,by lia,ha,λ_=>hc⟩
  .rw[if_neg (λz=>hc (Yu z))];have e:=ho.suf m (XO _) (by lia)
   have l:=ho.lt (by lia) (i:=m - 1) (by lia);obtain⟨k,e1,e2,e3,e4,e5⟩:=Jt f (m+1) p (by lia) (by lia) (ho.mono (by lia)) (ha.more h1 (by unfold Ahd;rw[e]at hc ⊢;lia));exact⟨k,e1,by lia,e3,e4,e5⟩
structure Dsc (key:Nat->Int) (m g:Nat) (p:Array Nat):Prop where
 le:g+1<=m
 old:∀ i j,i<j->j<m - (g+1)->Ahd key (p.getD j 0) (p.getD i 0)
 mid:∀ i j,i<m - (g+1)->m - (g+1)<=j->j<m->key (p.getD j 0)<key (p.getD i 0)
 own:∀ i j,m - (g+1)<=i->i<j->j<m->key (p.getD i 0)=key (p.getD j 0)/\p.getD i 0<p.getD j 0
def Fall(key:Nat->Int)(m:Nat)(p:Array Nat):Prop:=∀ i j,i<j->j<m->Ahd key (p.getD j 0) (p.getD i 0)
theorem Dsc.turn{m g:Nat}{p:Array Nat}(h:Dsc key m g p)(hs:m<=p.size):Fall key m (kas_rev p (m - (g+1)) m):=λi j Ux hj=>by
 have hl:=h.le;rw[OJ hs,OJ hs];by_cases c1:m - (g+1)<=j
 .rw[if_pos ⟨c1,hj⟩];by_cases c2:m - (g+1)<=i
  .rw[if_pos ⟨c2,by lia⟩];exact .inr (h.own (m - (g+1)+m - 1 - j) (m - (g+1)+m - 1 - i) (by omega) (by omega) (by lia))
  .rw[if_neg (by lia)];exact .inl (h.mid i _ (by lia) (by lia) (by lia))
 .rw[if_neg (by lia),if_neg (by lia)];exact h.old i j Ux (by lia)
theorem Dsc.last{m g:Nat}{p:Array Nat}(h:Dsc key m g p)(hs:m<=p.size):key ((kas_rev p (m - (g+1)) m).getD (m - 1) 0)=key (p.getD (m - 1) 0):=by
 have hl:=h.le;rw[OJ hs,if_pos (by grind)];by_cases e:g=0
 .congr 2;grind
 .exact(h.own (m - (g+1)+m - 1 - (m - 1)) (m - 1) (by omega) (by omega) (by lia)).1
theorem Dsc.fall{m:Nat}{p:Array Nat}(h:Dsc key m 0 p):Fall key m p:=λi j Ux hj=>by
 have hl:=h.le;by_cases e:j<m - (0+1)
 .exact h.old i j Ux e
 .exact .inl (h.mid i j (by grind) (by lia) hj)
theorem Fall.new{m:Nat}{p:Array Nat}(hm:1<=m)(h:Fall key m p)(hk:key (p.getD m 0)<key (p.getD (m - 1) 0)):Dsc key (m+1) 0 p:=by
 refine⟨by lia,λi j Ux hj=>h i j Ux (by lia),λi j hi h1 h2=>?_,λi j h1 h2 h3=>by grind⟩;have e:j=m:=by lia
 subst e;by_cases c:i=j - 1
 .rw[c];exact hk
 .have:=h i (j - 1) (by lia) (by omega)
  unfold Ahd at this;omega
theorem Fall.rev{m:Nat}{p:Array Nat}(h:Fall key m p)(hs:m<=p.size):Asc key m (kas_rev p 0 m):=λi j Ux hj=>by rw[OJ hs,OJ hs,if_pos ⟨Yo _,by lia⟩,if_pos ⟨Yo _,hj⟩];exact h _ _ (by omega) (by omega)
theorem Asc.rev{m:Nat}{p:Array Nat}(h:Asc key m p)(hs:m<=p.size):Fall key m (kas_rev p 0 m):=λi j Ux hj=>by rw[OJ hs,OJ hs,if_pos ⟨Yo _,hj⟩,if_pos ⟨Yo _,by omega⟩];exact h _ _ (by omega) (by omega)
theorem Nm:∀(f m g:Nat) (p:Array Nat),m+f=n->Ord n m p->Dsc key m g p->∃ p' m' g',UM (λi j=>decide (key i<key j)) (kas_desc f p m g)=(p',m',g')/\m<=m'/\m'<=n/\Ord n m' p'/\Dsc key m' g' p'
 | 0,m,g,p,hf,ho,hd=>⟨p,m,g,rfl,XO _,by omega,ho,hd⟩
 | f+1,m,g,p,hf,ho,hd=>by
  have hl:=hd.le;have hs:=ho.size
  have em:=ho.suf m (XO _) (by lia);have ll:=ho.lt (by lia) (i:=m - 1) (by lia)
  show ∃ p' m' g',UM _ (if decide (key (p.getD m 0)<key (p.getD (m - 1) 0))=true then (if g > 0 then kas_desc f (kas_rev p (m - (g+1)) m) (m+1) 0 else kas_desc f p (m+1) 0) else KasT.ask (p.getD (m - 1) 0) (p.getD m 0) λd=>if d=true then .ret (p,m,g) else kas_desc f p (m+1) (g+1))=_/\_;by_cases hc:key (p.getD m 0)<key (p.getD (m - 1) 0)
  .rw[if_pos (Yw hc)];by_cases hg:g > 0
   .rw[if_pos hg];have hr:=ho.rev (i:=m - (g+1)) (XO m) (by lia)
    have em2:=hr.suf m (XO _) (by lia);obtain⟨p',m',g',e1,e2,e3,e4,e5⟩:=Nm f (m+1) 0 (kas_rev p (m - (g+1)) m) (by lia) (hr.mono (by lia)) ((hd.turn (by lia)).new (by lia) (by rw[hd.last (by omega),em2];rw[em]at hc;exact hc));exact⟨p',m',g',e1,by lia,e3,e4,e5⟩
   .rw[if_neg hg];obtain rfl:g=0:=by lia
    obtain⟨p',m',g',e1,e2,e3,e4,e5⟩:=Nm f (m+1) 0 p (by omega) (ho.mono (by omega)) (hd.fall.new (by lia) hc);exact⟨p',m',g',e1,by lia,e3,e4,e5⟩
  .rw[if_neg (λz=>hc (Yu z))];show ∃ p' m' g',UM _ (if decide (key (p.getD (m - 1) 0)<key (p.getD m 0))=true then KasT.ret (p,m,g) else kas_desc f p (m+1) (g+1))=_/\_
   by_cases Ve:key (p.getD (m - 1) 0)<key (p.getD m 0)
   .rw[if_pos (Yw Ve)];exact⟨p,m,g,rfl,XO _,by omega,ho,hd⟩
   .rw[if_neg (λz=>Ve (Yu z))];have ek:key (p.getD (m - 1) 0)=key (p.getD m 0):=by lia
    obtain⟨p',m',g',e1,e2,e3,e4,e5⟩:=Nm f (m+1) (g+1) p (by omega) (ho.mono (by omega)) ⟨by lia,λi j h1 h2=>hd.old i j h1 (by lia),λi j h1 h2 h3=>by
     by_cases c:j=m
     .rw[c,<- ek];exact hd.mid i (m - 1) (by lia) (by grind) (by lia)
     .exact hd.mid i j (by lia) (by lia) (by lia),λi j h1 h2 h3=>by
     by_cases c:j=m
     .rw[c];by_cases c2:i=m - 1
      .rw[c2,em];rw[em]at ek;exact⟨ek,ll⟩
      .have:=hd.own i (m - 1) (by lia) (by lia) (by omega)
       rw[em];rw[em]at ek;exact⟨this.1.trans ek,by lia⟩
     .exact hd.own i j (by lia) h2 (by omega)⟩
    exact⟨p',m',g',e1,by lia,e3,e4,e5⟩
theorem e8{m:Nat}{p:Array Nat}(hm:1<=m)(hn:m<=n)(ho:Ord n m p)(hf:Fall key m p):∃ k p',UM (λi j=>decide (key i<key j)) (kas_tail3 m n p)=(k,p')/\1<=k/\k<=n/\Ord n k p'/\Asc key k p':=by
 have hs:=ho.size;unfold kas_tail3;rw[RA];have hr:=ho.rev (i:=0) (XO m) hn
 obtain⟨k,e1,e2,e3,e4,_⟩:=Jt (n - m) m (kas_rev p 0 m) (by grind) hm hr (hf.rev (by lia));rw[e1];exact⟨k,_,rfl,by lia,e3,hr.mono e2,e4⟩
theorem eZ{m:Nat}{p:Array Nat}(hm:1<=m)(hn:m<n)(ho:Ord n m p)(hf:Fall key m p)(hk:key (p.getD m 0)<key (p.getD (m - 1) 0)):∃ k p',UM (λi j=>decide (key i<key j)) (kas_descPart m n p)=(k,p')/\1<=k/\k<=n/\Ord n k p'/\Asc key k p':=by
 unfold kas_descPart;rw[RA];obtain⟨p',m',g',e1,e2,e3,e4,e5⟩:=Nm (n - (m+1)) (m+1) 0 p (by grind) (ho.mono (by lia)) (hf.new hm hk);rw[e1];have hs:=e4.size
 show ∃ k q,UM _ (if g' > 0 then kas_tail3 m' n (kas_rev p' (m' - (g'+1)) m') else kas_tail3 m' n p')=_/\_;by_cases hg:g' > 0
 .rw[if_pos hg];exact e8 (by lia) e3 (e4.rev (XO _) e3) (e5.turn (by lia))
 .rw[if_neg hg];obtain rfl:g'=0:=by lia
  exact e8 (by lia) e3 e4 e5.fall
theorem pV{p:Array Nat}(hn:1<=n)(ho:Ord n 1 p):∃ k p',UM (λi j=>decide (key i<key j)) (kas_count n p)=(k,p')/\1<=k/\k<=n/\Ord n k p'/\Asc key k p':=by
 unfold kas_count;rw[RA];obtain⟨k,e1,e2,e3,e4,e5⟩:=Jt (key:=key) (n - 1) 1 p (by lia) (XO _) ho λi j h1 h2=>by lia
 rw[e1];have hs:=ho.size
 have hk:=ho.mono e2;by_cases c:k=n
 .rw[if_pos (by rw[c];exact Om n)];exact⟨k,p,rfl,e2,e3,hk,e4⟩
 .rw[if_neg (λz=>c (SW.mp z))];have Xi:k<n:=by lia
  have h5:=e5 Xi;by_cases c1:k > 1
  .rw[if_pos c1];show ∃ k' p',UM _ (if decide (key (p.getD 0 0)<key (p.getD (k - 1) 0))=true then KasT.ret (k,p) else kas_descPart k n (kas_rev p 0 k))=_/\_
   by_cases c2:key (p.getD 0 0)<key (p.getD (k - 1) 0)
   .rw[if_pos (Yw c2)];exact⟨k,p,rfl,e2,e3,hk,e4⟩
   .rw[if_neg (λz=>c2 (Yu z))];have a0:=e4 0 (k - 1) (by lia) (by lia)
    have eq:key (p.getD 0 0)=key (p.getD (k - 1) 0):=by unfold Ahd at a0;grind
    have hr:=hk.rev (i:=0) (XO k) (by lia);refine eZ e2 Xi hr (e4.rev (by lia)) ?_;rw[OJ (by omega),OJ (by omega),if_neg (by lia),if_pos (by lia),show 0+k - 1 - (k - 1)=0 by lia,eq];exact h5
  .rw[if_neg c1];obtain rfl:k=1:=by lia
   exact eZ (XO _) Xi hk (λi j h1 h2=>by lia) h5
theorem Jr{p:Array Nat}{k:Nat}(hk:Asc key k p):∀(f l r:Nat),r - l<=f->l<=r->r<=k->(∀ i,i<l->¬ key (p.getD k 0)<key (p.getD i 0))->(∀ i,r<=i->i<k->key (p.getD k 0)<key (p.getD i 0))->∃ l',UM (λi j=>decide (key i<key j)) (kas_place p k f l r)=l'/\l'<=k/\(∀ i,i<l'->¬ key (p.getD k 0)<key (p.getD i 0))/\(∀ i,l'<=i->i<k->key (p.getD k 0)<key (p.getD i 0))
 | 0,l,r,hf,h1,h2,ha,hb=>⟨l,rfl,by lia,ha,λi hi=>hb i (by grind)⟩
 | f+1,l,r,hf,h1,h2,ha,hb=>by
  have mono:∀ i j,i<=j->j<k->key (p.getD i 0)<=key (p.getD j 0):=λi j Ux hj=>by
   by_cases e:i=j
   .rw[e];exact Ou _
   .have:=hk i j (by lia) hj
    unfold Ahd at this;lia
  unfold kas_place;by_cases c:l >= r
  .rw[if_pos c];exact⟨l,rfl,by lia,ha,λi hi=>hb i (by lia)⟩
  .rw[if_neg c];show ∃ l',UM _ (if decide (key (p.getD k 0)<key (p.getD ((l+r) / 2) 0))=true then kas_place p k f l ((l+r) / 2) else kas_place p k f ((l+r) / 2+1) r)=l'/\_
   by_cases c2:key (p.getD k 0)<key (p.getD ((l+r) / 2) 0)
   .rw[if_pos (Yw c2)];exact Jr hk f l ((l+r) / 2) (by grind) (by lia) (by lia) ha λi hi qE=>by
     have:=mono ((l+r) / 2) i hi qE
     omega
   .rw[if_neg (λz=>c2 (Yu z))];exact Jr hk f ((l+r) / 2+1) r (by grind) (by lia) (by lia) (λi hi=>by
     have:=mono i ((l+r) / 2) (by lia) (by lia)
     omega) hb
theorem Jq{p:Array Nat}{k d x:Nat}(hk:k<p.size)(hd:d<=k):(bubble p k d).getD x 0=if x=k - d then p.getD k 0 else if k - d<x/\x<=k then p.getD (x - 1) 0 else p.getD x 0:=by rw[Yy,getElem?_bubble hk d hd,apply_ite (λo:Option Nat=>o.getD 0),apply_ite (λo:Option Nat=>o.getD 0),<- Yy,<- Yy,<- Yy]
theorem Dj:∀(f k:Nat) (p:Array Nat),k+f=n->Ord n k p->Asc key k p->∃ p',UM (λi j=>decide (key i<key j)) (kas_bin f p k)=p'/\Ord n n p'/\Asc key n p'
 | 0,k,p,hf,ho,ha=>by
  obtain rfl:k=n:=by lia
  exact⟨p,rfl,ho,ha⟩
 | f+1,k,p,hf,ho,ha=>by
  have hs:=ho.size;have ek:=ho.suf k (XO _) (by lia)
  unfold kas_bin;rw[RA];obtain⟨l,e1,e2,e3,e4⟩:=Jr ha k 0 k (by lia) (by lia) (XO _) (λi hi=>by lia) λi hi VA=>by grind
  rw[e1];refine Dj f (k+1) (bubble p k (k - l)) (by lia) ⟨(bubble_perm _ _ _).trans ho.perm,λi hi hn=>?_⟩ λi j Ux hj=>?_
  .rw[Jq (by lia) (by grind),if_neg (by lia),if_neg (by lia)];exact ho.suf i (by lia) hn
  .have low:∀ x,x<k->p.getD x 0<k:=λx hx=>ho.lt (by lia) hx;rw[Jq (by lia) (by grind),Jq (by omega) (by omega)];have ekl:k - (k - l)=l:=by grind
   rw[ekl];by_cases c1:i=l
   .rw[if_pos c1,if_neg (by lia),if_pos (by lia)];exact .inl (e4 (j - 1) (by grind) (by grind))
   .rw[if_neg c1];by_cases c2:j=l
    .rw[if_pos c2,if_neg (by lia)];have a:=e3 i (by grind)
     have b:=low i (by lia);rw[ek]at a ⊢;unfold Ahd;lia
    .rw[if_neg c2];by_cases c3:l<i
     .rw[if_pos ⟨c3,by lia⟩,if_pos ⟨by lia,by lia⟩];exact ha _ _ (by grind) (by grind)
     .rw[if_neg (by lia)];by_cases c4:l<j
      .rw[if_pos ⟨c4,by omega⟩];exact ha _ _ (by lia) (by grind)
      .rw[if_neg (by lia)];exact ha _ _ Ux (by lia)
theorem Nl(hn:1<=n):∃ p,UM (λi j=>decide (key i<key j)) (kas_sort n)=p/\p.toList.Perm (List.range n)/\p.toList.Pairwise (Ahd key):=by
 have fin:∀ p,Ord n n p->Asc key n p->p.toList.Perm (List.range n)/\p.toList.Pairwise (Ahd key):=λp ho ha=>by
  have hs:=ho.size;refine⟨Ox.mp ho.perm,Ir.mpr λi j hi hj Ux=>?_⟩;rw[YD]at hi hj
  have:=ha i j Ux (by lia)
  rw[Yy,Yy,YE hi,YE hj]at this;exact this
 unfold kas_sort;rw[RA];obtain⟨k,p,e1,e2,e3,e4,e5⟩:=pV (key:=key) hn (p:=(List.range n).toArray) ⟨Array.Perm.refl _,λi _ hi=>by simp[Array.getD,hi]⟩;rw[e1];show ∃ q,UM _ (if k<n then kas_bin (n - max k 1) p (max k 1) else .ret p)=q/\_
 by_cases c:k<n
 .rw[if_pos c,Nat.max_eq_left e2];obtain⟨q,h1,h2,h3⟩:=Dj (n - k) k p (by grind) e4 e5;exact⟨q,h1,fin q h2 h3⟩
 .rw[if_neg c];obtain rfl:k=n:=by lia
  exact⟨p,rfl,fin p e4 e5⟩
end
end My
namespace L2
open PySem PySem.Spec PyProof.Rows
def PQ(P:Program)(w:World)(K:Ad)(mg:Af)(base:Heap)(N:List Str)(qual:Str)(scope:Scope)(f:Addr)(cd:Value)(cl:List (Str × Addr))(A:Around)(outer:List Env)(s:Shared)(H:Hp):Cx where
 prog:=P
 w:=w
 K:=K
 mg:=mg
 base:=base
 A:=A.deeper (PySem.W.envX qual scope s.heap.objs.size f cd cl)
 N:=N
 s₀:=s
 H₀:=H
 env:=PySem.W.envX qual scope s.heap.objs.size f cd cl
 outer:=outer
 stack:=PySem.W.envX qual scope s.heap.objs.size f cd cl :: outer
 ex:=[]
 calm:=true
 fn:=λ_=>false
 pn:=[]
 xe:=λ_ _=>False
structure LamScope (v x:Str) (sc:Scope):Prop where
 kind:sc.kind=.function
 co:sc.isCoroutine=false
 gen:sc.isGenerator=false
 nocell:∀ y∈sc.names,y.2≠.cell
 par:sc.names.lookup v=some .local
 free:sc.names.lookup x=some .free
 only:∀ y,sc.names.lookup y=some .free->y=x
 ne:v≠x
section
variable{P:Program}{w:World}{K:Ad}{mg:Af}{base:Heap}{qual name v x:Str}{scope:Scope}{f c c':Addr}{cd pm Sj u ux:Value}{A:Around}{outer:List Env}{s:Shared}{H:Hp}{vv vx:V}{params:Arguments}{body:Expr}{k:Nat}{t:TE}{Q:VK}
theorem yH{y:Str}{c2:Addr}(h:List.lookup y [(x,c)]=some c2):y=x/\c2=c:=by
 unfold List.lookup at h;split at h
 .rename_i e;exact⟨SW.mp e,(Yi h).symm⟩
 .cases h
theorem pU(S:LamScope v x scope)(hd:A.handled=none)(e0:Env0 P w K mg base A outer s H)(hc:s.heap.IsCell c (some ux))(rx:RelV vx ux)(pT:H c=none)(rv:RelV vv u){h1:Heap}{tk:Nat}
  (VO:h1.Ns s.heap.objs.size λy=>[(v,u)].reverse.lookup y) (hk:∀ b o,s.heap.get? b=some o->h1.get? b=some o) :
  Inv (PQ P w K mg base [v,x] qual scope f cd [(x,c)] A outer s H) [] [some vv,some vx] H { s with heap:=h1,toks:=tk }:=by
 have Kt:∀ b:Addr,b∉(PQ P w K mg base [v,x] qual scope f cd [(x,c)] A outer s H).ex:=λb z=>absurd (show b∈([]:List Addr) from z) (by simp);have eY:h1.IsCell c (some ux):=by obtain⟨o,e,d⟩:=hc;exact⟨o,hk _ _ e,d⟩
 have lk:List.lookup x [(x,c)]=some c:=by unfold List.lookup;rw[Om]
 refine⟨⟨e0.mod,S.kind,rfl,rfl,XO _,λy z c2 h1 h2=>?_,λy hy=>?_,λy c2 z _=>(nomatch z),λ_=>hd,Around.frames_deeper e0.frames,.inr ⟨rfl,rfl⟩,λb z=>absurd z (Kt b),e0.bs,e0.bsz,λb _ _=>Kt b,λb z=>absurd z (Kt b),e0.funs,e0.frf⟩,
  rfl,e0.bare,Un.kept hk,⟨_,VO,λi y v' h1 h2 h3=>?_⟩,λy c2 h=>?_,e0.hok.fresh (XO _),λy c2 h=>?_,λp hp=>absurd (show p∈([]:List (Addr × Obj)) from hp) (by simp),e0.hok.kept hk,rfl⟩
 .rw[(yH h1).1,(yH h2).1]
 .have hy:scope.names.lookup y=some .cell\/scope.names.lookup y=some .free:=hy;rcases hy with hy | hy
  .exact absurd rfl (S.nocell _ (Lr hy))
  .rw[S.only y hy];exact⟨c,lk⟩
 .match i,h1,h2 with
  | 0,h1,h2 =>
   obtain rfl:v=y:=Yi h1;obtain rfl:vv=v':=Yi (Yi h2);refine⟨u,rv,.inl ⟨S.par,?_⟩⟩;show List.lookup v [(v,u)]=some u
   unfold List.lookup;rw[Om]
  | 1,h1,h2 =>
   obtain rfl:x=y:=Yi h1;obtain rfl:vx=v':=Yi (Yi h2);exact⟨ux,rx,.inr ⟨.inr S.free,c,lk,eY⟩⟩
  | i+2,h1,h2=>cases h1
 .rw[(yH h).2];exact⟨_,eY⟩
 .rw[(yH h).2];exact pT
theorem pS(S:LamScope v x scope)(hr:Room (k+1) A)(e0:Env0 P w K mg base A outer s H)(ho:s.heap.get? f=some (PySem.W.kla_obj name qual params body scope [(x,c)] pm c' Sj))(Ul:s.heap.CodeRec (.ref c') qual)
  (Tv:bindArgs (PySem.W.kla_fn name qual params body scope [(x,c)] pm (.ref c') Sj) ⟨[u],[]⟩=pure [(v,u)]) (hc:s.heap.IsCell c (some ux)) (rx:RelV vx ux) (pT:H c=none) (rv:RelV vv u)
  (hb:PE (PQ P w K mg base [v,x] qual scope f (.ref c') [(x,c)] A outer s H) body t) (hq:t [some vv,some vx] H Q) :
  codeAny (model P w) A (.call (.ref f) ⟨[u],[]⟩) (λr s'=>∃ u',r=.ok (.ret u')/\CE outer P w H s Q u' s') s:=by
 have lim:s.heap.NoLimit:=e0.mod.nolimit.keeps λb o e=>(e0.bs b o e).1;refine PySem.W.kla_callFunE hr.depth ho rfl S.co S.gen rfl Ul ?_;rw[Tv];refine Yj (wpAny_newFunctionEnv S.nocell (λy hy=>?_) (λh1 VO zA=>⟨lim.fresh _ zA,?_⟩) S.kind)
 .rw[XD.mp hy];exact S.par
 have hk:∀ b o,s.heap.get? b=some o->h1.get? b=some o:=λb o e=>zA.extBut b o (Yt (Yl e)) (Xc _ e);have I:Inv (PQ P w K mg base [v,x] qual scope f (.ref c') [(x,c)] A outer s H) [] [some vv,some vx] H { s with heap:=h1,toks:=s.toks+[(v,u)].length }:=pU S hr.hd e0 hc rx pT rv VO hk
 refine PySem.W.kla_codeExpr (UG (hb [] _ _ H _ I hq) (λu' s' h=>?_) λe s' h=>False.elim h);obtain⟨y,H',J,r,q⟩:=h;exact⟨u',rfl,y,H',J.os,J.bare,J.base,J.hok,r,q⟩
end
end L2
namespace My
open PySem PySem.W PyProof.Rows
def Asks{α:Type}(n:Nat)(R:α->Prop):KasT α->Prop
 | .ret a=>R a
 | .ask i j k=>i<n/\j<n/\∀ b,Asks n R (k b)
theorem Asks.bind{α β:Type}{n:Nat}{R:α->Prop}{S:β->Prop}{f:α->KasT β}:∀ {t:KasT α},Asks n R t->(∀ a,R a->Asks n S (f a))->Asks n S (t.bind f)
 | .ret a,h,hf=>hf a h
 | .ask _ _ _,h,hf=>⟨h.1,h.2.1,λb=>Asks.bind (h.2.2 b) hf⟩
theorem goT_wp'{α:Type}{n:Nat}{R:α->Prop}{c:Nat->Nat->Bool}{cmp:Nat->Nat->(Bool->Shared->Prop)->Shared->Prop}{J:Shared->Prop}(h:∀ i j C s,i<n->j<n->J s->(∀ s',J s'->C (c i j) s')->cmp i j C s){Q:α->Shared->Prop}:∀(t:KasT α) (s:Shared),Asks n R t->J s->(∀ s',J s'->Q (UM c t) s')->t.kasWp cmp Q s
 | .ret _,s,_,hs,q=>q s hs
 | .ask i j k,s,ha,hs,q=>h i j _ s ha.1 ha.2.1 hs λs' OR=>goT_wp' h (k (c i j)) s' (ha.2.2 _) OR q
section
variable{n:Nat}
def Bd(n:Nat)(p:Array Nat):Prop:=p.Perm (List.range n).toArray
theorem Bd.lt{p:Array Nat}(h:Bd n p)(hn:1<=n)(i:Nat):p.getD i 0<n:=by
 by_cases hi:i<p.size
 .have e1:=Nn (p:=p) hi;rw[<- YT]at e1;exact YI.mp ((Ox.mp h).mem_iff.mp (Xd e1))
 .rw[Yy,AL (by lia)];exact hn
theorem Bd.rev{p:Array Nat}(h:Bd n p)(i j:Nat):Bd n (kas_rev p i j):=(mirror_perm _ _ _ _).trans h
theorem pR(hn:1<=n){p:Array Nat}(hp:Bd n p):∀ f m:Nat,Asks n (λ_=>True) (kas_asc p f m)
 | 0,m=>trivial
 | f+1,m=>⟨hp.lt hn _,hp.lt hn _,λb=>by
  cases b with
  | true=>exact trivial
  | false=>exact pR hn hp f (m+1)⟩
theorem yG(hn:1<=n):∀(f:Nat) (p:Array Nat) (m q:Nat),Bd n p->Asks n (λr=>Bd n r.1) (kas_desc f p m q)
 | 0,p,m,q,hp=>hp
 | f+1,p,m,q,hp=>⟨hp.lt hn _,hp.lt hn _,λb=>by
  cases b with
  | true =>
   show Asks n _ (if q > 0 then kas_desc f (kas_rev p (m - (q+1)) m) (m+1) 0 else kas_desc f p (m+1) 0);split
   .exact yG hn f _ _ _ (hp.rev _ _)
   .exact yG hn f _ _ _ hp
  | false =>
   refine⟨hp.lt hn _,hp.lt hn _,λd=>?_⟩;cases d with
   | true=>exact hp
   | false=>exact yG hn f _ _ _ hp⟩
theorem eX(hn:1<=n){p:Array Nat}(hp:Bd n p)(m r:Nat):Asks n (λz=>Bd n z.2) (kas_tail3 m r p) :=
 (pR hn (hp.rev _ _) _ _).bind λ_ _=>hp.rev _ _
theorem eW(hn:1<=n){p:Array Nat}(hp:Bd n p)(m r:Nat):Asks n (λz=>Bd n z.2) (kas_descPart m r p) :=
 (yG hn _ p _ _ hp).bind λz hz=>by
  split
  .exact eX hn (hz.rev _ _) _ _
  .exact eX hn hz _ _
theorem Zs7(hn:1<=n){p:Array Nat}(hp:Bd n p)(r:Nat):Asks n (λz=>Bd n z.2) (kas_count r p) :=
 (pR hn hp _ _).bind λz _=>by
  split
  .exact hp
  .split
   .refine⟨hp.lt hn _,hp.lt hn _,λb=>?_⟩;cases b with
    | true=>exact hp
    | false=>exact eW hn (hp.rev _ _) _ _
   .exact eW hn hp _ _
theorem pQ(hn:1<=n){p:Array Nat}(hp:Bd n p)(k:Nat):∀ f l r:Nat,Asks n (λ_=>True) (kas_place p k f l r)
 | 0,l,r=>trivial
 | f+1,l,r=>by
  unfold kas_place;split
  .exact trivial
  .refine⟨hp.lt hn _,hp.lt hn _,λb=>?_⟩;cases b with
   | true=>exact pQ hn hp k f _ _
   | false=>exact pQ hn hp k f _ _
theorem eV(hn:1<=n):∀(f:Nat) (p:Array Nat) (k:Nat),Bd n p->Asks n (λz=>Bd n z) (kas_bin f p k)
 | 0,p,k,hp=>hp
 | f+1,p,k,hp=>(pQ hn hp k _ _ _).bind λl _=>eV hn f _ _ ((bubble_perm _ _ _).trans hp)
theorem Rz(hn:1<=n):Asks n (λz=>Bd n z) (kas_sort n) :=
 (Zs7 hn (p:=(List.range n).toArray) (Array.Perm.refl _) n).bind λz hz=>by
  split
  .exact eV hn _ _ _ hz
  .exact hz
end
end My
namespace L2
open PySem PySem.Spec PyProof.Rows PySem.W
def Si(key:Int->Int)(ns ms:Ac):Prop:=∃ p:List Nat,p.Perm (List.range ns.length)/\p.Pairwise (My.Ahd λi=>key (ns.getD i 0))/\ms=p.map λi=>ns.getD i 0
section
variable{X:Cx}{pins:List (Addr × Obj)}{σ:St}{H:Hp}{s:Shared}{b:Addr}{o:Obj}
theorem Inv.pin1(I:Inv X pins σ H s)(F:FpOk X pins H b)(e:s.heap.get? b=some o)(hd:∀ v,o.data≠.cell v):Inv X (pins++[(b,o)]) σ H s:=I.pins_of λp hp=>by
 rcases Xy.mp hp with hp | hp
 .exact I.pin p (Yc _ hp)
 .rw[XD.mp hp];exact⟨e,F.1,F.2.1,F.2.2.1,hd⟩
theorem FpOk.more{pl:List (Addr × Obj)}(F:FpOk X pins H b)(hn:∀ p∈pl,p.1≠b):FpOk X (pins++pl) H b:=⟨F.1,F.2.1,F.2.2.1,F.2.2.2.1,F.2.2.2.2.1,λp hp=>by
 rcases Xy.mp hp with hp | hp
 .exact F.2.2.2.2.2 p (Ya _ hp)
 .rcases Xy.mp hp with hp | hp
  .exact F.2.2.2.2.2 p (Yc _ hp)
  .exact hn p hp⟩
theorem Inv.changed{h':Heap}{t':Nat}(I:Inv X pins σ H s)(F:FpOk X pins H b)(k:∀ c o,c≠b->s.heap.get? c=some o->h'.get? c=some o):Inv X pins σ H { s with heap:=h',toks:=t' } :=
 I.turned k F.1 F.2.1 F.2.2.2.1 F.2.2.2.2.1 F.2.2.2.2.2
theorem Inv.adopt{u:HO}(I:Inv X pins σ H s)(hex:X.ex=[])(F:FpOk X pins H b)(new:ObjOk X.prog X.w (upd H b u) s.heap b u):Inv X pins σ (upd H b u) s:=by
 have f4:X.s₀.heap.objs.size<=b:=F.2.2.2.1.resolve_left (by rw[hex];simp);have hn:=F.1
 refine⟨I.ok,I.os,I.bare,⟨I.base.keep,I.base.slot,λc o e n hc=>?_,I.base.there,λc xs q=>?_,λc o w q=>?_,λc ps q=>?_⟩,I.loc,I.cell,?_,λx c e=>?_,λp hp=>?_,λc w e=>?_,I.len⟩
 .rw[Zb (Yt (Yn (Yl e) f4))];exact I.base.free c o e n hc
 .have:=I.base.tups c xs q
  rw[Zb (Zc this hn)];exact this
 .have:=I.base.frzs c o w q
  rw[Zb (Zc this hn)];exact this
 .obtain⟨m,this⟩:=I.base.tbls c ps q;exact⟨m,by rw[Zb (Zc this hn)];exact this⟩
 .rw[Zb (YY F.2.1)];exact I.free
 .rw[Zb (F.2.2.2.2.1 x c e)];exact I.freeC x c e
 .have:=I.pin p hp
  exact⟨this.1,by rw[Zb (F.2.2.2.2.2 p hp)];exact this.2.1,this.2.2⟩
 .by_cases hb:c=b
  .subst hb;rw[XR]at e;cases e;exact new
  .rw[Zb hb]at e;exact(I.hok c w e).stay (λ_ _ _ q=>q) (λd q=>by rw[Zb (Zc q hn)];exact q) λd xs q=>by rw[Zb (Zc q hn)];exact q
end
section
variable{X:Cx}{pins:List (Addr × Obj)}{σ:St}{H:Hp}{s:Shared}{a kS:Addr}{A:Around}{E:Ae}{P:PySem.Fin->Shared->Prop}{kA:Array Value}{e e1:Nat}{ns:Ac}{vs:Ag}
theorem eS {st:SortSt} {out:Ag} (I:Inv X (pins++[(a,seqObj "list" #[] e1),(kS,seqObj "list" kA e)]) σ H s) (Fa:FpOk X pins H a) (Fk:FpOk X pins H kS) (OI:a≠kS) (hz:kA.size<64) (RQ:failedOf st=none)
  (Jp:(arrOf st).map (·.2)=out.toArray) (hlen:out.length<64) (h:∀ s' m,Inv X pins σ H s'->s'.heap.get? a=some (seqObj "list" out.toArray m)->P (.done (.ret .none)) s') :
  wpAny (model X.prog X.w) A (ksk_tail a false e1 (.ref kS) st) P E s:=by
 have JP:sizeLine=16777216:=Ue;have pa:=(I.pin (a,seqObj "list" #[] e1) (by simp)).1
 have pk:=(I.pin (kS,seqObj "list" kA e) (by simp)).1;have I0:Inv X pins σ H s:=I.unpinned
 have pP:(s.heap.update kS (Obj.mapSeq λ_=>(#[]:Array Value))).get? a=some (seqObj "list" #[] e1):=(YM _ _ (YY OI)).trans pa;obtain⟨m,hm⟩:∃ m,((s.heap.update kS (Obj.mapSeq λ_=>(#[]:Array Value))).update a (Obj.mapSeq λ_=>out.toArray)).get? a=some (seqObj "list" out.toArray m):=⟨_,An pP λ_=>out.toArray⟩;unfold ksk_tail;dsimp only;rw[Jp];refine XU (Lg pk rfl ?_ (by lia) (Yo _));refine XU (Ic ?_);refine XU (seqEpoch_at pP rfl ?_);refine XU (Lg pP rfl ?_ (Yo _) (by simp;lia));rw[RQ];simp only [bne_self_eq_false,Hb,La];refine Yj (h _ m ?_ hm);have I1:Inv X pins σ H { s with heap:=s.heap.update kS (Obj.mapSeq λ_=>(#[]:Array Value)),toks:=s.toks }:=I0.changed Fk λc o hc q=>(YM _ _ (YY hc)).trans q
 exact I1.changed (t':=s.toks) Fa λc o hc q=>(YM _ _ (YY hc)).trans q
theorem pO:∀ {vs:Ag} {ns:Ac},IntsAre vs ns->∀ i,i<ns.length->∃ t,vs[i]?=some (.int (ns.getD i 0) t)
 | _,_,.nil,i,h=>absurd h (YZ _)
 | _,_,.cons n t r,0,h=>⟨t,rfl⟩
 | _,_,.cons n t r,i+1,h=>pO r i (by rw[Yz]at h;lia)
end
def Hu(c:Addr)(qual:Str):HO:=.ext λh=>h.CodeRec (.ref c) qual
def TabH(H:Hp)(Pt:Addr)(pos:Pos)(qual:Str):Prop:=∃ ps:Array Value,H Pt=some (.tbl ps)/\TriplesOk ps.toList/\(codeAmong pos ps.toList=none\/∃ c,codeAmong pos ps.toList=some (.ref c)/\H c=some (Hu c qual))
def SameX(Pt:Addr)(H H':Hp):Prop:=∀ b o,b≠Pt->H b=some o->H' b=some o
theorem eR{c:Addr}{qual:Str}(h1 h2:Heap)(r:h1.CodeRec (.ref c) qual)(k:∀ o,h1.get? c=some o->h2.get? c=some o):h2.CodeRec (.ref c) qual:=by obtain⟨c2,o,vs,t,e,g,r⟩:=r;cases e;exact⟨c,o,vs,t,rfl,k _ g,r⟩
section
variable{X:Cx}{pins:List (Addr × Obj)}{σ:St}{H:Hp}{s:Shared}{c Pt cc:Addr}{x:Str}{params:Arguments}{body:Expr}{scope:Scope}{pos:Pos}{E:Ae}{Q:Ae}
theorem Inv.builtinsAt(I:Inv X pins σ H s)(hB:X.base.BuiltinsAt X.mg Pt):s.heap.BuiltinsAt X.mg Pt:=by obtain⟨bm,o,h1,h2,h3,h4,h5,h6⟩:=hB;exact⟨bm,o,h1,h2,h3,h4,I.bk _ _ h5,h6⟩
theorem pN (I:Inv X pins σ H s) (UL:X.env.code=.ref c) (hC:codeHdIn X.K c Pt=true) (hB:X.base.BuiltinsAt X.mg Pt) (hT:TabH H Pt pos (X.env.qual++Str.ofString "<lambda>")) (Vi:closureFor scope X.env=pure [(x,cc)]) (Jo:defaultsOf params X.env=([],[])) (Di:mainGlobals≠Pt)
  (h:∀ f c' pm Sj s' H',SameX Pt H H'->TabH H' Pt pos (X.env.qual++Str.ofString "<lambda>")->FpOk X pins H' f->Inv X pins σ H' s'->s'.heap.get? f=some (kla_obj (Str.ofString "<lambda>") (X.env.qual++Str.ofString "<lambda>") params body scope [(x,cc)] pm c' Sj)->H' c'=some (Hu c' (X.env.qual++Str.ofString "<lambda>"))->Q (.ref f) s') :
  wpAny (model X.prog X.w) X.A (eval (.Lambda params body scope pos) X.env) Q E s:=by
 obtain⟨ps,hP,Dh,Dg⟩:=hT;have Vg:s.heap.get? Pt=some (tabObj ps):=I.hok Pt _ hP
 have VO:s.heap.Ns mainGlobals X.mg:=I.mod.glob.keeps I.bk;have eQ:=codeHd_of_K I.kIn hC
 refine kla_eval Jo ?_;rcases Dg with eO | ⟨c',hf,WH⟩
 .refine kla_makeFunction Vi I.ok.glob VO UL eQ Vg Dh eO Di (I.builtinsAt hB) λc' Sj h' tk hx PR Xi Nk eN=>?_;have eM:Pt<s.heap.objs.size:=Yl Vg
  have yE:H c'=none:=I.hok.fresh PR;have eK:c'≠Pt:=Sb (Yn eM PR)
  have keep:∀ b o,b≠Pt->s.heap.get? b=some o->(h'.push (kla_obj (Str.ofString "<lambda>") (X.env.qual++Str.ofString "<lambda>") params body scope [(x,cc)] ((X.mg "__name__").getD .none) c' Sj)).get? b=some o:=λb o hb e=>Xc _ (hx b o hb e);have sx:SameX Pt H (upd (upd H Pt (.tbl (ps++#[rawInt pos.line,rawInt pos.col,.ref c']))) c' (Hu c' (X.env.qual++Str.ofString "<lambda>"))):=λb o hb e=>by rw[Zb (Zc e yE),Zb hb];exact e
  have tb:TabH (upd (upd H Pt (.tbl (ps++#[rawInt pos.line,rawInt pos.col,.ref c']))) c' (Hu c' (X.env.qual++Str.ofString "<lambda>"))) Pt pos (X.env.qual++Str.ofString "<lambda>"):=by
   have et:(ps++#[rawInt pos.line,rawInt pos.col,Value.ref c']).toList=ps.toList++[rawInt pos.line,rawInt pos.col,.ref c']:=by simp
   refine⟨ps++#[rawInt pos.line,rawInt pos.col,.ref c'],by rw[Zb (YY eK),XR],by rw[et];exact TriplesOk_snoc _ _ _ _ Dh,.inr ⟨c',by rw[et];exact codeAmong_snoc _ Dh eO,XR⟩⟩
  have Jn:∀ b,H b=none->b≠Pt:=λb n z=>by rw[z,hP]at n;cases n
  refine h h'.objs.size c' _ Sj _ _ sx tb ?_ (I.un ⟨λb o e n _ _=>keep b o (Jn b n) e,λb o e n _ _=>⟨o.slots,keep b o (Jn b n) e⟩,λb o e n _=>?_,λb o e _=>?_,λb xs e=>?_,λb o u e=>?_,λb qs e=>?_⟩ λb u e=>?_) (Ym _ rfl) XR
  .have pM:s.heap.objs.size<=h'.objs.size:=by lia
   refine I.fpOk pM ?_;rw[Zb (Sb Xi),Zb (Sb (Yn eM pM))];exact I.hok.fresh pM
  .rw[Zb (Yt (Yn (Yl e) PR)),Zb (Jn b n)];exact n
  .by_cases hb:b=Pt
   .rw[hb];exact⟨_,Xc _ eN⟩
   .exact⟨o,keep b o hb e⟩
  .exact sx b _ (λz=>by rw[z,hP]at e;cases e) e
  .exact sx b _ (λz=>by rw[z,hP]at e;cases e) e
  .by_cases hb:b=Pt
   .subst hb;rw[hP]at e;obtain rfl:ps=qs:=by cases e;rfl
    exact⟨#[rawInt pos.line,rawInt pos.col,.ref c'],by rw[Zb (YY eK),XR]⟩
   .exact⟨#[],by rw[sx b _ hb e];simp⟩
  .by_cases hb:b=c'
   .subst hb;rw[XR]at e;cases e;refine⟨eR _ _ Nk λo g=>Xc _ g,?_,eR⟩;obtain⟨c2,o,_,_,e2,g,_⟩:=Nk;cases e2;exact⟨o,Xc _ g⟩
   .rw[Zb hb]at e;by_cases Jm:b=Pt
    .subst Jm;rw[XR]at e;cases e;exact Xc _ eN
    .rw[Zb Jm]at e;refine(I.hok b u e).stay (λd o hd g=>keep d o (λz=>?_) g) (λd g=>sx d _ (λz=>by rw[z,hP]at g;cases g) g) λd xs g=>sx d _ (λz=>by rw[z,hP]at g;cases g) g;rcases hd with hd | hd
     .exact Jm (hd.symm.trans z)
     .rw[z,hP]at hd;cases hd
 .refine kla_makeFunctionHit Vi I.ok.glob VO UL eQ Vg Dh hf (I.builtinsAt hB) λSj h' tk hk hsz=>?_;refine h h'.objs.size c' _ Sj _ H (λ_ _ _ e=>e) ⟨ps,hP,Dh,.inr ⟨c',hf,WH⟩⟩ (I.fpOk hsz (I.hok.fresh hsz)) (I.kept λb o e=>Xc _ (hk b o e)) (Ym _ rfl) WH
end
section
variable{UU:Pos}{Pt:Addr}
theorem SqT.samex{K:Ad}{H H2:Hp}{a:Addr}{xs:List V}{qual:Str}(h:SqT K H a xs)(t:TabH H Pt UU qual)(sx:SameX Pt H H2):SqT K H2 a xs:=by
 obtain⟨ps,hP,_⟩:=t;rcases h with (h | ⟨o,h⟩) | h
 .exact .inl (.inl (sx _ _ (λz=>by rw[z,hP]at h;cases h) h))
 .exact .inl (.inr ⟨o,sx _ _ (λz=>by rw[z,hP]at h;cases h) h⟩)
 .exact .inr h
end
def Jl(Pt:Addr)(H:Hp):Prop:=H Pt=some (.tbl #[])/\∀ b,b=Pt\/H b=none\/∃ o xs,H b=some (.frz o (.lst xs))
theorem Zd8{P:Program}{w:World}{K:Ad}{mg mb:Af}{CX:RT}{k:Nat}{fa a Pt c:Addr}{fd:FuncData}{x:Str}{sp:Sp}{s₁:Shared}{vs:Ag}{ns:Ac}
  (KX:K.In s₁.heap) (VO:s₁.heap.Ns mainGlobals mg) (hb:s₁.heap.Ns builtinsNs mb) (r9:∀ x:Str,x≠"__name__"->mb x=bootBuiltins x) (pL:s₁.heap.NoLimit) (hg:s₁.gens=#[])
  (hT:s₁.heap.get? Pt=some (tabObj #[])) (hC:codeHdIn K c Pt=true) (pK:K.lookup Pt=none) (hbm:∃ bm ob,mg (Str.ofString "__builtins__")=some (.ref bm)/\bm≠builtinsNs/\s₁.heap.get? bm=some ob/\ob.cls=.type "module"/\ob.dict=some builtinsNs/\ob.data=.plain)
  (ha:s₁.heap.get? a=some { cls:=.type "list",data:=.seq vs.toArray }) (hi:IntsAre vs ns) (hl:ns.length<=sizeLine) (hr:Room k callerA)
  (F:∀ base:Heap,K.In base->base.Ns mainGlobals mg->base.BuiltinsAt mg Pt->FnOk P w K mg base CX k fa fd [x] sp) (Tv:∀(s:Shared) (u:Value),BindsTo s fd ⟨[u],[]⟩ [(x,u)])
  (Tg:∀ H:Hp,Jl Pt H->SqL K H a (ns.map V.int)->sp [.ref a] H (λv _=>v=.bl true) λ_ _ _=>False)
  (pJ:∀ H e s',CX [] H s₁ (λ_ _ _=>False) e s'->False) :
  codeAny (model P w) callerA (.call (.ref fa) ⟨[.ref a],[]⟩) (λr s'=>r=.ok (.ret (.bool true))/\OldK s₁.heap s'.heap/\s'.os=s₁.os/\AllBare s'.gens) s₁:=by
 have rv:=iJ hi;have pI:=hi.length
 have eJ:a≠Pt:=λz=>by rw[z,hT]at ha;cases ha
 have core:∀ H:Hp,Jl Pt H->SqL K H a (ns.map V.int)->HOk P w H s₁.heap->(∀ b,H b≠none->b=a\/b=Pt)->(H a≠none->K.lookup a=none) ->
   codeAny (model P w) callerA (.call (.ref fa) ⟨[.ref a],[]⟩) (λr s'=>r=.ok (.ret (.bool true))/\OldK s₁.heap s'.heap/\s'.os=s₁.os/\AllBare s'.gens) s₁:=by
  intro H hO hS hok hA hK;have base_of:∀ {b:Addr} {o:Obj},s₁.heap.get? b=some o->H b=none->(Vf s₁.heap H).get? b=some o:=λe n=>wL e n
  have free:∀ {b:Addr} {o:Obj},s₁.heap.get? b=some o->(∀ XW n,o.data≠.seq XW n)->(∀ vs,o.data≠.fields vs)->H b=none:=λ{b o} e d1 d2=>by
   cases q:H b with
   | none=>rfl
   | some u =>
    rcases hA b (by rw[q];simp) with e' | e'
    .subst e';rw[ha]at e;cases e;exact absurd rfl (d1 _ _)
    .subst e';rw[hT]at e;cases e;exact absurd rfl (d2 _)
  have yD:∀ {b:Addr} {m:Af},s₁.heap.Ns b m->(Vf s₁.heap H).Ns b m:=λ{b m} ⟨o,es,ep,e,d,r⟩=>⟨o,es,ep,base_of e (free e (λ_ _ z=>by rw[d]at z;cases z) λ_ z=>by rw[d]at z;cases z),d,r⟩;have eE:K.In (Vf s₁.heap H):=λb o e=>base_of (KX b o e) (by
   cases q:H b with
   | none=>rfl
   | some u =>
    rcases hA b (by rw[q];simp) with e' | e'
    .subst e';rw[hK (by rw[q];simp)]at e;cases e
    .subst e';rw[pK]at e;cases e)
  have hM:Mod K mg (Vf s₁.heap H):=⟨eE,yD VO,⟨mb,yD hb,r9⟩,let ⟨mc,h1,h2⟩:=pL;⟨mc,yD h1,h2⟩⟩;have hB:(Vf s₁.heap H).BuiltinsAt mg Pt:=by
   obtain⟨bm,ob,b1,b2,b3,b4,b5,b6⟩:=hbm;refine⟨bm,ob,b1,b2,λz=>?_,λz=>?_,base_of b3 (free b3 (λ_ _ z=>by rw[b6]at z;cases z) λ_ z=>by rw[b6]at z;cases z),b4,b5,b6⟩
   .obtain⟨o,es,ep,e,d,_⟩:=VO;rw[z,e]at b3;cases b3;rw[d]at b6;cases b6
   .rw[z,hT]at b3;cases b3;cases b4
  have e0:Env0 P w K mg (Vf s₁.heap H) callerA [] s₁ H:=⟨rfl,hM,λb o e=>GD e,Nat.le_of_eq (bG _ _),trivial,λb hb=>absurd (show b∈([]:List Addr) from hb) (by simp),hok,.of_eq hg⟩;refine Ow ((F _ eE (yD VO) hB).run callerA [] s₁ H ⟨[.ref a],[]⟩ [.ref a] [.ref a] _ _ hr e0 (Tv s₁ (.ref a)) (.cons rfl .nil) (Tg H hO hS)) λr s' h=>?_;cases r with
  | error e=>exact(pJ H e s' h).elim
  | ok fl =>
   cases fl with
   | next=>exact False.elim h
   | brk=>exact False.elim h
   | cont=>exact False.elim h
   | ret u =>
    obtain⟨v,H',os,bare,un,Df,r',q⟩:=h;have q':v=.bl true:=q
    subst q';obtain rfl:u=Value.bool true:=r';obtain⟨more,eP⟩:=un.tbls Pt #[] hO.1;have eD:s'.heap.get? Pt=some { cls:=.none,data:=.fields (#[]++more) }:=Df Pt _ eP
    have kept:∀ b o,b≠Pt->s₁.heap.get? b=some o->s'.heap.get? b=some o:=λb o VY e=>by
     cases q:H b with
     | none=>exact un.keep b o e q (by intro z;exact absurd (show b∈([]:List Addr) from z) (by simp)) (by simp)
     | some u =>
      rcases hO.2 b with z | z | ⟨ob,xs,z⟩
      .exact absurd z VY
      .rw[q]at z;cases z
      .have z2:=un.frzs b ob _ z;obtain⟨e1,_⟩:=hok b _ z;obtain⟨e2,_⟩:=Df b _ z2;rw[e]at e1;cases e1;exact e2
    refine⟨rfl,⟨λb o e=>?_,λb o e=>?_⟩,os,bare⟩
    .by_cases VY:b=Pt
     .subst VY;rw[hT]at e;obtain rfl:=Yi e;obtain⟨oc,vsc,_,_,_,_,_,_,_,c1,c2,c3,c4,_⟩:=codeHd_of_K KX hC;exact .inr (.inl ⟨⟨c,oc,vsc,c1,c2,c3,c4⟩,rfl,#[],more,rfl,eD⟩)
     .exact .inl (kept b o VY e)
    .by_cases VY:b=Pt
     .rw[VY];exact⟨_,eD⟩
     .exact⟨o,kept b o VY e⟩
 cases hk:K.lookup a with
 | some o =>
  have e:=KX a o hk;rw[ha]at e;cases e;refine core (λb=>if b=Pt then some (.tbl #[]) else none) ⟨if_pos rfl,λb=>?_⟩ (.inr ⟨_,vs.toArray,_,hk,rfl,rfl,rfl,by rw[Yb,pI];exact hl,by simpa using rv⟩) (λb u z=>?_) (λb z=>?_) λz=>absurd (if_neg eJ) z
  .by_cases VY:b=Pt
   .exact .inl VY
   .exact .inr (.inl (if_neg VY))
  .by_cases VY:b=Pt
   .have z':=(if_pos VY).symm.trans z;cases z';subst VY;exact hT
   .have z':=(if_neg VY).symm.trans z;cases z'
  .by_cases VY:b=Pt
   .exact .inr VY
   .exact absurd (if_neg VY) z
 | none =>
  refine core (λb=>if b=Pt then some (.tbl #[]) else if b=a then some (.frz { cls:=.type "list",data:=.seq vs.toArray } (.lst (ns.map V.int))) else none) ⟨if_pos rfl,λb=>?_⟩ (.inl (.inr ⟨{ cls:=.type "list",data:=.seq vs.toArray },(if_neg eJ).trans (if_pos rfl)⟩)) (λb u z=>?_) (λb z=>?_) λ_=>hk
  .by_cases VY:b=Pt
   .exact .inl VY
   .by_cases hb:b=a
    .exact .inr (.inr ⟨_,_,(if_neg VY).trans (if_pos hb)⟩)
    .exact .inr (.inl ((if_neg VY).trans (if_neg hb)))
  .by_cases VY:b=Pt
   .have z':=(if_pos VY).symm.trans z;cases z';subst VY;exact hT
   .by_cases hb:b=a
    .have z':=((if_neg VY).trans (if_pos hb)).symm.trans z;cases z';subst hb;exact⟨ha,by rw[Yd];exact hl,vs,_,rv,ha⟩
    .have z':=((if_neg VY).trans (if_neg hb)).symm.trans z;cases z'
  .by_cases VY:b=Pt
   .exact .inr VY
   .by_cases hb:b=a
    .exact .inl hb
    .exact absurd ((if_neg VY).trans (if_neg hb)) z
theorem PN{l:PySem.W.OpenLaw}{n k:Nat}{q:Program}{loose:List Str}{XP:Af->Heap->Prop}{YP:World->Heap->Prop}{d:DefRec}{K:Params->Ad}{CX:RT}{sp:Ad->Sp}{x:Str}{c Pt:Addr}
  (hn:l.most=some n) (Of:n<=sizeLine) (uV:d.params.defaults=[]) (hr:Room k callerA)
  (hY:∀(w:World) (h:Heap),YP w h->(K w.params).In h/\h.get? Pt=some (tabObj #[])) (hC:∀ w:World,codeHdIn (K w.params) c Pt=true) (pK:∀ w:World,(K w.params).lookup Pt=none)
  (F:∀(w:World) (mg:Af) (fa:Addr) (h:Heap),(K w.params).In h->h.Ns mainGlobals mg->mg d.name=some (.ref fa) ->
   ∃ fd:FuncData,(∀(s:Shared) (u:Value),BindsTo s fd ⟨[u],[]⟩ [(x,u)]) /\
    ∀ base:Heap,(K w.params).In base->base.Ns mainGlobals mg->base.BuiltinsAt mg Pt->FnOk l.prog w (K w.params) mg base CX k fa fd [x] (sp (K w.params)))
  (Tg:∀(w:World) (H:Hp) (a:Addr) (ns:Ac),ns.length<=n->Jl Pt H->SqL (K w.params) H a (ns.map V.int)->sp (K w.params) [.ref a] H (λv _=>v=.bl true) λ_ _ _=>False)
  (pJ:∀(H:Hp) (s:Shared) (e:Value) (s':Shared),CX [] H s (λ_ _ _=>False) e s'->False) :
  PySem.W.WalkO q loose XP YP l.row.toRowW d [] (λf vs=>PySem.call f vs):=by refine Att.TR hn uV λw s₀ s₁ mg mb fa o pm cd doc a vs ns G Y ho hd Ul Fi Kj hints hlen hg=>?_;obtain⟨KX,hT⟩:=hY w _ Y;obtain⟨fd,hb,hF⟩:=F w mg fa _ KX G.T.g Fi;exact Zd8 KX G.T.g G.T.b G.T.builtins G.T.nolimit hg hT (hC w) (pK w) G.T.bmain Kj hints (Yr hlen Of) hr hF hb (λH hO hS=>Tg w H a ns hlen hO hS) λH e s'=>pJ H s₁ e s'
def Ry(K:Ad)(mg:Af)(base:Heap)(fd:FuncData)(Pt:Addr):Prop:=∃ c,fd.code=.ref c/\codeHdIn K c Pt=true/\base.BuiltinsAt mg Pt/\mainGlobals≠Pt
theorem LamScope.of{v x:Str}{sc:Scope}(h1:sc.kind=.function)(h2:sc.isCoroutine=false)(h3:sc.isGenerator=false)(h4:sc.names=[(v,.local),(x,.free)]\/sc.names=[(x,.free),(v,.local)])(hn:v≠x):LamScope v x sc:=by
 have b1:(v == x)=false:=KZ hn;have b2:(x == v)=false:=KZ (YY hn)
 refine⟨h1,h2,h3,λy hy=>?_,?_,?_,λy hy=>?_,hn⟩
 .have l1:NameKind.local≠NameKind.cell:=by decide
  have l2:NameKind.free≠NameKind.cell:=by decide
  rcases h4 with e | e <;> rw[e]at hy <;> rcases Yg.mp hy with rfl | hy
  .exact l1
  .rw[XD.mp hy];exact l2
  .exact l2
  .rw[XD.mp hy];exact l1
 .rcases h4 with e | e <;> rw[e] <;> simp[List.lookup,b1,b2]
 .rcases h4 with e | e <;> rw[e] <;> simp[List.lookup,b1,b2]
 .rcases h4 with e | e <;> rw[e]at hy <;> simp only [List.lookup]at hy
  .split at hy
   .cases hy
   .split at hy
    .rename_i q;exact SW.mp q
    .cases hy
  .split at hy
   .rename_i q;exact SW.mp q
   .split at hy
    .cases hy
    .cases hy
section
variable{P:Program}{w:World}{K:Ad}{mg:Af}{base:Heap}
theorem Fun.okL{x qual:Str}{st:Stmt}{f c:Addr}{fd:FuncData}{N ps:List Str}{k:Nat}{sp:Sp}(F:Fun K x qual st f fd)(hc:fd.code=.ref c)(S:FnScope N ps (XA st))(len:∀ vs H Q E,sp vs H Q E->vs.length=ps.length)
  (hbody:∀(A:Around) (outer:List Env) (s:Shared) (H:Hp) (vs:List V) (Q:VK) (E:XK),Room k (A.deeper (envOfC qual (XA st) s.heap.objs.size f (.ref c)))->sp vs H Q E ->
   ∃ t,PSs (Wr Xl P w K mg base N qual (XA st) f (.ref c) A outer s H E).nox (Qx st) t/\t { nx:=λ_ H'=>Q .non H',rt:=Q } (start N vs) H):FnOk P w K mg base Xl (k+1) f fd ps sp:=by obtain⟨oc,od,kV,doc,pm,an,Xz,ct,Uy,rfl,lk,Ul⟩:=F.ex;obtain rfl:Xz=.ref c:=hc;refine Ks lk Ul S len λA outer s H vs Q E hr Tg=>?_;obtain⟨t,h,q⟩:=hbody A outer s H vs Q E hr Tg;exact⟨t,h.nox,q⟩
end
end L2
namespace My
open PySem L2
def pH(n:Int)(ps:Aa)(I O W:Ac):Prop:=Zf n ps W/\(∀ z∈I,z∈W)/\∀ z∈O,z∉W
def pl(ls T U:Ac):Prop:=HT.ltP (Dk ls T,T) (Dk ls U,U)=true
def OrdL(ls:Ac)(m:Nat)(os:Ac):Prop:=os.Perm (Wo m)/\os.Pairwise λx y=>Ju ls x<Ju ls y\/(Ju ls x=Ju ls y/\x<y)
theorem Jk{n:Int}{ps:Aa}{T W:Ac}(g:Zt n ps)(hT:Zf n ps T)(hW:Zf n ps W)(h:∀ z∈T,z∈W):T=W :=
 sy (y8 hT) (y8 hW) λz=>(Zx9 g hT hW h).mem_iff
structure Ent where
 T:Ac
 I:Ac
 O:Ac
deriving DecidableEq
def OH(n:Int)(ps:Aa)(E:Ent)(W:Ac):Prop:=pH n ps E.I E.O W
structure EOk (n:Int) (ps:Aa) (ls:Ac) (E:Ent):Prop where
 own:OH n ps E E.T
 min:∀ W,OH n ps E W->W=E.T\/pl ls E.T W
 iN:E.I.Nodup
 oN:E.O.Nodup
 oR:∀ z∈E.O,0<=z/\z<(ps.length:Int)
def eB(n:Int)(ps:Aa)(E F:Ent):Prop:=∀ W,OH n ps E W->¬ OH n ps F W
structure FB (n:Int) (ps:Aa) (ls:Ac) (E:Ent) (l:Ac) (Es:List Ent):Prop where
 ok:∀ F∈Es,EOk n ps ls F
 sub:∀ F∈Es,∀ W,OH n ps F W->OH n ps E W
 cov:∀ W,OH n ps E W->((∃ t∈l,t∉W)↔∃ F∈Es,OH n ps F W)
 dsj:Es.Pairwise (eB n ps)
structure RI (n:Int) (ps:Aa) (ls:Ac) (L:Ab) (Es:List Ent):Prop where
 tr:∀ T∈L,Zf n ps T
 asc:L.Pairwise (pl ls)
 ok:∀ E∈Es,EOk n ps ls E
 cov:∀ W,Zf n ps W->W∈L\/∃ E∈Es,OH n ps E W
 beh:∀ E∈Es,∀ W,OH n ps E W->∀ T∈L,pl ls T W
 dsj:Es.Pairwise (eB n ps)
structure Rkd (n:Int) (ps:Aa) (ls:Ac) (most:Nat) (L:Ab):Prop where
 tr:∀ T∈L,Zf n ps T
 asc:L.Pairwise (pl ls)
 uW:L.length<=most
 all:∀ W,Zf n ps W->W∈L\/(L.length=most/\∀ T∈L,pl ls T W)
end My
namespace L2
open PySem PySem.Spec PyProof.Rows PySem.W My
theorem SameX.same{Pt:Addr}{H H':Hp}(s:Same H H'):SameX Pt H H':=λb o _ e=>s b o e
theorem SameX.trans{Pt:Addr}{H H1 H2:Hp}(a:SameX Pt H H1)(b:SameX Pt H1 H2):SameX Pt H H2:=λc o hc e=>b c o hc (a c o hc e)
theorem TabH.same{H H':Hp}{Pt:Addr}{pos:Pos}{qual:Str}(t:TabH H Pt pos qual)(s:Same H H'):TabH H' Pt pos qual:=by
 obtain⟨ps,h1,h2,h3⟩:=t;refine⟨ps,s _ _ h1,h2,?_⟩;rcases h3 with h | ⟨c,h,h'⟩
 .exact .inl h
 .exact .inr ⟨c,h,s _ _ h'⟩
theorem TabH.ne{H:Hp}{Pt a:Addr}{pos:Pos}{qual:Str}{o:HO}(t:TabH H Pt pos qual)(h:H a=some o)(hn:∀ ps,o≠.tbl ps):a≠Pt:=λe=>by obtain⟨ps,h1,_⟩:=t;rw[e,h1]at h;exact hn ps (Yi h).symm
theorem TabH.put{H:Hp}{Pt r:Addr}{pos:Pos}{qual:Str}{zs:List V}{u:List V}(t:TabH H Pt pos qual)(hr:H r=some (.lst zs)):TabH (upd H r (.lst u)) Pt pos qual:=by
 obtain⟨ps,h1,h2,h3⟩:=t;refine⟨ps,by rw[Zb (OY h1 hr (by simp))];exact h1,h2,?_⟩;rcases h3 with h | ⟨c,h,h'⟩
 .exact .inl h
 .exact .inr ⟨c,h,by rw[Zb (OY h' hr (by unfold Hu;simp))];exact h'⟩
end L2
namespace My
open PySem L2
theorem SqK.samex{kd:Bool}{K:Ad}{H H2:Hp}{a Pt:Addr}{xs:List V}{pos:Pos}{qual:Str}(h:SqK kd K H a xs)(t:TabH H Pt pos qual)(sx:SameX Pt H H2):SqK kd K H2 a xs:=by
 cases kd with
 | true=>exact SqT.samex (show SqT K H a xs from h) t sx
 | false =>
  rcases(show SqL K H a xs from h) with (h | ⟨o,h⟩) | h
  .exact .inl (.inl (sx _ _ (t.ne h (by simp)) h))
  .exact .inl (.inr ⟨o,sx _ _ (t.ne h (by simp)) h⟩)
  .exact .inr h
theorem WebAt.samex{C w Pt:Addr}{H H2:Hp}{n:Int}{ps:Aa}{pos:Pos}{qual:Str}(h:WebAt C H w n ps)(t:TabH H Pt pos qual)(sx:SameX Pt H H2):WebAt C H2 w n ps:=by obtain⟨dx,tl,xs,h1,h2,h3⟩:=h;refine⟨dx,tl,xs,sx _ _ (t.ne h1 (by simp)) h1,sx _ _ (t.ne h2 (by simp)) h2,h3.1,λi p hp=>?_⟩;obtain⟨x,hx,q,e,hq⟩:=h3.2 i p hp;exact⟨x,hx,q,e,sx _ _ (t.ne hq (by simp)) hq⟩
end My
namespace My
theorem Ug{α:Type}{P:List α->Prop}(h:∀ a,P [a])(l:List α)(e:l.length=1):P l:=by obtain⟨a,rfl⟩:=DX e;exact h a
theorem VJ{α:Type}{P:List α->Prop}(h:∀ a b,P [a,b])(l:List α)(e:l.length=2):P l:=by obtain⟨a,b,rfl⟩:=DW e;exact h a b
theorem Rx{α:Type}{P:List α->Prop}(h:∀ a b c,P [a,b,c])(l:List α)(e:l.length=3):P l:=by obtain⟨a,b,c,rfl⟩:=DV e;exact h a b c
theorem un4{α:Type}{P:List α->Prop}(h:∀ a b c d,P [a,b,c,d])(l:List α)(e:l.length=4):P l:=by obtain⟨a,b,c,d,rfl⟩:=DU e;exact h a b c d
theorem un5{α:Type}{P:List α->Prop}(h:∀ a b c d e,P [a,b,c,d,e])(l:List α)(e:l.length=5):P l:=by
 cases l with
 | nil=>cases e
 | cons x r =>
  obtain⟨a,b,c,d,rfl⟩:=DU (UD e);exact h x a b c d
end My
namespace My
open PySem L2
theorem pG{n:Int}{ps:Aa}{c:Nat}(h:TC n ps c):c=0↔∀ T,¬ Zf n ps T:=by
 obtain⟨L,a1,a2,a3⟩:=h;constructor
 .intro e T hT;rw[e]at a3
  have:=(a2 T).mpr hT
  rw[YQ.mp a3]at this;cases this
 .intro e;rw[<- a3,YQ];exact AO.mpr λT hT=>e T ((a2 T).mp hT)
end My
namespace L2
open PySem PySem.Spec PyProof.Rows PySem.W
theorem eA:∀ bs:List Bool,(bs.map Value.bool).mapM firstOfTuple'=(pure ((bs.map Value.bool).map λ_=>none):Sem _)
 | []=>by simp
 | b :: bs=>by rw[Wz,List.mapM_cons,eA bs];show(pure none >>= λb=>pure _ >>= λbs=>pure (b :: bs))=_;simp
theorem eh:∀ bs:List Bool,(bs.map Value.bool).mapM typeOf=(pure ((bs.map Value.bool).map λ_=>Value.type "bool"):Sem _)
 | []=>by simp
 | b :: bs=>by rw [Wz,List.mapM_cons,eh bs];show(pure (Value.type "bool") >>= λb=>pure _ >>= λbs=>pure (b :: bs))=_;simp
theorem ZQ6{kA:Array Value}{ns:Ac}{key:Int->Bool}(hk:kA.toList=ns.map λz=>Value.bool (key z))(h2:2<=ns.length):keyKind' kA=pure oneType':=by
 have e:kA=((ns.map key).map Value.bool).toArray:=by rw[<- Array.toArray_toList (xs:=kA),hk,Mv];rfl
 rw[e];obtain⟨b1,b2,bs,eb⟩:∃ b1 b2 bs,ns.map key=b1 :: b2 :: bs:=by
  match ns,h2 with
  | x :: y :: l,_=>exact⟨_,_,_,rfl⟩
 rw[eb,keyKind'_eq,List.mapM_toArray,eA];simp only [map_pure,pure_bind];rw[if_neg (by simp),if_neg (by simp)];rw[oneTypeOnly'_eq,List.mapM_toArray,eh];simp only [map_pure,pure_bind];have Vs:((List.map (λ_=>Value.type "bool") (List.map Value.bool (b1 :: b2 :: bs))).toArray.all λx=>x == Value.type "bool")=true:=by simp only [List.all_toArray,List.all_map,QS];intro _ _;rfl
 have h0:(List.map (λ_=>Value.type "bool") (List.map Value.bool (b1 :: b2 :: bs))).toArray[0]?=some (Value.type "bool"):=by simp
 rw[h0];simp only [Vs,OZ,pure_bind,Option.isSome_some]
theorem pF{prog:Program}{w:World}{A:Around}{E:Ae}{s:Shared}{p q:Bool}{Q:Bool->Shared->Prop}(h:Q (decide (b2i p<b2i q)) s):wpAny (model prog w) A (keyLt' oneType' (.bool p) (.bool q)) Q E s:=by rw[keyLt'_oneType,oneLt'_eq];simp only [OZ];refine XU (wpAny_cRoomFor_byValue rfl ?_);refine XU (wpAny_callSpecialIfBound?_slot (typeIs_bool' s p) F.slot_bool_lt (call_gives F.slot_bool_lt (typeIs_bool' s p) F.entry_int_lt (F.args_int_lt_2 _ _) (gives_int_lt_bools p q) ?_));exact OB h
section
variable{X:Cx}{pins:List (Addr × Obj)}{σ:St}{H:Hp}{s:Shared}{a kS:Addr}{A:Around}{E:Ae}{P:PySem.Fin->Shared->Prop}{kA:Array Value}{e e1:Nat}{f:Value}{key:Int->Bool}{ns:Ac}{vs:Ag}
theorem pE(hv:IntsAre vs ns)(hk:kA.toList=ns.map λz=>Value.bool (key z)){i:Nat}(hi:i<ns.length):∃ u,kas_item (kA.zip vs.toArray) i=(.bool (key (ns.getD i 0)),.int (ns.getD i 0) u):=by
 obtain⟨u,hu⟩:=pO hv i hi;have ht:kA.toList[i]?=some (Value.bool (key (ns.getD i 0))):=by rw[hk,Yp,WI,Xo hi];rfl
 refine⟨u,?_⟩;unfold kas_item;rw[Yy,<- YT,ksk_zip,(List.getElem?_zip_eq_some (z:=(Value.bool (key (ns.getD i 0)),Value.int (ns.getD i 0) u))).mpr ⟨ht,hu⟩];rfl
theorem d9(hv:IntsAre vs ns)(hk:kA.toList=ns.map λz=>Value.bool (key z)):∀ l:List Nat,(∀ i∈l,i<ns.length)->IntsAre (l.map λi=>(kas_item (kA.zip vs.toArray) i).2) (l.map λi=>ns.getD i 0)
 | [],_=>.nil
 | i :: l,h=>by
  obtain⟨u,e⟩:=pE hv hk (h i Ye);have r:=d9 hv hk l λj hj=>h j (Yh _ hj)
  rw[Wz,Wz,e];exact .cons _ u r
theorem pD (I:Inv X (pins++[(a,seqObj "list" #[] e1),(kS,seqObj "list" kA e)]) σ H s) (Fa:FpOk X pins H a) (Fk:FpOk X pins H kS) (OI:a≠kS) (hv:IntsAre vs ns) (Rf:ns.length<64) (hk:kA.toList=ns.map λz=>Value.bool (key z))
  (h:∀ s' m out ms,Inv X pins σ H s'->s'.heap.get? a=some (seqObj "list" out m)->IntsAre out.toList ms->Si (λz=>b2i (key z)) ns ms->P (.done (.ret .none)) s') :
  wpAny (model X.prog X.w) A (ksk_end a false vs.toArray e1 (.ref kS) kA) P E s:=by
 have De:=hv.length;have pC:=Xw List.length hk
 rw[YD,Yd]at pC;have hzs:(kA.zip vs.toArray).size=ns.length:=by rw[Array.size_zip,show vs.toArray.size=vs.length from Yb];grind
 unfold ksk_end;dsimp only;rw[if_neg (by decide)];by_cases h2:vs.toArray.size<2
 .rw[if_pos h2,if_pos h2];rw[Yb]at h2;refine XU (Yj ?_);rw[StateT.run_pure];refine XU (Yj ?_);dsimp only;refine eS (out:=vs) I Fa Fk OI (by lia) rfl ?_ (by grind) λs' m J e=>h s' m vs.toArray ns J e (by simpa using hv) ?_
  .show(if false=true then (kA.zip vs.toArray).reverse else kA.zip vs.toArray).map (·.2)=vs.toArray;rw[if_neg (by decide),Array.map_snd_zip (by rw[Yb];lia)]
  .refine⟨List.range ns.length,List.Perm.refl _,?_,?_⟩
   .match ns.length,(show ns.length<2 by lia) with
    | 0,_=>exact List.Pairwise.nil
    | 1,_=>exact Iq _ _
   .match ns,(show ns.length<2 by omega) with
    | [],_=>rfl
    | [x],_=>rfl
 .rw[if_neg h2,if_neg h2];rw[Yb]at h2;rw[ZQ6 hk (by lia)];refine XU (Yj ?_);rw[if_neg (by decide)];obtain⟨p,UK,VU,Nj⟩:=My.Nl (n:=ns.length) (key:=λi=>b2i (key (ns.getD i 0))) (by lia);have runs:=kas_runs (prog:=X.prog) (w:=X.w) (A:=A) (E:=E) (κ:=oneType') (it:=kA.zip vs.toArray) (n:=ns.length) (s:=s) (Q:=λ_ st s'=>s'=s/\failedOf st=none/\arrOf st=p.map (kas_item (kA.zip vs.toArray)))
   (G:=λq s'=>s'=s/\q=p) (by omega) Rf (λq st s' _ e2 e3 e4=>⟨e4.1,e3,by rw[e2,e4.2]⟩)
   (My.goT_wp' (c:=λi j=>decide (b2i (key (ns.getD i 0))<b2i (key (ns.getD j 0)))) (J:=λs'=>s'=s) (λi j C s' hi hj hs hC=>by obtain⟨u,e⟩:=pE hv hk hi;obtain⟨u',e'⟩:=pE hv hk hj;unfold kas_cmp;rw[e,e'];exact pF (hC s' hs)) _ s (My.Rz (by omega)) rfl λs' hs=>⟨hs,UK⟩)
  unfold kasC kas_st at runs;rw[<- hzs,kas_range]at runs;refine XU (UG runs ?_ λ_ _ z=>z);rintro⟨⟨⟩,st⟩ s' ⟨rfl,hf,ha⟩;dsimp only;have hb:∀ i∈p.toList,i<ns.length:=λi hi=>YI.mp (VU.mem_iff.mp hi)
  have Vj:p.toList.length=ns.length:=by rw[VU.length_eq,Pc]
  refine eS (out:=p.toList.map λi=>(kas_item (kA.zip vs.toArray) i).2) I Fa Fk OI (by lia) hf ?_ (by rw[Yd];lia) λUP m J e=>h UP m _ _ J e (by simpa using d9 hv hk p.toList hb) ⟨p.toList,VU,Nj,rfl⟩;have ha:arrOf st=p.map (kas_item (kA.zip vs.toArray)):=ha
  rw[ha,Array.map_map];exact Array.toList_inj.mp (by simp)
theorem Zf8 (I:Inv X (pins++[(a,seqObj "list" #[] e1),(kS,seqObj "list" #[] 0)]) σ H s) (Fa:FpOk X pins H a) (Fk:FpOk X pins H kS) (OI:a≠kS) (hv:IntsAre vs ns) (Rf:ns.length<64)
  (turn:∀(pl:List (Addr × Obj)) (z:Int) (t:Tok) (s':Shared),z∈ns->Inv X (pins++pl) σ H s'->wpAny (model X.prog X.w) A (call f [.int z t]) (λv UP=>v=.bool (key z)/\Inv X (pins++pl) σ H UP) (λ_ _=>False) s')
  (h:∀ s' m out ms,Inv X pins σ H s'->s'.heap.get? a=some (seqObj "list" out m)->IntsAre out.toList ms->Si (λz=>b2i (key z)) ns ms->P (.done (.ret .none)) s') :
  wpAny (model X.prog X.w) A (ksk_rest a f false vs.toArray e1 (.ref kS)) P E s:=by
 have JP:sizeLine=16777216:=Ue;have De:=hv.length
 unfold ksk_rest;refine XU (GI ?_);rw[<- Array.forIn_toList];simp only [List.toList_toArray];refine XU (ksk_fold (λi s'=>∃(kA:Array Value) (e:Nat),Inv X (pins++[(a,seqObj "list" #[] e1),(kS,seqObj "list" kA e)]) σ H s'/\kA.toList=(ns.take i).map λz=>Value.bool (key z)) vs 0 s ⟨#[],0,I,rfl⟩ ?step ?done)
 case step =>
  rintro j x s' hx ⟨kA,e,J,hk⟩;rw[Mw]at hk ⊢;have hj:j<ns.length:=by rw[<- De];exact(Xp.mp hx).1
  obtain⟨t,ht⟩:=pO hv j hj;rw[hx]at ht;obtain rfl:=Yi ht;have hz:kA.size<=j:=by have h1:=Xw List.length hk;rw[YD,Yd,YB]at h1;lia
  have eg:ns.getD j 0=ns[j]:=by rw[WI,Xo hj];rfl
  have hmem:ns.getD j 0∈ns:=by rw[eg];exact MC hj
  refine XU (GO (UG (turn _ _ t s' hmem J) (λv UP he=>?_) λ_ _ hF=>hF.elim));obtain⟨rfl,J2⟩:=he;dsimp only;have pk:=(J2.pin (kS,seqObj "list" kA e) (by simp)).1
  obtain⟨c2,Ve⟩:∃ c2,(UP.heap.update kS (Obj.mapSeq (·.push (.bool (key (ns.getD j 0)))))).get? kS=some (seqObj "list" (kA.push (.bool (key (ns.getD j 0)))) c2):=⟨_,An pk (·.push (.bool (key (ns.getD j 0))))⟩;refine XU (Lg pk rfl ?_ (by lia) (by rw[Array.size_push];lia));refine Yj ⟨rfl,kA.push (.bool (key (ns.getD j 0))),c2,?_,?_⟩
  .have J3:Inv X (pins++[(a,seqObj "list" #[] e1)]) σ H UP:=J2.pins_of λp hp=>J2.pin p (Yc _ (by
    rcases Xy.mp hp with hp | hp
    .exact Ya _ hp
    .exact Yc _ (by rw[XD.mp hp];exact Ye)))
   have d8:FpOk X (pins++[(a,seqObj "list" #[] e1)]) H kS:=Fk.more λp hp=>by rw [XD.mp hp];exact OI
   have J4:=(J3.changed (t':=UP.toks) d8 λc o hc q=>(YM UP.heap (Obj.mapSeq (·.push (.bool (key (ns.getD j 0))))) (YY hc)).trans q).pin1 d8 Ve λv z=>by cases z
   rw[QU]at J4;exact J4
  .have ek:((ns.take (j+1)).map λz=>Value.bool (key z))=((ns.take j).map λz=>Value.bool (key z))++[Value.bool (key (ns.getD j 0))]:=by rw[List.take_add_one,Xo hj,QP,eg];rfl
   rw[xm,ek,hk]
 case done =>
  rintro s' ⟨kA,e,J,hk⟩;rw[Mw,De,YK]at hk;have pk:=(J.pin (kS,seqObj "list" kA e) (by simp)).1
  refine XU (listItems_at pk rfl ?_);exact pD J Fa Fk OI hv Rf hk h
theorem Ze8 {n:Nat} (I:Inv X pins σ H s) (Fa:FpOk X pins H a) (ho:s.heap.get? a=some (seqObj "list" vs.toArray n)) (hv:IntsAre vs ns) (Rf:ns.length<64)
  (turn:∀(pl:List (Addr × Obj)) (z:Int) (t:Tok) (s':Shared),z∈ns->Inv X (pins++pl) σ H s'->wpAny (model X.prog X.w) A (call f [.int z t]) (λv UP=>v=.bool (key z)/\Inv X (pins++pl) σ H UP) (λ_ _=>False) s')
  (h:∀ s' m out ms,Inv X pins σ H s'->s'.heap.get? a=some (seqObj "list" out m)->IntsAre out.toList ms->Si (λz=>b2i (key z)) ns ms->P (.done (.ret .none)) s') :
  wpAny (model X.prog X.w) A (ksk_tree a f false) P E s:=by
 have JP:sizeLine=16777216:=Ue;have De:=hv.length
 obtain⟨e1,d7⟩:∃ e1,(s.heap.update a (Obj.mapSeq λ_=>(#[]:Array Value))).get? a=some (seqObj "list" #[] e1):=⟨_,An ho λ_=>#[]⟩;have I1:Inv X pins σ H { s with heap:=s.heap.update a (Obj.mapSeq λ_=>(#[]:Array Value)),toks:=s.toks }:=I.changed Fa λc o hc q=>(YM _ _ (YY hc)).trans q
 have I2:Inv X pins σ H { s with heap:=(s.heap.update a (Obj.mapSeq λ_=>(#[]:Array Value))).push (seqObj "tuple" vs.toArray 0),toks:=s.toks }:=I1.kept λc o q=>Xc _ q;have SQ:((s.heap.update a (Obj.mapSeq λ_=>(#[]:Array Value))).push (seqObj "tuple" vs.toArray 0)).get? a=some (seqObj "list" #[] e1):=Xc _ d7
 unfold ksk_tree;refine XU (listItems_at ho rfl ?_);refine XU (Lg ho rfl ?_ (by rw[Yb];lia) (Yo _));refine XU (seqEpoch_at d7 rfl ?_);refine XU (wpAny_newTuple ?_ (by show vs.length<=_;omega));refine XU (Lk ?_ (Yo _));refine Sv ?_;have Fk:FpOk X pins H ((s.heap.update a (Obj.mapSeq λ_=>(#[]:Array Value))).push (seqObj "tuple" vs.toArray 0)).objs.size:=I2.fpOk (XO _) (I2.hok.fresh (XO _))
 have OI:a≠((s.heap.update a (Obj.mapSeq λ_=>(#[]:Array Value))).push (seqObj "tuple" vs.toArray 0)).objs.size:=Yt (Yl SQ);have I3:Inv X pins σ H { s with heap:=((s.heap.update a (Obj.mapSeq λ_=>(#[]:Array Value))).push (seqObj "tuple" vs.toArray 0)).push (seqObj "list" #[] 0),toks:=s.toks }:=I2.kept λc o q=>Xc _ q
 have I4:=(I3.pin1 Fa (Xc _ SQ) λv z=>by cases z).pin1 (Fk.more (pl:=[(a,seqObj "list" #[] e1)]) λp hp=>by rw [XD.mp hp];exact OI) (Ym _ rfl) λv z=>by cases z
 rw[QU]at I4;exact Zf8 I4 Fa Fk OI hv Rf turn h
theorem Zy5{tp q:Addr}{Q:Ae}(I:Inv X pins σ H s)(ht:s.heap.IsList tp vs.toArray)(hv:IntsAre vs ns)(Rf:ns.length<64)
  (turn:∀(pl:List (Addr × Obj)) (z:Int) (t:Tok) (s':Shared),z∈ns->Inv X (pins++pl) σ H s'->wpAny (model X.prog X.w) A.in1.in1 (call (.ref q) [.int z t]) (λv UP=>v=.bool (key z)/\Inv X (pins++pl) σ H UP) (λ_ _=>False) s')
  (h:∀ s' a m out ms,FpOk X pins H a->Inv X pins σ H s'->s'.heap.get? a=some (seqObj "list" out m)->IntsAre out.toList ms->Si (λz=>b2i (key z)) ns ms->Q (.ref a) s') :
  wpAny (model X.prog X.w) A (call (.builtin "sorted") [.ref tp] [(Str.ofString "key",.ref q)]) Q E s:=by
 have JP:sizeLine=16777216:=Ue;have De:=hv.length
 refine call_function_entry_kw kind_sorted plain_sorted entry_sorted (ksk_s1 _ _) ?_;unfold Builtin.«sorted»;refine XU (m:=checkCount "sorted" 1 1 _) (Yj ?_);refine XU (collect_list ht ?_ (by omega));refine XU (Lk ?_ (by omega));have hsz:((s.heap.push (seqObj "list" #[] 0)).update s.heap.objs.size (Obj.mapSeq (·++vs.toArray))).objs.size=s.heap.objs.size+1:=by rw[Heap.size_update,size_push']
 have Ms:(((s.heap.push (seqObj "list" #[] 0)).update s.heap.objs.size (Obj.mapSeq (·++vs.toArray))).push (seqObj "list" vs.toArray 0)).get? (s.heap.objs.size+1)=some (seqObj "list" vs.toArray 0):=by rw[<- hsz];exact Ym _ rfl
 have keep:∀ b o,s.heap.get? b=some o->(((s.heap.push (seqObj "list" #[] 0)).update s.heap.objs.size (Obj.mapSeq (·++vs.toArray))).push (seqObj "list" vs.toArray 0)).get? b=some o:=λb o q=>by have Xi:b<s.heap.objs.size:=Yl q;exact Xc _ ((YM _ _ (Sb Xi)).trans (Xc _ q))
 show wpAny _ _ _ _ _ { s with heap:=((s.heap.push (seqObj "list" #[] 0)).update s.heap.objs.size (Obj.mapSeq (·++vs.toArray))).push (seqObj "list" vs.toArray 0) };rw[hsz];have Fa:FpOk X pins H (s.heap.objs.size+1):=I.fpOk (Um _) (I.hok.fresh (Um _))
 refine XU (Sv (wpAny_call_entry_kw slot_list_sort ⟨_,Ms,rfl⟩ entry_list_sort ?body (ksk_l1 _ _)));show wpAny (model X.prog X.w) A.in1.in1 (Builtin.«list.sort» ⟨[.ref (s.heap.objs.size+1)],[(Str.ofString "key",.ref q)]⟩) _ _ _
 rw[ksk_t1];refine Ze8 (s:={ s with heap:=((s.heap.push (seqObj "list" #[] 0)).update s.heap.objs.size (Obj.mapSeq (·++vs.toArray))).push (seqObj "list" vs.toArray 0),toks:=s.toks }) (I.kept keep) Fa Ms hv Rf turn λs' m out ms J e hi hs=>⟨_,rfl,?_⟩;exact Yj ⟨_,rfl,h s' _ m out ms Fa J e hi hs⟩
end
def pB(K:Ad)(Pt:Addr)(UU:Pos)(qual:Str)(i:Nat)(te tb:TE):TE:=λσ H Q=>te σ H λy H1=>∃(p:Addr) (ns:Ac) (vx:V) (key:Int->Bool),y=.ref p/\SqL K H1 p (ns.map V.int)/\ns.length<64/\TabH H1 Pt UU qual/\σ[i]?=some (some vx) /\
 (∀ H2,SameX Pt H1 H2->∀ z∈ns,tb [some (.int z),some vx] H2 λr H3=>r=.bl (key z)/\H3=H2) /\
 ∀(ms:Ac) (l:Addr) (H2:Hp),Si (λz=>b2i (key z)) ns ms->SameX Pt H1 H2->TabH H2 Pt UU qual->H2 l=none->Q (.ref l) (upd H2 l (.lst (ms.map V.int)))
section
variable{X:Cx}{p kp pos UU:Pos}{e body:Expr}{params:Arguments}{scope:Scope}{te tb:TE}{v x:Str}{i k:Nat}{c Pt cc:Addr}
theorem SqL.samexT{K:Ad}{H H2:Hp}{a:Addr}{xs:List V}{qual:Str}(h:SqL K H a xs)(t:TabH H Pt UU qual)(sx:SameX Pt H H2):SqL K H2 a xs:=by
 obtain⟨ps,hP,_⟩:=t;rcases h with (h | ⟨o,h⟩) | h
 .exact .inl (.inl (sx _ _ (λz=>by rw[z,hP]at h;cases h) h))
 .exact .inl (.inr ⟨o,sx _ _ (λz=>by rw[z,hP]at h;cases h) h⟩)
 .exact .inr h
theorem ZA5 (he:PE X e te) (hg:Gl X (Str.ofString "sorted")) (hm:X.mg (Str.ofString "sorted")=none) (hr:Room (k+3) X.A) (hex:X.ex=[]) (UL:X.env.code=.ref c) (hC:codeHdIn X.K c Pt=true) (hB:X.base.BuiltinsAt X.mg Pt) (Di:mainGlobals≠Pt)
  (S:LamScope v x scope) (Vi:closureFor scope X.env=pure [(x,cc)]) (Jo:defaultsOf params X.env=([],[])) (Tv:∀(c':Addr) (pm Sj u:Value),bindArgs (kla_fn (Str.ofString "<lambda>") (X.env.qual++Str.ofString "<lambda>") params body scope [(x,cc)] pm (.ref c') Sj) ⟨[u],[]⟩=pure [(v,u)])
  (hi:X.N[i]?=some x) (d6:X.env.kindOf x=some .cell) (Wv:X.env.cells.lookup x=some cc)
  (hb:∀(f c':Addr) (A:Around) (outer:List Env) (s:Shared) (H:Hp),Room k (A.deeper (envX (X.env.qual++Str.ofString "<lambda>") scope s.heap.objs.size f (.ref c') [(x,cc)]))->PE (PQ X.prog X.w X.K X.mg X.base [v,x] (X.env.qual++Str.ofString "<lambda>") scope f (.ref c') [(x,cc)] A outer s H) body tb) (hs:starEach [e] X.env=[(false,eval e X.env)]:=by rfl) :
  PE X (.Call (.Name (Str.ofString "sorted") p) [e] [⟨some (Str.ofString "key"),.Lambda params body scope UU,kp⟩] pos) (pB X.K Pt UU (X.env.qual++Str.ofString "<lambda>") i te tb):=by
 intro pins s σ H Q I h;refine QV (VG I hg hm Boot.«sorted» ?_ (by decide) (by decide));have ha:PA X [e] (QA te Kv):=XZ he XY hs
 refine callWith_kw (thn (ha pos pins s σ H (λvs H1=>match vs with
  | [y]=>∃(p:Addr) (ns:Ac) (vx:V) (key:Int->Bool),y=.ref p/\SqL X.K H1 p (ns.map V.int)/\ns.length<64/\TabH H1 Pt UU (X.env.qual++Str.ofString "<lambda>")/\σ[i]?=some (some vx) /\
   (∀ H2,SameX Pt H1 H2->∀ z∈ns,tb [some (.int z),some vx] H2 λr H3=>r=.bl (key z)/\H3=H2) /\
   ∀(ms:Ac) (l:Addr) (H2:Hp),Si (λz=>b2i (key z)) ns ms->SameX Pt H1 H2->TabH H2 Pt UU (X.env.qual++Str.ofString "<lambda>")->H2 l=none->Q (.ref l) (upd H2 l (.lst (ms.map V.int)))
  | _=>False) I h) λus s1 hh=>?_) (by rw[hs];rfl) (by rw[hs];rfl) rfl rfl
 obtain⟨vs,H1,I1,r,q⟩:=hh
 match vs,r,q with
 | [],_,q=>exact False.elim q
 | _ :: _ :: _,_,q=>exact False.elim q
 | [y],r,q =>
  obtain⟨p2,ns,vx,key,rfl,hq,Rf,hT,hσ,hk,q⟩:=q;obtain⟨u,rfl,ru⟩:=Th r;obtain rfl:u=Value.ref p2:=ru;refine kws_cons (pN I1 UL hC hB hT Vi Jo Di λf c' pm Sj s2 H2 sx tab F I2 hf WH=>kws_nil ?_);have I3:=I2.pin1 F hf λv z=>by cases z
  have LX:=SqL.samexT hq hT sx;obtain⟨XW,rv,g1,hz⟩:=I2.list LX;have hv:=ZL rv
  refine Zy5 I3 g1.isList hv Rf (key:=key) (λpl z t s3 hmem J=>?_) λs3 a m out ms Fa J Ni Jp WB=>?_
  .-- the lambda called
   have RP:s3.heap.get? f=some (kla_obj (Str.ofString "<lambda>") (X.env.qual++Str.ofString "<lambda>") params body scope [(x,cc)] pm c' Sj):=(J.pin (f,_) (Yc _ (Ya _ (Yc _ Ye)))).1;obtain⟨mm,_,pz⟩:=J.loc;obtain⟨ux,rx,Dc⟩:=pz i x vx hi hσ (.inr (.inl d6));have Sr:s3.heap.IsCell cc (some ux):=by
    rcases Dc with ⟨kz,_⟩ | ⟨_,c2,e2,Ve⟩
    .rw[d6]at kz;cases kz
    .rw[Wv]at e2;cases e2;exact Ve
   have Nk:s3.heap.CodeRec (.ref c') (X.env.qual++Str.ofString "<lambda>"):=(J.hok c' _ WH).1;have Vh:Room (k+1) X.A.in1.in1:=(hr.in1).in1
   refine Ib (Ow (pS (u:=.int z t) (vv:=.int z) S Vh J.env0.in1.in1 RP Nk (Tv c' pm Sj _) Sr rx (J.freeC x cc Wv) ⟨t,rfl⟩ (hb f c' _ _ s3 H2 (Vh.deeper _)) (hk H2 sx z hmem)) λrr s4 hh=>?_);obtain⟨u',rfl,ce⟩:=hh;obtain⟨v',H',J',rV,e1,e2⟩:=J.after ce;subst e1 e2;obtain rfl:=rV;exact⟨rfl,J'⟩
  .have J0:Inv X pins σ H2 s3:=J.unpinned;have Fa0:FpOk X pins H2 a:=⟨Fa.1,Fa.2.1,Fa.2.2.1,Fa.2.2.2.1,Fa.2.2.2.2.1,λp hp=>Fa.2.2.2.2.2 p (by
    rcases Xy.mp hp with hp | hp
    .exact Ya _ hp
    .exact Yc _ (Ya _ hp))⟩
   have NI:ms.length=ns.length:=by obtain⟨pp,h1,_,rfl⟩:=WB;rw[Yd,h1.length_eq,Pc]
   refine⟨.ref a,_,J0.adopt hex Fa0 (u:=.lst (ms.map V.int)) ⟨?_,out.toList,m,ZV Jp,by simpa using Ni⟩,rfl,q ms a H2 WB sx tab Fa.1⟩;rw[Yd,NI]
   have:sizeLine=16777216:=Ue
   lia
end
abbrev UJ:List (Str × Value):=[(Str.ofString "default",.none)]
section
variable{prog:Program}{w:World}{A:Around}{I S:Addr}{fp wr:List Addr}{n:Nat}{P:Nat->Value->Prop}{St:Nat->Heap->Prop}{R:Result->Shared->Prop}
theorem pw(W:Walks prog w A.in1 I fp wr n P St)(lt:Nat->Nat->Bool)(C:Heap->Prop)(ck:∀ h h',C h->(∀ b o,b≠S->b∉wr->h.get? b=some o->h'.get? b=some o)->C h')(cc:∀(s:Shared) (i j:Nat) (v u:Value) (E:Ae) (Q:Ae),C s.heap->i≠j->P i v->P j u->Q (.bool (lt i j)) s->wpAny (model prog w) A.in1 (compareOp .Lt v u) Q E s)(SM:S∉fp):∀(k j:Nat) (s:Shared) (vb:Value) (c:Nat),n - (j+1)=k->j+1<=n->St (j+1) s.heap->P (argBest lt j) vb->C s.heap ->
  s.heap.get? S=some { cls:=.type "list",dict:=none,data:=.seq #[vb,vb] c,slots:=#[] } ->
  (∀ v h' tk,P (argBest lt (n - 1)) v->(∀ b o,b≠S->b∉wr->s.heap.get? b=some o->h'.get? b=some o)->R (.ok (.ret v)) { s with heap:=h',toks:=tk }) ->
  codeAny (model prog w) A (.builtin "min.loop" ⟨[.ref I,.none,.ref S],UJ⟩) R s:=by
 have yC:S∉wr:=λh=>SM (W.sub _ h);have nm:(toString "min"++toString ".loop":String)="min.loop":=by decide
 intro k
 induction k with
 | zero =>
  intro j s vb c hk hj st pb ta hS hR;have ej:j+1=n:=by grind
  refine Wg Az ?_;rw[Lp Oz _];show wpAny _ A.in1 (seqItems? (.ref S) >>= _) _ _ s
  refine XU (Ll hS rfl ?_);show wpAny _ A.in1 (tryCatch (pyNext (.ref I)) _ >>= _) _ _ s
  refine XU (GR (W.done s _ _ (ej ▸ st) λh' tk Tu=>?_));have Tc:=Tu S _ yC hS
  show wpAny _ A.in1 (updateSeq S (λ_=>#[]) >>= _) _ _ _;refine XU (Ay Tc rfl (XU (Ic (Yj ?_))));exact hR vb _ tk (by rw[<- ej];exact pb) λb o b1 b2 e=>(YM _ _ (YY b1)).trans (Tu b o b2 e)
 | succ k ih =>
  intro j s vb c hk hj st pb ta hS hR;have Xi:j+1<n:=by omega
  refine Wg Az ?_;rw[Lp Oz _];show wpAny _ A.in1 (seqItems? (.ref S) >>= _) _ _ s
  refine XU (Ll hS rfl ?_);show wpAny _ A.in1 (tryCatch (pyNext (.ref I)) _ >>= _) _ _ s
  refine XU (GR (W.item (j+1) s _ _ Xi st λv h' tk pv Ti Tu=>?_));have Tc:=Tu S _ yC hS
  have pq:=ck _ h' ta λb o _ b2 e=>Tu b o b2 e;show wpAny _ A.in1 (tryCatch (holding [v,v] (richCompare .Lt (v) (vb) >>= _)) _ >>= _) _ _ _
  refine XU (GR (Sv (XU (show wpAny _ _ (compareOp .Lt (v) (vb)) _ _ _ from cc { s with heap:=h',toks:=tk } (j+1) _ v vb _ _ pq (Sb (Nat.lt_succ_of_le (My.Sm _ _))) pv pb ?_))));refine XU (Sv (OB ?_));refine XU (Ic (Yj ?_));cases hb:lt (j+1) (argBest lt j) with
  | true =>
   simp only [OZ];refine XU (Ay Tc rfl (XU (Ic ?_)));rw[nm];have up:∀ b o,b≠S->h'.get? b=some o->(h'.update S (Obj.mapSeq λ_=>#[v,v])).get? b=some o:=λb o b1 e=>(YM _ _ (YY b1)).trans e
   refine Yj ⟨UE Oz _,ih (j+1) _ (v) _ (by omega) Xi (W.frame _ h' _ Ti λb LS o e=>up b o (λh=>SM (h ▸ LS)) e) ?_ (ck _ _ pq λb o b1 _ e=>up b o b1 e) (Vx _ Tc rfl) λv' JQ PM CZ CY=>?_⟩
   .unfold argBest;rw[if_pos hb];exact pv
   .exact hR v' JQ PM CZ λb o b1 b2 e=>CY b o b1 b2 (up b o b1 (Tu b o b2 e))
  | false =>
   simp only [Hb,La];refine XU (Ic ?_);rw[nm];refine Yj ⟨UE Oz _,ih (j+1) _ (vb) c (by omega) Xi Ti ?_ pq Tc λv' JQ PM CZ CY=>?_⟩
   .unfold argBest;rw[if_neg (by rw[hb];decide)];exact pb
   .exact hR v' JQ PM CZ λb o b1 b2 e=>CY b o b1 b2 (Tu b o b2 e)
theorem ZD6 (W:Walks prog w A.in1 I fp wr n P St) (lt:Nat->Nat->Bool) (C:Heap->Prop) (ck:∀ h h',C h->(∀ b o,b≠S->b∉wr->h.get? b=some o->h'.get? b=some o)->C h') (cc:∀(s:Shared) (i j:Nat) (v u:Value) (E:Ae) (Q:Ae),C s.heap->i≠j->P i v->P j u->Q (.bool (lt i j)) s->wpAny (model prog w) A.in1 (compareOp .Lt v u) Q E s) (SM:S∉fp) (hn:0<n) {s:Shared} {c:Nat} (st:St 0 s.heap) (ta:C s.heap) (hS:s.heap.get? S=some { cls:=.type "list",dict:=none,data:=.seq #[] c,slots:=#[] })
  (hR:∀ v h' tk,P (argBest lt (n - 1)) v->(∀ b o,b≠S->b∉wr->s.heap.get? b=some o->h'.get? b=some o)->R (.ok (.ret v)) { s with heap:=h',toks:=tk }) :
  codeAny (model prog w) A (.builtin "min.loop" ⟨[.ref I,.none,.ref S],UJ⟩) R s:=by
 have yC:S∉wr:=λh=>SM (W.sub _ h);have nm:(toString "min"++toString ".loop":String)="min.loop":=by decide
 refine Wg Az ?_;rw[Lp Oz _];show wpAny _ A.in1 (seqItems? (.ref S) >>= _) _ _ s
 refine XU (Ll hS rfl ?_);show wpAny _ A.in1 (tryCatch (pyNext (.ref I)) _ >>= _) _ _ s
 refine XU (GR (W.item 0 s _ _ hn st λv h' tk pv Ti Tu=>?_));have Tc:=Tu S _ yC hS
 show wpAny _ A.in1 (updateSeq S (λ_=>#[v,v]) >>= _) _ _ _;refine XU (Ay Tc rfl ?_);rw[nm];have up:∀ b o,b≠S->h'.get? b=some o->(h'.update S (Obj.mapSeq λ_=>#[v,v])).get? b=some o:=λb o b1 e=>(YM _ _ (YY b1)).trans e
 refine Yj ⟨UE Oz _,pw W lt C ck cc SM _ 0 _ v _ rfl hn (W.frame _ h' _ Ti λb LS o e=>up b o (λh=>SM (h ▸ LS)) e) pv (ck _ _ ta λb o b1 b2 e=>up b o b1 (Tu b o b2 e)) (Vx _ Tc rfl) λv' JQ PM CZ CY=>?_⟩;exact hR v' JQ PM CZ λb o b1 b2 e=>CY b o b1 b2 (up b o b1 (Tu b o b2 e))
theorem pj (W:Walks prog w A.in1 I fp wr n P St) (hn:n=0) (SM:S∉fp) {s:Shared} {c:Nat} (st:St 0 s.heap) (hS:s.heap.get? S=some { cls:=.type "list",dict:=none,data:=.seq #[] c,slots:=#[] })
  (hR:∀ h' tk,(∀ b o,b≠S->b∉wr->s.heap.get? b=some o->h'.get? b=some o)->R (.ok (.ret .none)) { s with heap:=h',toks:=tk }) :
  codeAny (model prog w) A (.builtin "min.loop" ⟨[.ref I,.none,.ref S],UJ⟩) R s:=by
 subst hn;refine Wg Az ?_;rw[Lp Oz _];show wpAny _ A.in1 (seqItems? (.ref S) >>= _) _ _ s
 refine XU (Ll hS rfl ?_);show wpAny _ A.in1 (tryCatch (pyNext (.ref I)) _ >>= _) _ _ s
 refine XU (GR (W.done s _ _ st λh' tk Tu=>?_));refine XU (GI (Yj ?_));exact hR h' tk λb o _ b2 e=>Tu b o b2 e
theorem Zp4{E:Ae}{s:Shared}{id:String}{b:Builtin}{args:Ag}{kw:List (Str × Value)}{Q:Ae}(hk:builtinKind id=none)(hp:plainId id=true)(hb:entryFor table id=some b)(ha:argsOk id ⟨args,kw⟩)
  (hc:wpAny (model prog w) A.in1 (b ⟨args,kw⟩) (λfin s'=>match fin with
   | .done f=>(match (Except.ok f:Result) with | .ok (.ret v)=>Q v s' | .ok _=>False | .error e=>E e s')
   | .again c'=>c'.quiet=true/\codeAny (model prog w) A c' (λr s'=>match r with | .ok (.ret v)=>Q v s' | .ok _=>False | .error e=>E e s') s') E s):wpAny (model prog w) A (call (.builtin id) args kw) Q E s:=by
 refine Ib (AG hp hb ?_);simp only [checkBuiltinCall,hk];cases ph:Manifest.signature? id with
 | none=>exact Yj hc
 | some sig =>
  have zw:Bind.checkArgs id sig ⟨args,kw⟩=pure ():=by simpa only [argsOk,ph] using ha
  simp only [zw];exact Yj hc
theorem pf (a:Value):argsOk "min" ⟨[a],UJ⟩:=by unfold argsOk;kernel_rfl
theorem CW{E:Ae}{s:Shared}{l:Addr}{xs:Array (Int × Tok)}{Q:Ae}(hh:A.handled=none)(hl:s.heap.IsList l (intItems xs))
  (h0:xs.size=0->∀ h' tk,(∀ b o,s.heap.get? b=some o->h'.get? b=some o)->Q .none { s with heap:=h',toks:=tk })
  (h:0<xs.size->∀ v h' tk,(intItems xs)[argBest (λi j=>decide (numAt xs i<numAt xs j)) (xs.size - 1)]?=some v->(∀ b o,s.heap.get? b=some o->h'.get? b=some o)->Q v { s with heap:=h',toks:=tk }) :
  wpAny (model prog w) A (call (.builtin "min") [.ref l] UJ) Q E s:=by
 have nm:(toString "min"++toString ".loop":String)="min.loop":=by decide
 refine Zp4 F.kind_min F.plain_min F.entry_min (pf _) ?_;show wpAny _ A.in1 (Builtin.Builtins.bindParams "min" ["key","default"] 0 ⟨[],UJ⟩ >>= _) _ _ s
 refine XU (Ot (a:=[none,some .none]) rfl ?_);refine XU (Yj ?_);refine XU (iter_intList hl λs₂ e st yL hlI=>?_);subst e;refine XU (OA ?_);rw[nm];have W:=Walks.list (prog:=prog) (w:=w) (A:=A.in1) hh s.heap.objs.size l hlI (intItems xs)
 obtain⟨G,hG⟩:∃ G,G=s.heap.push { cls:=.type "list_iterator",data:=.fields #[.ref l,.int 0 0] }:=⟨_,rfl⟩;have hold:∀ b o,s.heap.get? b=some o->b≠G.objs.size/\b∉[s.heap.objs.size]/\(G.push { cls:=.type "list",data:=.seq #[] 0 }).get? b=some o:=λb o e=>by
  have Xi:=Yl e;have pe:b<G.objs.size:=by rw[hG];exact Yn Xi (by rw[Oy];exact Um _)
  refine⟨Yt pe,λhm=>by rw[XD.mp hm]at Xi;exact Rk _ Xi,Xc _ (by rw[hG];exact Xc _ e)⟩
 rw[<- hG]at st yL ⊢;have SM:G.objs.size∉[s.heap.objs.size,l]:=λhm=>Rk _ (yL _ hm)
 have Oi:=W.frame 0 G (G.push { cls:=.type "list",data:=.seq #[] 0 }) st λb _ o e=>Xc _ e;have pd:(intItems xs).size=xs.size:=by simp[intItems]
 rcases Nat.eq_zero_or_pos xs.size with hz | hz
 .refine Yj ⟨UE Oz _,pj W (pd.trans hz) SM Oi (Ym _ rfl) λh' tk hk=>?_⟩;exact h0 hz h' tk λb o e=>let ⟨a1,a2,a3⟩:=hold b o e;hk b o a1 a2 a3
 .refine Yj ⟨UE Oz _,ZD6 W (λi j=>decide (numAt xs i<numAt xs j)) (λ_=>True) (λ_ _ _ _=>trivial) (λs i j v u E Q _ _ pv pu q=>?_) SM (by rw[pd];exact hz) Oi trivial (Ym _ rfl) λv h' tk pv hk=>?_⟩
  .obtain⟨t1,rfl⟩:=intItems_at pv;obtain⟨t2,rfl⟩:=intItems_at pu;exact lt_int q
  .rw[pd]at pv;exact h hz v h' tk pv λb o e=>let ⟨a1,a2,a3⟩:=hold b o e;hk b o a1 a2 a3
end
def CV(K:Ad)(te:TE):TE:=λσ H Q=>te σ H λy H1=>∃(p:Addr) (ns:Ac),y=.ref p/\SqL K H1 p (ns.map V.int)/\(ns=[]->Q .non H1)/\∀ m:Int,m∈ns->(∀ a∈ns,m<=a)->Q (.int m) H1
theorem d5 {X:Cx} {p kp pos cp:Pos} {e:Expr} {te:TE} {j:Nat} (hc:X.calm=true) (hg:Gl X (Str.ofString "min")) (hm:X.mg (Str.ofString "min")=none) (he:PE X e te) (hs:starEach [e] X.env=[(false,eval e X.env)]:=by rfl) :
  PE X (.Call (.Name (Str.ofString "min") p) [e] [⟨some (Str.ofString "default"),.Constant .none j cp,kp⟩] pos) (CV X.K te):=by
 intro pins s σ H Q I h;refine QV (VG I hg hm Boot.«min» ?_ (by decide) (by decide));have ha:PA X [e] (QA te Kv):=XZ he XY hs
 refine callWith_kw (thn (ha pos pins s σ H (λvs H1=>match vs with
  | [y]=>∃(p:Addr) (ns:Ac),y=.ref p/\SqL X.K H1 p (ns.map V.int)/\(ns=[]->Q .non H1)/\∀ m:Int,m∈ns->(∀ a∈ns,m<=a)->Q (.int m) H1
  | _=>False) I h) λus s1 hh=>?_) (by rw[hs];rfl) (by rw[hs];rfl) rfl rfl
 obtain⟨vs,H1,I1,r,q⟩:=hh
 match vs,r,q with
 | [],_,q=>exact False.elim q
 | _ :: _ :: _,_,q=>exact False.elim q
 | [y],r,q =>
  obtain⟨p2,ns,rfl,hq,q0,q1⟩:=q;obtain⟨u,rfl,ru⟩:=Th r;obtain rfl:u=Value.ref p2:=ru;refine kws_cons (Constant_none (kws_nil ?_));obtain⟨XW,rv,pl,hz⟩:=I1.list hq;have hi:=ZL rv
  obtain⟨xs,e'⟩:=hi.allInts.items;have VO:ns=xs.toList.map (·.1):=by rw[<- hi.numsOf,<- nums_intItems,<- e']
  have hl:=pl.isList;rw[e']at hl;refine CW (I1.ok.hd hc) hl (λhsz h' tk hk=>?_) λhsz v h' tk hv hk=>?_
  .refine⟨.non,H1,I1.kept (t':=tk) hk,rfl,q0 ?_⟩;rw[VO,Hf];exact YQ.mp (by rw[YD];exact hsz)
  .obtain⟨t,rfl⟩:=intItems_at hv;obtain⟨h1,h2⟩:=argBest_lt (numAt xs) (xs.size - 1);refine⟨.int _,H1,I1.kept (t':=tk) hk,⟨t,rfl⟩,q1 _ ?_ λa ha=>?_⟩
   .rw[VO,numAt_eq];exact getD_mem (by rw[Yd,YD];omega)
   .rw[VO]at ha;obtain⟨j,hj,rfl⟩:=mem_getD ha;rw[Yd,YD]at hj;rw[<- numAt_eq];exact h2 j (by grind)
end L2
namespace My
open PySem L2
def CU (K:Ad) (mg:Af) (x qual:Str) (st:Stmt) (fs:List Str) (Pt:Addr):Prop:=∃(C f:Addr) (fd:FuncData) (c:Addr),mg x=some (.ref C)/\Fun K "__init__" qual st f fd/\Cls K C/\Mk K C f/\(∀ a∈fs,NoAttr K C a)/\fd.code=.ref c/\PySem.W.codeHdIn K c Pt=true
theorem Jj{K:Ad}{h:Heap}{mg:Af}{x qual:Str}{fs:List Str}{st:Stmt}{C f cA Pt:Addr}{oc:Value}{od an:Option Addr}{Uy:Array (Option Value)}{kV doc pm ct:Value}(X:K.In h)(G:h.Ns mainGlobals mg)
  (aC:PySem.W.nsIn K mainGlobals x=some (some (.ref C))) (a:PySem.W.findIn K (.ref C) "__init__"=some (some (.ref f))) (i:PySem.W.isFn K (.ref f)=true)
  (l:K.lookup f=some ⟨oc,od,.func (PySem.W.fnOf "__init__" qual (Ki st) (Qx st) (XA st) .none kV doc pm an (.ref cA) ct),Uy⟩) (c:PySem.W.codeIn K (.ref cA) qual=true) (k:PySem.W.keepIn K (.ref f)=true)
  (pg:PySem.W.plainGet K C Str.empty=true) (hd:PySem.W.hasDictIn K C=true) (po:PySem.W.plainOver K C=true) (sa:PySem.W.findIn K (.ref C) "__setattr__"=some (some (.builtin "object.__setattr__"))) (mk:PySem.W.makesIn K C=true) (kc:PySem.W.keepIn K (.ref C)=true)
  (na:∀ a∈fs,PySem.W.findIn K (.ref C) a=some none) (z:PySem.W.codeHdIn K cA Pt=true):CU K mg x qual st fs Pt :=
 ⟨C,f,_,cA,Ud X G aC,Kh l c k,⟨pg,hd,po,sa⟩,⟨mk,a,i,kc⟩,na,rfl,z⟩
def Nh(M:Ac)(ps:Aa)(g:Ac)(i:Nat):Ac:=(Wo i).filter λz=>decide (z∉g/\mk M (ps.getD z.toNat (0,0)).1.toNat≠mk M (ps.getD z.toNat (0,0)).2.toNat)
theorem CT(M:Ac)(ps:Aa)(g:Ac)(i:Nat):Nh M ps g (i+1)=Nh M ps g i++if (i:Int)∉g/\mk M (ps.getD i (0,0)).1.toNat≠mk M (ps.getD i (0,0)).2.toNat then [(i:Int)] else []:=by
 unfold Nh;rw[gF,QW];congr 1;rw[YL,KR];show(if decide ((i:Int)∉g/\mk M (ps.getD ((i:Int).toNat) (0,0)).1.toNat≠mk M (ps.getD ((i:Int).toNat) (0,0)).2.toNat)=true then [(i:Int)] else [])=_
 rw[YA];simp only [Lo]
theorem o9(M:Ac)(ps:Aa)(g:Ac)(i:Nat):(Nh M ps g i).length<=i:=Yr (YH ..) (by rw[ZJ];exact XO _)
def Xg:Option Int->V
 | none=>.non
 | some z=>.int z
def yB (w k s ld l i fu:V):List (Str × V):=[("web",w),("kept",k),("shut",s),("lead",ld),("least",l),("incoming",i),("further",fu)]
theorem WK{H:Hp}{x:Addr}{o:HO}:SameX x H (upd H x o):=λb o' hb e=>by rw[Zb hb];exact e
theorem WebAt.but{C CP w x dx:Addr}{H H1:Hp}{n:Int}{ps:Aa}(h:WebAt C H w n ps)(hx:H x=some (.ins CP dx []))(s:SameX x H H1):WebAt C H1 w n ps:=by
 obtain⟨d,tl,xs,h1,h2,h3⟩:=h;refine⟨d,tl,xs,s _ _ (λe=>?_) h1,s _ _ (λe=>?_) h2,h3.1,λi p e=>?_⟩
 .rw[e,hx]at h1
  have:=Xw (λo=>match o with | some (HO.ins _ _ fs)=>fs.length | _=>0) h1
  exact absurd this (by show ¬ 0=2;decide)
 .rw[e,hx]at h2;cases h2
 .obtain⟨v,a1,tt,a2,a3⟩:=h3.2 i p e;exact⟨v,a1,tt,a2,s _ _ (λe=>by rw[e,hx]at a3;cases a3) a3⟩
theorem CS{K:Ad}{CP a x dx:Addr}{H H1:Hp}{xs:List V}(h:SqT K H a xs)(hx:H x=some (.ins CP dx []))(s:SameX x H H1):SqT K H1 a xs:=by
 rcases h with (h | ⟨o,h⟩) | h
 .exact .inl (.inl (s _ _ (λz=>by rw[z,hx]at h;cases h) h))
 .exact .inl (.inr ⟨o,s _ _ (λz=>by rw[z,hx]at h;cases h) h⟩)
 .exact .inr h
theorem o8{CP Pt x dx:Addr}{H H1:Hp}{pos:Pos}{qual:Str}(t:TabH H Pt pos qual)(hx:H x=some (.ins CP dx []))(s:SameX x H H1):TabH H1 Pt pos qual:=by
 obtain⟨ps,h1,h2,h3⟩:=t;refine⟨ps,s _ _ (λe=>by rw[e,hx]at h1;cases h1) h1,h2,?_⟩;rcases h3 with h | ⟨c,h,h'⟩
 .exact .inl h
 .exact .inr ⟨c,h,s _ _ (λe=>by rw[e,hx]at h';cases h') h'⟩
theorem CQ{K:Ad}{H:Hp}{a b:Addr}{l m:Ac}{Q:VK}(ha:SqT K H a (IL l))(hb:SqT K H b (IL m))(hl:l.length+m.length<=1000)(k:∀(r:Addr) (H':Hp),Same H H'->SqT K H' r (IL (l++m))->Q (.ref r) H'):JG K (.ref a) (.ref b) H Q:=by
 refine⟨a,b,_,_,rfl,rfl,ha,hb,by rw[Xr,Xr];exact Yr hl (by decide),λe=>?_,λ_ e=>?_,λ_ _ p hp=>?_⟩
 .have el:l=[]:=Hf.mp e;rw[el,Mz]at k;exact k b H (Same.refl _) hb
 .have em:m=[]:=Hf.mp e;rw[em,YF]at k;exact k a H (Same.refl _) ha
 .refine k p _ (XH hp) (SqT.of ?_);rw[XR,EX]
def UI(M:Ac)(ps:Aa)(z:Int):Int × Int:=(min (mk M (ps.getD z.toNat (0,0)).1.toNat) (mk M (ps.getD z.toNat (0,0)).2.toNat),max (mk M (ps.getD z.toNat (0,0)).1.toNat) (mk M (ps.getD z.toNat (0,0)).2.toNat))
theorem d4{l:Ac}{a b:Int}(hp:l.Perm [a,b])(hs:l.Pairwise (·<=·)):l=[min a b,max a b]:=by
 by_cases c:a<=b
 .rw[KQ c,xc c];exact zq hp hs (by simpa using c)
 .rw[xf (by lia),KP (by omega)];exact zq (hp.trans (List.Perm.swap b a [])) hs (by simp;omega)
theorem d3{M:Ac}{ps:Aa}{g:Ac}{i:Nat}{z:Int}(h:z∈Nh M ps g i):0<=z/\z<(i:Int):=XB.mp (Yf.mp h).1
def WY(n:Int)(ps:Aa)(I O F:Ac):Ac:=Nh (Xx n.toNat (XT ps I)) ps (I++O++F) ps.length
def Tt(n:Int)(ps:Aa)(I O F:Ac)(ld:Option Int):Ac:=(WY n ps I O F).filter λz=>decide (∃ y,ld=some y/\UI (Xx n.toNat (XT ps I)) ps z=UI (Xx n.toNat (XT ps I)) ps y)
def VX(n:Int)(ps:Aa)(I O F:Ac)(ld:Option Int):Ac:=(WY n ps I O F).filter λz=>decide (z∉Tt n ps I O F ld)
def PartAt(K:Ad)(CP C:Addr)(H:Hp)(x:Addr)(n:Int)(ps:Aa)(I O F inc:Ac)(ld fu:Option Int):Prop:=∃ dx w a b l i,H x=some (.ins CP dx (yB (.ref w) (.ref a) (.ref b) (Xg ld) (.ref l) (.ref i) (Xg fu)))/\WebAt C H w n ps/\SqT K H a (IL I)/\SqT K H b (IL O)/\H l=some (.tup (IL F))/\H i=some (.lst (IL inc))
theorem PartAt.samex{K:Ad}{CP C Pt x:Addr}{H H2:Hp}{n:Int}{ps:Aa}{I O F inc:Ac}{ld fu:Option Int}{pos:Pos}{qual:Str}(h:PartAt K CP C H x n ps I O F inc ld fu)(t:TabH H Pt pos qual)(sx:SameX Pt H H2):PartAt K CP C H2 x n ps I O F inc ld fu:=by obtain⟨dx,w,a,b,l,i,h1,h2,h3,h4,h5,h6⟩:=h;exact⟨dx,w,a,b,l,i,sx _ _ (t.ne h1 (by simp)) h1,h2.samex t sx,SqK.samex (kd:=true) h3 t sx,SqK.samex (kd:=true) h4 t sx,sx _ _ (t.ne h5 (by simp)) h5,sx _ _ (t.ne h6 (by simp)) h6⟩
structure PartOk (n:Int) (ps:Aa) (I O:Ac) (ld:Option Int) (F inc:Ac) (fu:Option Int):Prop where
 tr:With n ps I O F
 least:∀ U,With n ps I O U->HT.lexLt U F=false
 inc:Si (λz=>PyProof.Rows.b2i (decide (ld=some z))) (Tt n ps I O F ld) inc
 none:fu=none↔VX n ps I O F ld=[]
 some:∀ y,fu=some y->y∈VX n ps I O F ld/\∀ z∈VX n ps I O F ld,y<=z
def xchT(F:Ac)(o z:Int):Ac:=(wo F o++[z]).mergeSort λa b=>decide (a<=b)
theorem LN(F:Ac)(o z:Int):(xchT F o z).Perm (wo F o++[z]):=List.mergeSort_perm _ _
theorem Rw(F:Ac)(o z:Int):(xchT F o z).Pairwise (·<=·):=by
 refine(jy (le:=λa b:Int=>decide (a<=b)) (λa b c h1 h2=>?_) (λa b=>?_) _).imp λh=>Yu h
 .simp only [Lo]at *;lia
 .simp only [xa,Lo];lia
def WN(n:Int)(ps:Aa)(I F:Ac)(z:Int):Ac:=(WD n ps F z F).filter λt=>decide (t∉I)
section
variable{n:Int}{ps:Aa}{I O F T M:Ac}{x y z:Int}(g:Zt n ps)
include g
theorem CO(hF:With n ps I O F)(he:exg n ps F x y)(hx:x∉I)(hy:y∉O)(hp:M.Perm (wo F x++[y]))(hs:M.Pairwise (·<=·)):With n ps I O M:=by
 refine⟨zk g hF.1 he hp hs,λv hv=>(NA g hF.1 he hp hs).mpr (.inl ⟨hF.2.1 v hv,λe=>hx (e ▸ hv)⟩),λv hv h=>?_⟩;rcases(NA g hF.1 he hp hs).mp h with h | h
 .exact hF.2.2 v hv h.1
 .exact hy (h ▸ hv)
theorem dZ(hF:Zf n ps F)(he:exg n ps F x y)(h:y<x)(hp:M.Perm (wo F x++[y]))(hs:M.Pairwise (·<=·)):HT.lexLt M F=true:=by
 have tM:=zk g hF he hp hs;have yF:y∉F:=((Ej g hF).mp he).2.1
 refine(Jw (XX.mp tM.1).2 (XX.mp hF.1).2 (by have:=tM.2.1;have:=hF.2.1;lia)).mpr ⟨y,(NA g hF he hp hs).mpr (.inr rfl),yF,λs OR=>?_⟩;rw[NA g hF he hp hs];constructor
 .rintro(q | q)
  .exact q.1
  .lia
 .exact λq=>.inl ⟨q,by lia⟩
theorem ZW(hF:With n ps I O F)(VS:∀ U,With n ps I O U->HT.lexLt U F=false)(hT:With n ps (I++[z]) O T)(LM:∀ U,With n ps (I++[z]) O U->HT.lexLt U T=false):∀ v∈T,v∈F\/v=z:=λv hv=>Yx λno=>by
 have vF:v∉F:=λh=>no (.inl h);have vz:v≠z:=λh=>no (.inr h)
 obtain⟨u,e1,e2⟩:=sr g hT.1 hF.1 hv vF;have uF:u∈F:=e2.1
 have uT:u∉T:=((Ej g hT.1).mp e1).2.1;have uI:u∉I:=λh=>uT (hT.2.1 u (Ya _ h))
 have vO:v∉O:=λh=>hT.2.2 v h hv;have uO:u∉O:=λh=>hF.2.2 u h uF
 have vI:v∉I++[z]:=λh=>by
  rcases Xy.mp h with h | h
  .exact vF (hF.2.1 v h)
  .exact vz (XD.mp h)
 have uv:u≠v:=λe=>uT (e ▸ hv);obtain⟨M1,p1,q1⟩:=sj (wo F u++[v]);have w1:=CO g hF e2 uI vO p1 q1
 obtain⟨M2,p2,q2⟩:=sj (wo T v++[u]);have w2:=CO g hT e1 vI uO p2 q2
 rcases Int.lt_or_lt_of_ne uv with h | h
 .have:=dZ g hT.1 e1 h p2 q2
  rw[LM M2 w2]at this;cases this
 .have:=dZ g hF.1 e2 h p1 q1
  rw[VS M1 w1]at this;cases this
theorem yA(hF:With n ps I O F)(VS:∀ U,With n ps I O U->HT.lexLt U F=false)(hz:z∉F):With n ps I (O++[z]) F/\∀ U,With n ps I (O++[z]) U->HT.lexLt U F=false :=
 ⟨⟨hF.1,hF.2.1,λv hv=>(Xy.mp hv).elim (hF.2.2 v) λh=>by rw[XD.mp h];exact hz⟩,λU hU=>VS U ⟨hU.1,hU.2.1,λv hv=>hU.2.2 v (Ya _ hv)⟩⟩
end
theorem WJ{n:Int}{ps:Aa}{I O T:Ac}{z:Int}:With n ps I O T↔With n ps I (O++[z]) T\/With n ps (I++[z]) O T:=by
 constructor
 .intro h;by_cases c:z∈T
  .exact .inr ⟨h.1,λv hv=>(Xy.mp hv).elim (h.2.1 v) λe=>by rw[XD.mp e];exact c,h.2.2⟩
  .exact .inl ⟨h.1,h.2.1,λv hv=>(Xy.mp hv).elim (h.2.2 v) λe=>by rw[XD.mp e];exact c⟩
 .rintro(h | h)
  .exact⟨h.1,h.2.1,λv hv=>h.2.2 v (Ya _ hv)⟩
  .exact⟨h.1,λv hv=>h.2.1 v (Ya _ hv),h.2.2⟩
def RowAll(n:Int)(ps:Aa)(I O:Ac)(R:Ab):Prop:=R.Nodup/\∀ T,T∈R↔With n ps I O T
theorem RowAll.pc{n:Int}{ps:Aa}{I O:Ac}{R:Ab}(h:RowAll n ps I O R):PC n ps I O R.length:=⟨R,h.1,λl=>h.2 l,rfl⟩
theorem Zg6{n:Int}{ps:Aa}{I O:Ac}{z:Int}{A B:Ab}(hA:RowAll n ps I (O++[z]) A)(hB:RowAll n ps (I++[z]) O B):RowAll n ps I O (A++B.reverse):=by
 refine⟨YS.mpr ⟨hA.1,(List.reverse_perm B).nodup_iff.mpr hB.1,λa ha b hb e=>?_⟩,λT=>?_⟩
 .subst e;exact((hA.2 a).mp ha).2.2 z (by simp) (((hB.2 a).mp (Im.mp hb)).2.1 z (by simp))
 .rw[Xy,Im,hA.2,hB.2];exact WJ.symm
theorem o7{a b c d:Int}(h1:min a b=min c d)(h2:max a b=max c d):(a=c/\b=d)\/(a=d/\b=c):=by
 rcases Int.le_total a b with p | p <;> rcases Int.le_total c d with q | q <;> simp only [KQ,xf,KP,xc,p,q]at h1 h2
 .exact .inl ⟨h1,h2⟩
 .exact .inr ⟨h1,h2⟩
 .exact .inr ⟨h2,h1⟩
 .exact .inl ⟨h2,h1⟩
section
variable{n:Int}{ps:Aa}{I O F T:Ac}{o t t':Int}(g:Zt n ps)
include g
theorem CN(hT:Zf n ps T)(ho:o∈T):¬ Conn (XT ps (wo T o)) (Zq ps o).1 (Zq ps o).2:=by obtain⟨o0,o1⟩:=hT.1.all o ho;exact(ZM g hT o0 o1).mp ((HI g hT ho ho).mpr rfl)
theorem ZL7(hT:Zf n ps T)(hI:∀ v∈I,v∈T)(ht:t∈T)(hn:t∉I):¬ Conn (XT ps I) (Zq ps t).1 (Zq ps t).2:=λc =>
 CN g hT ht (c.mono (ZA λv hv=>Xq.mpr ⟨hI v hv,λe=>hn (by rw[<- e];exact hv)⟩))
theorem dY(Xt:∀ z∈I,0<=z/\z<(ps.length:Int))(t0:0<=t)(t1:t<(ps.length:Int))(s0:0<=t')(s1:t'<(ps.length:Int))(h:UI (Xx n.toNat (XT ps I)) ps t=UI (Xx n.toNat (XT ps I)) ps t') :
  (Conn (XT ps I) (Zq ps t).1 (Zq ps t').1/\Conn (XT ps I) (Zq ps t).2 (Zq ps t').2)\/(Conn (XT ps I) (Zq ps t).1 (Zq ps t').2/\Conn (XT ps I) (Zq ps t).2 (Zq ps t').1):=by
 have Wi:=ZG g Xt;have a:=Uw (z:=t) g t0 t1
 have b:=Uw (z:=t') g s0 s1;have h:(min (mk (Xx n.toNat (XT ps I)) (Zq ps t).1) (mk (Xx n.toNat (XT ps I)) (Zq ps t).2),max (mk (Xx n.toNat (XT ps I)) (Zq ps t).1) (mk (Xx n.toNat (XT ps I)) (Zq ps t).2))=(min (mk (Xx n.toNat (XT ps I)) (Zq ps t').1) (mk (Xx n.toNat (XT ps I)) (Zq ps t').2),max (mk (Xx n.toNat (XT ps I)) (Zq ps t').1) (mk (Xx n.toNat (XT ps I)) (Zq ps t').2)):=h
 obtain⟨h1,h2⟩:=Prod.mk.inj h;rw[<- VN Wi a.1 b.1,<- VN Wi a.2 b.2,<- VN Wi a.1 b.2,<- VN Wi a.2 b.1];exact o7 h1 h2
theorem ZG8(Xt:∀ z∈I,0<=z/\z<(ps.length:Int))(hT:Zf n ps T)(hI:∀ v∈I,v∈T)(ht:t∈T)(hs:t'∈T)(hn:t∉I)(Ub:t'∉I)(h:UI (Xx n.toNat (XT ps I)) ps t=UI (Xx n.toNat (XT ps I)) ps t'):t=t':=Yx λne=>by
 obtain⟨t0,t1⟩:=hT.1.all t ht;obtain⟨s0,s1⟩:=hT.1.all t' hs;have sub:∀ v∈I++[t],v∈wo T t':=λv hv=>by
  rcases Xy.mp hv with hv | hv
  .exact Xq.mpr ⟨hI v hv,λe=>Ub (by rw[<- e];exact hv)⟩
  .rw[XD.mp hv];exact Xq.mpr ⟨ht,ne⟩
 have up:∀ {i j},Conn (XT ps I) i j->Conn (XT ps (I++[t])) i j:=λc=>c.mono (ZA λv hv=>Ya _ hv);have ed:Conn (XT ps (I++[t])) (Zq ps t).1 (Zq ps t).2:=.edge (YC.mpr ⟨t,by simp,rfl⟩)
 have c:Conn (XT ps (I++[t])) (Zq ps t').1 (Zq ps t').2:=by
  rcases dY g Xt t0 t1 s0 s1 h with ⟨a,b⟩ | ⟨a,b⟩
  .exact((up a).symm.trans ed).trans (up b)
  .exact((up b).symm.trans ed.symm).trans (up a)
 exact CN g hT hs (c.mono (ZA sub))
theorem o6(Xt:∀ z∈I,0<=z/\z<(ps.length:Int))(hT:With n ps I O T)(hF:∀ v∈I,v∈F)(ht:t∈T)(hn:t∉F):t∈WY n ps I O F:=by
 obtain⟨t0,t1⟩:=hT.1.1.all t ht;have a:=Uw (z:=t) g t0 t1
 have hI:t∉I:=λh=>hn (hF t h);refine Yf.mpr ⟨XB.mpr ⟨t0,t1⟩,Yw ⟨λh=>?_,λe=>?_⟩⟩
 .rcases Xy.mp h with h | h
  .rcases Xy.mp h with h | h
   .exact hI h
   .exact hT.2.2 t h ht
  .exact hn h
 .exact ZL7 g hT.1 hT.2.1 ht hI ((VN (ZG g Xt) a.1 a.2).mp e)
end
def VR(n:Int)(ps:Aa)(I F:Ac)(asc:Bool)(z:Int):Ab:=if asc then (WN n ps I F z).map λo=>xchT F o z else ((WN n ps I F z).map λo=>xchT F o z).reverse
def VC(n:Int)(ps:Aa)(I F:Ac):Ac->Bool->Ab
 | [],_=>[]
 | z :: r,asc=>VR n ps I F asc z++VC n ps I F r (!asc)
theorem Ji(n:Int)(ps:Aa)(I F:Ac)(z:Int):∀(l:Ac) (asc:Bool),VC n ps I F (l++[z]) asc=VC n ps I F l asc++VR n ps I F (asc != (l.length % 2 == 1)) z
 | [],asc=>by show VR n ps I F asc z++[]=[]++VR n ps I F (asc != false) z;rw[YF,Mz,Bool.bne_false]
 | y :: l,asc=>by show VR n ps I F asc y++VC n ps I F (l++[z]) (!asc)=VR n ps I F asc y++VC n ps I F l (!asc)++_;rw[Ji n ps I F z l,QU,Yz];congr 3;rcases(by lia:l.length % 2=0/\(l.length+1) % 2=1\/l.length % 2=1/\(l.length+1) % 2=0) with ⟨a,b⟩ | ⟨a,b⟩ <;> rw[a,b] <;> cases asc <;> rfl
theorem CM(n:Int)(ps:Aa)(I F:Ac)(asc:Bool)(z:Int):(VR n ps I F asc z).length<=F.length:=by
 unfold VR;have h:(WN n ps I F z).length<=F.length:=Yr (YH ..) (HK n ps F z F)
 split
 .rw[Yd];exact h
 .rw[YJ,Yd];exact h
theorem dX(n:Int)(ps:Aa)(I F:Ac):∀(l:Ac) (asc:Bool),(VC n ps I F l asc).length<=l.length * F.length
 | [],_=>Yo _
 | z :: l,asc=>by
  show(VR n ps I F asc z++VC n ps I F l (!asc)).length<=_;rw[Xs,Yz,Nat.succ_mul]
  have:=CM n ps I F asc z
  have:=dX n ps I F l (!asc)
  lia
def CL(n:Int)(ps:Aa)(I F inc:Ac):Ab:=F :: VC n ps I F inc (inc.length % 2 == 1)
theorem Xh{n:Int}{ps:Aa}{F:Ac}{o t:Int}:o∈WD n ps F t F↔o∈F/\t∈Vp n ps F o:=by unfold WD;rw[Yf,YU];exact Iff.rfl
theorem XI{F:Ac}{o t v:Int}:v∈xchT F o t↔(v∈F/\v≠o)\/v=t:=by rw[(LN F o t).mem_iff,Xy,Xq,XD]
section
variable{n:Int}{ps:Aa}{I O F T:Ac}{ld:Option Int}{o t:Int}(g:Zt n ps)
include g
theorem o5(Xt:∀ z∈I,0<=z/\z<(ps.length:Int))(hF:With n ps I O F)(hu:VX n ps I O F ld=[])(hT:With n ps I O T):T=F\/∃ t∈WY n ps I O F,∃ o∈WN n ps I F t,T=xchT F o t:=by
 by_cases c:∀ v∈T,v∈F
 .exact .inl (Jk g hT.1 hF.1 c)
 .obtain⟨t,ht,hn⟩:∃ t,t∈T/\t∉F:=Yx λno=>c λv hv=>Yx λhn=>no ⟨v,hv,hn⟩;have CK:=o6 g Xt hT hF.2.1 ht hn
  have alike:∀ v∈WY n ps I O F,∃ y,ld=some y/\UI (Xx n.toNat (XT ps I)) ps v=UI (Xx n.toNat (XT ps I)) ps y:=λv hv=>by
   have hm:v∈Tt n ps I O F ld:=Yx λno=>by
    have:v∈VX n ps I O F ld:=Yf.mpr ⟨hv,Yw no⟩
    rw[hu]at this;cases this
   exact Yu (Yf.mp hm).2
  have only:∀ v∈T,v∉F->v=t:=λv hv dW=>by obtain⟨y,e1,e2⟩:=alike v (o6 g Xt hT hF.2.1 hv dW);obtain⟨y',e3,e4⟩:=alike t CK;rw[e1]at e3;cases e3;exact ZG8 g Xt hT.1 hT.2.1 hv ht (λh=>dW (hF.2.1 v h)) (λh=>hn (hF.2.1 t h)) (e2.trans e4.symm)
  obtain⟨o,e1,e2⟩:=sr g hT.1 hF.1 ht hn;have oT:o∉T:=((Ej g hT.1).mp e1).2.1
  have hM:=zk g hF.1 e2 (LN F o t) (Rw F o t);refine .inr ⟨t,CK,o,Yf.mpr ⟨Xh.mpr ⟨e2.1,e2.2.2⟩,Yw λh=>oT (hT.2.1 o h)⟩,Jk g hT.1 hM λv hv=>XI.mpr ?_⟩;by_cases cv:v∈F
  .exact .inl ⟨cv,λe=>oT (by rw[<- e];exact hv)⟩
  .exact .inr (only v hv cv)
theorem CJ(hF:With n ps I O F)(ht:t∈WY n ps I O F)(ho:o∈WN n ps I F t):With n ps I O (xchT F o t):=by
 obtain⟨h1,h2⟩:=Yf.mp ht;obtain⟨hg,_⟩:=Yu h2;obtain⟨h3,h4⟩:=Yf.mp ho;obtain⟨h5,h6⟩:=Xh.mp h3;have tF:t∉F:=λh=>hg (Yc _ h)
 exact CO g hF ⟨h5,λe=>tF (by rw[e];exact h5),h6⟩ (Yu h4) (λh=>hg (Ya _ (Yc _ h))) (LN F o t) (Rw F o t)
end
theorem Sh{n:Int}{ps:Aa}{I F T:Ac}{asc:Bool}{z:Int}:T∈VR n ps I F asc z↔∃ o∈WN n ps I F z,T=xchT F o z:=by
 have h:T∈((WN n ps I F z).map λo=>xchT F o z)↔∃ o∈WN n ps I F z,T=xchT F o z:=by rw[YC];exact⟨λ⟨o,h1,h2⟩=>⟨o,h1,h2.symm⟩,λ⟨o,h1,h2⟩=>⟨o,h1,h2.symm⟩⟩
 unfold VR;split
 .exact h
 .rw[Im];exact h
theorem VW{n:Int}{ps:Aa}{I F T:Ac}:∀ {l:Ac} {asc:Bool},T∈VC n ps I F l asc↔∃ z∈l,∃ o∈WN n ps I F z,T=xchT F o z
 | [],_=>⟨λh=>(by cases h),λ⟨_,h,_⟩=>(by cases h)⟩
 | z :: l,asc=>by
  show T∈VR n ps I F asc z++VC n ps I F l (!asc)↔_;rw[Xy,Sh,VW];constructor
  .rintro(h | ⟨z',h1,h2⟩)
   .exact⟨z,Ye,h⟩
   .exact⟨z',Yh _ h1,h2⟩
  .rintro⟨z',h1,h2⟩;rcases Yg.mp h1 with e | e
   .exact .inl (e ▸ h2)
   .exact .inr ⟨z',e,h2⟩
theorem Zs9{F:Ac}{o o' t t':Int}(ht:t∉F)(e:xchT F o t=xchT F o' t'):t=t':=by
 have:t∈xchT F o' t':=e ▸ XI.mpr (.inr rfl)
 rcases XI.mp this with h | h
 .exact absurd h.1 ht
 .exact h
theorem CI{F:Ac}{o o' t:Int}(ho:o∈F)(ht:t∉F)(e:xchT F o t=xchT F o' t):o=o':=Yx λne=>by
 have h1:o∈xchT F o' t:=XI.mpr (.inl ⟨ho,ne⟩);rw[<- e]at h1;rcases XI.mp h1 with h | h
 .exact h.2 rfl
 .exact ht (h ▸ ho)
theorem o4{n:Int}{ps:Aa}{I F:Ac}(hF:F.Nodup){asc:Bool}{z:Int}(hz:z∉F):(VR n ps I F asc z).Nodup:=by
 have hm:∀ v∈WN n ps I F z,v∈F:=λv hv=>(Xh.mp (Yf.mp hv).1).1;have h:((WN n ps I F z).map λo=>xchT F o z).Nodup:=by have hd:(WN n ps I F z).Pairwise (·≠·):=(hF.filter _).filter _;exact MF.mpr (jD (λ{a b} ha hb VI e=>VI (CI (hm a ha) hz e)) hd)
 unfold VR;split
 .exact h
 .exact(List.reverse_perm _).nodup_iff.mpr h
theorem dU{n:Int}{ps:Aa}{I F:Ac}(hF:F.Nodup):∀ {l:Ac} {asc:Bool},l.Nodup->(∀ z∈l,z∉F)->(VC n ps I F l asc).Nodup
 | [],_,_,_=>.nil
 | z :: l,asc,hn,hl=>by
  obtain⟨n1,n2⟩:=Rl.mp hn;refine YS.mpr ⟨o4 hF (hl z Ye),dU hF n2 λv hv=>hl v (Yh _ hv),λa ha b hb e=>?_⟩;obtain⟨o,_,h1⟩:=Sh.mp ha;obtain⟨z',o3,o',_,h2⟩:=VW.mp hb;rw[h1,h2]at e
  have:=Zs9 (hl z Ye) e
  exact n1 (this ▸ o3)
theorem oZ{n:Int}{ps:Aa}{I O F inc:Ac}{ld:Option Int}(g:Zt n ps)(Xt:∀ z∈I,0<=z/\z<(ps.length:Int))(hF:With n ps I O F)(hu:VX n ps I O F ld=[])(Ts:∀ z,z∈inc↔z∈WY n ps I O F)(hn:inc.Nodup):RowAll n ps I O (CL n ps I F inc):=by
 have yy:∀ z∈inc,z∉F:=λz hz h=>(Yu (Yf.mp ((Ts z).mp hz)).2).1 (Yc _ h);refine⟨Rl.mpr ⟨λh=>?_,dU hF.1.1.nodup hn yy⟩,λT=>?_⟩
 .obtain⟨z,hz,o,_,e⟩:=VW.mp h;exact yy z hz (by rw[e];exact XI.mpr (.inr rfl))
 .unfold CL;rw[Yg,VW];constructor
  .rintro(h | ⟨z,hz,o,ho,rfl⟩)
   .rw[h];exact hF
   .exact CJ g hF ((Ts z).mp hz) ho
  .intro h;rcases o5 g Xt hF hu h with e | ⟨t,ht,o,ho,e⟩
   .exact .inl e
   .exact .inr ⟨t,(Ts t).mpr ht,o,ho,e⟩
theorem dS{es:List (Nat × Nat)}{u v i j:Nat}(c:Conn (es++[(u,v)]) i j):Conn es i j\/(Conn es i u/\Conn es v j)\/(Conn es i v/\Conn es u j):=by
 induction c with
 | refl i=>exact .inl (.refl i)
 | edge h =>
  rcases Xy.mp h with h | h
  .exact .inl (.edge h)
  .cases XD.mp h;exact .inr (.inl ⟨.refl _,.refl _⟩)
 | symm _ ih =>
  rcases ih with a | ⟨a,b⟩ | ⟨a,b⟩
  .exact .inl a.symm
  .exact .inr (.inr ⟨b.symm,a.symm⟩)
  .exact .inr (.inl ⟨b.symm,a.symm⟩)
 | trans _ _ Qf Ta =>
  rcases Qf with a | ⟨a,b⟩ | ⟨a,b⟩ <;> rcases Ta with c | ⟨c,d⟩ | ⟨c,d⟩
  .exact .inl (a.trans c)
  .exact .inr (.inl ⟨a.trans c,d⟩)
  .exact .inr (.inr ⟨a.trans c,d⟩)
  .exact .inr (.inl ⟨a,b.trans c⟩)
  .exact .inr (.inl ⟨a,d⟩)
  .exact .inl (a.trans d)
  .exact .inr (.inr ⟨a,b.trans c⟩)
  .exact .inl (a.trans d)
  .exact .inr (.inr ⟨a,d⟩)
theorem CH{key:Int->Int}{ns ms:Ac}(h:Si key ns ms):ms.Perm ns:=by
 obtain⟨p,h1,_,rfl⟩:=h;have e:(List.range ns.length).map (λi=>ns.getD i 0)=ns:=by
  refine RY λi=>?_;rw[Yp];by_cases c:i<ns.length
  .rw[xw c,Xo c];show some (ns.getD i 0)=_
   rw[WI,Xo c];rfl
  .rw[Vy (by simpa using c),Vy (by lia)];rfl
 have:=h1.map λi=>ns.getD i 0
 rw[e]at this;exact this
theorem oY(key:Int->Int)(ns:Ac):∃ ms,Si key ns ms:=by
 have hp:=List.mergeSort_perm (List.range ns.length) λi j=>decide (key (ns.getD i 0)<key (ns.getD j 0)\/(key (ns.getD i 0)=key (ns.getD j 0)/\i<=j));have hs:=jy (le:=λi j=>decide (key (ns.getD i 0)<key (ns.getD j 0)\/(key (ns.getD i 0)=key (ns.getD j 0)/\i<=j))) (λa b c h1 h2=>by simp only [Lo]at *;grind) (λa b=>by simp only [xa,Lo];grind) (List.range ns.length)
 refine⟨_,_,hp,?_,rfl⟩;refine(hs.and (hp.nodup_iff.mpr List.nodup_range)).imp λ{a b} h=>?_;have h1:=Yu h.1
 have h2:=h.2;show key (ns.getD a 0)<key (ns.getD b 0)\/(key (ns.getD a 0)=key (ns.getD b 0)/\a<b)
 grind
theorem oX(n:Int)(ps:Aa)(I O F:Ac)(ld:Option Int):(VX n ps I O F ld).Pairwise (· < ·):=((HG _).filter _).filter _
theorem Tq{n:Int}{ps:Aa}{I O:Ac}(g:Zt n ps)(ld:Option Int)(h:∃ U,With n ps I O U):∃ F inc fu,PartOk n ps I O ld F inc fu:=by
 obtain⟨L,l1,l2⟩:=p6 g;obtain⟨U,hU⟩:=h;obtain⟨F,hF,hm⟩:∃ F,With n ps I O F/\∀ U,With n ps I O U->HT.lexLt U F=false:=by
  have key:∀ M:Ab,M.Pairwise Ny->(∃ U∈M,With n ps I O U)->∃ F∈M,With n ps I O F/\∀ U∈M,With n ps I O U->HT.lexLt U F=false:=by
   intro M
   induction M with
   | nil=>rintro _ ⟨U,h,_⟩;cases h
   | cons x M ih =>
    intro hp hex;obtain⟨p1,p2⟩:=YN.mp hp;by_cases c:With n ps I O x
    .refine⟨x,Ye,c,λV hV _=>?_⟩;rcases Yg.mp hV with e | e
     .rw[e];exact sJ x
     .cases q:HT.lexLt V x with
      | false=>rfl
      | true =>
       have z:=gN q (p1 V e);rw[sJ]at z;cases z
    .obtain⟨V,hV,hw⟩:=hex;obtain⟨F,hF,a,b⟩:=ih p2 ⟨V,(Yg.mp hV).resolve_left λe=>c (e ▸ hw),hw⟩;refine⟨F,Yh _ hF,a,λV hV hw=>?_⟩;rcases Yg.mp hV with e | e
     .exact absurd (e ▸ hw) c
     .exact b V e hw
  obtain⟨F,_,a,b⟩:=key L l2 ⟨U,(l1 U).mpr hU.1,hU⟩;exact⟨F,a,λV hV=>b V ((l1 V).mpr hV.1) hV⟩
 obtain⟨inc,hi⟩:=oY (λz=>PyProof.Rows.b2i (decide (ld=some z))) (Tt n ps I O F ld);have SJ:=oX n ps I O F ld
 cases hu:VX n ps I O F ld with
 | nil=>exact⟨F,inc,none,hF,hm,hi,⟨λ_=>hu,λ_=>rfl⟩,λy h=>by cases h⟩
 | cons y l =>
  rw[hu]at SJ;refine⟨F,inc,some y,hF,hm,hi,⟨λh=>(by cases h),λh=>(by rw[hu]at h;cases h)⟩,λv h=>?_⟩;cases h;rw[hu];refine⟨Ye,λv hv=>?_⟩;rcases Yg.mp hv with e | e
  .rw[e];exact Ou _
  .exact Li ((YN.mp SJ).1 v e)
inductive RowR (n:Int) (ps:Aa):Nat->Ac->Ac->Option Int->Ab->Prop
 | und {d:Nat} {I O F inc:Ac} {ld:Option Int}:PartOk n ps I O ld F inc none->inc.length<=30->(∀ z∈inc,z∉F/\0<=z/\z<(ps.length:Int))->RowR n ps d I O ld (CL n ps I F inc)
 | div {d:Nat} {I O F inc:Ac} {z y:Int} {A B:Ab}:PartOk n ps I O (some z) F inc (some y)->(I++[z]).Nodup->(∀ v∈I++[z],0<=v/\v<(ps.length:Int))->(∀ v∈I++[z],v∉O)->(O++[z]).length<=30->(∃ U,With n ps (I++[z]) O U)->(∃ U,With n ps I (O++[z]) U)->0<=y->y<(ps.length:Int)->PC n ps I (O++[z]) A.length->RowR n ps d I (O++[z]) (some y) A->RowR n ps d (I++[z]) O (some y) B->RowR n ps (d+1) I O (some z) (A++B.reverse)
theorem ZN7{key:Int->Int}{ns ms dR:Ac}(h:Si key ns ms)(h':Si key ns dR):ms=dR:=by
 obtain⟨p,h1,h2,rfl⟩:=h;obtain⟨p',Mg,oW,rfl⟩:=h';have e:p=p':=List.Perm.eq_of_pairwise (le:=Ahd λi=>key (ns.getD i 0)) (λa b _ _ x y=>by unfold Ahd at x y;omega) h2 oW (h1.trans Mg.symm)
 rw[e]
theorem PartOk.uniq{n:Int}{ps:Aa}{I O F F' inc Wx:Ac}{ld fu LL:Option Int}(h1:PartOk n ps I O ld F inc fu)(h2:PartOk n ps I O ld F' Wx LL):F=F'/\inc=Wx/\fu=LL:=by
 have eF:F=F':=Tb (h2.least F h1.tr) (h1.least F' h2.tr);subst eF;refine⟨rfl,ZN7 h1.inc h2.inc,?_⟩;cases fu with
 | none =>
  cases LL with
  | none=>rfl
  | some y =>
   have:=(h2.some y rfl).1
   rw[h1.none.mp rfl]at this;cases this
 | some y =>
  cases LL with
  | none =>
   have:=(h1.some y rfl).1
   rw[h2.none.mp rfl]at this;cases this
  | some y' =>
   obtain⟨a1,a2⟩:=h1.some y rfl;obtain⟨b1,b2⟩:=h2.some y' rfl
   have:=a2 y' b1
   have:=b2 y a1
   rw[show y=y' by omega]
def RowW(n:Int)(ps:Aa)(R:Ab):Prop:=∃(ld:Option Int) (F inc:Ac) (fu:Option Int),PartOk n ps [] [] ld F inc fu/\(ld=none↔WY n ps [] [] F=[])/\(∀ y,ld=some y->y∈WY n ps [] [] F/\∀ z∈WY n ps [] [] F,y<=z)/\RowR n ps 31 [] [] ld R/\TC n ps R.length
section
variable{n:Int}{ps:Aa}{I O F:Ac}{y z:Int}(g:Zt n ps)
include g
theorem ZR(Xt:∀ v∈I,0<=v/\v<(ps.length:Int)):z∈WY n ps I O F↔(0<=z/\z<(ps.length:Int))/\z∉I/\z∉O/\z∉F/\¬ Conn (XT ps I) (Zq ps z).1 (Zq ps z).2:=by
 unfold WY Nh;rw[Yf,XB,YU];constructor
 .rintro⟨h,h1,h2⟩;have a:=Uw (z:=z) g h.1 h.2
  exact⟨h,λq=>h1 (Ya _ (Ya _ q)),λq=>h1 (Ya _ (Yc _ q)),λq=>h1 (Yc _ q),λc=>h2 ((VN (ZG g Xt) a.1 a.2).mpr c)⟩
 .rintro⟨h,h1,h2,h3,h4⟩;have a:=Uw (z:=z) g h.1 h.2
  refine⟨h,λq=>?_,λe=>h4 ((VN (ZG g Xt) a.1 a.2).mp e)⟩;rcases Xy.mp q with q | q
  .rcases Xy.mp q with q | q
   .exact h1 q
   .exact h2 q
  .exact h3 q
theorem yx(Xt:∀ v∈I,0<=v/\v<(ps.length:Int))(hF:With n ps I O F)(hz:z∈WY n ps I O F):∃ U,With n ps (I++[z]) O U:=by
 obtain⟨⟨z0,z1⟩,zI,zO,zF,hc⟩:=(ZR g Xt).mp hz;obtain⟨o,ho,hoI⟩:∃ o,o∈WD n ps F z F/\o∉I:=Yx λno=>hc ((gH g hF.1 z0 z1).mono (ZA λv hv=>Yx λh=>no ⟨v,hv,h⟩));obtain⟨h5,h6⟩:=Xh.mp ho;have he:exg n ps F o z:=⟨h5,λe=>zF (by rw[e];exact h5),h6⟩
 have hw:=CO g hF he hoI zO (LN F o z) (Rw F o z);refine⟨xchT F o z,hw.1,λv hv=>?_,hw.2.2⟩;rcases Xy.mp hv with hv | hv
 .exact hw.2.1 v hv
 .rw[XD.mp hv];exact XI.mpr (.inr rfl)
theorem CG(Xt:∀ v∈I,0<=v/\v<(ps.length:Int))(y0:0<=y/\y<(ps.length:Int))(z0:0<=z/\z<(ps.length:Int))(h:(Conn (XT ps I) (Zq ps y).1 (Zq ps z).1/\Conn (XT ps I) (Zq ps z).2 (Zq ps y).2)\/(Conn (XT ps I) (Zq ps y).1 (Zq ps z).2/\Conn (XT ps I) (Zq ps z).1 (Zq ps y).2)):UI (Xx n.toNat (XT ps I)) ps y=UI (Xx n.toNat (XT ps I)) ps z:=by
 have Wi:=ZG g Xt;have a:=Uw (z:=y) g y0.1 y0.2
 have b:=Uw (z:=z) g z0.1 z0.2;rw[<- VN Wi a.1 b.1,<- VN Wi b.2 a.2,<- VN Wi a.1 b.2,<- VN Wi b.1 a.2]at h;show(min (mk (Xx n.toNat (XT ps I)) (Zq ps y).1) (mk (Xx n.toNat (XT ps I)) (Zq ps y).2),max (mk (Xx n.toNat (XT ps I)) (Zq ps y).1) (mk (Xx n.toNat (XT ps I)) (Zq ps y).2))=(min (mk (Xx n.toNat (XT ps I)) (Zq ps z).1) (mk (Xx n.toNat (XT ps I)) (Zq ps z).2),max (mk (Xx n.toNat (XT ps I)) (Zq ps z).1) (mk (Xx n.toNat (XT ps I)) (Zq ps z).2))
 rcases h with ⟨e1,e2⟩ | ⟨e1,e2⟩
 .rw[e1,<- e2]
 .rw[e1,<- e2,Int.min_comm,Int.max_comm]
end
section
variable{n:Int}{ps:Aa}(g:Zt n ps)
include g
theorem CF{I O F inc:Ac}{ld fu:Option Int}(d:Nat)(hP:PartOk n ps I O ld F inc fu)(Xt:∀ v∈I,0<=v/\v<(ps.length:Int))(hu:VX n ps I O F ld=[]):∃ R,RowR n ps d I O ld R/\RowAll n ps I O R:=by
 obtain rfl:=hP.none.mpr hu;have hp:=CH hP.inc
 have Tx:(Tt n ps I O F ld).Nodup:=((((HG _).imp λh e=>by lia:(Wo ps.length).Nodup)).filter _).filter _;have Ts:∀ z,z∈inc↔z∈WY n ps I O F:=λz=>by
  rw[hp.mem_iff];constructor
  .exact λh=>(Yf.mp h).1
  .intro h;refine Yx λno=>?_
   have:z∈VX n ps I O F ld:=Yf.mpr ⟨h,Yw no⟩
   rw[hu]at this;cases this
 have hlen:inc.length<=30:=by rw[hp.length_eq];refine Yr (YH ..) (Yr (o9 _ _ _ _) g.2.2.1)
 exact⟨_,.und hP hlen λz hz=>by obtain⟨h1,_,_,h2,_⟩:=(ZR g Xt).mp ((Ts z).mp hz);exact⟨h2,h1⟩,oZ g Xt hP.tr hu Ts (hp.nodup_iff.mpr Tx)⟩
theorem oV:∀(d:Nat) (I O F inc:Ac) (ld fu:Option Int),PartOk n ps I O ld F inc fu->I.Nodup->(∀ v∈I,0<=v/\v<(ps.length:Int))->(∀ v∈I,v∉O)->O.Nodup->(∀ v∈O,0<=v/\v<(ps.length:Int))->(ld=none->WY n ps I O F=[])->(∀ z,ld=some z->z∈WY n ps I O F)->ps.length<=d+I.length+O.length->∃ R,RowR n ps d I O ld R/\RowAll n ps I O R:=by
 intro d
 induction d with
 | zero =>
  intro I O F inc ld fu hP hIn Xt Vm yw yt _ _ hm;refine CF g 0 hP Xt ?_;have yy:WY n ps I O F=[]:=AO.mpr λz hz=>by
   obtain⟨h1,h2,h3,_⟩:=(ZR g Xt).mp hz;have nd:(z :: (I++O)).Nodup:=Rl.mpr ⟨λh=>(Xy.mp h).elim h2 h3,YS.mpr ⟨hIn,yw,λa ha b hb e=>Vm a ha (e ▸ hb)⟩⟩
   have:=JC (m:=Wo ps.length) nd λv hv=>XB.mpr (by
    rcases Yg.mp hv with e | e
    .rw[e];exact h1
    .exact(Xy.mp e).elim (Xt v) (yt v))
   rw[ZJ,Yz,Xs]at this;lia
  unfold VX;rw[yy];rfl
 | succ d ih =>
  intro I O F inc ld fu hP hIn Xt Vm yw yt QZ SI hm;by_cases hu:VX n ps I O F ld=[]
  .exact CF g _ hP Xt hu
  obtain⟨y,rfl⟩:∃ y,fu=some y:=by
   cases fu with
   | none=>exact absurd (hP.none.mp rfl) hu
   | some y=>exact⟨y,rfl⟩
  obtain⟨yu,_⟩:=hP.some y rfl;obtain⟨yo,ya⟩:=Yf.mp yu;have ya:=Yu ya
  obtain⟨z,rfl⟩:∃ z,ld=some z:=by
   cases ld with
   | none=>rw[QZ rfl]at yo;cases yo
   | some z=>exact⟨z,rfl⟩
  have zo:=SI z rfl;obtain⟨Ng,yI,yO,yF,yc⟩:=(ZR g Xt).mp yo;obtain⟨LK,zI,zO,zF,zc⟩:=(ZR g Xt).mp zo;have XJ:UI (Xx n.toNat (XT ps I)) ps y≠UI (Xx n.toNat (XT ps I)) ps z:=λe=>ya (Yf.mpr ⟨yo,Yw ⟨z,rfl,e⟩⟩)
  have yz:y≠z:=λe=>XJ (by rw[e]);have dQ:(I++[z]).Nodup:=YS.mpr ⟨hIn,by simp,λa ha b hb e=>zI (by rw[<- XD.mp hb,<- e];exact ha)⟩
  have dP:(O++[z]).Nodup:=YS.mpr ⟨yw,by simp,λa ha b hb e=>zO (by rw[<- XD.mp hb,<- e];exact ha)⟩;have Us:∀ v∈I++[z],0<=v/\v<(ps.length:Int):=λv hv=>(Xy.mp hv).elim (Xt v) λh=>by rw[XD.mp h];exact LK
  have CC:∀ v∈O++[z],0<=v/\v<(ps.length:Int):=λv hv=>(Xy.mp hv).elim (yt v) λh=>by rw[XD.mp h];exact LK
  have SH:(O++[z]).length<=30:=by
   have:=JC (m:=Wo ps.length) dP λv hv=>XB.mpr (CC v hv)
   rw[ZJ]at this
   have:=g.2.2.1
   lia
  have CB:∀ v∈I++[z],v∉O:=λv hv=>(Xy.mp hv).elim (Vm v) λh=>by rw[XD.mp h];exact zO
  have oU:∀ v∈I,v∉O++[z]:=λv hv h=>(Xy.mp h).elim (Vm v hv) λh=>zI (by rw[<- XD.mp h];exact hv);obtain⟨s1,s2⟩:=yA g hP.tr hP.least zF;obtain⟨F1,SG,Jh,Nq⟩:=Tq g (some y) ⟨F,s1⟩;have e1:F1=F:=Tb (s2 F1 Nq.tr) (Nq.least F s1)
  subst e1;have hW:=yx g Xt hP.tr zo
  obtain⟨F2,PL,CA,SF⟩:=Tq g (some y) hW;have yF2:y∉F2:=λh=>(ZW g hP.tr hP.least SF.tr SF.least y h).elim yF yz
  obtain⟨A,Qh,Ui⟩:=ih I (O++[z]) F1 SG (some y) Jh Nq hIn Xt oU dP CC (λh=>by cases h) (λv h=>by cases h;exact(ZR g Xt).mpr ⟨Ng,yI,λh=>(Xy.mp h).elim yO λh=>yz (XD.mp h),yF,yc⟩) (by rw[Xs,Yk];lia)
  obtain⟨B,g6,NC⟩:=ih (I++[z]) O F2 PL (some y) CA SF dQ Us CB yw yt (λh=>by cases h) (λv h=>by
   cases h;refine(ZR g Us).mpr ⟨Ng,λh=>(Xy.mp h).elim yI λh=>yz (XD.mp h),yO,yF2,λc=>?_⟩;have e:XT ps (I++[z])=XT ps I++[((Zq ps z).1,(Zq ps z).2)]:=QP
   rw[e]at c;rcases dS c with h | h
   .exact yc h
   .exact XJ (CG g Xt Ng LK h)) (by rw[Xs,Yk];lia)
  exact⟨_,.div hP dQ Us CB SH hW ⟨F1,s1⟩ Ng.1 Ng.2 Ui.pc Qh g6,Zg6 Ui NC⟩
theorem oS(h:∃ U,Zf n ps U):∃ R,RowW n ps R/\R.Nodup/\∀ T,T∈R↔Zf n ps T:=by
 obtain⟨U,hU⟩:=h;have hw:∀ T,With n ps [] [] T↔Zf n ps T:=λT=>⟨λh=>h.1,λh=>⟨h,λz q=>(by cases q),λz q=>(by cases q)⟩⟩
 obtain⟨F,_,_,yr⟩:=Tq g none ⟨U,(hw U).mpr hU⟩;have SJ:(WY n ps [] [] F).Pairwise (· < ·):=(HG _).filter _
 obtain⟨ld,h1,h2⟩:∃ ld:Option Int,(ld=none↔WY n ps [] [] F=[])/\∀ y,ld=some y->y∈WY n ps [] [] F/\∀ z∈WY n ps [] [] F,y<=z:=by
  cases ho:WY n ps [] [] F with
  | nil=>exact⟨none,⟨λ_=>rfl,λ_=>rfl⟩,λy h=>by cases h⟩
  | cons y l =>
   rw[ho]at SJ;refine⟨some y,⟨λh=>(by cases h),λh=>(by cases h)⟩,λv h=>?_⟩;cases h;refine⟨Ye,λv hv=>?_⟩;rcases Yg.mp hv with e | e
   .rw[e];exact Ou _
   .exact Li ((YN.mp SJ).1 v e)
 obtain⟨F',inc,fu,hP⟩:=Tq g ld ⟨U,(hw U).mpr hU⟩;have eF:F'=F:=Tb (yr.least F' hP.tr) (hP.least F yr.tr)
 subst eF;obtain⟨R,r1,r2⟩:=oV g 31 [] [] F' inc ld fu hP .nil (λv h=>by cases h) (λv h=>by cases h) .nil (λv h=>by cases h) (λe=>h1.mp e) (λz e=>(h2 z e).1) (by have:=g.2.2.1;simp;lia);exact⟨R,⟨ld,F',inc,fu,hP,h1,h2,r1,R,r2.1,λl=>(r2.2 l).trans (hw l),rfl⟩,r2.1,λT=>(r2.2 T).trans (hw T)⟩
end
end My
namespace L2
open PySem PySem.Spec PyProof.Rows PySem.MeetsSeq
section
variable{X:Cx}
def oQ(K:Ad):V->List V->Hp->VK->Prop:=λx vs H Q=>∃(n:Nat) (l:Addr) (xs:List V) (y:V) (e:Addr->Bool) (j:Nat) (a:Addr),x=.ref l/\vs=[y]/\H l=some (.lst xs)/\n<=6/\(∀ v∈xs,∃ a,v=.ref a/\EqD K H n v y (e a))/\xs[j]?=some (.ref a)/\e a=true/\(∀ m b,m<j->xs[m]?=some (.ref b)->e b=false)/\Q (.int j) H
theorem oP (K:Ad) (hu:X.A.units+8<cLine) (hk:X.K=K:=by rfl):Ko X "list.index" (oQ K):=by
 subst hk;intro pins s σ H x vs v us Q I rx rv h;obtain⟨n,l,xs,y,e,j,a,rfl,rfl,hH,hn,he,hj,hy,Te,q⟩:=h;cases rx;obtain⟨u,rfl,ru⟩:=rv.one;obtain⟨z,XW,m,r,hl,ho⟩:=I.lstM hH;have hsz:sizeLine=16777216:=Ue
 have NP:j<xs.length:=(Xp.mp hj).1;have at_:∀(i:Nat) (hi:i<XW.toArray.size),∃ b,xs[i]?=some (.ref b)/\XW.toArray[i]=.ref b:=λi hi=>by
  have VA:i<XW.length:=by simpa using hi
  obtain⟨w,ew,Ob⟩:=r.at VA;obtain⟨b,rfl,_⟩:=he w (Xd ew);have e3:XW[i]=Value.ref b:=Ob
  exact⟨b,ew,by simpa using e3⟩
 have dO:j<XW.toArray.size:=by rw[Yb];lia
 refine Lb F.slot_list_index ⟨_,ho,rfl⟩ F.entry_list_index (F.args_list_index_2 _ _) (SeqAt.list_indexAt l XW.toArray m none #[] u (λw=>match w with | .ref b=>e b | _=>false) j dO (by lia) ?_ ?_) ⟨ho,λw hw=>?_,?_⟩
 .obtain⟨b,e1,e2⟩:=at_ j dO;rw[hj]at e1;cases e1;rw[e2];exact hy
 .intro i hi Ux;obtain⟨b,e1,e2⟩:=at_ i hi;rw[e2];exact Te i b Ux e1
 .exact gQ I (by show X.A.units+1+n<cLine;lia) ru r he w (by simpa using hw)
 .exact⟨.int j,H,I.tok _,⟨_,rfl⟩,q⟩
end
end L2
namespace My
open PySem L2
theorem dN{P:Program}{w:World}{K:Ad}{mg:Af}{base:Heap}{k:Nat}{f:Addr}{fd:FuncData}{ps:List Str}:FnOk P w K mg base Xl k f fd ps λ_ _ _ _=>False:=⟨λ_ _ _ _ h=>h.elim,λ_ _ _ _ _ _ _ _ _ _ _ _ _ h=>h.elim⟩
theorem dM{α:Type}[DecidableEq α]{x:α}:∀ {l:List α},x∈l->∃ j:Nat,l[j]?=some x/\∀ i:Nat,i<j->l[i]?≠some x
 | y :: l,h=>by
  by_cases c:y=x
  .exact⟨0,by rw[c];rfl,λi hi=>absurd hi (YZ _)⟩
  .obtain⟨j,h1,h2⟩:=dM ((Yg.mp h).resolve_left λe=>c e.symm);refine⟨j+1,h1,λi hi=>?_⟩
   match i,hi with
   | 0,_=>exact λe=>c (Yi e)
   | i+1,hi=>exact h2 i (by lia)
theorem ZK7{K:Ad}{H:Hp}{xs:List V}{L:Ab}{ta:Addr}{U:Ac}(hX:Bears (Wq H) xs L)(yq:SqT K H ta (IL U))(hU:U∈L):∃(e:Addr->Bool) (j:Nat) (a:Addr),(∀ v∈xs,∃ a,v=.ref a/\EqD K H 1 v (.ref ta) (e a))/\xs[j]?=some (.ref a)/\e a=true/\(∀ m b,m<j->xs[m]?=some (.ref b)->e b=false)/\L[j]?=some U:=by
 have key:∀ {c:Addr} {w:Ac},H c=some (.tup (IL w))->(Wq H (.ref c) U↔w=U):=λ{c w} hc=>by
  constructor
  .rintro⟨c',e,h⟩;cases e;rw[hc]at h;injection h with h
   injection h with h;exact(List.map_inj_right (λ_ _ h=>by injection h)).mp h
  .rintro rfl;exact⟨c,rfl,hc⟩
 obtain⟨j,h1,h2⟩:=dM hU;obtain⟨v,hv,c,rfl,hc⟩:=hX.2 j U h1;refine⟨λa=>@decide (Wq H (.ref a) U) (Classical.propDecidable _),j,c,λv hv=>?_,hv,?_,λm b hm hb=>?_,h1⟩
 .obtain⟨i,hi⟩:=VH hv;obtain⟨w,hw,c',rfl,WH⟩:=hX.at hi;refine⟨c',rfl,?_⟩;have e:@decide (Wq H (.ref c') U) (Classical.propDecidable _)=decide (w=U):=by rw[xj];exact key WH
  show EqD K H 1 (.ref c') (.ref ta) (@decide (Wq H (.ref c') U) (Classical.propDecidable _));rw[e];exact tP (SqT.of WH) yq
 .exact @Yw _ (Classical.propDecidable _) ((key hc).mpr rfl)
 .obtain⟨w,hw,c',e,WH⟩:=hX.at hb;cases e;exact @Wh _ (Classical.propDecidable _) λh=>h2 m hm (by rw[hw,(key WH).mp h])
theorem Cz{n:Int}{ps:Aa}{d:Nat}{I O:Ac}{ld:Option Int}{R:Ab}(g:Zt n ps)(h:RowR n ps d I O ld R):∀ T∈R,With n ps I O T:=by
 induction h with
 | und hP _ _ =>
  intro T hT;rcases Yg.mp hT with e | e
  .rw[e];exact hP.tr
  .obtain⟨z,hz,o,ho,rfl⟩:=VW.mp e;exact CJ g hP.tr (Yf.mp ((CH hP.inc).mem_iff.mp hz)).1 ho
 | div _ _ _ _ _ _ _ _ _ _ _ _ Cy oO =>
  intro T hT;rcases Xy.mp hT with h | h
  .exact WJ.mpr (.inl (Cy T h))
  .exact WJ.mpr (.inr (oO T (Im.mp h)))
theorem ZB9{key:Int->Int}{ns ms:Ac}(h:Si key ns ms):ms.Pairwise λa b=>key a<=key b:=by
 obtain⟨p,h1,h2,rfl⟩:=h;refine MF.mpr (h2.imp λ{a b} h=>?_);have h:key (ns.getD a 0)<key (ns.getD b 0)\/(key (ns.getD a 0)=key (ns.getD b 0)/\a<b):=h
 lia
theorem Cw{k:Int->Int}:∀ {l:Ac},(∀ a∈l,k a=0\/k a=1)->l.Pairwise (λa b=>k a<=k b)->∃ l1 l2,l=l1++l2/\(∀ a∈l1,k a=0)/\∀ a∈l2,k a=1
 | [],_,_=>⟨[],[],rfl,λa h=>(by cases h),λa h=>(by cases h)⟩
 | a :: l,h0,h=>by
  obtain⟨p1,p2⟩:=YN.mp h;rcases h0 a Ye with e | e
  .obtain⟨l1,l2,rfl,q1,q2⟩:=Cw (λb hb=>h0 b (Yh _ hb)) p2;exact⟨a :: l1,l2,rfl,λb hb=>(Yg.mp hb).elim (λz=>z ▸ e) (q1 b),q2⟩
  .refine⟨[],a :: l,rfl,λa h=>(by cases h),λb hb=>?_⟩;rcases Yg.mp hb with z | z
   .rw[z];exact e
   .have:=p1 b z
    have:=h0 b (Yh _ z)
    lia
theorem Vz{z a:Int}:(PyProof.Rows.b2i (decide (some z=some a))=0↔a≠z)/\(PyProof.Rows.b2i (decide (some z=some a))=1↔a=z):=by
 by_cases c:a=z
 .subst c;simp[PyProof.Rows.b2i]
 .simp[PyProof.Rows.b2i,c,YY c]
theorem Za8{ns ms:Ac}{z:Int}(h:Si (λa=>PyProof.Rows.b2i (decide (some z=some a))) ns ms):∃ l1 l2,ms=l1++l2/\(∀ a∈l1,a≠z)/\∀ a∈l2,a=z:=by
 obtain⟨l1,l2,e,h1,h2⟩:=Cw (λa _=>by
  by_cases c:a=z
  .exact .inr (Vz.2.mpr c)
  .exact .inl (Vz.1.mpr c)) (ZB9 h)
 exact⟨l1,l2,e,λa ha=>Vz.1.mp (h1 a ha),λa ha=>Vz.2.mp (h2 a ha)⟩
theorem Ht{n:Int}{ps:Aa}{I O F:Ac}{z:Int}(h:z∈WY n ps I O F):z∉F:=λq=>(Yu (Yf.mp h).2).1 (Yc _ q)
theorem yp{n:Int}{ps:Aa}{I O F:Ac}{y z:Int}(h:y∈VX n ps I O F (some z)):y∉F/\y≠z:=by obtain⟨h1,h2⟩:=Yf.mp h;refine⟨Ht h1,λe=>Yu h2 (Yf.mpr ⟨h1,Yw ⟨z,rfl,by rw[e]⟩⟩)⟩
section
variable{n:Int}{ps:Aa}{d:Nat}{I O:Ac}{R:Ab}(g:Zt n ps)
include g
theorem dJ{ld:Option Int}(h:RowR n ps d I O ld R):∀ F,With n ps I O F->(∀ U,With n ps I O U->HT.lexLt U F=false)->(∀ z,ld=some z->z∉F)->R[0]?=some F:=by
 induction h with
 | und hP _ _ =>
  intro F hF hm _;rw[Tb (hP.least F hF) (hm _ hP.tr)];rfl
 | div hP _ _ _ _ _ _ _ _ _ _ _ Cy _ =>
  intro F hF hm hz;obtain⟨s1,s2⟩:=yA g hF hm (hz _ rfl);have e:=Tb (hP.least F hF) (hm _ hP.tr)
  have:=Cy F s1 s2 λy' e'=>by cases e';rw[e];exact(yp (hP.some _ rfl).1).1
  rw[Ys (Xp.mp this).1,this]
end
def SE(T U:Ac):Prop:=(T.filter λy=>decide (y∉U)).length=1
theorem PK{T U:Ac}{a:Int}(hT:T.Nodup)(ha:a∈T)(hU:a∉U)(h:∀ v∈T,v∈U\/v=a):SE T U:=by
 have p:(T.filter λy=>decide (y∉U)).Perm [a]:=(Lv (hT.filter _) (by simp)).mpr λv=>by
  rw[Yf,YU,XD];constructor
  .exact λq=>(h v q.1).resolve_left q.2
  .rintro rfl;exact⟨ha,hU⟩
 exact p.length_eq
theorem Cv{n:Int}{ps:Aa}{T U:Ac}(hT:Zf n ps T)(hU:Zf n ps U)(h:SE T U):SE U T:=(Zx8 hU hT).trans h
def Adj{α:Type}(P:α->α->Prop)(l:List α):Prop:=∀(i:Nat) (a b:α),l[i]?=some a->l[i+1]?=some b->P a b
theorem Adj.nil{α:Type}{P:α->α->Prop}:Adj P []:=λi a b h=>by simp at h
theorem Adj.one{α:Type}{P:α->α->Prop}{x:α}:Adj P [x]:=λi a b _ h=>by simp at h
theorem Adj.append{α:Type}{P:α->α->Prop}{l m:List α}(h1:Adj P l)(h2:Adj P m)(h:∀ a b,l[l.length - 1]?=some a->m[0]?=some b->P a b):Adj P (l++m):=λi a b ha hb=>by
 by_cases c:i+1<l.length
 .rw[Ys (by lia)]at ha hb;exact h1 i a b ha hb
 .rw[Yq (by lia)]at hb;by_cases c':i<l.length
  .rw[Ys c',show i=l.length - 1 by lia]at ha;rw[show i+1 - l.length=0 by omega]at hb;exact h a b ha hb
  .rw[Yq (by omega)]at ha;rw[show i+1 - l.length=i - l.length+1 by grind]at hb;exact h2 _ a b ha hb
theorem Adj.rev{α:Type}{P:α->α->Prop}{l:List α}(h:Adj P l)(hs:∀ a∈l,∀ b∈l,P a b->P b a):Adj P l.reverse:=λi a b ha hb=>by
 have hi:=(Xp.mp hb).1;rw[YJ]at hi;rw[Ls (by omega)]at ha hb
 have:=h (l.length - 1 - (i+1)) b a hb (by rw[show l.length - 1 - (i+1)+1=l.length - 1 - i by grind];exact ha)
 exact hs b (Xd hb) a (Xd ha) this
theorem dI{α:Type}(l:List α):l.reverse[l.reverse.length - 1]?=l[0]?:=by
 cases l with
 | nil=>rfl
 | cons x l =>
  rw[YJ,Ls (by simp)];simp
theorem Cu{α:Type}(l:List α):l.reverse[0]?=l[l.length - 1]?:=by
 cases l with
 | nil=>rfl
 | cons x l=>rw[Ls (by simp)];simp
theorem dH{F:Ac}{o z:Int}(hF:F.Nodup)(hz:z∉F):(xchT F o z).Nodup:=(LN F o z).nodup_iff.mpr (YS.mpr ⟨hF.filter _,by simp,λa ha b hb e=>hz (by rw[<- XD.mp hb,<- e];exact(Yf.mp ha).1)⟩)
theorem Ct{n:Int}{ps:Aa}{I F L:Ac}(hF:F.Nodup)(hL:L.Nodup)(oM:∀ o∈L,o∈F):∀(l:Ac) (asc:Bool),l.Nodup->(∀ z∈l,z∉F)->(∀ z∈l,WN n ps I F z=L)->Adj SE (VC n ps I F l asc)/\∀ U,(VC n ps I F l asc)[0]?=some U->∃ o z,l[0]?=some z/\(if asc then L[0]? else L[L.length - 1]?)=some o/\U=xchT F o z
 | [],asc,_,_,_=>⟨Adj.nil,λU h=>by simp[VC]at h⟩
 | z :: l,asc,hn,hz,hl=>by
  obtain⟨n1,n2⟩:=Rl.mp hn;obtain⟨Qf,Ta⟩:=Ct hF hL oM l (!asc) n2 (λv hv=>hz v (Yh _ hv)) (λv hv=>hl v (Yh _ hv));have zF:=hz z Ye
  have e0:WN n ps I F z=L:=hl z Ye;have same:∀ o∈L,∀ o'∈L,o≠o'->SE (xchT F o z) (xchT F o' z):=λo ho o' WR ne=>PK (a:=o') (dH hF zF) (XI.mpr (.inl ⟨oM o' WR,YY ne⟩)) (λh=>by
   rcases XI.mp h with q | q
   .exact q.2 rfl
   .exact zF (q ▸ oM o' WR)) λv hv=>by
   rcases XI.mp hv with q | q
   .by_cases c:v=o'
    .exact .inr c
    .exact .inl (XI.mpr (.inl ⟨q.1,c⟩))
   .exact .inl (XI.mpr (.inr q))
  have am:Adj SE (L.map λo=>xchT F o z):=λi a b ha hb=>by
   rw[Yp]at ha hb;cases ea:L[i]? with
   | none=>rw[ea]at ha;cases ha
   | some o =>
    cases eb:L[i+1]? with
    | none=>rw[eb]at hb;cases hb
    | some o' =>
     rw[ea]at ha;rw[eb]at hb;cases ha;cases hb;refine same o (Xd ea) o' (Xd eb) λe=>?_;subst e
     have:=(xn (Xp.mp ea).1 hL).mp (ea.trans eb.symm)
     lia
  have ar:Adj SE (VR n ps I F asc z):=by
   unfold VR;rw[e0];cases asc with
   | true=>exact am
   | false =>
    refine am.rev λa ha b hb _=>?_;obtain⟨o,ho,rfl⟩:=YC.mp ha;obtain⟨o',WR,rfl⟩:=YC.mp hb;by_cases c:o'=o
    .rename_i h;subst c;exact h
    .exact same o' WR o ho c
  have hlen:(L.map λo=>xchT F o z).length=L.length:=Yd _;have last:∀ U,(VR n ps I F asc z)[(VR n ps I F asc z).length - 1]?=some U->∃ o∈L,(if asc then L[L.length - 1]? else L[0]?)=some o/\U=xchT F o z:=λU h=>by
   unfold VR at h;rw[e0]at h;cases asc with
   | true =>
    rw[if_pos rfl,hlen,Yp]at h;cases e:L[L.length - 1]? with
    | none=>rw[e]at h;cases h
    | some o=>rw[e]at h;cases h;exact⟨o,Xd e,rfl,rfl⟩
   | false =>
    rw[if_neg (by decide),dI,Yp]at h;cases e:L[0]? with
    | none=>rw[e]at h;cases h
    | some o=>rw[e]at h;cases h;exact⟨o,Xd e,rfl,rfl⟩
  have head:∀ U,(VR n ps I F asc z)[0]?=some U->∃ o,(if asc then L[0]? else L[L.length - 1]?)=some o/\U=xchT F o z:=λU h=>by
   unfold VR at h;rw[e0]at h;cases asc with
   | true =>
    rw[if_pos rfl,Yp]at h;cases e:L[0]? with
    | none=>rw[e]at h;cases h
    | some o=>rw[e]at h;cases h;exact⟨o,rfl,rfl⟩
   | false =>
    rw[if_neg (by decide),Cu,hlen,Yp]at h;cases e:L[L.length - 1]? with
    | none=>rw[e]at h;cases h
    | some o=>rw[e]at h;cases h;exact⟨o,rfl,rfl⟩
  refine⟨ar.append Qf λa b ha hb=>?_,λU h=>?_⟩
  .obtain⟨o,ho,e1,rfl⟩:=last a ha;obtain⟨o',z',o3,e2,rfl⟩:=Ta b hb;have eo:o'=o:=by
    cases asc with
    | true=>exact(Yi (e1.symm.trans e2)).symm
    | false=>exact(Yi (e1.symm.trans e2)).symm
   subst eo;have zl:=Xd o3
   refine PK (a:=z) (dH hF zF) (XI.mpr (.inr rfl)) (λh=>?_) λv hv=>?_
   .rcases XI.mp h with q | q
    .exact zF q.1
    .exact n1 (q ▸ zl)
   .rcases XI.mp hv with q | q
    .exact .inl (XI.mpr (.inl q))
    .exact .inr q
  .cases hh:VR n ps I F asc z with
   | cons x r =>
    have h':(VR n ps I F asc z)[0]?=some U:=by
     have:=h
     unfold VC at this;rw[hh]at this ⊢;exact this
    obtain⟨o,e1,e2⟩:=head U h';exact⟨o,z,rfl,e1,e2⟩
   | nil =>
    exfalso;have Cs:L=[]:=by
     have:(VR n ps I F asc z).length=L.length:=by unfold VR;rw[e0];cases asc <;> simp
     rw[hh]at this;exact YQ.mp this.symm
    obtain⟨o,z',_,e2,_⟩:=Ta U (by have:=h;unfold VC at this;rw[hh]at this;exact this);rw[Cs]at e2;cases asc <;> simp at e2
section
variable{n:Int}{ps:Aa}{d:Nat}{I O F T:Ac}{R:Ab}{y z:Int}(g:Zt n ps)
include g
theorem oK(hF:With n ps I O F)(hz:z∉F)(VS:∀ U,With n ps I O U->HT.lexLt U F=false)(hT:With n ps (I++[z]) O T)(LM:∀ U,With n ps (I++[z]) O U->HT.lexLt U T=false):∃ o∈WN n ps I F z,T=xchT F o z/\∀ o'∈WN n ps I F z,o'<=o:=by
 have half:=ZW g hF VS hT LM;have zT:z∈T:=hT.2.1 z (by simp)
 obtain⟨o,e1,e2⟩:=sr g hT.1 hF.1 zT hz;have oT:o∉T:=((Ej g hT.1).mp e1).2.1
 have oI:o∉I:=λh=>oT (hT.2.1 o (Ya _ h));have zO:z∉O:=λh=>hT.2.2 z h zT
 have hM:=zk g hF.1 e2 (LN F o z) (Rw F o z);have eT:T=xchT F o z:=Jk g hT.1 hM λv hv=>XI.mpr <| by
  rcases half v hv with q | q
  .exact .inl ⟨q,λe=>oT (by rw[<- e];exact hv)⟩
  .exact .inr q
 refine⟨o,Yf.mpr ⟨Xh.mpr ⟨e2.1,e2.2.2⟩,Yw oI⟩,eT,λo' WR=>Yx λno=>?_⟩;obtain⟨h3,h4⟩:=Yf.mp WR;obtain⟨h5,h6⟩:=Xh.mp h3;have he:exg n ps F o' z:=⟨h5,λe=>hz (by rw[e];exact h5),h6⟩
 have w:=CO g hF he (Yu h4) zO (LN F o' z) (Rw F o' z);have w2:With n ps (I++[z]) O (xchT F o' z):=(WJ (z:=z).mp w).resolve_left λq=>q.2.2 z (by simp) (XI.mpr (.inr rfl))
 have lt:HT.lexLt (xchT F o' z) T=true:=by
  refine(Jw (XX.mp w.1.1).2 (XX.mp hT.1.1).2 (by have:=w.1.2.1;have:=hT.1.2.1;lia)).mpr ⟨o,XI.mpr (.inl ⟨e2.1,λe=>no (by lia)⟩),oT,λs hs=>?_⟩;rw[eT,XI,XI];constructor
  .rintro(q | q)
   .exact .inl ⟨q.1,by lia⟩
   .exact .inr q
  .rintro(q | q)
   .exact .inl ⟨q.1,by lia⟩
   .exact .inr q
 rw[LM _ w2]at lt;cases lt
theorem Jg(Xt:∀ v∈I,0<=v/\v<(ps.length:Int))(h:RowR n ps d I O (some z) R)(hF:With n ps I O F)(VS:∀ U,With n ps I O U->HT.lexLt U F=false)(hz:z∉F)(hT:With n ps (I++[z]) O T)(LM:∀ U,With n ps (I++[z]) O U->HT.lexLt U T=false):R[R.length - 1]?=some T:=by
 cases h with
 | und hP hl hi =>
  rename_i F' inc;have eF:=Tb (hP.least F hF) (VS _ hP.tr)
  subst eF;obtain⟨o,ho,eT,oJ⟩:=oK g hF hz VS hT LM;have zo:z∈WY n ps I O F:=o6 g Xt (WJ.mpr (.inr hT)) hF.2.1 (hT.2.1 z (by simp)) hz
  have za:z∈Tt n ps I O F (some z):=Yf.mpr ⟨zo,Yw ⟨z,rfl,rfl⟩⟩;have hp:=CH hP.inc
  have Tx:inc.Nodup:=hp.nodup_iff.mpr (((((HG _).imp λh e=>by lia:(Wo ps.length).Nodup)).filter _).filter _);have zi:=hp.mem_iff.mpr za
  obtain⟨l1,l2,rfl,q1,q2⟩:=Za8 hP.inc;have e2:l2=[z]:=by
   obtain⟨_,n2,_⟩:=YS.mp Tx;have zl:z∈l2:=(Xy.mp zi).resolve_left λh=>q1 z h rfl
   match l2,zl,n2,q2 with
   | [a],_,_,q=>rw[q a (by simp)]
   | a :: b :: r,_,nd,q =>
    have e1:=q a (by simp);have e2:=q b (by simp)
    rw[e1,e2]at nd;simp at nd
  subst e2;have flag:(((l1++[z]).length % 2 == 1) != (l1.length % 2 == 1))=true:=by
   rw[Xs,Yk];rcases Nat.mod_two_eq_zero_or_one l1.length with c | c
   .rw[c,show(l1.length+1) % 2=1 by lia];rfl
   .rw[c,show(l1.length+1) % 2=0 by lia];rfl
  unfold CL;rw[Ji,flag];unfold VR;rw[if_pos rfl];have asc:(WN n ps I F z).Pairwise (· < ·):=(((XX.mp hF.1.1).2).filter _).filter _
  have pos:=QO ho;have lo:(WN n ps I F z)[(WN n ps I F z).length - 1]?=some o:=by
   obtain⟨i,hi,e⟩:=xx ho;by_cases c:i=(WN n ps I F z).length - 1
   .rw[<- c,Xo hi,e]
   .have lt:=Ir.mp asc i ((WN n ps I F z).length - 1) hi (by omega) (by lia);have le:=oJ _ (MC (show(WN n ps I F z).length - 1<_ by omega))
    rw[e]at lt;lia
  show((F :: VC n ps I F l1 ((l1++[z]).length % 2 == 1))++(WN n ps I F z).map λo=>xchT F o z)[_]?=_;rw[Yq (by simp;lia),Yp]
  have:((F :: (VC n ps I F l1 ((l1++[z]).length % 2 == 1)++(WN n ps I F z).map λo=>xchT F o z)).length - 1 - (F :: VC n ps I F l1 ((l1++[z]).length % 2 == 1)).length)=(WN n ps I F z).length - 1:=by
   simp;lia
  rw[this,lo,eT];rfl
 | div hP a1 a2 a3 a4 a5 a6 a7 a8 a9 hA hB =>
  rename_i d F' inc y A B;have eF:=Tb (hP.least F hF) (VS _ hP.tr)
  subst eF;obtain⟨yF,yz⟩:=yp (hP.some _ rfl).1;have hf:=dJ g hB T hT LM λv e=>by cases e;exact λq=>(ZW g hF VS hT LM y q).elim yF yz
  have hb:=(Xp.mp hf).1;rw[<- dI]at hf;rw[Yq (by rw[Xs,YJ];lia)];rw[YJ]at hf;rw[show(A++B.reverse).length - 1 - A.length=B.length - 1 by rw[Xs,YJ];lia];exact hf
theorem oH(Xt:∀ v∈I,0<=v/\v<(ps.length:Int))(hF:With n ps I O F)(y0:0<=y/\y<(ps.length:Int))(z0:0<=z/\z<(ps.length:Int))(h:UI (Xx n.toNat (XT ps I)) ps y=UI (Xx n.toNat (XT ps I)) ps z):WN n ps I F y=WN n ps I F z:=by
 have key:∀ a∈F,a∉I->(y∈Vp n ps F a↔z∈Vp n ps F a):=λa ha hn=>by
  rw[ZM g hF.1 y0.1 y0.2,ZM g hF.1 z0.1 z0.2];refine not_congr ?_;have up:∀ {i j},Conn (XT ps I) i j->Conn (XT ps (wo F a)) i j:=λc=>c.mono (ZA λv hv=>Xq.mpr ⟨hF.2.1 v hv,λe=>hn (by rw[<- e];exact hv)⟩)
  rcases dY g Xt y0.1 y0.2 z0.1 z0.2 h with ⟨a,b⟩ | ⟨a,b⟩
  .exact⟨λc=>((up a).symm.trans c).trans (up b),λc=>((up a).trans c).trans (up b).symm⟩
  .exact⟨λc=>((up b).symm.trans c.symm).trans (up a),λc=>((up a).trans c.symm).trans (up b).symm⟩
 unfold WN WD;rw[List.filter_filter,List.filter_filter];refine ME λa ha=>?_;by_cases c:a∈I
 .simp[c]
 .have:=key a ha c
  unfold Vp at this;simp[c,this]
theorem oG{F2:Ac}(Xt:∀ v∈I,0<=v/\v<(ps.length:Int))(hF:With n ps I O F)(VS:∀ U,With n ps I O U->HT.lexLt U F=false)(hz:z∈WY n ps I O F)(hy:y∈VX n ps I O F (some z)):y∈WY n ps I (O++[z]) F/\(With n ps (I++[z]) O F2->(∀ U,With n ps (I++[z]) O U->HT.lexLt U F2=false)->y∈WY n ps (I++[z]) O F2):=by
 obtain⟨yF,yz⟩:=yp hy;obtain⟨yo,ya⟩:=Yf.mp hy;obtain⟨Ng,yI,yO,_,yc⟩:=(ZR g Xt).mp yo;obtain⟨LK,zI,zO,zF,zc⟩:=(ZR g Xt).mp hz;refine⟨(ZR g Xt).mpr ⟨Ng,yI,λh=>(Xy.mp h).elim yO λh=>yz (XD.mp h),yF,yc⟩,λh2 h2m=>?_⟩;have Us:∀ v∈I++[z],0<=v/\v<(ps.length:Int):=λv hv=>(Xy.mp hv).elim (Xt v) λh=>by rw[XD.mp h];exact LK
 refine(ZR g Us).mpr ⟨Ng,λh=>(Xy.mp h).elim yI λh=>yz (XD.mp h),yO,λh=>(ZW g hF VS h2 h2m y h).elim yF yz,λc=>?_⟩;have e:XT ps (I++[z])=XT ps I++[((Zq ps z).1,(Zq ps z).2)]:=QP
 rw[e]at c;rcases dS c with h | h
 .exact yc h
 .exact Yu ya (Yf.mpr ⟨yo,Yw ⟨z,rfl,CG g Xt Ng LK h⟩⟩)
end
theorem ZP7{n:Int}{ps:Aa}{d:Nat}{I O:Ac}{ld:Option Int}{R:Ab}(g:Zt n ps)(h:RowR n ps d I O ld R):(∀ v∈I,0<=v/\v<(ps.length:Int))->(∀ F z,With n ps I O F->(∀ U,With n ps I O U->HT.lexLt U F=false)->ld=some z->z∈WY n ps I O F)->Adj SE R:=by
 induction h with
 | @und d I O F inc ld hP hl hi =>
  intro Xt Cr;have hp:=CH hP.inc
  have Tx:inc.Nodup:=hp.nodup_iff.mpr (((((HG _).imp λh e=>by omega:(Wo ps.length).Nodup)).filter _).filter _);have oE:=hP.tr.1.1.nodup
  cases ld with
  | none =>
   have e:inc=[]:=by refine AO.mpr λz hz=>?_;obtain⟨y,h,_⟩:=Yu (Yf.mp (hp.mem_iff.mp hz)).2;cases h
   subst e;exact Adj.one
  | some z =>
   have zo:=Cr F z hP.tr hP.least rfl;obtain⟨LK,_⟩:=(ZR g Xt).mp zo;obtain⟨c1,c2⟩:=Ct (n:=n) (ps:=ps) (I:=I) (F:=F) (L:=WN n ps I F z) oE ((oE.filter _).filter _) (λo ho=>(Xh.mp (Yf.mp ho).1).1) inc (inc.length % 2 == 1) Tx (λv hv=>(hi v hv).1) (λv hv=>by obtain⟨y,e,h⟩:=Yu (Yf.mp (hp.mem_iff.mp hv)).2;cases e;exact oH g Xt hP.tr (hi v hv).2 LK h)
   show Adj SE ([F]++VC n ps I F inc (inc.length % 2 == 1));refine Adj.one.append c1 λa b ha hb=>?_;cases ha;obtain⟨o,v,hv,ho,rfl⟩:=c2 b hb;have vF:=(hi v (Xd hv)).1
   have oL:o∈WN n ps I F z:=by
    split at ho
    .exact Xd ho
    .exact Xd ho
   have oF:=(Xh.mp (Yf.mp oL).1).1;refine PK (a:=o) oE oF (λh=>?_) λw hw=>?_
   .rcases XI.mp h with q | q
    .exact q.2 rfl
    .exact vF (q ▸ oF)
   .by_cases c:w=o
    .exact .inr c
    .exact .inl (XI.mpr (.inl ⟨hw,c⟩))
 | @div d I O F inc z y A B hP hIn Us Vm hO hW _ _ _ _ hA hB Cy oO =>
  intro Xt Cr;have zo:=Cr F z hP.tr hP.least rfl
  have zF:=Ht zo;have yu:=(hP.some y rfl).1
  obtain⟨yF,yz⟩:=yp yu;obtain⟨s1,s2⟩:=yA g hP.tr hP.least zF;obtain⟨F2,_,_,SF⟩:=Tq g (some y) hW;obtain⟨y1,y2⟩:=oG (F2:=F2) g Xt hP.tr hP.least zo yu;have y2:=y2 SF.tr SF.least
  have aA:=Cy Xt λF' v h1 h2 e=>by cases e;rw[Tb (s2 F' h1) (h2 F s1)];exact y1
  have aB:=oO Us λF' v h1 h2 e=>by cases e;rw[Tb (SF.least F' h1) (h2 F2 SF.tr)];exact y2
  refine aA.append (aB.rev λa ha b hb q=>Cv (Cz g hB a ha).1 (Cz g hB b hb).1 q) λa b ha hb=>?_;rw[Cu]at hb;obtain⟨G,_,_,hG⟩:=Tq g none (yx g Xt hP.tr (Yf.mp yu).1);have zG:z∉G:=λh=>(ZW g hP.tr hP.least hG.tr hG.least z h).elim zF (YY yz)
  obtain⟨g1,g2⟩:=yA g hG.tr hG.least zG;have ea:=Jg g Xt hA s1 s2 yF g1 g2
  rw[<- Yi (ea.symm.trans ha)];obtain⟨T2,_,_,h2⟩:=Tq g none (yx g Us SF.tr y2);have eb:=Jg g Us hB SF.tr SF.least (Ht y2) h2.tr h2.least
  rw[<- Yi (eb.symm.trans hb)];have sw:∀ U,With n ps (I++[z]++[y]) O U↔With n ps (I++[y]++[z]) O U:=λU=>by
   unfold With;refine and_congr_right λ_=>and_congr_left λ_=>⟨λh v hv=>h v ?_,λh v hv=>h v ?_⟩
   all_goals
    simp only [Xy,XD]at hv ⊢;rcases hv with (q | q) | q
    .exact .inl (.inl q)
    .exact .inr q
    .exact .inl (.inr q)
  have hh:=ZW g hG.tr hG.least ((sw T2).mp h2.tr) λU hU=>h2.least U ((sw U).mpr hU);exact Cv h2.tr.1 g1.1 (PK (a:=z) h2.tr.1.1.nodup (h2.tr.2.1 z (by simp)) zG λv hv=>hh v hv)
theorem dG{l:Ac}{ld LJ:Option Int}(h1:ld=none↔l=[])(h2:∀ y,ld=some y->y∈l/\∀ z∈l,y<=z)(Mg:LJ=none↔l=[])(oW:∀ y,LJ=some y->y∈l/\∀ z∈l,y<=z):ld=LJ:=by
 cases ld with
 | none=>exact(Mg.mpr (h1.mp rfl)).symm
 | some y =>
  cases LJ with
  | none=>exact absurd (h1.mpr (Mg.mp rfl)) (by simp)
  | some y' =>
   obtain⟨a1,a2⟩:=h2 y rfl;obtain⟨b1,b2⟩:=oW y' rfl
   have:=a2 y' b1
   have:=b2 y a1
   rw[show y=y' by lia]
theorem Rv{n:Int}{ps:Aa}{T:Ac}:With n ps [] [] T↔Zf n ps T:=⟨λh=>h.1,λh=>⟨h,λz q=>(by cases q),λz q=>(by cases q)⟩⟩
theorem dF{n:Int}{ps:Aa}{R:Ab}{F L:Ac}(g:Zt n ps)(hR:RowW n ps R)(hF:Zf n ps F)(VS:∀ U,Zf n ps U->HT.lexLt U F=false):R[0]?=some F/\Adj SE R/\(1<R.length->R[R.length - 1]?=some L->SE L F):=by
 have Hs:=Rv.mpr hF;have Nf:∀ U,With n ps [] [] U->HT.lexLt U F=false:=λU hU=>VS U hU.1
 have Xt:∀ v∈([]:Ac),0<=v/\v<(ps.length:Int):=λv h=>by cases h
 obtain⟨ld,F',inc,fu,hP,h1,h2,LI,_⟩:=id hR;have eF:F'=F:=Tb (VS F' hP.tr.1) (hP.least F Hs)
 subst eF;refine⟨dJ g LI F' Hs Nf λz e=>Ht (h2 z e).1,ZP7 g LI Xt λF2 z a b e=>?_,λhl hL=>?_⟩
 .rw[Tb (Nf F2 a) (b F' Hs)];exact(h2 z e).1
 .cases ld with
  | none =>
   exfalso;have eo:=h1.mp rfl
   cases LI with
   | und oB _ _ =>
    obtain⟨rfl,rfl,rfl⟩:=hP.uniq oB;have e:inc=[]:=AO.mpr λz hz=>by
     have:=(Yf.mp ((CH hP.inc).mem_iff.mp hz)).1
     rw[eo]at this;cases this
    subst e;exact absurd hl (by show ¬ 1<1;decide)
  | some z =>
   have zo:=(h2 z rfl).1;obtain⟨T2,_,_,Hr⟩:=Tq g none (yx g Xt Hs zo);rw[Jg g Xt LI Hs Nf (Ht zo) Hr.tr Hr.least]at hL;obtain rfl:=Yi hL;exact PK (a:=z) Hr.tr.1.1.nodup (Hr.tr.2.1 z (by simp)) (Ht zo) λv hv=>ZW g Hs Nf Hr.tr Hr.least v hv
def top(i:Nat):Stmt:=PySem.Challenge.pw_spanrow_k39_whole_numbers_there_and_back.main.body.getD i (.Pass ⟨0,0,0,0⟩)
abbrev sZ0:Stmt:=top 10
abbrev sZ1:Stmt:=top 11
abbrev sZ2:Stmt:=top 12
abbrev sZ3:Stmt:=top 13
abbrev sZ4:Stmt:=top 14
abbrev sZ5:Stmt:=top 15
abbrev sZ6:Stmt:=top 21
abbrev sZ7:Stmt:=top 20
abbrev sZ8:Stmt:=Fh (top 19) 0
abbrev sZ9:Stmt:=top 22
abbrev sZa:Stmt:=top 23
abbrev sZb:Stmt:=top 24
abbrev sZc:Stmt:=top 25
abbrev sZd:Stmt:=top 26
abbrev sZe:Stmt:=top 27
abbrev sZf:Stmt:=top 28
abbrev sZg:Stmt:=top 29
abbrev sZh:Stmt:=top 30
abbrev sZi:Stmt:=top 31
abbrev sZj:Stmt:=top 33
abbrev sZk:Stmt:=top 34
abbrev sZl:Stmt:=top 35
abbrev sZm:Stmt:=top 36
abbrev sZn:Stmt:=top 38
abbrev sZo:Stmt:=top 39
abbrev sZp:Stmt:=top 40
abbrev sZq:Stmt:=top 41
abbrev sZr:Stmt:=top 42
abbrev sZs:Stmt:=top 44
abbrev sZt:Stmt:=top 47
abbrev sZu:Stmt:=top 48
abbrev sZv:Stmt:=Fh (top 49) 0
abbrev sZw:Stmt:=top 50
abbrev sZx:Stmt:=top 51
abbrev sZy:Stmt:=top 52
abbrev sZz:Stmt:=top 53
abbrev sZA:Stmt:=top 54
abbrev sZB:Stmt:=top 55
abbrev sZC:Stmt:=top 56
abbrev sZD:Stmt:=top 45
abbrev sZE:Stmt:=top 58
abbrev sZF:Stmt:=top 59
abbrev sZG:Stmt:=top 60
abbrev sZH:Stmt:=top 57
abbrev sZI:Stmt:=top 61
abbrev sZJ:Stmt:=top 63
abbrev sZK:Stmt:=top 64
abbrev sZL:Stmt:=top 65
abbrev sZM:Stmt:=top 66
abbrev sZN:Stmt:=top 67
abbrev sZO:Stmt:=top 68
abbrev sZP:Stmt:=top 69
abbrev sZQ:Stmt:=top 70
abbrev sZR:Stmt:=top 71
abbrev sZS:Stmt:=top 72
abbrev sZT:Stmt:=top 73
abbrev sZU:Stmt:=top 74
set_option genInjectivity false in
structure Adr where
 aZ0:Addr
 dZ0:FuncData
 aZ1:Addr
 dZ1:FuncData
 aZ2:Addr
 dZ2:FuncData
 aZ3:Addr
 dZ3:FuncData
 aZ4:Addr
 dZ4:FuncData
 aZ5:Addr
 dZ5:FuncData
 aZ6:Addr
 dZ6:FuncData
 aZ7:Addr
 dZ7:FuncData
 aZ8:Addr
 dZ8:FuncData
 aZ9:Addr
 dZ9:FuncData
 aZa:Addr
 dZa:FuncData
 aZb:Addr
 dZb:FuncData
 aZc:Addr
 dZc:FuncData
 aZd:Addr
 dZd:FuncData
 aZe:Addr
 dZe:FuncData
 aZf:Addr
 dZf:FuncData
 aZg:Addr
 dZg:FuncData
 aZh:Addr
 dZh:FuncData
 aZi:Addr
 dZi:FuncData
 aZj:Addr
 dZj:FuncData
 aZk:Addr
 dZk:FuncData
 aZl:Addr
 dZl:FuncData
 aZm:Addr
 dZm:FuncData
 aZn:Addr
 dZn:FuncData
 aZo:Addr
 dZo:FuncData
 aZp:Addr
 dZp:FuncData
 aZq:Addr
 dZq:FuncData
 aZr:Addr
 dZr:FuncData
 aZs:Addr
 dZs:FuncData
 aZt:Addr
 dZt:FuncData
 aZu:Addr
 dZu:FuncData
 aZv:Addr
 dZv:FuncData
 aZw:Addr
 dZw:FuncData
 aZx:Addr
 dZx:FuncData
 aZy:Addr
 dZy:FuncData
 aZz:Addr
 dZz:FuncData
 aZA:Addr
 dZA:FuncData
 aZB:Addr
 dZB:FuncData
 aZC:Addr
 dZC:FuncData
 aZD:Addr
 dZD:FuncData
 aZE:Addr
 dZE:FuncData
 aZF:Addr
 dZF:FuncData
 aZG:Addr
 dZG:FuncData
 aZH:Addr
 dZH:FuncData
 aZI:Addr
 dZI:FuncData
 aZJ:Addr
 dZJ:FuncData
 aZK:Addr
 dZK:FuncData
 aZL:Addr
 dZL:FuncData
 aZM:Addr
 dZM:FuncData
 aZN:Addr
 dZN:FuncData
 aZO:Addr
 dZO:FuncData
 aZP:Addr
 dZP:FuncData
 aZQ:Addr
 dZQ:FuncData
 aZR:Addr
 dZR:FuncData
 aZS:Addr
 dZS:FuncData
 aZT:Addr
 dZT:FuncData
 aZU:Addr
 dZU:FuncData
 A_Web:Addr
 A_Part:Addr
 A_WebError:Addr
 A_NoTree:Addr
 A_NoSuch:Addr
 A_Parted:Addr
structure Txt (K:Ad) (mg:Af) (t:Adr):Prop where
 fZ0:Fun K "refuse_not_square" "refuse_not_square" sZ0 t.aZ0 t.dZ0
 bZ0:Binds K t.dZ0 ["table"] []
 mZ0:mg "refuse_not_square"=some (.ref t.aZ0)
 fZ1:Fun K "row_taken_off" "row_taken_off" sZ1 t.aZ1 t.dZ1
 bZ1:Binds K t.dZ1 ["row","pivot","last"] []
 mZ1:mg "row_taken_off"=some (.ref t.aZ1)
 fZ2:Fun K "first_with_some" "first_with_some" sZ2 t.aZ2 t.dZ2
 bZ2:Binds K t.dZ2 ["rows"] []
 mZ2:mg "first_with_some"=some (.ref t.aZ2)
 fZ3:Fun K "determinant" "determinant" sZ3 t.aZ3 t.dZ3
 bZ3:Binds K t.dZ3 ["table"] []
 mZ3:mg "determinant"=some (.ref t.aZ3)
 fZ4:Fun K "row_without" "row_without" sZ4 t.aZ4 t.dZ4
 bZ4:Binds K t.dZ4 ["row","number"] []
 mZ4:mg "row_without"=some (.ref t.aZ4)
 fZ5:Fun K "table_without" "table_without" sZ5 t.aZ5 t.dZ5
 bZ5:Binds K t.dZ5 ["table","number"] []
 mZ5:mg "table_without"=some (.ref t.aZ5)
 fZ6:Fun K "is_tie" "is_tie" sZ6 t.aZ6 t.dZ6
 bZ6:Binds K t.dZ6 ["web","number"] []
 mZ6:mg "is_tie"=some (.ref t.aZ6)
 fZ7:Fun K "refuse_bad_web" "refuse_bad_web" sZ7 t.aZ7 t.dZ7
 bZ7:Binds K t.dZ7 ["places","ties"] []
 mZ7:mg "refuse_bad_web"=some (.ref t.aZ7)
 fZ8:Fun K "__init__" "Web.__init__" sZ8 t.aZ8 t.dZ8
 bZ8:Binds K t.dZ8 ["self","places","ties"] []
 fZ9:Fun K "all_ties" "all_ties" sZ9 t.aZ9 t.dZ9
 bZ9:Binds K t.dZ9 ["web"] []
 mZ9:mg "all_ties"=some (.ref t.aZ9)
 fZa:Fun K "ties_beside" "ties_beside" sZa t.aZa t.dZa
 bZa:Binds K t.dZa ["web","ties"] []
 mZa:mg "ties_beside"=some (.ref t.aZa)
 fZb:Fun K "ties_without" "ties_without" sZb t.aZb t.dZb
 bZb:Binds K t.dZb ["ties","left_out"] []
 mZb:mg "ties_without"=some (.ref t.aZb)
 fZc:Fun K "is_set" "is_set" sZc t.aZc t.dZc
 bZc:Binds K t.dZc ["web","ties"] []
 mZc:mg "is_set"=some (.ref t.aZc)
 fZd:Fun K "made_set" "made_set" sZd t.aZd t.dZd
 bZd:Binds K t.dZd ["web","ties"] []
 mZd:mg "made_set"=some (.ref t.aZd)
 fZe:Fun K "merged_marks" "merged_marks" sZe t.aZe t.dZe
 bZe:Binds K t.dZe ["web","marks","ties"] []
 mZe:mg "merged_marks"=some (.ref t.aZe)
 fZf:Fun K "piece_marks" "piece_marks" sZf t.aZf t.dZf
 bZf:Binds K t.dZf ["web","ties"] []
 mZf:mg "piece_marks"=some (.ref t.aZf)
 fZg:Fun K "pieces_of" "pieces_of" sZg t.aZg t.dZg
 bZg:Binds K t.dZg ["web","ties"] []
 mZg:mg "pieces_of"=some (.ref t.aZg)
 fZh:Fun K "is_joined" "is_joined" sZh t.aZh t.dZh
 bZh:Binds K t.dZh ["web","ties"] []
 mZh:mg "is_joined"=some (.ref t.aZh)
 fZi:Fun K "refuse_parted" "refuse_parted" sZi t.aZi t.dZi
 bZi:Binds K t.dZi ["web"] []
 mZi:mg "refuse_parted"=some (.ref t.aZi)
 fZj:Fun K "weighted_table" "weighted_table" sZj t.aZj t.dZj
 bZj:Binds K t.dZj ["web","weights"] []
 mZj:mg "weighted_table"=some (.ref t.aZj)
 fZk:Fun K "pull_table" "pull_table" sZk t.aZk t.dZk
 bZk:Binds K t.dZk ["web"] []
 mZk:mg "pull_table"=some (.ref t.aZk)
 fZl:Fun K "tree_count" "tree_count" sZl t.aZl t.dZl
 bZl:Binds K t.dZl ["web"] []
 mZl:mg "tree_count"=some (.ref t.aZl)
 fZm:Fun K "part_count" "part_count" sZm t.aZm t.dZm
 bZm:Binds K t.dZm ["web","inside","outside"] []
 mZm:mg "part_count"=some (.ref t.aZm)
 fZn:Fun K "is_tree" "is_tree" sZn t.aZn t.dZn
 bZn:Binds K t.dZn ["web","ties"] []
 mZn:mg "is_tree"=some (.ref t.aZn)
 fZo:Fun K "refuse_no_tree" "refuse_no_tree" sZo t.aZo t.dZo
 bZo:Binds K t.dZo ["web","tree"] []
 mZo:mg "refuse_no_tree"=some (.ref t.aZo)
 fZp:Fun K "grown_tree" "grown_tree" sZp t.aZp t.dZp
 bZp:Binds K t.dZp ["web","inside","order"] []
 mZp:mg "grown_tree"=some (.ref t.aZp)
 fZq:Fun K "tree_cut" "tree_cut" sZq t.aZq t.dZq
 bZq:Binds K t.dZq ["web","tree","tie"] []
 mZq:mg "tree_cut"=some (.ref t.aZq)
 fZr:Fun K "ring_of" "ring_of" sZr t.aZr t.dZr
 bZr:Binds K t.dZr ["web","tree","tie"] []
 mZr:mg "ring_of"=some (.ref t.aZr)
 fZs:Fun K "least_in" "least_in" sZs t.aZs t.dZs
 bZs:Binds K t.dZs ["web","inside","outside"] []
 mZs:mg "least_in"=some (.ref t.aZs)
 fZt:Fun K "end_pieces" "end_pieces" sZt t.aZt t.dZt
 bZt:Binds K t.dZt ["web","marks","tie"] []
 mZt:mg "end_pieces"=some (.ref t.aZt)
 fZu:Fun K "open_ties" "open_ties" sZu t.aZu t.dZu
 bZu:Binds K t.dZu ["web","marks","gone"] []
 mZu:mg "open_ties"=some (.ref t.aZu)
 fZv:Fun K "__init__" "Part.__init__" sZv t.aZv t.dZv
 bZv:Binds K t.dZv ["self","web","kept","shut","lead"] []
 fZw:Fun K "whole_part" "whole_part" sZw t.aZw t.dZw
 bZw:Binds K t.dZw ["web"] []
 mZw:mg "whole_part"=some (.ref t.aZw)
 fZx:Fun K "half_without" "half_without" sZx t.aZx t.dZx
 bZx:Binds K t.dZx ["part"] []
 mZx:mg "half_without"=some (.ref t.aZx)
 fZy:Fun K "half_with" "half_with" sZy t.aZy t.dZy
 bZy:Binds K t.dZy ["part"] []
 mZy:mg "half_with"=some (.ref t.aZy)
 fZz:Fun K "part_size" "part_size" sZz t.aZz t.dZz
 bZz:Binds K t.dZz ["part"] []
 mZz:mg "part_size"=some (.ref t.aZz)
 fZA:Fun K "trees_with_tie" "trees_with_tie" sZA t.aZA t.dZA
 bZA:Binds K t.dZA ["part","into"] []
 mZA:mg "trees_with_tie"=some (.ref t.aZA)
 fZB:Fun K "undivided_row" "undivided_row" sZB t.aZB t.dZB
 bZB:Binds K t.dZB ["part"] []
 mZB:mg "undivided_row"=some (.ref t.aZB)
 fZC:Fun K "trees_between" "trees_between" sZC t.aZC t.dZC
 bZC:Binds K t.dZC ["part","size","start","stop"] []
 mZC:mg "trees_between"=some (.ref t.aZC)
 fZD:Fun K "refuse_below_nought" "refuse_below_nought" sZD t.aZD t.dZD
 bZD:Binds K t.dZD ["number"] []
 mZD:mg "refuse_below_nought"=some (.ref t.aZD)
 fZE:Fun K "row_from" "row_from" sZE t.aZE t.dZE
 bZE:Binds K t.dZE ["web","number","most"] []
 mZE:mg "row_from"=some (.ref t.aZE)
 fZF:Fun K "row_at" "row_at" sZF t.aZF t.dZF
 bZF:Binds K t.dZF ["web","number"] []
 mZF:mg "row_at"=some (.ref t.aZF)
 fZG:Fun K "row_last" "row_last" sZG t.aZG t.dZG
 bZG:Binds K t.dZG ["web"] []
 mZG:mg "row_last"=some (.ref t.aZG)
 fZH:Fun K "number_in" "number_in" sZH t.aZH t.dZH
 bZH:Binds K t.dZH ["part","size","tree"] []
 mZH:mg "number_in"=some (.ref t.aZH)
 fZI:Fun K "row_number" "row_number" sZI t.aZI t.dZI
 bZI:Binds K t.dZI ["web","tree"] []
 mZI:mg "row_number"=some (.ref t.aZI)
 fZJ:Fun K "_law_at" "_law_at" sZJ t.aZJ t.dZJ
 bZJ:Binds K t.dZJ ["script","k"] []
 mZJ:mg "_law_at"=some (.ref t.aZJ)
 fZK:Fun K "_law_mixed" "_law_mixed" sZK t.aZK t.dZK
 bZK:Binds K t.dZK ["cell","k"] []
 mZK:mg "_law_mixed"=some (.ref t.aZK)
 fZL:Fun K "_law_digits" "_law_digits" sZL t.aZL t.dZL
 bZL:Binds K t.dZL ["script","size"] []
 mZL:mg "_law_digits"=some (.ref t.aZL)
 fZM:Fun K "_law_stirred" "_law_stirred" sZM t.aZM t.dZM
 bZM:Binds K t.dZM ["script","size"] []
 mZM:mg "_law_stirred"=some (.ref t.aZM)
 fZN:Fun K "_law_large" "_law_large" sZN t.aZN t.dZN
 bZN:Binds K t.dZN ["script"] []
 mZN:mg "_law_large"=some (.ref t.aZN)
 fZO:Fun K "_law_cells" "_law_cells" sZO t.aZO t.dZO
 bZO:Binds K t.dZO ["script","most"] []
 mZO:mg "_law_cells"=some (.ref t.aZO)
 fZP:Fun K "_law_far_web" "_law_far_web" sZP t.aZP t.dZP
 bZP:Binds K t.dZP ["script"] []
 mZP:mg "_law_far_web"=some (.ref t.aZP)
 fZQ:Fun K "_law_whole" "_law_whole" sZQ t.aZQ t.dZQ
 bZQ:Binds K t.dZQ ["found"] []
 mZQ:mg "_law_whole"=some (.ref t.aZQ)
 fZR:Fun K "_law_refused" "_law_refused" sZR t.aZR t.dZR
 bZR:Binds K t.dZR ["web","number"] []
 mZR:mg "_law_refused"=some (.ref t.aZR)
 fZS:Fun K "_law_number" "_law_number" sZS t.aZS t.dZS
 bZS:Binds K t.dZS ["total","m"] []
 mZS:mg "_law_number"=some (.ref t.aZS)
 fZT:Fun K "_law_good" "_law_good" sZT t.aZT t.dZT
 bZT:Binds K t.dZT ["web","total","number"] []
 mZT:mg "_law_good"=some (.ref t.aZT)
 fZU:Fun K "law" "law" sZU t.aZU t.dZU
 bZU:Binds K t.dZU ["script"] []
 oA:mg "law"=some (.ref t.aZU)
 c_Web:mg "Web"=some (.ref t.A_Web)
 cl_Web:Cls K t.A_Web
 k_Web:Mk K t.A_Web t.aZ8
 n_Web_places:NoAttr K t.A_Web "places"
 n_Web_ties:NoAttr K t.A_Web "ties"
 c_Part:mg "Part"=some (.ref t.A_Part)
 cl_Part:Cls K t.A_Part
 k_Part:Mk K t.A_Part t.aZv
 n_Part_web:NoAttr K t.A_Part "web"
 n_Part_kept:NoAttr K t.A_Part "kept"
 n_Part_shut:NoAttr K t.A_Part "shut"
 n_Part_lead:NoAttr K t.A_Part "lead"
 n_Part_least:NoAttr K t.A_Part "least"
 n_Part_incoming:NoAttr K t.A_Part "incoming"
 n_Part_further:NoAttr K t.A_Part "further"
 c_WebError:mg "WebError"=some (.ref t.A_WebError)
 c_NoTree:mg "NoTree"=some (.ref t.A_NoTree)
 c_NoSuch:mg "NoSuch"=some (.ref t.A_NoSuch)
 c_Parted:mg "Parted"=some (.ref t.A_Parted)
 x_NoSuch:XCls K (t.A_NoSuch)
 ki_NoSuch_ValueError:PySem.W.kitOne K (.ref (t.A_NoSuch)) (.type "ValueError")=some true
 ki_NoSuch_NoTree:PySem.W.kitOne K (.ref (t.A_NoSuch)) (.ref (t.A_NoTree))=some false
 ki_NoSuch_Parted:PySem.W.kitOne K (.ref (t.A_NoSuch)) (.ref (t.A_Parted))=some false
 em_NoSuch:PySem.W.exmOne K (.ref (t.A_NoSuch)) (.ref (t.A_WebError))=some true
 g_MOST_PLACES:∃ tk,mg "MOST_PLACES"=some (.int 14 tk)
 g_MOST_TIES:∃ tk,mg "MOST_TIES"=some (.int 30 tk)
 n_ValueError:mg "ValueError"=none
 n_bool:mg "bool"=none
 n_enumerate:mg "enumerate"=none
 n_int:mg "int"=none
 n_isinstance:mg "isinstance"=none
 n_len:mg "len"=none
 n_list:mg "list"=none
 n_max:mg "max"=none
 n_min:mg "min"=none
 n_range:mg "range"=none
 n_reversed:mg "reversed"=none
 n_set:mg "set"=none
 n_sorted:mg "sorted"=none
 n_tuple:mg "tuple"=none
 n_zip:mg "zip"=none
end My
namespace My
open PySem L2 PyProof.Rows
set_option maxHeartbeats 4000000
section
variable{P:Program}{w:World}{K:Ad}{mg:Af}{base:Heap}{t:Adr}
def oz(K:Ad):Sp:=λvs H Q _=>∃(a:Addr) (kd:Bool) (xs:List V) (L:Ab),vs=[.ref a]/\SqK kd K H a xs/\Bears (DL K H) xs L /\
 ((∀ l∈L,l.length=L.length)->Q .non H)/\(¬ (∀ l∈L,l.length=L.length)->False)
theorem Cq:FnScope ["table","row"] ["table"] (XA sZ0):=⟨rfl,rfl,rfl,by decide +kernel,rfl,by decide +kernel,by decide +kernel⟩
theorem oy (T:Txt K mg t):FnOk P w K mg base Xl 1 t.aZ0 t.dZ0 ["table"] (oz K):=by
 refine T.fZ0.ok Cq (λvs H Q E h=>?_) (λXz A outer s H vs Q E hr h=>?_)
 .obtain⟨a,kd,xs,L,rfl,_⟩:=h;rfl
 .obtain⟨a,kd,xs,L,rfl,hS,hB,q,qe⟩:=h;refine⟨_,(XG (Sq Ws rfl (TL K (pv 0)) (Ze (i:=1) Cq.nd rfl (Or.inl rfl))
   (XG (Ww (Zg OT (Zd (Zo K) (by rfl) T.n_len Boot.«len» (XZ (pv 1) XY)) (Zd (Zo K) (by rfl) T.n_len Boot.«len» (XZ (pv 0) XY)) (Zv _))
   (XG Mr)
   Zp)))),?_⟩
  have Jf:=hB.1;refine⟨_,rfl,a,rfl,zQ (K:=K) (k:=kd) (a:=a) (xs:=xs) (λi σ H2=>∃ v1,σ=[some (.ref a),v1]/\H2=H/\∀ l∈L.take i,l.length=L.length) ⟨none,rfl,rfl,λl h=>(by cases h)⟩ (λi σ H2 _ ⟨_,_,e,_⟩=>e ▸ hS) ?_ ?_⟩
  .rintro i v σ H2 hi ⟨v1,rfl,rfl,Vs⟩;obtain⟨l,hl,r,k,rfl,hr⟩:=hB.at hi;refine nm ?_;refine⟨_,rfl,r,_,rfl,hr.or,_,rfl,a,xs,rfl,hS.or,rfl,_,rfl,?_⟩;rw[Xr,ZC];refine WE (λe=>?_) (λe=>?_)
   .refine⟨_,rfl,rfl,λm hm=>?_⟩;rw[WA,hl]at hm;rcases Xy.mp hm with h | h
    .exact Vs m h
    .have Mi:m=l:=by simpa using h
     rw[Mi];lia
   .exact qe λh=>e (by rw[h l (Xd hl),Jf])
  .rintro σ H2 ⟨v1,rfl,rfl,Vs⟩;rw[Jf,YK]at Vs;exact q Vs
def ou(K:Ad):Sp:=λvs H Q _=>∃(r p:Addr) (x y last:Int) (l q:Ac),vs=[.ref r,.ref p,.int last]/\SqL K H r (IL (x :: l))/\SqL K H p (IL (y :: q))/\l.length=q.length/\l.length<=1000/\last≠0/\last.natAbs<2 ^ 9000 /\
 (∀ z∈x :: l,z.natAbs<2 ^ 9000)/\(∀ z∈y :: q,z.natAbs<2 ^ 9000)/\∀(c:Addr) (H':Hp),Same H H'->H c=none->H' c=some (.lst (IL (PZ y q last (x :: l))))->Q (.ref c) H'
theorem oq:FnScope ["row","pivot","last"] ["row","pivot","last"] (XA sZ1):=⟨rfl,rfl,rfl,by decide +kernel,rfl,by decide +kernel,by decide +kernel⟩
theorem oo (T:Txt K mg t):FnOk P w K mg base Xl 1 t.aZ1 t.dZ1 ["row","pivot","last"] (ou K):=by
 refine T.fZ1.ok oq (λvs H Q E h=>?_) (λXz A outer s H vs Q E hr h=>?_)
 .obtain⟨r,p,x,y,last,l,q,rfl,_⟩:=h;rfl
 .obtain⟨r,p,x,y,last,l,q',rfl,hR,hP,dE,hl,l0,l1,hx,hy,q⟩:=h;refine⟨_,(XG (Zh (Sn rfl (sc0:=XA sZ1) (N0:=["row","pivot","last"]) (N':=["own","other","pivot","row","last"]) (o:=2) (fr:=[1,0,2]) ⟨rfl,by decide +kernel,by decide +kernel,by decide +kernel,rfl,by decide +kernel⟩ (DT K rfl T.n_zip (XZ (Mp (Ml K) (pv 0) (Od Za) Kr) (XZ (Mp (Ml K) (pv 1) (Od Za) Kr) XY))) (Fc (Vb (by decide) (Vb (by decide) Fd))) (λ_ _ _ _=>(Qm (n:=2) K rfl (Zu (Ze (i:=0) (show List.Nodup (["own","other","pivot","row","last"]:List Str) by decide +kernel) rfl (Or.inl rfl)) (Zu (Ze (i:=1) (show List.Nodup (["own","other","pivot","row","last"]:List Str) by decide +kernel) rfl (Or.inl rfl)) QG)))) (λ_ _ _ _=>Ri) (λ_ _ _ _=>(Zn DO (Zn TZ (Zn rh (ZQ (Zi K) (pv 2) Za (λ_ _=>rfl)) (pv 0)) (Zn rh (ZQ (Zi K) (pv 3) Za (λ_ _=>rfl)) (pv 1))) (pv 4)))))),?_⟩;refine⟨_,rfl,_,rfl,r,_,rfl,hR,λp1 UK=>?_⟩;rw[gj];have s1:=XH (o:=.lst (IL l)) UK
  refine⟨_,rfl,_,rfl,p,_,rfl,s1.seq hP,λp2 VU=>?_⟩;rw[gj];have s2:=XH (o:=.lst (IL q')) VU
  have WS:=s1.trans s2;have h1:=s2 _ _ (XR (H:=H) (a:=p1) (o:=.lst (IL l)))
  have h2:(upd (upd H p1 (.lst (IL l))) p2 (.lst (IL q'))) p2=some (.lst (IL q')):=XR;generalize upd (upd H p1 (.lst (IL l))) p2 (.lst (IL q'))=H2 at *;refine⟨p1,p2,rfl,⟨_,_,SqL.of h1,SqL.of h2⟩,rQ (K:=K) (a:=p1) (b:=p2) (xs:=IL l) (ys:=IL q') (λi zs H3=>Same H2 H3/\i<=l.length/\zs=IL ((PZ y q' last (x :: l)).take i)) ⟨Same.refl _,Yo _,rfl⟩ (by rw[Xr,Xr];exact dE) (Zm (by rw[Xr];lia))
   (λi zs H3 hi ⟨e,VA,ez⟩=>⟨SqL.of (e _ _ h1),SqL.of (e _ _ h2),by rw[ez,Xr,YB];lia⟩) ?_ ?_⟩
  .rintro i u v zs H3 pt Ur hu hv ⟨s3,Vn,rfl⟩ S Xe;obtain⟨own,rfl,ho⟩:=WL hu;obtain⟨JK,rfl,ht⟩:=WL hv;have Xk:=(Xp.mp ho).1
   have s4:=XH (o:=.tup [.int own,.int JK]) Ur;refine⟨pt,_,rfl,SqT.of XR,rfl,_,_,rfl,_,_,rfl,rfl,?_⟩;have Sg:=WS.trans (s3.trans s4)
   have a1:=hy y Ye;have a2:=hx own (Yh _ (Xd ho))
   have a3:=hx x Ye;have a4:=hy JK (Yh _ (Xd ht))
   refine⟨_,rfl,p,_,0,.int y,rfl,rfl,Sg.seq hP,ZN (n:=0) rfl rfl,_,rfl,_,_,rfl,rfl,⟨a1,a2⟩,_,rfl,r,_,0,.int x,rfl,rfl,Sg.seq hR,ZN (n:=0) rfl rfl,_,rfl,_,_,rfl,rfl,⟨a3,a4⟩,_,_,rfl,rfl,_,rfl,_,_,rfl,rfl,⟨l0,l1⟩,?_⟩;refine Xe _ _ ⟨s3.trans s4,Xk,?_⟩;have e:(PZ y q' last (x :: l))[i]?=some ((y * own - x * JK).fdiv last):=by show(List.zipWith _ l q')[i]?=_;rw[Ip,ho,ht];rfl
   rw[WA,e];exact(ZX _ _).symm
  .rintro zs H3 ⟨s3,_,rfl⟩ c hc;rw[Xr,UH (by rw[gk (by rw[Yz,dE])];lia)];exact q c _ (WS.trans (s3.trans (XH hc))) ((WS.trans s3).free hc) XR
def om(K:Ad):Sp:=λvs H Q _=>∃(a:Addr) (ys:List V) (R:Ab),vs=[.ref a]/\SqL K H a ys/\Bears (ON H) ys R/\(∀ l∈R,0<l.length) /\
 (∀ H':Hp,Same H H'->(∀ i,i<R.length->fnL R i 0=0)->Q .non H')/\(∀(t:Nat) (H':Hp),Same H H'->t<R.length->fnL R t 0≠0->Q (.int t) H')
theorem Je:FnScope ["rows","at","row"] ["rows"] (XA sZ2):=⟨rfl,rfl,rfl,by decide +kernel,rfl,by decide +kernel,by decide +kernel⟩
theorem oj (T:Txt K mg t):FnOk P w K mg base Xl 1 t.aZ2 t.dZ2 ["rows"] (om K):=by
 refine T.fZ2.ok Je (λvs H Q E h=>?_) (λXz A outer s H vs Q E hr h=>?_)
 .obtain⟨a,ys,R,rfl,_⟩:=h;rfl
 .obtain⟨a,ys,R,rfl,hS,hB,hp,q0,q1⟩:=h;refine⟨_,(XN (Sq Ws rfl (Mj K rfl T.n_enumerate (XZ (pv 0) XY)) (Qm (n:=2) K rfl (Zu (Ze (i:=1) Je.nd rfl (Or.inl rfl)) (Zu (Ze (i:=2) Je.nd rfl (Or.inl rfl)) QG)))
   (XG (Ww (Zg OT (ZQ (Zi K) (pv 2) Za (λ_ _=>rfl)) Za (Zv _))
   (XG (Zh (pv 1)))
   Zp)))
   (XG (Zh Gz))),?_⟩
  have yn:=hB.1;refine⟨_,rfl,a,rfl,⟨_,hS⟩,zN (K:=K) (a:=a) (xs:=ys) (λi σ H2=>∃ v1 v2,σ=[some (.ref a),v1,v2]/\Same H H2/\∀ j,j<i->fnL R j 0=0) ⟨none,none,rfl,Same.refl _,λj h=>absurd h (YZ _)⟩ (λi σ H2 _ ⟨_,_,_,e,_⟩=>e.seq hS) ?_ ?_⟩
  .rintro i v σ H2 pt Ur hi ⟨v1,v2,rfl,s2,hz⟩;obtain⟨l,hl,r,rfl,hr⟩:=hB.at hi;have hlp:=hp l (Xd hl)
   obtain⟨x,l',rfl⟩:∃ x l',l=x :: l':=by
    cases l with
    | nil=>exact absurd hlp (Rk 0)
    | cons x l'=>exact⟨x,l',rfl⟩
   have e0:fnL R i 0=x:=OK hl rfl;have s3:=s2.trans (XH (o:=.tup [.int i,.ref r]) Ur)
   refine⟨pt,_,rfl,SqT.of XR,rfl,_,_,rfl,_,_,rfl,rfl,?_⟩;generalize upd H2 pt (.tup [.int i,.ref r])=H3 at *;refine⟨_,rfl,r,_,0,.int x,rfl,rfl,SqL.of (s3 _ _ hr),ZN (n:=0) rfl rfl,rfl,_,rfl,?_⟩;rw[ZC];refine WE (λe=>?_) (λe=>?_)
   .refine⟨_,_,rfl,s3,λj hj=>?_⟩;by_cases c:j=i
    .rw[c,e0,e]
    .exact hz j (by lia)
   .exact⟨_,rfl,q1 i H3 s3 (by have:=(Xp.mp hl).1;exact this) (by rw[e0];exact e)⟩
  .rintro σ H2 ⟨v1,v2,rfl,s2,hz⟩;exact q0 H2 s2 λi hi=>hz i (by lia)
def oh(K:Ad):Sp:=λvs H Q _=>∃(a:Addr) (kd:Bool) (xs:List V) (L:Ab),vs=[.ref a]/\SqK kd K H a xs/\Bears (DL K H) xs L/\L.length<=16/\(∀ i j,i<L.length->j<L.length->(fnL L i j).natAbs<=2 ^ 400) /\
 ((∀ l∈L,l.length=L.length)->∀ H':Hp,Same H H'->Q (.int (det L.length (fnL L))) H')/\(¬ (∀ l∈L,l.length=L.length)->∀ H':Hp,Same H H'->False)
theorem og{s rest:TS}{D:Ends}{σ:L2.St}{H:Hp}(P:L2.St->Hp->Prop)(h1:∀ σ' H',P σ' H'->rest D σ' H')(h2:∀ K:L2.St->Hp->Prop,(∀ σ' H',P σ' H'->K σ' H')->s { D with nx:=K } σ H):Ua s rest D σ H:=h2 _ h1
theorem Uq:FnScope ["table","rows","sign","last","at","pivot"] ["table"] (XA sZ3):=⟨rfl,rfl,rfl,by decide +kernel,rfl,by decide +kernel,by decide +kernel⟩
theorem n9 (T:Txt K mg t):FnOk P w K mg base Xl 2 t.aZ3 t.dZ3 ["table"] (oh K):=by
 refine T.fZ3.ok Uq (λvs H Q E h=>?_) (λXz A outer s H vs Q E hr h=>?_)
 .obtain⟨a,kd,xs,L,rfl,_⟩:=h;rfl
 .obtain⟨a,kd,xs,L,rfl,hS,hB,Cp,dD,q,qe⟩:=h;refine⟨_,(XN (ZZ (XF (oy T) (hr.mono (by decide)) rfl T.mZ0 T.fZ0.kp T.bZ0 .nil Zs (XZ (pv 0) XY)))
   (XN (NX (i:=1) rfl Uq.nd rfl rfl (sc0:=XA sZ3) (N0:=["table","rows","sign","last","at","pivot"]) (N':=["row"]) (o:=1) (fr:=[]) ⟨rfl,by decide +kernel,by decide +kernel,by decide +kernel,rfl,by decide +kernel⟩ (TL K (pv 0)) (Zz (by decide)) (λ_ _ _ _=>(Ze (i:=0) (show List.Nodup (["row"]:List Str) by decide +kernel) rfl (Or.inl rfl))) (λ_ _ _ _=>Ri) (λ_ _ _ _=>(Zr (HQ K) (by rfl) T.n_list Boot.«list» (XZ (pv 0) XY))))
   (XN (Zk (i:=2) Uq.nd rfl (Or.inl rfl) Za)
   (XN (Zk (i:=3) Uq.nd rfl (Or.inr rfl) Za)
   (XN (jf Ws (Zg RV (Zd (Zo K) (by rfl) T.n_len Boot.«len» (XZ (pv 1) XY)) Za (Zv _))
   (XN (Zk (i:=4) Uq.nd rfl (Or.inl rfl) (XF (oj T) (hr.mono (by decide)) rfl T.mZ2 T.fZ2.kp T.bZ2 .nil Zs (XZ (pv 1) XY)))
   (XN (Ww (Zg QD (pv 4) Gz (Zv _))
   (XG (Zh Za))
   Zp)
   (XN (Ww (Zg RX (Zn ZH (pv 4) Za) Za (Zv _))
   (XG (Zk (i:=2) Uq.nd rfl (Or.inl rfl) (Ky vZ (pv 2))))
   Zp)
   (XN (Zk (i:=5) Uq.nd rfl (Or.inr rfl) (VE K YX ju jv iL (pv 1) (XZ (pv 4) XY)))
   (XN (NX (i:=1) rfl Uq.nd rfl rfl (sc0:=XA sZ3) (N0:=["table","rows","sign","last","at","pivot"]) (N':=["row","pivot","last"]) (o:=1) (fr:=[5,3]) ⟨rfl,by decide +kernel,by decide +kernel,by decide +kernel,rfl,by decide +kernel⟩ (Va K (pv 1)) (Zz (by decide)) (λ_ _ _ _=>(Ze (i:=0) (show List.Nodup (["row","pivot","last"]:List Str) by decide +kernel) rfl (Or.inl rfl))) (λ_ _ _ _=>Ri) (λ_ _ _ _=>(XF (oo T) (hr.mono (by decide)) rfl T.mZ1 T.fZ1.kp T.bZ1 .nil Zs (XZ (pv 0) (XZ (pv 1) (XZ (pv 2) XY))))))
   (XG (Zk (i:=3) Uq.nd rfl (Or.inr rfl) (ZQ (Zi K) (pv 5) Za (λ_ _=>rfl))))))))))
   (XG (Zh (Zn rh (pv 2) (pv 3))))))))),?_⟩
  have Jf:=hB.1;refine⟨_,rfl,a,kd,xs,L,rfl,hS,hB,λn8=>?_,λh=>qe h H (Same.refl H)⟩;have q:=q n8
  obtain⟨n,hn⟩:∃ n,n=L.length:=⟨_,rfl⟩;rw[<- hn]at q n8 dD Cp;refine⟨_,rfl,a,rfl,zP (K:=K) (k:=kd) (a:=a) (xs:=xs) (λi zs H2=>Same H H2/\i<=xs.length/\Bears (ON H2) zs (L.take i)) ⟨Same.refl _,Yo _,⟨rfl,λi l e=>by simp at e⟩⟩ (Zm (by lia)) (λi zs H2 hi ⟨e,VA,ez⟩=>⟨hS.same e,by rw[ez.1,YB];lia⟩) ?_ ?_⟩
  .rintro i v zs H2 hi ⟨s2,Vn,hZ⟩ S Xe;obtain⟨l,hl,r,k,rfl,hr⟩:=hB.at hi;have Xk:=(Xp.mp hi).1
   refine nm ?_;refine⟨_,rfl,r,_,rfl,(hr.same s2).or,λc hc=>Xe _ _ ⟨s2.trans (XH hc),Xk,?_⟩⟩;rw[WA,hl];refine(hZ.imp λ_ _ ⟨r',e,h⟩=>⟨r',e,XH hc _ _ h⟩).snoc ⟨c,rfl,XR⟩
  rintro zs H2 ⟨s2,_,hZ⟩ rA Nd;rw[Jf,YK]at hZ;have s3:=s2.trans (XH (o:=.lst zs) Nd)
  refine⟨λm σ H4=>∃(A:Mx) (k:Nat) (rA:Addr) (ys:List V) (R:Ab) (sgn last:Int) (v4 v5:Option V),σ=[some (.ref a),some (.ref rA),some (.int sgn),some (.int last),v4,v5]/\Same H H4/\H rA=none/\H4 rA=some (.lst ys)/\Bears (LiV rA H4) ys R/\R.length=m/\(∀ l∈R,l.length=m)/\k+m=n/\Sl A k m (fnL R) last/\det n (fnL L)=sgn * det n A/\(∀ i j,i<n->j<n->(A i j).natAbs<=2 ^ 400)/\(m=0->last=det n A)/\(sgn=1\/sgn=-1)/\last.natAbs<2 ^ 9000,⟨n,fnL L,0,rA,zs,L,1,1,none,none,rfl,s3,s2.free Nd,XR,?_,hn.symm,n8,by lia,ZD8 _ _,by grind,dD,λe=>by rw[e];rfl,.inl rfl,Nat.one_lt_two_pow (by decide)⟩,?_⟩
  .exact hZ.imp λv l ⟨r,e,h⟩=>⟨r,e,XH Nd _ _ h,Zc h Nd⟩
  rintro m σ H4 ⟨A,k,rA,ys,R,sgn,last,v4,v5,rfl,s4,Vk,Ru,hR,n6,QY,ym,Nc,Jd,dC,n5,dB,dz⟩;have yn:=hR.1
  refine⟨_,rfl,rA,ys,rfl,.inl (SqL.of Ru),_,_,rfl,rfl,_,rfl,?_⟩;refine WV (λRM=>?_) (λRM=>?_)
  .obtain⟨M,rfl⟩:∃ M,m=M+1:=⟨m - 1,by lia⟩;refine⟨_,λσ' H' h=>⟨M,Pb M,h⟩,?_⟩;have Ez:∀ l∈R,∀ z∈l,z.natAbs<2 ^ 9000:=λl hl z hz=>by
    obtain⟨i,hi⟩:=VH hl;obtain⟨j,hj⟩:=VH hz;have h1:=(Xp.mp hi).1
    have h2:=(Xp.mp hj).1;have h3:=QY l hl
    have:=ZE8 Nc ym Cp dC (i:=i) (j:=j) (by lia) (by lia)
    rw[OK hi hj]at this;exact this
   refine⟨_,rfl,rA,ys,R,rfl,SqL.of Ru,hR.imp λ_ _ h=>h.list,λl hl=>by rw[QY l hl];lia,λH5 s5 h0=>?_,λt H5 s5 ht XJ=>?_⟩
   .refine⟨_,rfl,rfl,_,rfl,?_⟩;refine zR (c:=V.non=V.non) rfl ?_;have z:det n A=0:=by
     have:=rp Nc λi hi=>h0 i (by lia)
     rw[show k+M+1=n by lia]at this;exact this
    rw[Jd,z,Su]at q;exact q H5 (s4.trans s5)
   refine⟨_,rfl,rfl,_,rfl,?_⟩;refine Kc (c:=V.int (t:Int)=V.non) (λz=>nomatch z) ?_;refine nm ?_;dsimp only;refine og (λσ H6=>∃ Nb:Int,H6=H5/\σ=[some (.ref a),some (.ref rA),some (.int Nb),some (.int last),some (.int t),v5]/\Nb=sgn * sg t) ?_ ?_
   .rintro σ H6 ⟨Nb,rfl,rfl,Co⟩;have Na:=s5 _ _ Ru
    have dy:=hR.imp λ_ _ h=>h.same s5;obtain⟨l,hl⟩:∃ l,R[t]?=some l:=⟨_,Xo ht⟩;have Hy:=QY l (Xd hl)
    obtain⟨y,p',rfl⟩:∃ y p',l=y :: p':=by
     cases l with
     | nil=>cases Hy
     | cons y p'=>exact⟨y,p',rfl⟩
    have Vj:p'.length=M:=by rw[Yz]at Hy;lia
    obtain⟨v,hv,pA,rfl,n4,hpn⟩:=dy.2 t _ hl;have hy0:y≠0:=by rw[OK hl rfl]at XJ;exact XJ
    refine⟨_,rfl,.inl ⟨rfl,_,SqL.of Na⟩,_,rfl,rA,ys,(t:Int),t,.ref pA,rfl,rfl,Na,by lia,by lia,by rw[El (by lia) (by lia),YA],hv,?_⟩;have Cn:(upd H6 rA (.lst (ys.eraseIdx t))) pA=some (.lst (IL (y :: p'))):=by rw[Zb hpn];exact n4
    have s7:Same H (upd H6 rA (.lst (ys.eraseIdx t))):=ZE Vk (s4.trans s5);have dw:Bears (LiV rA (upd H6 rA (.lst (ys.eraseIdx t)))) (ys.eraseIdx t) (R.eraseIdx t):=(dy.erase t).imp λ_ _ h=>h.mut
    have Cm:(upd H6 rA (.lst (ys.eraseIdx t))) rA=some (.lst (ys.eraseIdx t)):=XR;generalize upd H6 rA (.lst (ys.eraseIdx t))=H7 at *;have dv:(R.eraseIdx t).length=M:=by rw[AI,if_pos ht];lia
    have Jc:∀ l∈R.eraseIdx t,l.length=M+1:=λl h=>QY l (xK h);have hy7:=dw.1
    refine⟨_,rfl,rA,rfl,⟨_,SqL.of Cm⟩,NV (K:=K) (a:=rA) (xs:=ys.eraseIdx t) (λi zs H8=>Same H7 H8/\i<=(ys.eraseIdx t).length/\Bears (ON H8) zs (((R.eraseIdx t).take i).map (PZ y p' last))) ⟨Same.refl _,Yo _,⟨rfl,λi l e=>by simp at e⟩⟩ (Zm (by lia)) (λi zs H8 hi ⟨e,VA,ez⟩=>⟨SqL.of (e _ _ Cm),by rw[ez.1,Yd,YB];lia⟩) ?_ ?_⟩
    .rintro i v zs H8 hi ⟨s8,Vn,yk⟩ S Xe;obtain⟨l,LV,r,rfl,hr,_⟩:=dw.at hi;have Xk:=(Xp.mp hi).1
     have Rj:=Jc l (Xd LV);obtain⟨x,l',rfl⟩:∃ x l',l=x :: l':=by
      cases l with
      | nil=>cases Rj
      | cons x l'=>exact⟨x,l',rfl⟩
     have Ss:l'.length=M:=by rw[Yz]at Rj;lia
     refine nm ?_;refine⟨_,rfl,_,rfl,_,rfl,r,pA,x,y,last,l',p',rfl,SqL.of (s8 _ _ hr),SqL.of (s8 _ _ Cn),by lia,by lia,Nc.1,dz,Ez _ (xK (Xd LV)),Ez _ (Xd hl),λc H9 s9 Ck hc=>Xe _ _ ⟨s8.trans s9,Xk,?_⟩⟩;rw[WA,LV,QP];exact(yk.imp λ_ _ ⟨r',e,h⟩=>⟨r',e,s9 _ _ h⟩).snoc ⟨c,rfl,hc⟩
    rintro zs H8 ⟨s8,_,yk⟩ cA Jb;rw[hy7,YK]at yk;have s9:=XH (o:=.lst zs) Jb
    refine⟨_,rfl,pA,_,0,.int y,rfl,rfl,SqL.of (s9 _ _ (s8 _ _ Cn)),ZN (n:=0) rfl rfl,?_⟩;have yQ:Sl (λi=>A (rotN k t i)) k (M+1) (fnL ((y :: p') :: R.eraseIdx t)) last:=by rw[rd hl];exact rq Nc (by lia)
    have Jm:Sl (λi=>A (rotN k t i)) (k+1) M (fnL ((R.eraseIdx t).map (PZ y p' last))) y:=rC yQ hy0 λi j hi hj=>q9 Vj dv Jc hi hj;have hdr:=rJ (n:=n) (k:=k) (t:=t) (A:=A) (by lia)
    refine⟨λi=>A (rotN k t i),k+1,cA,zs,(R.eraseIdx t).map (PZ y p' last),Nb,y,_,_,rfl,s7.trans (s8.trans s9),(s7.trans s8).free Jb,XR,?_,by rw[Yd];exact dv,λl h=>?_,by lia,Jm,?_,λi j hi hj=>dC _ _ ?_ hj,λe0=>?_,?_,Ez _ (Xd hl) y Ye⟩
    .exact yk.imp λv l ⟨r,e,h⟩=>⟨r,e,s9 _ _ h,Zc h Jb⟩
    .obtain⟨l0,h0,rfl⟩:=YC.mp h;rw[gk (by rw[Jc l0 h0,Vj]),Vj]
    .rw[hdr,Jd,Co,Sw,<- Sw (sg t),DK,SX]
    .unfold rotN;split
     .grind
     .split
      .lia
      .split <;> lia
    .subst e0
     have:=rn yQ
     rw[show k+1=n by lia]at this;exact this
    .rw[Co];have WB:sg t=1\/sg t=-1:=by
      unfold sg;split
      .exact .inl rfl
      .exact .inr rfl
     rcases dB with e | e <;> rcases WB with f | f <;> rw[e,f]
     .exact .inl rfl
     .exact .inr rfl
     .exact .inr rfl
     .exact .inl rfl
   .intro Kn hK;refine⟨_,rfl,_,_,rfl,rfl,(by show(0:Int)<2;decide),rfl,_,rfl,?_⟩;rw[ZC];refine WV (λh1=>?_) (λh1=>?_)
    .refine⟨_,rfl,_,rfl,hK _ _ ⟨-sgn,rfl,rfl,?_⟩⟩;have e:sg t=-1:=by unfold sg;rw[if_neg (by lia)]
     rw[e];lia
    .refine hK _ _ ⟨sgn,rfl,rfl,?_⟩;have e:sg t=1:=by unfold sg;rw[if_pos (by lia)]
     rw[e];grind
  .have QX:m=0:=by lia
   refine⟨_,rfl,_,rfl,_,_,rfl,rfl,⟨?_,dz⟩,?_⟩
   .rcases dB with e | e <;> rw[e] <;> exact Nat.one_lt_two_pow (by decide)
   .rw[n5 QX]at *;rw[Jd]at q;exact q H4 s4
def nZ(K:Ad):Sp:=λvs H Q _=>∃(a:Addr) (l:Ac) (i:Nat),vs=[.ref a,.int i]/\SqL K H a (IL l)/\l.length<=1000/\∀(r:Addr) (H':Hp),Same H H'->H r=none->H' r=some (.lst (IL (cutz l i)))->Q (.ref r) H'
theorem nY(l:Ac)(z:Int):cutz (IL l) z=IL (cutz l z):=by
 unfold cutz;show(l.map V.int).take _++(l.map V.int).drop _=(l.take _++l.drop _).map V.int
 rw[QP,List.map_take,List.map_drop]
theorem nX:FnScope ["row","number"] ["row","number"] (XA sZ4):=⟨rfl,rfl,rfl,by decide +kernel,rfl,by decide +kernel,by decide +kernel⟩
theorem nW (T:Txt K mg t):FnOk P w K mg base Xl 1 t.aZ4 t.dZ4 ["row","number"] (nZ K):=by
 refine T.fZ4.ok nX (λvs H Q E h=>?_) (λXz A outer s H vs Q E hr h=>?_)
 .obtain⟨a,l,i,rfl,_⟩:=h;rfl
 .obtain⟨a,l,i,rfl,hA,hl,q⟩:=h;refine⟨_,(XG (Zh (Zn zV (Zr (HQ K) (by rfl) T.n_list Boot.«list» (XZ (Mp (Ml K) (pv 0) Kr (Od (pv 1))) XY)) (Zr (HQ K) (by rfl) T.n_list Boot.«list» (XZ (Mp (Ml K) (pv 0) (Od (Zn WO (pv 1) Za)) Kr) XY))))),?_⟩;refine⟨_,rfl,_,rfl,(i:Int),rfl,a,_,rfl,hA,λp1 UK=>?_⟩;have u1:=XH (o:=.lst (WM (IL l) none (some (i:Int)))) UK
  refine⟨p1,_,rfl,.inl (SqL.of XR),λp2 VU=>?_⟩;have u2:=XH (o:=.lst (WM (IL l) none (some (i:Int)))) VU
  refine⟨_,rfl,_,rfl,_,_,rfl,rfl,_,rfl,a,_,rfl,(u1.trans u2).seq hA,λp3 Nj=>?_⟩;have u3:=XH (o:=.lst (WM (IL l) (some ((i:Int)+1)) none)) Nj
  refine⟨p3,_,rfl,.inl (SqL.of XR),λp4 LH=>?_⟩;have u4:=XH (o:=.lst (WM (IL l) (some ((i:Int)+1)) none)) LH
  have c1:=Qz (IL l) none (some (i:Int));have c2:=Qz (IL l) (some ((i:Int)+1)) none
  rw[Xr]at c1 c2;refine⟨p2,p4,_,_,rfl,rfl,(u3.trans u4) _ _ XR,XR,TN (by lia),λp5 yj=>?_⟩;have du:=u1.trans (u2.trans (u3.trans u4))
  refine q p5 _ (du.trans (XH yj)) (du.free yj) ?_;rw[XR,sv (by lia),nY]
def nV(K:Ad):Sp:=λvs H Q _=>∃(a:Addr) (ys:List V) (L:Ab) (i:Nat),vs=[.ref a,.int i]/\SqL K H a ys/\Bears (ON H) ys L/\L.length<=1000/\(∀ l∈L,l.length<=1000)/\i<L.length /\
 ∀(r:Addr) (zs:List V) (H':Hp),Same H H'->H' r=some (.lst zs)->Bears (ON H') zs ((cutz L i).map λl=>cutz l (i:Int))->Q (.ref r) H'
theorem Cj{α:Type}{l:List α}{i j:Nat}{x:α}(hx:l[j]?=some x):cutz (l.take (j+1)) (i:Int)=cutz (l.take j) (i:Int)++(if j=i then [] else [x]):=by
 have hj:=(Xp.mp hx).1;have e:l.take (j+1)=l.take j++[x]:=by rw[WA,hx];rfl
 have hl:(l.take j).length=j:=by rw[YB];grind
 have short:∀ m:List α,m.length<=i->cutz m (i:Int)=m:=λm hm=>by unfold cutz;rw[YA,UH hm,Lu (by lia),YF]
 rw[e];by_cases c:j=i
 .subst c;rw[if_pos rfl,YF,short (l.take j) (by lia)];unfold cutz;rw[YA,xP (by lia),Lu (by rw[Xs,hl];exact XO _),YF,UH (by omega)]
 .rw[if_neg c];by_cases d:j<i
  .rw[short (l.take j++[x]) (by rw[Xs,hl];exact d),short (l.take j) (by lia)]
  .unfold cutz;rw[YA,xP (by grind),xO (by lia),QU]
theorem nU:FnScope ["table","number"] ["table","number"] (XA sZ5):=⟨rfl,rfl,rfl,by decide +kernel,rfl,by decide +kernel,by decide +kernel⟩
theorem nS (T:Txt K mg t):FnOk P w K mg base Xl 2 t.aZ5 t.dZ5 ["table","number"] (nV K):=by
 refine T.fZ5.ok nU (λvs H Q E h=>?_) (λXz A outer s H vs Q E hr h=>?_)
 .obtain⟨a,ys,L,i,rfl,_⟩:=h;rfl
 .obtain⟨a,ys,L,i,rfl,hA,hB,hL,Hq,hi,q⟩:=h;refine⟨_,(XG (Zh (Sn rfl (sc0:=XA sZ5) (N0:=["table","number"]) (N':=["at","row","number"]) (o:=2) (fr:=[1]) ⟨rfl,by decide +kernel,by decide +kernel,by decide +kernel,rfl,by decide +kernel⟩ (Mj K rfl T.n_enumerate (XZ (pv 0) XY)) (Fc (Vb (by decide) (Vb (by decide) Fd))) (λ_ _ _ _=>(Qm (n:=2) K rfl (Zu (Ze (i:=0) (show List.Nodup (["at","row","number"]:List Str) by decide +kernel) rfl (Or.inl rfl)) (Zu (Ze (i:=1) (show List.Nodup (["at","row","number"]:List Str) by decide +kernel) rfl (Or.inl rfl)) QG)))) (λ_ _ _ _=>(Qw (Zg OT (pv 0) (pv 2) (Zv _)))) (λ_ _ _ _=>(XF (nW T) (hr.mono (by decide)) rfl T.mZ4 T.fZ4.kp T.bZ4 .nil Zs (XZ (pv 1) (XZ (pv 2) XY))))))),?_⟩;have yn:=hB.1
  refine⟨_,rfl,a,rfl,⟨_,hA⟩,zr (K:=K) (a:=a) (xs:=ys) (λj zs H2=>Same H H2/\j<=ys.length/\Bears (ON H2) zs ((cutz (L.take j) (i:Int)).map λl=>cutz l (i:Int))) ⟨Same.refl _,Yo _,by rw[show(cutz (L.take 0) (i:Int)).map (λl=>cutz l (i:Int))=[] by unfold cutz;simp];exact⟨rfl,λi l e=>by simp at e⟩⟩ (Zm (by lia)) (λj zs H2 hj ⟨e,Ra,ez⟩=>⟨e.seq hA,by
   rw[ez.1,Yd];refine Yr (su _ _) ?_;rw[YB]
   lia⟩) ?_ ?_⟩
  .rintro j v zs H2 pt Ur hj ⟨s2,NP,hZ⟩ S Xe;obtain⟨l,hl,r,rfl,hr⟩:=hB.at hj;have VV:=(Xp.mp hj).1
   have s3:=XH (o:=.tup [.int j,.ref r]) Ur;refine⟨pt,_,rfl,SqT.of XR,rfl,_,_,rfl,_,_,rfl,rfl,?_⟩;have dt:Bears (ON (upd H2 pt (.tup [.int j,.ref r]))) zs ((cutz (L.take j) (i:Int)).map λl=>cutz l (i:Int)):=hZ.imp λ_ _ ⟨r',e,h⟩=>⟨r',e,s3 _ _ h⟩
   have nR:=s2.trans s3;generalize upd H2 pt (.tup [.int j,.ref r])=H3 at *;refine⟨_,rfl,_,rfl,rfl,_,rfl,?_⟩;rw[ZC];refine WE (λe=>?_) (λe=>?_)
   .refine Xe _ _ ⟨nR,VV,?_⟩;rw[Cj hl,if_pos (by lia),YF];exact dt
   .refine⟨_,rfl,_,rfl,r,l,i,rfl,SqL.of (nR _ _ hr),Hq l (Xd hl),λc H4 s4 _ hc=>Xe _ _ ⟨nR.trans s4,VV,?_⟩⟩;rw[Cj hl,if_neg (by lia),QP];exact(dt.imp λ_ _ ⟨r',e,h⟩=>⟨r',e,s4 _ _ h⟩).snoc ⟨c,rfl,hc⟩
  .rintro zs H2 ⟨s2,_,hZ⟩ p hp;rw[yn,YK]at hZ;exact q p zs _ (s2.trans (XH hp)) XR (hZ.imp λ_ _ ⟨r',e,h⟩=>⟨r',e,XH hp _ _ h⟩)
def nQ(C:Addr):Sp:=λvs H Q _=>∃(w:Addr) (n:Int) (ps:Aa) (k:Int),vs=[.ref w,.int k]/\WebAt C H w n ps/\Q (.bl (decide (0<=k/\k<(ps.length:Int)))) H
theorem nP:FnScope ["web","number"] ["web","number"] (XA sZ6):=⟨rfl,rfl,rfl,by decide +kernel,rfl,by decide +kernel,by decide +kernel⟩
theorem Ci (T:Txt K mg t):FnOk P w K mg base Xl 1 t.aZ6 t.dZ6 ["web","number"] (nQ t.A_Web):=by
 refine T.fZ6.ok nP (λvs H Q E h=>?_) (λXz A outer s H vs Q E hr h=>?_)
 .obtain⟨w,n,ps,k,rfl,_⟩:=h;rfl
 .obtain⟨w,n,ps,k,rfl,⟨dx,tl,xs,h1,h2,h3⟩,q⟩:=h;refine⟨_,(XG (Zh (bw TY RW Za (pv 1) (Zd (Zo K) (by rfl) T.n_len Boot.«len» (XZ (Zl K (pv 0) rfl) XY))))),?_⟩;refine⟨_,rfl,_,_,rfl,rfl,_,rfl,?_⟩;refine Fg (λhc=>?_) (λhc=>?_)
  .refine⟨_,rfl,w,_,dx,_,_,rfl,h1,T.cl_Web,T.n_Web_ties,Qo _ _,tl,xs,rfl,.inl (SqL.of h2),_,_,rfl,rfl,?_⟩;have hc:=Yu hc
   show Q (.bl (decide (k<(xs.length:Int)))) H;rw[h3.1,show decide (k<(ps.length:Int))=decide (0<=k/\k<(ps.length:Int)) from by simp[hc]];exact q
  .have hc:¬ (0<=k):=λz=>hc (Yw z);show Q (.bl false) H
   rw[show(false:Bool)=decide (0<=k/\k<(ps.length:Int)) from by simp;lia];exact q
def nO(K:Ad):Sp:=λvs H Q _=>∃(n:Int) (a:Addr) (kd:Bool) (xs:List V) (ps:Aa),vs=[.int n,.ref a]/\SqK kd K H a xs/\PairsV H xs ps/\Zt n ps/\Q .non H
theorem Ja:FnScope ["places","ties","ends","end"] ["places","ties"] (XA sZ7):=⟨rfl,rfl,rfl,by decide +kernel,rfl,by decide +kernel,by decide +kernel⟩
theorem nN (T:Txt K mg t):FnOk P w K mg base Xl 1 t.aZ7 t.dZ7 ["places","ties"] (nO K):=by
 refine T.fZ7.ok Ja (λvs H Q E h=>?_) (λXz A outer s H vs Q E hr h=>?_)
 .obtain⟨n,a,kd,xs,ps,rfl,_⟩:=h;rfl
 .obtain⟨n,a,kd,xs,ps,rfl,hS,hp,⟨g1,g2,g3,g4⟩,q⟩:=h;refine⟨_,(XN (Ww (OW (i5 TY TY Za (pv 0) (Gx (v:=V.int 14) rfl T.g_MOST_PLACES.choose_spec ⟨_,rfl⟩)))
   (XG Mr)
   Zp)
   (XN (Ww (Zg RV (Zd (Zo K) (by rfl) T.n_len Boot.«len» (XZ (pv 1) XY)) (Gx (v:=V.int 30) rfl T.g_MOST_TIES.choose_spec ⟨_,rfl⟩) (Zv _))
   (XG Mr)
   Zp)
   (XG (Sq Ws rfl (TL K (pv 1)) (Ze (i:=2) Ja.nd rfl (Or.inl rfl))
   (XG (Sq Ws rfl (t5 K (pv 2)) (Ze (i:=3) Ja.nd rfl (Or.inl rfl))
   (XG (Ww (OW (i5 TY RW Za (pv 3) (pv 0)))
   (XG Mr)
   Zp)))))))),?_⟩
  refine⟨_,rfl,_,_,rfl,rfl,_,rfl,?_⟩;refine zR g1 ?_;refine⟨_,_,rfl,rfl,_,rfl,?_⟩;refine ud g2 ?_;refine⟨_,rfl,a,xs,rfl,hS.or,_,_,rfl,rfl,_,rfl,?_⟩;refine Kc (by rw[hp.1];lia) ?_;refine⟨_,rfl,a,rfl,zQ (k:=kd) (K:=K) (xs:=xs) (λi σ H2=>∃ v v2,σ=[some (.int n),some (.ref a),v,v2]/\H2=H) ⟨none,none,rfl,rfl⟩ (λi σ H2 _ ⟨_,_,_,e⟩=>e ▸ hS) ?_ ?_⟩
  .rintro i x σ H2 hi ⟨v,v2,rfl,rfl⟩;obtain⟨p,Ql,tt,rfl,ht⟩:=hp.at hi;obtain⟨e1,e2,e3,e4⟩:=g4 p (Xd Ql);refine⟨_,rfl,tt,rfl,⟨_,SqT.of ht⟩,i8 (K:=K) (a:=tt) (xs:=[.int p.1,.int p.2]) (λj σ H3=>∃ v v2,σ=[some (.int n),some (.ref a),v,v2]/\H3=H2) ⟨_,_,rfl,rfl⟩ (λj σ H3 _ ⟨_,_,_,e⟩=>e ▸ SqT.of ht) ?_ ?_⟩
   .rintro j y σ H3 hj ⟨v,v2,rfl,rfl⟩;have hy:∃ z:Int,y=.int z/\0<=z/\z<n:=by
     match j,hj with
     | 0,hj=>exact⟨p.1,(Yi hj).symm,e1,e2⟩
     | 1,hj=>exact⟨p.2,(Yi hj).symm,e3,e4⟩
    obtain⟨z,rfl,z1,z2⟩:=hy;refine⟨_,rfl,_,_,rfl,rfl,_,rfl,?_⟩;refine zR z1 ?_;refine⟨_,rfl,_,_,rfl,rfl,_,rfl,?_⟩;refine ud z2 ?_;exact⟨_,_,rfl,rfl⟩
   .rintro σ H3 ⟨v,v2,rfl,rfl⟩;exact⟨_,_,rfl,rfl⟩
  .rintro σ H2 ⟨v,v2,rfl,rfl⟩;exact q
def Zw5(K:Ad)(C:Addr):Sp:=λvs H Q _=>∃(w dx:Addr) (n:Int) (a:Addr) (kd:Bool) (xs:List V) (ps:Aa),vs=[.ref w,.int n,.ref a]/\H w=some (.ins C dx [])/\(∀ o,SqK kd K (upd H w o) a xs)/\PairsV H xs ps/\Zt n ps /\
 ∀ H':Hp,WebAt C H' w n ps->(∀ b o,H b=some o->b≠w->H' b=some o)->Q .non H'
theorem nM:FnScope ["self","places","ties"] ["self","places","ties"] (XA sZ8):=⟨rfl,rfl,rfl,by decide +kernel,rfl,by decide +kernel,by decide +kernel⟩
theorem Cg (T:Txt K mg t):FnOk P w K mg base Xl 2 t.aZ8 t.dZ8 ["self","places","ties"] (Zw5 K t.A_Web):=by
 refine T.fZ8.ok nM (λvs H Q E h=>?_) (λXz A outer s H vs Q E hr h=>?_)
 .obtain⟨w,dx,n,a,kd,xs,ps,rfl,_⟩:=h;rfl
 .obtain⟨w,dx,n,a,kd,xs,ps,rfl,hw,hS,hp,g,q⟩:=h;have eH:upd H w (.ins t.A_Web dx [])=H:=by
   funext b
   by_cases hb:b=w
   .subst hb;rw[XR,hw]
   .rw[Zb hb]
  have HL:SqK kd K H a xs:=by have z:=hS (.ins t.A_Web dx []);rw[eH]at z;exact z
  refine⟨_,(XN (ZZ (XF (nN T) (hr.mono (by decide)) rfl T.mZ7 T.fZ7.kp T.bZ7 .nil Zs (XZ (pv 1) (XZ (pv 2) XY))))
   (XN (Uz (pv 0) (pv 1) rfl)
   (XG (Uz (pv 0) (Sn rfl (sc0:=XA sZ8) (N0:=["self","places","ties"]) (N':=["ends"]) (o:=1) (fr:=[]) ⟨rfl,by decide +kernel,by decide +kernel,by decide +kernel,rfl,by decide +kernel⟩ (TL K (pv 2)) (Zz (by decide)) (λ_ _ _ _=>(Ze (i:=0) (show List.Nodup (["ends"]:List Str) by decide +kernel) rfl (Or.inl rfl))) (λ_ _ _ _=>Ri) (λ_ _ _ _=>(SR (XZ (ZQ (ZK K) (pv 0) Za (λ_ _=>rfl)) (XZ (ZQ (ZK K) (pv 0) Za (λ_ _=>rfl)) XY))))) rfl)))),?_⟩
  refine⟨_,rfl,_,rfl,n,a,kd,xs,ps,rfl,HL,hp,g,?_⟩;refine⟨_,rfl,_,rfl,w,_,dx,[],rfl,hw,T.cl_Web,T.n_Web_places,(by show 0<1000;decide),?_⟩;have UK:PairsV (upd H w (.ins t.A_Web dx (XQ "places" (.int n) []))) xs ps:=⟨hp.1,λi p e=>by obtain⟨v,e1,tt,e2,e3⟩:=hp.2 i p e;exact⟨v,e1,tt,e2,by rw[Zb (OY e3 hw (λz=>nomatch z))];exact e3⟩⟩
  have sx:xs.length<sizeLine:=Zm (by rw[hp.1];have:=g.2.2.1;lia);refine⟨_,rfl,a,rfl,zP (k:=kd) (K:=K) (xs:=xs) (λi ys H2=>i<=xs.length/\ys.length=i/\Same (upd H w (.ins t.A_Web dx (XQ "places" (.int n) []))) H2/\PairsV H2 ys (ps.take i)) ⟨Yo _,rfl,Same.refl _,PairsV.nil⟩ sx
   (λi ys H2 _ ⟨_,hl,s2,_⟩=>⟨(hS _).same s2,Nat.le_of_eq hl⟩) ?_ ?_⟩
  .rintro i x ys H2 hi ⟨h1,hl,s2,hy⟩ S Xe;obtain⟨p,Ql,tt,rfl,ht⟩:=UK.at hi;have IZ:=s2 _ _ ht
   refine ix ?_;refine⟨_,rfl,tt,_,0,.int p.1,rfl,rfl,SqT.of IZ,rfl,_,rfl,tt,_,1,.int p.2,rfl,rfl,SqT.of IZ,rfl,(by show 2<=sizeLine;decide),λq hq=>?_⟩;have Vn:i<xs.length:=(Xp.mp hi).1
   refine Xe _ _ ⟨Vn,by rw[Xs,hl];rfl,Zw s2 hq,?_⟩;rw[WA,Ql];exact(hy.same (XH hq)).snoc ⟨q,rfl,XR⟩
  .rintro ys H2 ⟨_,hl,s2,hy⟩ tl nL;have nK:=s2 w _ XR
   have dq:w≠tl:=Zc nK nL;refine⟨_,rfl,w,_,dx,_,rfl,(by rw[Zb dq];exact nK),T.cl_Web,T.n_Web_ties,(by show 1<1000;decide),?_⟩;refine q _ ⟨dx,tl,ys,XR,by rw[Zb (YY dq),XR],?_⟩ λb ob e hb=>?_
   .have e1:ps.take xs.length=ps:=UH (by rw[hp.1];exact XO _);rw[e1]at hy;refine⟨hy.1,λi p e=>?_⟩;obtain⟨v,e2,tt,e3,e4⟩:=hy.2 i p e;exact⟨v,e2,tt,e3,by rw[Zb (OY e4 nK (λz=>nomatch z)),Zb (Zc e4 nL)];exact e4⟩
   .have e2:=s2 b ob (by rw[Zb hb];exact e);rw[Zb hb,Zb (Zc e2 nL)];exact e2
def nJ(K:Ad)(C:Addr):Sp:=λvs H Q _=>∃(w:Addr) (n:Int) (ps:Aa),vs=[.ref w]/\WebAt C H w n ps/\ps.length<=1000 /\
 ∀(r:Addr) (H':Hp),Same H H'->H r=none->H' r=some (.tup (IL (Wo ps.length)))->Q (.ref r) H'
theorem nI:FnScope ["web"] ["web"] (XA sZ9):=⟨rfl,rfl,rfl,by decide +kernel,rfl,by decide +kernel,by decide +kernel⟩
theorem nH (T:Txt K mg t):FnOk P w K mg base Xl 1 t.aZ9 t.dZ9 ["web"] (nJ K t.A_Web):=by
 refine T.fZ9.ok nI (λvs H Q E h=>?_) (λXz A outer s H vs Q E hr h=>?_)
 .obtain⟨w,n,ps,rfl,_⟩:=h;rfl
 .obtain⟨w,n,ps,rfl,⟨dx,tl,xs,h1,h2,h3⟩,hl,q⟩:=h;refine⟨_,(XG (Zh (Zr (Zl3 rfl) (by rfl) T.n_tuple Boot.«tuple» (XZ (Zr iF (by rfl) T.n_range Boot.«range» (XZ (Zd (Zo K) (by rfl) T.n_len Boot.«len» (XZ (Zl K (pv 0) rfl) XY)) XY)) XY)))),?_⟩;have hx:=h3.1
  refine⟨_,rfl,w,_,dx,_,_,rfl,h1,T.cl_Web,T.n_Web_ties,Qo _ _,tl,xs,rfl,.inl (SqL.of h2),_,rfl,λr hr=>⟨r,0,_,rfl,XR,⟨by decide,by decide,by lia,by lia⟩,by lia,λl hl=>?_⟩⟩;refine q l _ (Zw (XH hr) hl) ((XH hr).free hl) ?_;rw[XR,hx,ZN9]
def nG(K:Ad)(C:Addr):Sp:=λvs H Q _=>∃(w a:Addr) (n:Int) (ps:Aa) (kd:Bool) (T:Ac),vs=[.ref w,.ref a]/\WebAt C H w n ps/\ps.length<=1000/\SqK kd K H a (IL T) /\
 ∀(D:Ac),D.Pairwise (· < ·)->(∀ z,z∈D↔(0<=z/\z<(ps.length:Int))/\z∉T)->∀(r:Addr) (H':Hp),Same H H'->H' r=some (.tup (IL D))->Q (.ref r) H'
theorem nF:FnScope ["web","ties"] ["web","ties"] (XA sZa):=⟨rfl,rfl,rfl,by decide +kernel,rfl,by decide +kernel,by decide +kernel⟩
theorem nE (T:Txt K mg t):FnOk P w K mg base Xl 1 t.aZa t.dZa ["web","ties"] (nG K t.A_Web):=by
 refine T.fZa.ok nF (λvs H Q E h=>?_) (λXz A outer s H vs Q E hr h=>?_)
 .obtain⟨w,a,n,ps,kd,T,rfl,_⟩:=h;rfl
 .obtain⟨w,a,n,ps,kd,T',rfl,hW,hl,hA,q⟩:=h;refine⟨_,(XG (Zh (Zr (ZI K) (by rfl) T.n_tuple Boot.«tuple» (XZ (Sn rfl (sc0:=XA sZa) (N0:=["web","ties"]) (N':=["tie","ties"]) (o:=1) (fr:=[1]) ⟨rfl,by decide +kernel,by decide +kernel,by decide +kernel,rfl,by decide +kernel⟩ (HY rfl T.n_range (XZ (Zd (Zo K) (by rfl) T.n_len Boot.«len» (XZ (Zl K (pv 0) rfl) XY)) XY)) (Zz (by decide)) (λ_ _ _ _=>(Ze (i:=0) (show List.Nodup (["tie","ties"]:List Str) by decide +kernel) rfl (Or.inl rfl))) (λ_ _ _ _=>(Qw (Zg (HR K) (pv 0) (pv 1) rfl))) (λ_ _ _ _=>(pv 0))) XY)))),?_⟩;obtain⟨dx,tl,xs,h1,h2,h3⟩:=hW;have Nx:=h3.1
  refine⟨_,rfl,w,_,dx,_,_,rfl,h1,T.cl_Web,T.n_Web_ties,Qo _ _,tl,xs,rfl,.inl (SqL.of h2),_,rfl,by lia,by lia,NU (lo:=0) (n:=(xs.length:Int).toNat) (λj ys H3=>H3=H/\∃ D:Ac,ys=IL D/\D.length<=j/\D.Pairwise (· < ·)/\∀ z,z∈D↔(0<=z/\z<(j:Int))/\z∉T') ⟨rfl,[],rfl,XO _,.nil,λz=>⟨λh=>(by cases h),λh=>(by lia)⟩⟩ (Zm (by lia)) (λj ys H3 _ ⟨_,D,e,hl,_⟩=>by rw[e,Xr];exact hl) ?_ ?_⟩
  .rintro j ys H3 hj ⟨rfl,D,rfl,dk,hp,hm⟩ S Xe;have lt:∀ z∈D,z<(j:Int):=λz hz=>((hm z).mp hz).1.2
   refine nm ?_;refine⟨_,rfl,_,rfl,a,_,rfl,hA.or,rfl,ZT _,_,rfl,?_⟩;rw[NQ,Ig];refine WE (λWi=>?_) (λWi=>?_)
   .refine Xe _ _ ⟨rfl,D,rfl,by lia,hp,λz=>?_⟩;rw[hm z];refine⟨λh=>⟨by lia,h.2⟩,λh=>⟨⟨h.1.1,?_⟩,h.2⟩⟩;by_cases e:z=(j:Int)
    .exact absurd (e ▸ Wi) h.2
    .lia
   .refine⟨_,rfl,Xe _ _ ⟨rfl,D++[(j:Int)],?_,by rw[Xs];exact Nat.succ_le_succ dk,?_,λz=>?_⟩⟩
    .rw[ZX]
    .exact Pe.mpr ⟨hp,Iq _ _,λa ha b hb=>by rw[XD.mp hb];exact lt a ha⟩
    .rw[Xy,XD,hm z];constructor
     .rintro(⟨f1,f2⟩ | h)
      .exact⟨by lia,f2⟩
      .rw[h];exact⟨by lia,Wi⟩
     .rintro⟨f1,f2⟩;by_cases e:z=(j:Int)
      .exact .inr e
      .exact .inl ⟨by lia,f2⟩
  rintro ys H3 ⟨rfl,D,rfl,dk,hp,hm⟩ la nB;rw[show(((xs.length:Int).toNat:Nat):Int)=(ps.length:Int) by lia]at hm;refine⟨la,_,rfl,.inl ⟨SqL.of XR,λtp JM=>?_⟩⟩;exact q D hp hm tp _ ((XH nB).trans (XH JM)) XR
def nz(K:Ad):Sp:=λvs H Q _=>∃(a:Addr) (kd:Bool) (ns:Ac) (z:Int),vs=[.ref a,.int z]/\SqK kd K H a (IL ns)/\ns.length<=1000 /\
 ∀(r:Addr) (H':Hp),Same H H'->H r=none->H' r=some (.tup (IL (wo ns z)))->Q (.ref r) H'
theorem ny:FnScope ["ties","left_out"] ["ties","left_out"] (XA sZb):=⟨rfl,rfl,rfl,by decide +kernel,rfl,by decide +kernel,by decide +kernel⟩
theorem Cf (T:Txt K mg t):FnOk P w K mg base Xl 1 t.aZb t.dZb ["ties","left_out"] (nz K):=by
 refine T.fZb.ok ny (λvs H Q E h=>?_) (λXz A outer s H vs Q E hr h=>?_)
 .obtain⟨a,kd,ns,z,rfl,_⟩:=h;rfl
 .obtain⟨a,kd,ns,z,rfl,hS,hn,q⟩:=h;refine⟨_,(XG (Zh (Zr (ZI K) (by rfl) T.n_tuple Boot.«tuple» (XZ (Sn rfl (sc0:=XA sZb) (N0:=["ties","left_out"]) (N':=["tie","left_out"]) (o:=1) (fr:=[1]) ⟨rfl,by decide +kernel,by decide +kernel,by decide +kernel,rfl,by decide +kernel⟩ (TL K (pv 0)) (Zz (by decide)) (λ_ _ _ _=>(Ze (i:=0) (show List.Nodup (["tie","left_out"]:List Str) by decide +kernel) rfl (Or.inl rfl))) (λ_ _ _ _=>(Qw (Zg OT (pv 0) (pv 1) (Zv _)))) (λ_ _ _ _=>(pv 0))) XY)))),?_⟩;refine⟨_,rfl,a,rfl,zP (k:=kd) (K:=K) (xs:=IL ns) (λi ys H2=>H2=H/\i<=ns.length/\ys=IL (wo (ns.take i) z)) ⟨rfl,Yo _,rfl⟩ (Zm (by rw[Xr];lia))
   (λi ys H2 hi ⟨e,VA,ey⟩=>⟨e ▸ hS,by rw[ey,Xr];exact Yr (Mb _ _) (by rw[YB];lia)⟩) ?_ ?_⟩
  .rintro i x ys H2 hi ⟨rfl,Vn,rfl⟩ S Xe;obtain⟨y,rfl,hy⟩:=WL hi;have Xk:i<ns.length:=(Xp.mp hy).1
   refine nm ?_;refine⟨_,rfl,_,rfl,rfl,_,rfl,?_⟩;rw[ZC];refine WE (λhe=>?_) (λhe=>?_)
   .refine Xe _ _ ⟨rfl,Xk,?_⟩;rw[gW hy,if_neg (by simpa using he),YF]
   .refine⟨_,rfl,Xe _ _ ⟨rfl,Xk,?_⟩⟩;rw[gW hy,if_pos he,ZX]
  .rintro ys H2 ⟨rfl,_,rfl⟩ p hp;rw[Xr,YK];refine⟨p,_,rfl,.inl ⟨SqL.of XR,λr hr=>?_⟩⟩;exact q r _ (Zw (XH hp) hr) ((XH hp).free hr) XR
def nu(K:Ad)(C:Addr):Sp:=λvs H Q _=>∃(w a:Addr) (n:Int) (ps:Aa) (kd:Bool) (ns:Ac),vs=[.ref w,.ref a]/\WebAt C H w n ps/\SqK kd K H a (IL ns)/\∀ b:Bool,(b=true↔IsSet ps.length ns)->Q (.bl b) H
theorem MZ:FnScope ["web","ties","last","tie"] ["web","ties"] (XA sZc):=⟨rfl,rfl,rfl,by decide +kernel,rfl,by decide +kernel,by decide +kernel⟩
theorem Ce (T:Txt K mg t):FnOk P w K mg base Xl 2 t.aZc t.dZc ["web","ties"] (nu K t.A_Web):=by
 refine T.fZc.ok MZ (λvs H Q E h=>?_) (λXz A outer s H vs Q E hr h=>?_)
 .obtain⟨w,a,n,ps,kd,ns,rfl,_⟩:=h;rfl
 .obtain⟨w,a,n,ps,kd,ns,rfl,hW,hS,q⟩:=h;refine⟨_,(XN (Zk (i:=2) MZ.nd rfl (Or.inl rfl) (Ky vZ Za))
   (XN (Sq Ws rfl (TL K (pv 1)) (Ze (i:=3) MZ.nd rfl (Or.inl rfl))
   (XN (Ww (PW.pt (QJ (Zg TY (pv 3) (pv 2) (Zv _)) (Gw (OW (QK (XF (Ci T) (hr.mono (by decide)) rfl T.mZ6 T.fZ6.kp T.bZ6 .nil Zs (XZ (pv 0) (XZ (pv 3) XY))))))))
   (XG (Zh QL))
   Zp)
   (XG (Zk (i:=2) MZ.nd rfl (Or.inl rfl) (pv 3)))))
   (XG (Zh QL)))),?_⟩
  refine⟨_,rfl,?_⟩;refine⟨_,rfl,a,rfl,zQ (k:=kd) (K:=K) (xs:=IL ns) (λi σ H2=>∃(l:Int) (v:Option V),σ=[some (.ref w),some (.ref a),some (.int l),v]/\H2=H/\(i=0->l=-1)/\(i≠0->ns[i - 1]?=some l)/\∀ j z,j<i->ns[j]?=some z->0<=z/\z<(ps.length:Int)/\∀ y,j≠0->ns[j - 1]?=some y->y<z)
   ⟨-1,none,rfl,rfl,λ_=>rfl,λz=>absurd rfl z,λj z hj=>absurd hj (YZ j)⟩ (λi σ H2 _ ⟨_,_,_,e,_⟩=>e ▸ hS) ?_ ?_⟩
  .rintro i x σ H2 hi ⟨l,v,rfl,rfl,QZ,SI,hp⟩;obtain⟨z,rfl,hz⟩:=WL hi;refine⟨_,rfl,_,rfl,_,_,rfl,rfl,_,rfl,?_⟩;refine WV (λhc=>?_) (λhc=>?_)
   .-- tie<=last
    refine VF ?_;refine q false ⟨λz=>(nomatch z),λhs=>?_⟩;obtain⟨b1,b2,b3⟩:=hs i z hz;by_cases h0:i=0
    .have:=QZ h0;lia
    .have:=b3 l h0 (SI h0);lia
   .refine⟨_,rfl,_,rfl,w,n,ps,z,rfl,hW,_,rfl,?_⟩;refine WE (λVe=>?_) (λVe=>?_)
    .refine⟨_,rfl,?_⟩;refine⟨z,_,rfl,rfl,λe=>(nomatch e),λ_=>by simpa using hz,λj y hj ey=>?_⟩;by_cases hji:j<i
     .exact hp j y hji ey
     .have e:j=i:=by lia
      subst e;rw[hz]at ey;cases ey;refine⟨Ve.1,Ve.2,λy h0 ey=>?_⟩;rw[SI h0]at ey;cases ey;lia
    .refine q false ⟨λz=>(nomatch z),λhs=>?_⟩;obtain⟨b1,b2,b3⟩:=hs i z hz;exact absurd ⟨b1,b2⟩ Ve
  .rintro σ H2 ⟨l,v,rfl,rfl,QZ,SI,hp⟩;refine q true ⟨λ_ i z hz=>?_,λ_=>rfl⟩;have hi:i<(IL ns).length:=by rw[Xr];exact(Xp.mp hz).1
   exact hp i z hi hz
def nr(K:Ad)(C:Addr):Sp:=λvs H Q _=>∃(w a:Addr) (n:Int) (ps:Aa) (kd:Bool) (ns:Ac),vs=[.ref w,.ref a]/\WebAt C H w n ps/\SqK kd K H a (IL ns)/\IsSet ps.length ns /\
 ∀(r:Addr) (H':Hp),Same H H'->SqT K H' r (IL ns)->Q (.ref r) H'
theorem nq:FnScope ["web","ties"] ["web","ties"] (XA sZd):=⟨rfl,rfl,rfl,by decide +kernel,rfl,by decide +kernel,by decide +kernel⟩
theorem nj (T:Txt K mg t):FnOk P w K mg base Xl 3 t.aZd t.dZd ["web","ties"] (nr K t.A_Web):=by
 refine T.fZd.ok nq (λvs H Q E h=>?_) (λXz A outer s H vs Q E hr h=>?_)
 .obtain⟨w,a,n,ps,kd,ns,rfl,_⟩:=h;rfl
 .obtain⟨w,a,n,ps,kd,ns,rfl,hW,hS,hI,q⟩:=h;refine⟨_,(XN (Ww (OW (QK (XF (Ce T) (hr.mono (by decide)) rfl T.mZc T.fZc.kp T.bZc .nil Zs (XZ (pv 0) (XZ (pv 1) XY)))))
   (XG Mr)
   Zp)
   (XG (Zh (Zr (ZI K) (by rfl) T.n_tuple Boot.«tuple» (XZ (pv 1) XY))))),?_⟩
  refine⟨_,rfl,_,rfl,w,a,n,ps,kd,ns,rfl,hW,hS,λb hb=>⟨_,rfl,?_⟩⟩;refine Kb (λ_=>?_) (λz=>?_)
  .refine⟨_,rfl,a,IL ns,rfl,?_⟩;cases kd with
   | false=>exact .inl ⟨hS,λl hl=>q l _ (XH hl) (SqT.of XR)⟩
   | true=>exact .inr ⟨hS,q a H (Same.refl H) hS⟩
  .rw[hb.mpr hI]at z;cases z
def ni(K:Ad)(C:Addr):Sp:=λvs H Q _=>∃(w m a:Addr) (n:Int) (ps:Aa) (M:Ac) (kd:Bool) (ns:Ac),vs=[.ref w,.ref m,.ref a]/\WebAt C H w n ps/\Zt n ps/\H m=some (.lst (IL M))/\M.length=n.toNat/\SqK kd K H a (IL ns)/\(∀ z∈ns,0<=z/\z<(ps.length:Int)) /\
 ∀(m':Addr) (H':Hp),Same H H'->(m'=m\/H m'=none)->H' m'=some (.lst (IL (OM M (XT ps ns))))->Q (.ref m') H'
theorem Rt:FnScope ["web","marks","ties","tie","ends","low","high"] ["web","marks","ties"] (XA sZe):=⟨rfl,rfl,rfl,by decide +kernel,rfl,by decide +kernel,by decide +kernel⟩
theorem Cd (T:Txt K mg t):FnOk P w K mg base Xl 1 t.aZe t.dZe ["web","marks","ties"] (ni K t.A_Web):=by
 refine T.fZe.ok Rt (λvs H Q E h=>?_) (λXz A outer s H vs Q E hr h=>?_)
 .obtain⟨w,m,a,n,ps,M,kd,ns,rfl,_⟩:=h;rfl
 .obtain⟨w,m0,a,n,ps,M0,kd,ns,rfl,⟨dx,tl,xs,h1,h2,h3⟩,⟨g1,g2,g3,g4⟩,hm,hlM,hS,hI,q⟩:=h;refine⟨_,(XN (Sq Ws rfl (TL K (pv 2)) (Ze (i:=3) Rt.nd rfl (Or.inl rfl))
   (XN (Zk (i:=4) Rt.nd rfl (Or.inl rfl) (ZQ (Zi K) (Zl K (pv 0) rfl) (pv 3) (λ_ _=>rfl)))
   (XN (Zk (i:=5) Rt.nd rfl (Or.inr rfl) (Zd (vX rfl) (by rfl) T.n_min Boot.«min» (XZ (ZQ (Zi K) (pv 1) (ZQ (ZK K) (pv 4) Za (λ_ _=>rfl)) (λ_ _=>rfl)) (XZ (ZQ (Zi K) (pv 1) (ZQ (ZK K) (pv 4) Za (λ_ _=>rfl)) (λ_ _=>rfl)) XY))))
   (XN (Zk (i:=6) Rt.nd rfl (Or.inr rfl) (Zd (vY rfl) (by rfl) T.n_max Boot.«max» (XZ (ZQ (Zi K) (pv 1) (ZQ (ZK K) (pv 4) Za (λ_ _=>rfl)) (λ_ _=>rfl)) (XZ (ZQ (Zi K) (pv 1) (ZQ (ZK K) (pv 4) Za (λ_ _=>rfl)) (λ_ _=>rfl)) XY))))
   (XG (Ww (Zg RW (pv 5) (pv 6) (Zv _))
   (XG (NX (i:=1) rfl Rt.nd rfl rfl (sc0:=XA sZe) (N0:=["web","marks","ties","tie","ends","low","high"]) (N':=["mark","high","low"]) (o:=1) (fr:=[6,5]) ⟨rfl,by decide +kernel,by decide +kernel,by decide +kernel,rfl,by decide +kernel⟩ (Va K (pv 1)) (Zz (by decide)) (λ_ _ _ _=>(Ze (i:=0) (show List.Nodup (["mark","high","low"]:List Str) by decide +kernel) rfl (Or.inl rfl))) (λ_ _ _ _=>Ri) (λ_ _ _ _=>(jh (Zg RX (pv 0) (pv 1) (Zv _)) (pv 2) (pv 0)))))
   Zp))))))
   (XG (Zh (pv 1)))),?_⟩
  refine⟨_,rfl,a,rfl,zQ (k:=kd) (K:=K) (a:=a) (xs:=IL ns) (λi σ H2=>∃(m:Addr) (v3 v4 v5 v6:Option V),σ=[some (.ref w),some (.ref m),some (.ref a),v3,v4,v5,v6]/\Same H H2/\(m=m0\/H m=none)/\H2 m=some (.lst (IL (OM M0 (XT ps (ns.take i))))))
   ⟨m0,none,none,none,none,rfl,Same.refl _,.inl rfl,hm⟩ (λi σ H2 _ ⟨_,_,_,_,_,_,s2,_⟩=>hS.same s2) ?_ ?_⟩
  .rintro i x σ H2 hi ⟨m,v3,v4,v5,v6,rfl,s2,QX,Wc⟩;obtain⟨z,rfl,hz⟩:=WL hi;obtain⟨z0,z1⟩:=hI z (Xd hz);obtain⟨p,hp⟩:∃ p,ps[z.toNat]?=some p:=⟨_,Xo (by lia)⟩;obtain⟨v,hv,tt,rfl,Tp⟩:=h3.2 z.toNat p hp;obtain⟨e1,e2,e3,e4⟩:=g4 p (Xd hp);have ed:ps.getD z.toNat (0,0)=p:=ZP hp
   refine⟨_,rfl,w,_,dx,_,_,rfl,s2 _ _ h1,T.cl_Web,T.n_Web_ties,Qo _ _,_,rfl,tl,xs,z,.ref tt,rfl,rfl,SqL.of (s2 _ _ h2),ZN (n:=z.toNat) (by lia) hv,?_⟩;have IZ:=s2 _ _ Tp
   have hl:(OM M0 (XT ps (ns.take i))).length=n.toNat:=(Zo6 _ _).trans hlM;generalize hM:OM M0 (XT ps (ns.take i))=M at *;have ha:M[p.1.toNat]?=some (mk M p.1.toNat):=OO (by grind)
   have hb:M[p.2.toNat]?=some (mk M p.2.toNat):=OO (by grind);have iA:Wb (IL M) p.1=some (.int (mk M p.1.toNat)):=ZN (n:=p.1.toNat) (by lia) (by rw[Yp,ha];rfl)
   have iB:Wb (IL M) p.2=some (.int (mk M p.2.toNat)):=ZN (n:=p.2.toNat) (by lia) (by rw[Yp,hb];rfl);have t0:Wb ([.int p.1,.int p.2]:List V) 0=some (.int p.1):=rfl
   have t1:Wb ([.int p.1,.int p.2]:List V) 1=some (.int p.2):=rfl;refine⟨_,rfl,_,rfl,tt,_,0,_,rfl,rfl,SqT.of IZ,t0,m,_,p.1,_,rfl,rfl,SqL.of Wc,iA,_,rfl,_,rfl,tt,_,1,_,rfl,rfl,SqT.of IZ,t1,m,_,p.2,_,rfl,rfl,SqL.of Wc,iB,_,_,rfl,?_⟩;refine⟨_,rfl,_,rfl,tt,_,0,_,rfl,rfl,SqT.of IZ,t0,m,_,p.1,_,rfl,rfl,SqL.of Wc,iA,_,rfl,_,rfl,tt,_,1,_,rfl,rfl,SqT.of IZ,t1,m,_,p.2,_,rfl,rfl,SqL.of Wc,iB,_,_,rfl,?_⟩;have eL:(if mk M p.2.toNat<mk M p.1.toNat then mk M p.2.toNat else mk M p.1.toNat)=min (mk M p.1.toNat) (mk M p.2.toNat):=by rw[Int.min_def];split <;> split <;> lia
   have eH:(if mk M p.2.toNat > mk M p.1.toNat then mk M p.2.toNat else mk M p.1.toNat)=max (mk M p.1.toNat) (mk M p.2.toNat):=by rw[Int.max_def];split <;> split <;> lia
   refine⟨_,rfl,_,rfl,_,_,rfl,rfl,_,rfl,?_⟩;rw[eL,eH];have step:OM M0 (XT ps (ns.take (i+1)))=pm M p.1.toNat p.2.toNat:=by rw[ZK5 hz,ZU9,hM,ed]
   refine WV (λhc=>?_) (λhc=>?_)
   .refine⟨_,rfl,m,rfl,⟨_,SqL.of Wc⟩,NV (K:=K) (a:=m) (xs:=IL M) (λj ys H3=>H3=H2/\j<=M.length/\ys=IL ((M.take j).map λk=>if k=max (mk M p.1.toNat) (mk M p.2.toNat) then min (mk M p.1.toNat) (mk M p.2.toNat) else k)) ⟨rfl,Yo _,rfl⟩ (Zm (by rw[Xr];grind))
     (λj ys H3 hj ⟨e,NP,ey⟩=>⟨e ▸ SqL.of Wc,by rw[ey,Xr,Yd,YB];lia⟩) ?_ ?_⟩
    .rintro j y ys H3 hj ⟨rfl,NP,rfl⟩ S Xe;obtain⟨k,rfl,hk⟩:=WL hj;refine ix ?_;refine⟨_,rfl,_,rfl,rfl,_,rfl,?_⟩;have VV:j<M.length:=(Xp.mp hk).1
     have app:∀ r:Int,r=(if k=max (mk M p.1.toNat) (mk M p.2.toNat) then min (mk M p.1.toNat) (mk M p.2.toNat) else k) ->
       IL ((M.take j).map λk=>if k=max (mk M p.1.toNat) (mk M p.2.toNat) then min (mk M p.1.toNat) (mk M p.2.toNat) else k)++[.int r]=IL ((M.take (j+1)).map λk=>if k=max (mk M p.1.toNat) (mk M p.2.toNat) then min (mk M p.1.toNat) (mk M p.2.toNat) else k):=by intro r er;rw[WA,hk,er];simp
     refine WV (λhe=>?_) (λhe=>?_)
     .refine⟨_,rfl,Xe _ _ ⟨rfl,VV,app _ ?_⟩⟩;rw[if_pos (V.int.inj he)]
     .refine⟨_,rfl,Xe _ _ ⟨rfl,VV,app _ ?_⟩⟩;rw[if_neg λz=>he (Xw V.int z)]
    .rintro ys H3 ⟨rfl,_,rfl⟩ p' IY;refine⟨p',_,_,_,_,rfl,Zw s2 IY,.inr (s2.free IY),?_⟩;rw[XR,step,Xr,YK];unfold pm;rw[if_pos hc]
   .refine⟨m,_,_,_,_,rfl,s2,QX,?_⟩;rw[Wc,step];unfold pm;rw[if_neg hc]
  .rintro σ H2 ⟨m,v3,v4,v5,v6,rfl,s2,QX,Wc⟩;rw[Xr,YK]at Wc;exact⟨_,rfl,q m H2 s2 QX Wc⟩
def nh(K:Ad)(C:Addr):Sp:=λvs H Q _=>∃(w a:Addr) (n:Int) (ps:Aa) (ns:Ac),vs=[.ref w,.ref a]/\WebAt C H w n ps/\Zt n ps/\SqT K H a (IL ns)/\(∀ z∈ns,0<=z/\z<(ps.length:Int)) /\
 ∀(m:Addr) (H':Hp),Same H H'->H m=none->H' m=some (.lst (IL (Xx n.toNat (XT ps ns))))->Q (.ref m) H'
theorem ng:FnScope ["web","ties"] ["web","ties"] (XA sZf):=⟨rfl,rfl,rfl,by decide +kernel,rfl,by decide +kernel,by decide +kernel⟩
theorem Rr (T:Txt K mg t):FnOk P w K mg base Xl 2 t.aZf t.dZf ["web","ties"] (nh K t.A_Web):=by
 refine T.fZf.ok ng (λvs H Q E h=>?_) (λXz A outer s H vs Q E hr h=>?_)
 .obtain⟨w,a,n,ps,ns,rfl,_⟩:=h;rfl
 .obtain⟨w,a,n,ps,ns,rfl,hW,hG,hS,hI,q⟩:=h;refine⟨_,(XG (Zh (XF (Cd T) (hr.mono (by decide)) rfl T.mZe T.fZe.kp T.bZe .nil Zs (XZ (pv 0) (XZ (Zr (af rfl) (by rfl) T.n_list Boot.«list» (XZ (Zr iF (by rfl) T.n_range Boot.«range» (XZ (Zl K (pv 0) rfl) XY)) XY)) (XZ (pv 1) XY)))))),?_⟩;obtain⟨dx,tl,xs,h1,h2,h3⟩:=id hW;obtain⟨g1,g2,g3,g4⟩:=id hG;refine⟨_,rfl,_,rfl,w,_,dx,_,_,rfl,h1,T.cl_Web,T.n_Web_places,JZ _ _,n,rfl,λr Vk=>⟨r,0,n,rfl,XR,⟨by decide,by decide,by lia,by omega⟩,by lia,λm hm=>?_⟩⟩;have sm:Same H (upd (upd H r (.rng 0 n)) m (.lst ((Wf 0 n).map V.int))):=Zw (XH Vk) hm
  refine⟨_,rfl,w,m,a,n,ps,(List.range n.toNat).map (λ(i:Nat)=>(i:Int)),true,ns,rfl,hW.same sm,hG,?_,by simp,Mm sm hS,hI,λm' H' s' hf Mi=>?_⟩
  .rw[XR,ZR7]
  .refine q m' H' (sm.trans s') ?_ Mi;rcases hf with rfl | hf
   .exact(XH Vk).free hm
   .exact sm.free hf
def nc(K:Ad)(C:Addr):Sp:=λvs H Q _=>∃(w a:Addr) (n:Int) (ps:Aa) (kd:Bool) (ns:Ac),vs=[.ref w,.ref a]/\WebAt C H w n ps/\Zt n ps/\SqK kd K H a (IL ns)/\IsSet ps.length ns /\
 ∀(r:Addr) (as:List Addr) (H':Hp),Same H H'->H r=none->H' r=some (.lst (as.map V.ref))->r∉as->GrpAt H H' (JX (Xx n.toNat (XT ps ns))) as->Q (.ref r) H'
theorem MY:FnScope ["web","ties","pieces","place","mark"] ["web","ties"] (XA sZg):=⟨rfl,rfl,rfl,by decide +kernel,rfl,by decide +kernel,by decide +kernel⟩
theorem m9 (T:Txt K mg t):FnOk P w K mg base Xl 4 t.aZg t.dZg ["web","ties"] (nc K t.A_Web):=by
 refine T.fZg.ok MY (λvs H Q E h=>?_) (λXz A outer s H vs Q E hr h=>?_)
 .obtain⟨w,a,n,ps,kd,ns,rfl,_⟩:=h;rfl
 .obtain⟨w,a,n,ps,kd,ns,rfl,hW,hG,hS,hI,q⟩:=h;refine⟨_,(XN (Zk (i:=2) MY.nd rfl (Or.inl rfl) aQ)
   (XN (Sq Ws rfl (Mj K rfl T.n_enumerate (XZ (XF (Rr T) (hr.mono (by decide)) rfl T.mZf T.fZf.kp T.bZf .nil Zs (XZ (pv 0) (XZ (XF (nj T) (hr.mono (by decide)) rfl T.mZd T.fZd.kp T.bZd .nil Zs (XZ (pv 0) (XZ (pv 1) XY))) XY))) XY)) (Qm (n:=2) K rfl (Zu (Ze (i:=3) MY.nd rfl (Or.inl rfl)) (Zu (Ze (i:=4) MY.nd rfl (Or.inl rfl)) QG)))
   (XG (ZZ (VE K YX Hi Hj Fp (VE K jA jM PySem.F.type_dict_setdefault aa (pv 2) (XZ (pv 4) (XZ (Uk XY) XY))) (XZ (pv 3) XY)))))
   (XG (Zh (Zr (Zo3 rfl) (by rfl) T.n_list Boot.«list» (XZ (t4 K jA jE PySem.F.type_dict_values uj (pv 2)) XY)))))),?_⟩
  intro d hd;have s0:Same H (upd H d (.dK [])):=XH hd
  refine⟨_,rfl,_,rfl,_,rfl,w,a,n,ps,kd,ns,rfl,hW.same s0,hS.same s0,hI,λr H1 s1 Wn=>?_⟩;refine⟨w,r,n,ps,ns,rfl,(hW.same s0).same s1,hG,Wn,hI.all,λm H2 s2 Tz Wc=>?_⟩;have OG:Same H H2:=(s0.trans s1).trans s2
  have hd2:H2 d=some (.dK []):=s2 _ _ (s1 _ _ XR);have hl:(Xx n.toNat (XT ps ns)).length=n.toNat:=Zx _ _
  generalize hM:Xx n.toNat (XT ps ns)=M at *;have QX:H m=none:=(s0.trans s1).free Tz
  have n14:M.length<=14:=by have:=hG.2.1;grind
  refine⟨m,rfl,⟨_,SqL.of Wc⟩,?_⟩;refine zN (K:=K) (a:=m) (xs:=IL M) (λi σ H3=>∃(as:List Addr) (v3 v4:Option V),σ=[some (.ref w),some (.ref a),some (.ref d),v3,v4]/\i<=M.length/\Same H H3/\H3 m=some (.lst (IL M))/\H3 d=some (.dK (UZ (Xu M i) as))/\d∉as/\m∉as/\GrpAt H H3 (Xu M i) as/\as.length<=i)
   ⟨[],none,none,rfl,Yo _,OG,Wc,hd2,by simp,by simp,⟨rfl,List.nodup_nil,λi kv a e=>by simp[Xu]at e,λa ha=>by simp at ha⟩,XO _⟩ (λi σ H3 _ ⟨_,_,_,_,_,_,h,_⟩=>SqL.of h) ?_ ?_
  .rintro i x σ H3 pt Ur hi ⟨as,v3,v4,rfl,Vn,s3,Cc,OF,yi,yh,gA,dj⟩;obtain⟨k,rfl,hk⟩:=WL hi;have Tu:mk M i=k:=ZP hk
   have Xk:i<M.length:=(Xp.mp hk).1;have s4:Same H3 (upd H3 pt (.tup [.int i,.int k])):=XH Ur
   refine⟨pt,_,rfl,SqT.of XR,rfl,_,_,rfl,_,_,rfl,rfl,?_⟩;refine⟨_,rfl,.inr (.inr (.inl ⟨rfl,.inl ⟨_,s4 _ _ OF⟩⟩)),_,rfl,(by show 0<=sizeLine;exact Yo _),λl QZ=>?_⟩;have s5:Same H3 (upd (upd H3 pt (.tup [.int i,.int k])) l (.lst [])):=Zw s4 QZ
   have di:=s5 _ _ OF;have Ho:H3 l=none:=s4.free QZ
   have m8:d≠l:=Zc OF Ho;have gl:=gA.len
   refine⟨d,UZ (Xu M i) as,Sum.inl k,.ref l,rfl,rfl,di,?_,λv hv=>?_,λhv=>?_⟩
   .rw[tU gl];exact Zm (by grind)
   .-- the mark has XW list
    rcases JW (g:=Xu M i) (as:=as) (k:=k) gl with ⟨h1,_⟩ | ⟨j,kv,b,e1,e2,e3,e4⟩
    .rw[h1]at hv;cases hv
    .rw[e4]at hv;cases hv;have dh:=s5 _ _ (gA.at_ j kv b e1 e2)
     have ym:k∈(Xu M i).map (·.1):=YC.mpr ⟨kv,Xd e1,e3⟩;have hlen:kv.2.length<=i:=tW (Xd e1)
     refine⟨.inl ⟨rfl,_,SqL.of dh⟩,_,rfl,b,_,.int i,rfl,rfl,dh,?_,?_⟩
     .rw[Xr];exact Zm (by grind)
     .have IX:b∈as:=Xd e2;have TX:d≠b:=λz=>yi (z ▸ IX)
      have hmb:m≠b:=λz=>yh (z ▸ IX);have Nr:=gA.new b IX
      have LG:(Xu M (i+1)).map (·.1)=(Xu M i).map (·.1):=by show(SO (Xu M i) (i:Int) (mk M i)).map (·.1)=_;rw[zK,Tu,if_pos ym]
      refine⟨as,_,_,rfl,Xk,ZE Nr (s3.trans s5),by rw[Zb hmb];exact s5 _ _ Cc,by rw[Zb TX,di,EN LG],yi,yh,⟨?_,gA.nd,?_,gA.new⟩,by lia⟩
      .have:=Xw List.length LG
       rw[Yd,Yd]at this;lia
      .intro i2 yg a2 f1 f2;have f1:(SO (Xu M i) (i:Int) (mk M i))[i2]?=some yg:=f1
       unfold SO at f1;rw[Tu,if_pos ym,Yp]at f1;cases f3:(Xu M i)[i2]? with
       | none=>rw[f3]at f1;cases f1
       | some Hn =>
        rw[f3]at f1;have f1:(if Hn.1=k then (Hn.1,Hn.2++[(i:Int)]) else Hn)=yg:=Yi f1
        by_cases hj:i2=j
        .subst hj;rw[e1]at f3;cases f3;rw[e2]at f2;cases f2;rw[if_pos e3]at f1;subst f1;rw[XR];simp
        .have VI:a2≠b:=λz=>by subst z;exact hj (HS gA.nd f2 e2)
         have yf:¬ Hn.1=k:=λz=>hj (HS (tX M i) (by rw[Yp,f3];exact Xw some z) (by rw[Yp,e1];exact Xw some e3));rw[if_neg yf]at f1;subst f1;rw[Zb VI];exact s5 _ _ (gA.at_ i2 Hn a2 f3 f2)
   .-- a new list
    rcases JW (g:=Xu M i) (as:=as) (k:=k) gl with ⟨h1,hkn⟩ | ⟨j,kv,b,e1,e2,e3,e4⟩
    .have Cb:(upd (upd (upd H3 pt (.tup [.int i,.int k])) l (.lst [])) d (.dK (UZ (Xu M i) as++[(Sum.inl k,.ref l)]))) l=some (.lst []):=by rw[Zb (YY m8),XR]
     refine⟨.inl ⟨rfl,_,SqL.of Cb⟩,_,rfl,l,[],.int i,rfl,rfl,Cb,(by show 0<sizeLine;decide),?_⟩;have Ca:H l=none:=s3.free Ho
     have m7:l∉as:=λz=>by obtain⟨_,e⟩:=gA.mem z;rw[Ho]at e;cases e
     have NI:m≠l:=Zc Cc Ho;have hmd:m≠d:=OY Cc OF (λz=>nomatch z)
     have m6:Xu M (i+1)=Xu M i++[(k,[(i:Int)])]:=by show SO (Xu M i) (i:Int) (mk M i)=_;unfold SO;rw[Tu,if_neg hkn]
     have hdH:H d=none:=hd;refine⟨as++[l],_,_,rfl,Xk,ZE Ca (ZE hdH (s3.trans s5)),by rw[Zb NI,Zb hmd];exact s5 _ _ Cc,?_,?_,?_,⟨?_,?_,?_,?_⟩,?_⟩
     .rw[Zb m8,XR,m6,EM gl]
     .rw[Xy,XD];rintro(z | z)
      .exact yi z
      .exact m8 z
     .rw[Xy,XD];rintro(z | z)
      .exact yh z
      .exact NI z
     .rw[m6,Xs,Xs,gl];rfl
     .exact iw gA.nd m7
     .intro i2 yg a2 f1 f2;rw[m6]at f1;by_cases VA:i2<(Xu M i).length
      .rw[Ys VA]at f1;rw[Ys (by lia)]at f2;have e:=gA.at_ i2 yg a2 f1 f2
       have n1:a2≠l:=Zc e Ho;have n2:a2≠d:=OY e OF (λz=>nomatch z)
       rw[Zb n1,Zb n2];exact s5 _ _ e
      .have h2:i2=(Xu M i).length:=by
        have:=(Xp.mp f1).1
        rw[Xs,Yk]at this;grind
       subst h2;rw[Yq (XO _),UC]at f1;rw[Yq (by lia),gl,UC]at f2;cases f1;cases f2;rw[XR];rfl
     .intro a2 ha2;rcases Xy.mp ha2 with z | z
      .exact gA.new a2 z
      .rw[XD.mp z];exact Ca
     .rw[Xs,Yk];lia
    .rw[e4]at hv;cases hv
  .rintro σ H3 ⟨as,v3,v4,rfl,Vn,s3,Cc,OF,yi,yh,gA,dj⟩;rw[Xr]at OF gA;refine⟨_,rfl,.inr (.inr (.inl ⟨rfl,.inl ⟨_,OF⟩⟩)),d,_,rfl,rfl,OF,λp hp=>?_⟩;have s6:Same H3 (upd H3 p (RO p d)):=XH hp
   refine⟨p,d,_,rfl,XR,s6 _ _ OF,λr Vk=>?_⟩;have s7:Same H3 (upd (upd H3 p (RO p d)) r (.lst ((UZ (Xu M M.length) as).map (·.2)))):=Zw s6 Vk
   refine q r as _ (s3.trans s7) ((s3.trans s6).free Vk) (by rw[XR,iq gA.len]) (λz=>?_) (gA.same s7);obtain⟨_,e⟩:=gA.mem z;rw[s6.free Vk]at e;cases e
def m5(K:Ad)(C:Addr):Sp:=λvs H Q _=>∃(w a:Addr) (n:Int) (ps:Aa) (kd:Bool) (ns:Ac),vs=[.ref w,.ref a]/\WebAt C H w n ps/\Zt n ps/\SqK kd K H a (IL ns)/\IsSet ps.length ns /\
 ∀(b:Bool) (H':Hp),Same H H'->(b=true↔(JX (Xx n.toNat (XT ps ns))).length=1)->Q (.bl b) H'
theorem mZ:FnScope ["web","ties"] ["web","ties"] (XA sZh):=⟨rfl,rfl,rfl,by decide +kernel,rfl,by decide +kernel,by decide +kernel⟩
theorem BZ (T:Txt K mg t):FnOk P w K mg base Xl 5 t.aZh t.dZh ["web","ties"] (m5 K t.A_Web):=by
 refine T.fZh.ok mZ (λvs H Q E h=>?_) (λXz A outer s H vs Q E hr h=>?_)
 .obtain⟨w,a,n,ps,kd,ns,rfl,_⟩:=h;rfl
 .obtain⟨w,a,n,ps,kd,ns,rfl,hW,hG,hS,hI,q⟩:=h;refine⟨_,(XG (Zh (Og RX (Zd (Zo K) (by rfl) T.n_len Boot.«len» (XZ (XF (m9 T) (hr.mono (by decide)) rfl T.mZg T.fZg.kp T.bZg .nil Zs (XZ (pv 0) (XZ (pv 1) XY))) XY)) Za (Zv _)))),?_⟩;refine⟨_,rfl,_,rfl,w,a,n,ps,kd,ns,rfl,hW,hG,hS,hI,λr as H' s1 Vk Wn hnr gA=>?_⟩;refine⟨r,_,rfl,.inl (SqL.of Wn),rfl,?_⟩;rw[Yd,gA.len,ZC];refine q _ H' s1 ?_;rw[YU];lia
def mY(K:Ad)(C:Addr):Sp:=λvs H Q _=>∃(w:Addr) (n:Int) (ps:Aa),vs=[.ref w]/\WebAt C H w n ps/\Zt n ps /\
 (LZ n ps->∀ H':Hp,Same H H'->Q .non H')/\(¬ LZ n ps->∀ H':Hp,Same H H'->False)
theorem mX:FnScope ["web"] ["web"] (XA sZi):=⟨rfl,rfl,rfl,by decide +kernel,rfl,by decide +kernel,by decide +kernel⟩
theorem mW (T:Txt K mg t):FnOk P w K mg base Xl 6 t.aZi t.dZi ["web"] (mY K t.A_Web):=by
 refine T.fZi.ok mX (λvs H Q E h=>?_) (λXz A outer s H vs Q E hr h=>?_)
 .obtain⟨w,n,ps,rfl,_⟩:=h;rfl
 .obtain⟨w,n,ps,rfl,hW,hG,q,qe⟩:=h;refine⟨_,(XG (Ww (OW (QK (XF (BZ T) (hr.mono (by decide)) rfl T.mZh T.fZh.kp T.bZh .nil Zs (XZ (pv 0) (XZ (XF (nH T) (hr.mono (by decide)) rfl T.mZ9 T.fZ9.kp T.bZ9 .nil Zs (XZ (pv 0) XY)) XY)))))
   (XG Mr)
   Zp)),?_⟩
  refine⟨_,rfl,_,rfl,w,n,ps,rfl,hW,by have:=hG.2.2.1;lia,λr H1 s1 Vk Wn=>?_⟩;refine⟨w,r,n,ps,true,Wo ps.length,rfl,hW.same s1,hG,SqT.of Wn,HF _,λb H2 s2 hb=>⟨_,rfl,?_⟩⟩;rw[gY (by have:=hG.1;lia) (ZG hG (HF _).all)]at hb;refine Kb (λz=>?_) (λz=>?_)
  .exact q (hb.mp z) H2 (s1.trans s2)
  .exact qe (λg=>by rw[hb.mpr g]at z;cases z) H2 (s1.trans s2)
def mV(K:Ad)(C:Addr):Sp:=λvs H Q _=>∃(w b:Addr) (n:Int) (ps:Aa) (ws:Ac),vs=[.ref w,.ref b]/\WebAt C H w n ps/\Zt n ps/\SqL K H b (IL ws)/\ws.length=ps.length /\
 ∀(r:Addr) (ys:List V) (L:Ab) (H':Hp),Same H H'->H r=none->TabAt H r n.toNat H' ys L->(∀ i j,i<n.toNat->j<n.toNat->fnL L i j=lapE (Xa ps ws) i j)->Q (.ref r) H'
theorem dg(x:V)(k:Nat):(List.replicate k [x]).flatten=List.replicate k x:=by
 induction k with
 | zero=>rfl
 | succ k ih=>rw[Lq,GY,ih,Lq];rfl
theorem mU(n i j:Nat):fnL (List.replicate n (List.replicate n 0)) i j=0:=by
 unfold fnL;cases h:(List.replicate n (List.replicate n (0:Int)))[i]? with
 | none =>
  have e:(List.replicate n (List.replicate n (0:Int))).getD i []=[]:=by rw[WI,h];rfl
  rw[e];rfl
 | some l =>
  have e:(List.replicate n (List.replicate n (0:Int))).getD i []=l:=by rw[WI,h];rfl
  rw[e,AN (Xd h),WI,AM];split <;> rfl
theorem TabAt.get{H0 H:Hp}{r:Addr}{n:Nat}{ys:List V}{L:Ab}(h:TabAt H0 r n H ys L){i j:Nat}(hi:i<n)(hj:j<n):∃(A:Addr) (l:Ac) (x:Int),ys[i]?=some (.ref A)/\H A=some (.lst (IL l))/\l[j]?=some x/\l.length=n/\x=fnL L i j/\H0 A=none/\∀ y:Int,∃ L':Ab,TabAt H0 r n (upd H A (.lst ((IL l).set j (.int y)))) ys L'/\∀ a b,fnL L' a b=if a=i/\b=j then y else fnL L a b:=by
 obtain⟨A,l,y1,z1,hA,hl,hn,hr⟩:=h.at hi;obtain⟨x,hx⟩:∃ x,l[j]?=some x:=⟨_,Xo (by lia)⟩;refine⟨A,l,x,y1,hA,hx,hl,(OK z1 hx).symm,hn,λy=>⟨L.set i (l.set j y),?_,qH z1 (by omega)⟩⟩;have e:(IL l).set j (.int y)=IL (l.set j y):=(List.map_set ..).symm
 rw[e];exact h.put y1 z1 hr (by rw[SV];exact hl)
theorem ye{xs:List V}{i:Int}(h0:0<=i)(h1:i<(xs.length:Int)):Oc xs.length i=some i.toNat:=by unfold Oc;rw[if_pos h0,if_pos (by omega)]
theorem Rq:FnScope ["web","weights","table","ends","weight","one","other"] ["web","weights"] (XA sZj):=⟨rfl,rfl,rfl,by decide +kernel,rfl,by decide +kernel,by decide +kernel⟩
theorem mT (T:Txt K mg t):FnOk P w K mg base Xl 1 t.aZj t.dZj ["web","weights"] (mV K t.A_Web):=by
 refine T.fZj.ok Rq (λvs H Q E h=>?_) (λXz A outer s H vs Q E hr h=>?_)
 .obtain⟨w,b,n,ps,ws,rfl,_⟩:=h;rfl
 .obtain⟨w,b,n,ps,ws,rfl,hW,hG,hS,Fj,q⟩:=h;refine⟨_,(XN (NX (i:=2) rfl Rq.nd rfl rfl (sc0:=XA sZj) (N0:=["web","weights","table","ends","weight","one","other"]) (N':=["place","web"]) (o:=1) (fr:=[0]) ⟨rfl,by decide +kernel,by decide +kernel,by decide +kernel,rfl,by decide +kernel⟩ (HY rfl T.n_range (XZ (Zl K (pv 0) rfl) XY)) (Zz (by decide)) (λ_ _ _ _=>(Ze (i:=0) (show List.Nodup (["place","web"]:List Str) by decide +kernel) rfl (Or.inl rfl))) (λ_ _ _ _=>Ri) (λ_ _ _ _=>(Zn Fm (Uk (XZ Za XY)) (Zl K (pv 1) rfl))))
   (XN (Sq Ws rfl (DT K rfl T.n_zip (XZ (Zl K (pv 0) rfl) (XZ (pv 1) XY))) (Qm (n:=2) K rfl (Zu (Ze (i:=3) Rq.nd rfl (Or.inl rfl)) (Zu (Ze (i:=4) Rq.nd rfl (Or.inl rfl)) QG)))
   (XN (Zk (i:=5) Rq.nd rfl (Or.inl rfl) (ZQ (ZK K) (pv 3) Za (λ_ _=>rfl)))
   (XN (Zk (i:=6) Rq.nd rfl (Or.inl rfl) (ZQ (ZK K) (pv 3) Za (λ_ _=>rfl)))
   (XG (Ww (Zg OT (pv 5) (pv 6) (Zv _))
   (XN (z6 (ZQ (Zi K) (pv 2) (pv 5) (λ_ _=>rfl)) (pv 5) (yU K) (pv 4) Gd Fy)
   (XN (z6 (ZQ (Zi K) (pv 2) (pv 6) (λ_ _=>rfl)) (pv 6) (yU K) (pv 4) Gd Fy)
   (XN (z6 (ZQ (Zi K) (pv 2) (pv 5) (λ_ _=>rfl)) (pv 6) (yU K) (pv 4) Gb Fy)
   (XG (z6 (ZQ (Zi K) (pv 2) (pv 6) (λ_ _=>rfl)) (pv 5) (yU K) (pv 4) Gb Fy)))))
   Zp)))))
   (XG (Zh (pv 2))))),?_⟩
  obtain⟨dx,tl,xs,h1,h2,h3⟩:=id hW;have hl:=h3.1
  obtain⟨g1,g2,g3,g4⟩:=id hG;have one:1<=sizeLine:=by decide
  refine⟨_,rfl,w,_,dx,_,_,rfl,h1,T.cl_Web,T.n_Web_places,JZ _ _,n,rfl,by lia,by lia,NU (lo:=0) (n:=n.toNat) (λi zs H2=>Same H H2/\Bears (ON H2) zs (List.replicate i (List.replicate n.toNat 0))/\zs.Nodup/\∀ A,V.ref A∈zs->H A=none/\∃ o,H2 A=some o) ⟨Same.refl _,⟨rfl,λi l e=>by simp at e⟩,.nil,λA h=>(by cases h)⟩ (Zm (by lia)) (λi zs H2 _ ⟨_,e,_⟩=>by rw[e.1,YG];exact XO _) ?_ ?_⟩
  .rintro i zs H2 hi ⟨s2,hZ,Tx,RR⟩ S Xe;refine nm ?_;refine⟨one,λp1 UK=>?_⟩;have u1:=XH (o:=.lst [.int 0]) UK
   refine⟨_,rfl,w,_,dx,_,_,rfl,u1 _ _ (s2 _ _ h1),T.cl_Web,T.n_Web_places,JZ _ _,p1,n,_,rfl,rfl,XR,by lia,by lia,TN (by show 1 * n.toNat<=_;lia),λp2 VU=>?_⟩;have e0:(List.replicate n.toNat [V.int 0]).flatten=IL (List.replicate n.toNat 0):=by rw[dg];show _=(List.replicate n.toNat 0).map V.int;rw[List.map_replicate]
   rw[e0];have u2:=u1.trans (XH (o:=.lst (IL (List.replicate n.toNat 0))) VU)
   have BY:H2 p2=none:=(XH UK).free VU;refine Xe _ _ ⟨s2.trans u2,?_,?_,λA hA=>?_⟩
   .rw[List.replicate_succ'];exact(hZ.imp λ_ _ ⟨r',e,h⟩=>⟨r',e,u2 _ _ h⟩).snoc ⟨p2,rfl,XR⟩
   .refine YS.mpr ⟨Tx,by simp,λx hx y hy e=>?_⟩;rw[XD.mp hy]at e;obtain⟨_,o,ho⟩:=RR p2 (e ▸ hx);rw[BY]at ho;cases ho
   .rcases Xy.mp hA with e | e
    .obtain⟨a1,o,a2⟩:=RR A e;exact⟨a1,o,u2 _ _ a2⟩
    .have e':A=p2:=by simpa using e
     rw[e'];exact⟨s2.free BY,_,XR⟩
  rintro zs H2 ⟨s2,hZ,Tx,RR⟩ tA PH;have s3:=s2.trans (XH (o:=.lst zs) PH)
  have MX:H tA=none:=s2.free PH;have hT:TabAt H tA n.toNat (upd H2 tA (.lst zs)) zs (List.replicate n.toNat (List.replicate n.toNat 0)):=⟨XR,hZ.imp λ_ _ ⟨r',e,h⟩=>⟨r',e,XH PH _ _ h,Zc h PH⟩,YG,λl h=>by rw[AN h];exact YG,Tx,λA h=>(RR A h).1⟩
  have hzero:∀ i j,fnL (List.replicate n.toNat (List.replicate n.toNat 0)) i j=0:=λi j=>by
   have:=mU n.toNat i j
   exact this
  generalize upd H2 tA (.lst zs)=H3 at *;generalize List.replicate n.toNat (List.replicate n.toNat (0:Int))=L0 at *;refine⟨_,rfl,w,_,dx,_,_,rfl,s3 _ _ h1,T.cl_Web,T.n_Web_ties,Qo _ _,_,rfl,tl,b,rfl,⟨_,_,SqL.of (s3 _ _ h2),s3.seq hS⟩,qI (K:=K) (a:=tl) (b:=b) (xs:=xs) (ys:=IL ws) (by rw[Xr];lia) (λi σ H4=>∃(L:Ab) (v3 v4 v5 v6:Option V),σ=[some (.ref w),some (.ref b),some (.ref tA),v3,v4,v5,v6]/\Same H H4/\TabAt H tA n.toNat H4 zs L/\∀ x y,x<n.toNat->y<n.toNat->fnL L x y=lapE (Xa (ps.take i) (ws.take i)) x y) ⟨L0,none,none,none,none,rfl,s3,hT,λx y _ _=>hzero x y⟩ (λi σ H4 _ ⟨_,_,_,_,_,_,e,_⟩=>⟨SqL.of (e _ _ h2),e.seq hS⟩) ?_ ?_⟩
  .rintro i v v' σ H4 pt Ur hi NH ⟨L,v3,v4,v5,v6,rfl,s4,mS,PF⟩;obtain⟨p,hp,tt,rfl,Tp⟩:=h3.at hi;obtain⟨wt,rfl,hwt⟩:=WL NH;obtain⟨e1,e2,e3,e4⟩:=g4 p (Xd hp);have u1:=XH (o:=.tup [.ref tt,.int wt]) Ur
   refine⟨pt,_,rfl,SqT.of XR,rfl,_,_,rfl,_,_,rfl,rfl,?_⟩;have zz:=mS.same u1
   have s5:=s4.trans u1;generalize upd H4 pt (.tup [.ref tt,.int wt])=H5 at *;refine⟨_,rfl,tt,_,0,.int p.1,rfl,rfl,SqT.of (s5 _ _ Tp),rfl,?_⟩;refine⟨_,rfl,tt,_,1,.int p.2,rfl,rfl,SqT.of (s5 _ _ Tp),rfl,?_⟩;refine⟨_,rfl,_,rfl,rfl,_,rfl,?_⟩;rw[ZC];have df:=qG hp hwt
   refine WE (λheq=>?_) (λXJ=>?_)
   .refine⟨L,_,_,_,_,rfl,s5,zz,λx y hx hy=>?_⟩;rw[df,fQ (by show p.1.toNat=p.2.toNat;rw[heq])];exact PF x y hx hy
   have JU:p.1.toNat≠p.2.toNat:=λe=>XJ (by grind);obtain⟨A1,l1,x1,y1,Qh,g9,SI,rB,mR,mQ⟩:=zz.get (i:=p.1.toNat) (j:=p.1.toNat) (by grind) (by omega);refine⟨_,rfl,_,rfl,tA,zs,p.1,.ref A1,rfl,rfl,SqL.of zz.tab,ZN (n:=p.1.toNat) (by lia) y1,_,rfl,A1,_,p.1,.int x1,rfl,rfl,SqL.of Qh,by lia,TQ g9,_,rfl,_,_,rfl,rfl,A1,_,p.1,p.1.toNat,rfl,rfl,Qh,ye (by omega) (by rw[Xr];grind),?_⟩;obtain⟨L1,de,yd⟩:=mQ (x1+wt);have s6:Same H (upd H5 A1 (.lst ((IL l1).set p.1.toNat (.int (x1+wt))))):=ZE mR s5
   generalize upd H5 A1 (.lst ((IL l1).set p.1.toNat (.int (x1+wt))))=H6 at *;rw[rB]at yd;obtain⟨A2,l2,x2,y2,Ui,Ex,Rj,ex2,Of,put2⟩:=de.get (i:=p.2.toNat) (j:=p.2.toNat) (by grind) (by omega);refine⟨_,rfl,_,rfl,tA,zs,p.2,.ref A2,rfl,rfl,SqL.of de.tab,ZN (n:=p.2.toNat) (by lia) y2,_,rfl,A2,_,p.2,.int x2,rfl,rfl,SqL.of Ui,by lia,TQ Ex,_,rfl,_,_,rfl,rfl,A2,_,p.2,p.2.toNat,rfl,rfl,Ui,ye (by omega) (by rw[Xr];grind),?_⟩;obtain⟨L2,dc,MW⟩:=put2 (x2+wt);have s7:Same H (upd H6 A2 (.lst ((IL l2).set p.2.toNat (.int (x2+wt))))):=ZE Of s6
   generalize upd H6 A2 (.lst ((IL l2).set p.2.toNat (.int (x2+wt))))=H7 at *;rw[ex2]at MW;obtain⟨A3,l3,x3,y3,ND,hx3,Ho,ex3,hn3,put3⟩:=dc.get (i:=p.1.toNat) (j:=p.2.toNat) (by grind) (by grind);refine⟨_,rfl,_,rfl,tA,zs,p.1,.ref A3,rfl,rfl,SqL.of dc.tab,ZN (n:=p.1.toNat) (by lia) y3,_,rfl,A3,_,p.2,.int x3,rfl,rfl,SqL.of ND,by lia,TQ hx3,_,rfl,_,_,rfl,rfl,A3,_,p.2,p.2.toNat,rfl,rfl,ND,ye (by omega) (by rw[Xr];grind),?_⟩;obtain⟨L3,c9,c8⟩:=put3 (x3 - wt);have s8:Same H (upd H7 A3 (.lst ((IL l3).set p.2.toNat (.int (x3 - wt))))):=ZE hn3 s7
   generalize upd H7 A3 (.lst ((IL l3).set p.2.toNat (.int (x3 - wt))))=H8 at *;rw[ex3]at c8;obtain⟨A4,l4,x4,y4,LF,x9,hl4,ex4,mP,mO⟩:=c9.get (i:=p.2.toNat) (j:=p.1.toNat) (by grind) (by grind);refine⟨_,rfl,_,rfl,tA,zs,p.2,.ref A4,rfl,rfl,SqL.of c9.tab,ZN (n:=p.2.toNat) (by lia) y4,_,rfl,A4,_,p.1,.int x4,rfl,rfl,SqL.of LF,by lia,TQ x9,_,rfl,_,_,rfl,rfl,A4,_,p.1,p.1.toNat,rfl,rfl,LF,ye (by omega) (by rw[Xr];grind),?_⟩;obtain⟨L4,mM,x8⟩:=mO (x4 - wt);have s9:Same H (upd H8 A4 (.lst ((IL l4).set p.1.toNat (.int (x4 - wt))))):=ZE mP s8
   generalize upd H8 A4 (.lst ((IL l4).set p.1.toNat (.int (x4 - wt))))=H9 at *;rw[ex4]at x8;refine⟨L4,_,_,_,_,rfl,s9,mM,λx y hx hy=>?_⟩;rw[df,qW,<- PF x y hx hy];exact four JU x y yd MW c8 x8
  .rintro σ H4 ⟨L,v3,v4,v5,v6,rfl,s4,mS,PF⟩;rw[hl,YK,<- Fj,YK]at PF;exact⟨_,rfl,q tA zs L H4 s4 MX mS PF⟩
def mL(K:Ad)(C:Addr):Sp:=λvs H Q _=>∃(w:Addr) (n:Int) (ps:Aa),vs=[.ref w]/\WebAt C H w n ps/\Zt n ps /\
 ∀(r:Addr) (ys:List V) (L:Ab) (H':Hp),Same H H'->H r=none->TabAt H r n.toNat H' ys L->(∀ i j,i<n.toNat->j<n.toNat->fnL L i j=lapE (Xa ps (List.replicate ps.length 1)) i j)->Q (.ref r) H'
theorem mK:FnScope ["web"] ["web"] (XA sZk):=⟨rfl,rfl,rfl,by decide +kernel,rfl,by decide +kernel,by decide +kernel⟩
theorem mJ (T:Txt K mg t):FnOk P w K mg base Xl 2 t.aZk t.dZk ["web"] (mL K t.A_Web):=by
 refine T.fZk.ok mK (λvs H Q E h=>?_) (λXz A outer s H vs Q E hr h=>?_)
 .obtain⟨w,n,ps,rfl,_⟩:=h;rfl
 .obtain⟨w,n,ps,rfl,hW,hG,q⟩:=h;refine⟨_,(XG (Zh (XF (mT T) (hr.mono (by decide)) rfl T.mZj T.fZj.kp T.bZj .nil Zs (XZ (pv 0) (XZ (Zn Fm (Uk (XZ Za XY)) (Zd (Zo K) (by rfl) T.n_len Boot.«len» (XZ (Zl K (pv 0) rfl) XY))) XY))))),?_⟩;obtain⟨dx,tl,xs,h1,h2,h3⟩:=id hW;have hl:=h3.1
  have g3:=hG.2.2.1;refine⟨_,rfl,(by show 1<=sizeLine;decide),λp1 UK=>?_⟩;have u1:=XH (o:=.lst [.int 1]) UK
  refine⟨_,rfl,w,_,dx,_,_,rfl,u1 _ _ h1,T.cl_Web,T.n_Web_ties,Qo _ _,tl,xs,rfl,.inl (SqL.of (u1 _ _ h2)),p1,(xs.length:Int),_,rfl,rfl,XR,by lia,by lia,TN (by show 1 * _<=_;lia),λp2 VU=>?_⟩;have e0:(List.replicate (xs.length:Int).toNat [V.int 1]).flatten=IL (List.replicate ps.length 1):=by
   rw[YA,hl,dg];show _=(List.replicate ps.length 1).map V.int
   rw[List.map_replicate]
  rw[e0];have u2:=u1.trans (XH (o:=.lst (IL (List.replicate ps.length 1))) VU)
  refine⟨w,p2,n,ps,List.replicate ps.length 1,rfl,hW.same u2,hG,SqL.of XR,YG,λr ys L H' s hr hT hf=>?_⟩;exact q r ys L H' (u2.trans s) (u2.free hr) ⟨hT.tab,hT.rows,hT.len,hT.all,hT.nd,λA h=>u2.free (hT.new A h)⟩ hf
def mI(K:Ad)(C:Addr):Sp:=λvs H Q _=>∃(w:Addr) (n:Int) (ps:Aa),vs=[.ref w]/\WebAt C H w n ps/\Zt n ps/\∀(c:Nat) (H':Hp),TC n ps c->Same H H'->Q (.int c) H'
theorem BX(u v i:Nat):(ind u v i).natAbs<=1:=by unfold ind;split <;> split <;> decide
theorem BW:∀ {E:List Ed},(∀ e∈E,e.2.2=1)->∀ i j,(lapE E i j).natAbs<=E.length
 | [],_,i,j=>XO 0
 | e :: E,h,i,j=>by
  have ih:=BW (λf hf=>h f (Yh _ hf)) i j;have h1:=BX e.1 e.2.1 i
  have h2:=BX e.1 e.2.1 j;have h3:(ind e.1 e.2.1 i * ind e.1 e.2.1 j).natAbs<=1:=by rw[w4];exact Lm h1 h2
  show(e.2.2 * (ind e.1 e.2.1 i * ind e.1 e.2.1 j)+lapE E i j).natAbs<=(e :: E).length;rw[h e Ye,SX,Yz]
  have:=Int.natAbs_add_le (ind e.1 e.2.1 i * ind e.1 e.2.1 j) (lapE E i j)
  lia
theorem c7{α:Type}{l:List α}{i:Nat}(hi:l.length=i+1):cutz l (i:Int)=l.take i:=by unfold cutz;rw[YA,Lu (by lia),YF]
theorem mH:FnScope ["web"] ["web"] (XA sZl):=⟨rfl,rfl,rfl,by decide +kernel,rfl,by decide +kernel,by decide +kernel⟩
theorem PD (T:Txt K mg t):FnOk P w K mg base Xl 3 t.aZl t.dZl ["web"] (mI K t.A_Web):=by
 refine T.fZl.ok mH (λvs H Q E h=>?_) (λXz A outer s H vs Q E hr h=>?_)
 .obtain⟨w,n,ps,rfl,_⟩:=h;rfl
 .obtain⟨w,n,ps,rfl,hW,hG,q⟩:=h;refine⟨_,(XG (Zh (XF (n9 T) (hr.mono (by decide)) rfl T.mZ3 T.fZ3.kp T.bZ3 .nil Zs (XZ (XF (nS T) (hr.mono (by decide)) rfl T.mZ5 T.fZ5.kp T.bZ5 .nil Zs (XZ (XF (mJ T) (hr.mono (by decide)) rfl T.mZk T.fZk.kp T.bZk .nil Zs (XZ (pv 0) XY)) (XZ (Zn TZ (Zl K (pv 0) rfl) Za) XY))) XY)))),?_⟩;obtain⟨g1,g2,g3,g4⟩:=id hG;refine⟨_,rfl,w,n,ps,rfl,hW,hG,λr ys L H1 s1 hr hT hf=>?_⟩;obtain⟨dx,tl,xs,h1,h2,h3⟩:=id hW;refine⟨_,rfl,w,_,dx,_,_,rfl,s1 _ _ h1,T.cl_Web,T.n_Web_places,JZ _ _,_,_,rfl,rfl,?_⟩;obtain⟨k,hk⟩:∃ k:Nat,n - 1=(k:Int):=⟨(n - 1).toNat,by omega⟩;have hnk:n.toNat=k+1:=by grind
  have Hq:=hT.len;have hTB:Bears (ON H1) ys L:=hT.rows.imp λ_ _ h=>h.list
  refine⟨r,ys,L,k,?_,SqL.of hT.tab,hTB,by grind,λl h=>by rw[hT.all l h];grind,by lia,λr2 zs H2 s2 Vh hZ=>?_⟩
  .show [V.ref r,V.int (n - 1)]=_;rw[hk]
  have w1:∀ e∈Xa ps (List.replicate ps.length (1:Int)),e.2.2=1:=λe he=>by
   unfold Xa at he;obtain⟨i,hi⟩:=VH he;rw[Ip]at hi;cases h1:ps[i]? with
   | none=>rw[h1]at hi;cases hi
   | some p =>
    cases h2:(List.replicate ps.length (1:Int))[i]? with
    | none=>rw[h1,h2]at hi;cases hi
    | some w =>
     rw[h1,h2]at hi;obtain rfl:=Yi hi;exact AN (Xd h2)
  have el:(Xa ps (List.replicate ps.length (1:Int))).length<=30:=by unfold Xa;rw[He,YG];lia
  have hM:(cutz L (k:Int)).map (λl=>cutz l (k:Int))=(L.take k).map λl=>l.take k:=by rw[c7 (by lia)];exact YW λl hl=>c7 (by rw[hT.all l (AJ hl)];lia)
  rw[hM]at hZ;have Sf:((L.take k).map λl=>l.take k).length=k:=by rw[Yd,YB];grind
  have HZ:∀ i j,i<k->j<k->fnL ((L.take k).map λl=>l.take k) i j=lapE (Xa ps (List.replicate ps.length 1)) i j:=λi j hi hj=>by
   rw[<- hf i j (by grind) (by grind)];obtain⟨l,hl⟩:∃ l,L[i]?=some l:=⟨_,Xo (by grind)⟩;have Hy:=hT.all l (Xd hl)
   obtain⟨x,hx⟩:∃ x,l[j]?=some x:=⟨_,Xo (by grind)⟩;rw[OK hl hx];exact OK (l:=l.take k) (by rw[Yp,Hc,if_pos hi,hl];rfl) (by rw[Hc,if_pos hj];exact hx)
  refine⟨r2,false,zs,(L.take k).map λl=>l.take k,rfl,SqL.of Vh,hZ.imp (λ_ _ ⟨r',e,h⟩=>⟨r',false,e,SqL.of h⟩),by rw[Sf];lia,λi j hi hj=>?_,λ_ H3 s3=>?_,λh=>absurd (λl hl=>?_) h⟩
  .rw[Sf]at hi hj;rw[HZ i j hi hj];exact Yr (BW w1 i j) (Yr el (Yr (by decide:30<=2 ^ 5) (xD (by decide) (by decide))))
  .have hd:det ((L.take k).map λl=>l.take k).length (fnL ((L.take k).map λl=>l.take k))=det (n - 1).toNat (lapE (Xa ps (List.replicate ps.length 1))):=by rw[Sf,show(n - 1).toNat=k by lia];exact Zj λi j hi hj=>HZ i j hi hj
   obtain⟨c,M,a1,a2,a3⟩:∃ c,TC n ps c:=by obtain⟨M,a1,a2,_⟩:=yV _ (n - 1).toNat (Xa ps (List.replicate ps.length 1)) rfl (DC hG _);exact⟨M.length,M,a1,λl=>by rw[a2,DD g1 YG],rfl⟩
   rw[hd,Zy9 hG a1 a2,a3];exact q c H3 ⟨M,a1,a2,a3⟩ (s1.trans (s2.trans s3))
  .obtain⟨l0,h0,rfl⟩:=YC.mp hl;rw[Sf,YB,hT.all l0 (AJ h0)];grind
def mG(K:Ad)(C:Addr):Sp:=λvs H Q _=>∃(w a b:Addr) (n:Int) (ps:Aa) (Is Os:Ac),vs=[.ref w,.ref a,.ref b]/\WebAt C H w n ps/\Zt n ps/\SqT K H a (IL Is)/\SqT K H b (IL Os)/\Is.Nodup/\(∀ z∈Is,0<=z/\z<(ps.length:Int))/\Os.length<=30/\(∀ z∈Is,z∉Os)/\∀(c:Nat) (H':Hp),PC n ps Is Os c->Same H H'->Q (.int c) H'
theorem mF{K:Ad}{H:Hp}{a b:Addr}{l m:Ac}{Q:VK}(ha:SqT K H a (IL l))(hb:SqT K H b (IL m))(hl:l.length+m.length<=1000)(k:∀(r:Addr) (H':Hp),Same H H'->SqT K H' r (IL (l++m))->Q (.ref r) H'):JG K (.ref a) (.ref b) H Q:=by
 refine⟨a,b,_,_,rfl,rfl,ha,hb,by rw[Xr,Xr];exact Yr hl (by decide),λe=>?_,λ_ e=>?_,λ_ _ p hp=>?_⟩
 .have el:l=[]:=Hf.mp e;rw[el,Mz]at k;exact k b H (Same.refl _) hb
 .have em:m=[]:=Hf.mp e;rw[em,YF]at k;exact k a H (Same.refl _) ha
 .refine k p _ (XH hp) (SqT.of ?_);rw[XR,EX]
theorem BV{gone:Ac}(j:Nat):XE (j+1) gone=XE j gone++(if ((j:Int)∈gone) then [] else [(j:Int)]):=by
 unfold XE;rw[gF,QW];congr 1;by_cases c:(j:Int)∈gone
 .rw[if_pos c,YL,if_neg (by simp[c])];rfl
 .rw[if_neg c,YL,if_pos (by simp[c])];rfl
theorem Rp:FnScope ["web","inside","outside","marks","firsts","numbers","gone","free"] ["web","inside","outside"] (XA sZm):=⟨rfl,rfl,rfl,by decide +kernel,rfl,by decide +kernel,by decide +kernel⟩
theorem mE (T:Txt K mg t):FnOk P w K mg base Xl 4 t.aZm t.dZm ["web","inside","outside"] (mG K t.A_Web):=by
 refine T.fZm.ok Rp (λvs H Q E h=>?_) (λXz A outer s H vs Q E hr h=>?_)
 .obtain⟨w,a,b,n,ps,Is,Os,rfl,_⟩:=h;rfl
 .obtain⟨w,a,b,n,ps,Is,Os,rfl,hW,hG,hA,hB,hIn,Xt,hO,Vm,q⟩:=h;refine⟨_,(XN (Zk (i:=3) Rp.nd rfl (Or.inl rfl) (XF (Rr T) (hr.mono (by decide)) rfl T.mZf T.fZf.kp T.bZf .nil Zs (XZ (pv 0) (XZ (pv 1) XY))))
   (XN (Zk (i:=4) Rp.nd rfl (Or.inr rfl) (Za4 K rfl rfl T.n_sorted rfl T.n_set (XZ (pv 3) XY)))
   (XN (Ww (Zg RV (Zn WO (Zd (Zo K) (by rfl) T.n_len Boot.«len» (XZ (pv 4) XY)) (Zd (Zo K) (by rfl) T.n_len Boot.«len» (XZ (pv 1) XY))) (Zl K (pv 0) rfl) (Zv _))
   (XG (Zh Za))
   Zp)
   (XN (Zk (i:=5) Rp.nd rfl (Or.inr rfl) (Sn rfl (sc0:=XA sZm) (N0:=["web","inside","outside","marks","firsts","numbers","gone","free"]) (N':=["mark","firsts"]) (o:=1) (fr:=[4]) ⟨rfl,by decide +kernel,by decide +kernel,by decide +kernel,rfl,by decide +kernel⟩ (Va K (pv 3)) (Zz (by decide)) (λ_ _ _ _=>(Ze (i:=0) (show List.Nodup (["mark","firsts"]:List Str) by decide +kernel) rfl (Or.inl rfl))) (λ_ _ _ _=>Ri) (λ_ _ _ _=>(VE K YX jB jC (tS K) (pv 1) (XZ (pv 0) XY)))))
   (XN (Zk (i:=6) Rp.nd rfl (Or.inr rfl) (Zn (HJ K) (pv 1) (pv 2)))
   (XN (NX (i:=7) rfl Rp.nd rfl rfl (sc0:=XA sZm) (N0:=["web","inside","outside","marks","firsts","numbers","gone","free"]) (N':=["tie","ends","gone"]) (o:=2) (fr:=[6]) ⟨rfl,by decide +kernel,by decide +kernel,by decide +kernel,rfl,by decide +kernel⟩ (Mj K rfl T.n_enumerate (XZ (Zl K (pv 0) rfl) XY)) (Fc (Vb (by decide) (Vb (by decide) Fd))) (λ_ _ _ _=>(Qm (n:=2) K rfl (Zu (Ze (i:=0) (show List.Nodup (["tie","ends","gone"]:List Str) by decide +kernel) rfl (Or.inl rfl)) (Zu (Ze (i:=1) (show List.Nodup (["tie","ends","gone"]:List Str) by decide +kernel) rfl (Or.inl rfl)) QG)))) (λ_ _ _ _=>(Qw (Zg (HR K) (pv 0) (pv 2) rfl))) (λ_ _ _ _=>(pv 1)))
   (XG (Zh (XF (PD T) (hr.mono (by decide)) rfl T.mZl T.fZl.kp T.bZl .nil Zs (XZ (FI T.k_Web (Cg T) (hr.mono (by decide)) rfl T.c_Web T.bZ8 .nil Zs (XZ (Zd (Zo K) (by rfl) T.n_len Boot.«len» (XZ (pv 4) XY)) (XZ (Sn rfl (sc0:=XA sZm) (N0:=["web","inside","outside","marks","firsts","numbers","gone","free"]) (N':=["ends","numbers"]) (o:=1) (fr:=[5]) ⟨rfl,by decide +kernel,by decide +kernel,by decide +kernel,rfl,by decide +kernel⟩ (Va K (pv 7)) (Zz (by decide)) (λ_ _ _ _=>(Ze (i:=0) (show List.Nodup (["ends","numbers"]:List Str) by decide +kernel) rfl (Or.inl rfl))) (λ_ _ _ _=>Ri) (λ_ _ _ _=>(SR (XZ (ZQ (Zi K) (pv 1) (ZQ (ZK K) (pv 0) Za (λ_ _=>rfl)) (λ_ _=>rfl)) (XZ (ZQ (Zi K) (pv 1) (ZQ (ZK K) (pv 0) Za (λ_ _=>rfl)) (λ_ _=>rfl)) XY))))) XY))) XY)))))))))),?_⟩
  obtain⟨g1,g2,g3,g4⟩:=id hG;obtain⟨Js,OE,hJ2⟩:=sj Is;have hJ:IsSet ps.length Js:=XX.mpr ⟨λz hz=>Xt z (OE.mem_iff.mp hz),(hJ2.and (OE.nodup_iff.mpr hIn)).imp λh=>by have:=h.1;have:=h.2;lia⟩
  have hIl:Is.length<=ps.length:=by rw[<- OE.length_eq];exact hJ.len
  have yE:∀ i j,Conn (XT ps Js) i j↔Conn (XT ps Is) i j:=λi j=>TJ λy=>OE.mem_iff;have RN:XE ps.length (Js++Os)=XE ps.length (Is++Os):=ME λz _=>by simp only [Xy,OE.mem_iff]
  have back:∀ c,PC n ps Js Os c->PC n ps Is Os c:=λc ⟨L,l1,l2,l3⟩=>⟨L,l1,λl=>(l2 l).trans ⟨λh=>⟨h.1,λz hz=>h.2.1 z (OE.mem_iff.mpr hz),h.2.2⟩,λh=>⟨h.1,λz hz=>h.2.1 z (OE.mem_iff.mp hz),h.2.2⟩⟩,l3⟩;refine⟨_,rfl,_,rfl,w,a,n,ps,Is,rfl,hW,hG,hA,Xt,λmA H1 s1 QX Tz=>?_⟩;have Vj:=Zx n.toNat (XT ps Is)
  have Wi:=ZG (ns:=Is) hG Xt;have hel:(XT ps Is).length=Is.length:=Yd ..
  refine nm ?_;refine⟨_,rfl,mA,_,rfl,SqL.of Tz,by grind,λF hF VS fA hfA=>?_⟩;have s2:=XH (o:=.lst (IL F)) hfA
  have MW:(upd H1 fA (.lst (IL F))) fA=some (.lst (IL F)):=XR;have Wc:=s2 _ _ Tz
  have OG:=s1.trans s2;refine nm ?_;dsimp only;generalize upd H1 fA (.lst (IL F))=H2 at *;obtain⟨g,c6,mD,c5⟩:=Dn Wi hF VS;obtain⟨k1,kn,nk⟩:=Zj4 Wi (by lia) hF VS;have Ui:=Mm OG hA
  have NC:=Mm OG hB;obtain⟨dx,tl,xs,h1,h2,h3⟩:=hW.same OG;have Nx:=h3.1
  refine⟨_,rfl,fA,_,rfl,.inl (SqL.of MW),_,rfl,a,_,rfl,.inr Ui,_,_,rfl,rfl,_,rfl,w,_,dx,_,_,rfl,h1,T.cl_Web,T.n_Web_places,JZ _ _,_,_,rfl,rfl,_,rfl,?_⟩;rw[Xr,Xr];refine WV (λhc=>?_) (λhc=>?_)
  .exact q 0 H2 (back 0 (qb hG hJ (λi j hi hj=>(c6 i j hi hj).trans (yE i j).symm) mD c5 k1 kn (by rw[OE.length_eq];lia))) OG
  refine⟨_,rfl,mA,rfl,⟨_,SqL.of Wc⟩,NV (K:=K) (a:=mA) (xs:=IL (Xx n.toNat (XT ps Is))) (λi zs H3=>H3=H2/\i<=n.toNat/\zs=IL (((Xx n.toNat (XT ps Is)).take i).map λz=>(Vl F z:Int))) ⟨rfl,Yo _,rfl⟩ (Zm (by rw[Xr,Vj];grind)) (λi zs H3 _ ⟨e,hi,ez⟩=>⟨e ▸ SqL.of Wc,by rw[ez,Xr,Yd,YB];lia⟩) ?_ ?_⟩
  .rintro i v zs H3 hi ⟨rfl,hin3,rfl⟩ S Xe;obtain⟨z,rfl,hz⟩:=WL hi;have HD:z∈F:=(VS z).mpr (Xd hz)
   have Xi:=(Xp.mp hz).1;refine nm ?_;refine⟨_,rfl,.inl ⟨rfl,_,SqL.of MW⟩,_,rfl,fA,F,z,Vl F z,rfl,rfl,SqL.of MW,Jx HD,λi hi e=>by have:=HS (JJ hF) e (Jx HD);lia,Xe _ _ ⟨rfl,by lia,?_⟩⟩;rw[WA,hz,QP];exact(ZX _ _).symm
  rintro zs H3 ⟨rfl,_,rfl⟩ nA hnA;rw[Xr,YK];have s3:=XH (o:=.lst (IL ((Xx n.toNat (XT ps Is)).map λz=>(Vl F z:Int)))) hnA
  have mP:(upd H3 nA (.lst (IL ((Xx n.toNat (XT ps Is)).map λz=>(Vl F z:Int))))) nA=some (.lst (IL ((Xx n.toNat (XT ps Is)).map λz=>(Vl F z:Int)))):=XR;have x8:=s3 _ _ MW
  have LF:=Mm s3 Ui;have mC:=Mm s3 NC
  have Hm:=OG.trans s3;generalize upd H3 nA (.lst (IL ((Xx n.toNat (XT ps Is)).map λz=>(Vl F z:Int))))=H4 at *;have cZ:∀ x:Int,0<=x->x<n->((Xx n.toNat (XT ps Is)).map λz=>(Vl F z:Int))[x.toNat]?=some (Vl F (mk (Xx n.toNat (XT ps Is)) x.toNat):Int):=λx x0 x1=>by rw[Yp,Xo (by grind)];unfold mk;rw[WI,Xo (by omega)];rfl
  refine nm ?_;dsimp only;refine⟨_,rfl,_,rfl,mF LF mC (by lia) λgA H5 s5 hg5=>?_⟩;have BU:=Hm.trans s5
  obtain⟨dx,tl,xs,h1,h2,h3⟩:=hW.same BU;have Nx:=h3.1
  refine nm ?_;dsimp only;refine⟨_,rfl,w,_,dx,_,_,rfl,h1,T.cl_Web,T.n_Web_ties,Qo _ _,tl,rfl,⟨_,SqL.of h2⟩,zr (K:=K) (a:=tl) (xs:=xs) (λj zs H6=>Same H5 H6/\j<=ps.length/\PairsV H6 zs ((XE j (Is++Os)).map λz=>ps.getD z.toNat (0,0))) ⟨Same.refl _,Yo _,PairsV.nil⟩ (Zm (by lia)) (λj zs H6 hj ⟨e,Ra,ez⟩=>⟨e.seq (SqL.of h2),by rw[ez.1,Yd];refine Yr (YH ..) ?_;rw[ZJ];exact XO _⟩) ?_ ?_⟩
  .rintro j v zs H6 pt Ur hj ⟨s6,NP,hZ⟩ S Xe;obtain⟨p,hp,tt,rfl,ht⟩:=h3.at hj;have VV:=(Xp.mp hp).1
   have s7:=XH (o:=.tup [.int j,.ref tt]) Ur;refine⟨pt,_,rfl,SqT.of XR,rfl,_,_,rfl,_,_,rfl,rfl,?_⟩;have BS:=hZ.same s7
   have LD:=s6.trans s7;generalize upd H6 pt (.tup [.int j,.ref tt])=H7 at *;refine⟨_,rfl,_,rfl,gA,_,rfl,.inr (Mm LD hg5),rfl,ZT _,_,rfl,?_⟩;rw[NQ];refine WE (λIW=>?_) (λIW=>?_)
   .refine Xe _ _ ⟨LD,VV,?_⟩;rw[BV,if_pos IW,YF];exact BS
   .refine⟨_,rfl,Xe _ _ ⟨LD,VV,?_⟩⟩;rw[BV,if_neg IW,QP];refine BS.app ?_;show PairsV H7 [V.ref tt] [ps.getD ((j:Nat):Int).toNat (0,0)]
    rw[YA,ZP hp];exact PairsV.nil.snoc ⟨tt,rfl,LD _ _ ht⟩
  rintro zs H6 ⟨s6,_,hZ⟩ rA Nd;rw[Nx]at hZ;have s7:=XH (o:=.lst zs) Nd
  have Cm:(upd H6 rA (.lst zs)) rA=some (.lst zs):=XR;have BS:=hZ.same s7
  have LD:=s6.trans s7;generalize upd H6 rA (.lst zs)=H7 at *;have hf7:=LD _ _ (s5 _ _ x8)
  have hn7:=LD _ _ (s5 _ _ mP);have mB:=BS.1
  have RQ:(XE ps.length (Is++Os)).length<=30:=by refine Yr (YH ..) ?_;rw[ZJ];lia
  rw[Yd]at mB;refine nm ?_;dsimp only;refine⟨_,rfl,fA,_,rfl,.inl (SqL.of hf7),_,rfl,rA,rfl,⟨_,SqL.of Cm⟩,NV (K:=K) (a:=rA) (xs:=zs) (λi ws H8=>Same H7 H8/\i<=(XE ps.length (Is++Os)).length/\PairsV H8 ws (((XE ps.length (Is++Os)).take i).map λz=>((Vl F (mk (Xx n.toNat (XT ps Is)) (Zq ps z).1):Int),(Vl F (mk (Xx n.toNat (XT ps Is)) (Zq ps z).2):Int)))) ⟨Same.refl _,Yo _,PairsV.nil⟩ (Zm (by lia))
   (λi ws H8 hi ⟨e,VA,ew⟩=>⟨e.seq (SqL.of Cm),by rw[ew.1,Yd,YB];lia⟩) ?_ ?_⟩
  .rintro i v ws H8 hi ⟨s8,Vn,x6⟩ S Xe;obtain⟨p,hp,tt,rfl,ht⟩:=BS.at hi;rw[Yp]at hp;obtain⟨z,hz,ez⟩:∃ z,(XE ps.length (Is++Os))[i]?=some z/\ps.getD z.toNat (0,0)=p:=by
    cases hq:(XE ps.length (Is++Os))[i]? with
    | none=>rw[hq]at hp;cases hp
    | some z=>rw[hq]at hp;exact⟨z,rfl,Yi hp⟩
   have hz1:=(WZ.mp (Xd hz)).1;obtain⟨p',IY⟩:∃ p,ps[z.toNat]?=some p:=⟨_,Xo (by lia)⟩;have epp:p'=p:=by rw[<- ez,ZP IY]
   rw[epp]at IY;obtain⟨e1,e2,e3,e4⟩:=g4 p (Xd IY);have ee:Zq ps z=(p.1.toNat,p.2.toNat):=by unfold Zq;rw[ZP IY]
   have cY:=s8 _ _ ht;have cX:=s8 _ _ hn7
   refine nm ?_;refine⟨_,rfl,_,rfl,tt,_,0,.int p.1,rfl,rfl,SqT.of cY,rfl,nA,_,_,_,rfl,rfl,SqL.of cX,ZN (n:=p.1.toNat) (by lia) (TQ (cZ p.1 e1 e2)),?_⟩;refine⟨_,rfl,_,rfl,tt,_,1,.int p.2,rfl,rfl,SqT.of cY,rfl,nA,_,_,_,rfl,rfl,SqL.of cX,ZN (n:=p.2.toNat) (by lia) (TQ (cZ p.2 e3 e4)),(by show 2<=sizeLine;decide),λpp cW=>?_⟩;refine Xe _ _ ⟨s8.trans (XH cW),by have:=(Xp.mp hz).1;lia,?_⟩;rw[WA,hz,QP];refine(x6.same (XH cW)).snoc ⟨pp,rfl,?_⟩;dsimp only;rw[ee];exact XR
  rintro ws H8 ⟨s8,_,x6⟩ la nB;rw[mB,YK]at x6;have s9:=XH (o:=.lst ws) nB
  have MV:(upd H8 la (.lst ws)) la=some (.lst ws):=XR;have mz:=x6.same s9
  have xZ:=s8.trans s9;generalize upd H8 la (.lst ws)=H9 at *;have cV:=fo (f:=λi=>Vl F (mk (Xx n.toNat (XT ps Is)) i)) hG (Is++Os) mD k1 kn
  intro x my nx PB SN;have t1:Same H9 (upd (upd H9 my (.own x)) x (.ins t.A_Web my [])):=Zw (XH PB) (by rw[Zb (YY SN)];exact nx)
  refine⟨x,my,(F.length:Int),la,false,ws,_,by rw[Xr];rfl,XR,λo=>?_,mz.same t1,cV,λOD hV k10=>⟨rfl,?_⟩⟩
  .exact SqL.of (by rw[Zb (Zc MV nx),Zb (Zc MV nx),Zb (Zc MV PB)];exact MV)
  have BR:Same H9 OD:=λb o e=>k10 b o (t1 b o e) (Zc e nx);refine⟨x,_,_,rfl,hV,cV,λc MU hc IV=>q c MU (back c (qc hG hJ (λz hz=>Vm z (OE.mem_iff.mp hz)) (λi j hi hj=>(c6 i j hi hj).trans (yE i j).symm) mD c5 (by rw[OE.length_eq];grind) (by rw[RN];exact hc))) (BU.trans (LD.trans (xZ.trans (BR.trans IV))))⟩
def mx(K:Ad)(C:Addr):Sp:=λvs H Q _=>∃(w a:Addr) (n:Int) (ps:Aa) (kd:Bool) (ns:Ac),vs=[.ref w,.ref a]/\WebAt C H w n ps/\Zt n ps/\SqK kd K H a (IL ns) /\
 ∀(b:Bool) (H':Hp),Same H H'->(b=true↔Zf n ps ns)->Q (.bl b) H'
theorem mw:FnScope ["web","ties"] ["web","ties"] (XA sZn):=⟨rfl,rfl,rfl,by decide +kernel,rfl,by decide +kernel,by decide +kernel⟩
theorem BQ (T:Txt K mg t):FnOk P w K mg base Xl 6 t.aZn t.dZn ["web","ties"] (mx K t.A_Web):=by
 refine T.fZn.ok mw (λvs H Q E h=>?_) (λXz A outer s H vs Q E hr h=>?_)
 .obtain⟨w,a,n,ps,kd,ns,rfl,_⟩:=h;rfl
 .obtain⟨w,a,n,ps,kd,ns,rfl,hW,hG,hS,q⟩:=h;refine⟨_,(XG (Zh (Gr (XF (Ce T) (hr.mono (by decide)) rfl T.mZc T.fZc.kp T.bZc .nil Zs (XZ (pv 0) (XZ (pv 1) XY))) (Gr (Og RX (Zd (Zo K) (by rfl) T.n_len Boot.«len» (XZ (pv 1) XY)) (Zn TZ (Zl K (pv 0) rfl) Za) (Zv _)) (wB (XF (BZ T) (hr.mono (by decide)) rfl T.mZh T.fZh.kp T.bZh .nil Zs (XZ (pv 0) (XZ (pv 1) XY)))))))),?_⟩;refine⟨_,rfl,_,rfl,w,a,n,ps,kd,ns,rfl,hW,hS,λb hb=>⟨b,rfl,?_⟩⟩;refine t9 (λe=>?_) (λe=>?_)
  .have hI:=hb.mp e;obtain⟨dx,tl,xs,h1,h2,h3⟩:=id hW;refine⟨_,rfl,a,_,rfl,hS.or,_,rfl,w,_,dx,_,_,rfl,h1,T.cl_Web,T.n_Web_places,JZ _ _,_,_,rfl,rfl,rfl,_,rfl,?_⟩;rw[Xr,ZC];refine WV (λhl=>?_) (λhl=>?_)
   .refine⟨_,rfl,_,rfl,w,a,n,ps,kd,ns,rfl,hW,hG,hS,hI,λb2 H' s Jm=>q b2 H' s ?_⟩;rw[Jm,gY (by have:=hG.1;grind) (ZG hG hI.all)];exact⟨λz=>⟨hI,hl,z⟩,λz=>z.2.2⟩
   .exact q false H (Same.refl H) ⟨λz=>(nomatch z),λz=>absurd z.2.1 hl⟩
  .exact q false H (Same.refl H) ⟨λz=>(nomatch z),λz=>by rw[hb.mpr z.1]at e;cases e⟩
def mv(K:Ad)(C:Addr):Sp:=λvs H Q _=>∃(w a:Addr) (n:Int) (ps:Aa) (kd:Bool) (ns:Ac),vs=[.ref w,.ref a]/\WebAt C H w n ps/\Zt n ps/\SqK kd K H a (IL ns) /\
 (Zf n ps ns->∀ H':Hp,Same H H'->Q .non H')/\(¬ Zf n ps ns->∀ H':Hp,Same H H'->False)
theorem mr:FnScope ["web","tree"] ["web","tree"] (XA sZo):=⟨rfl,rfl,rfl,by decide +kernel,rfl,by decide +kernel,by decide +kernel⟩
theorem BP (T:Txt K mg t):FnOk P w K mg base Xl 7 t.aZo t.dZo ["web","tree"] (mv K t.A_Web):=by
 refine T.fZo.ok mr (λvs H Q E h=>?_) (λXz A outer s H vs Q E hr h=>?_)
 .obtain⟨w,a,n,ps,kd,ns,rfl,_⟩:=h;rfl
 .obtain⟨w,a,n,ps,kd,ns,rfl,hW,hG,hS,q,qe⟩:=h;refine⟨_,(XG (Ww (OW (QK (XF (BQ T) (hr.mono (by decide)) rfl T.mZn T.fZn.kp T.bZn .nil Zs (XZ (pv 0) (XZ (pv 1) XY)))))
   (XG Mr)
   Zp)),?_⟩
  refine⟨_,rfl,_,rfl,w,a,n,ps,kd,ns,rfl,hW,hG,hS,λb H' s hb=>⟨_,rfl,?_⟩⟩;refine Kb (λz=>?_) (λz=>?_)
  .exact q (hb.mp z) H' s
  .exact qe (λg=>by rw[hb.mpr g]at z;cases z) H' s
def mq(K:Ad)(C:Addr):Sp:=λvs H Q _=>∃(w a b:Addr) (n:Int) (ps:Aa) (ka kb:Bool) (ns os:Ac),vs=[.ref w,.ref a,.ref b]/\WebAt C H w n ps/\Zt n ps/\SqK ka K H a (IL ns)/\SqK kb K H b (IL os)/\ns.length<=1000/\os.length<=1000/\(∀ z∈ns++os,0<=z/\z<(ps.length:Int)) /\
 (((WU n.toNat ps (ns++os)).take ns.length≠ns\/((WU n.toNat ps (ns++os)).length:Int)<n - 1)->∀ H':Hp,Same H H'->Q .non H') /\
 ((WU n.toNat ps (ns++os)).take ns.length=ns->¬ ((WU n.toNat ps (ns++os)).length:Int)<n - 1->∀(r:Addr) (ms:Ac) (H':Hp),ms.Perm (WU n.toNat ps (ns++os))->ms.Pairwise (·<=·)->Same H H'->H r=none->H' r=some (.tup (IL ms))->Q (.ref r) H')
theorem Ro:FnScope ["web","inside","order","marks","grown","tie","ends"] ["web","inside","order"] (XA sZp):=⟨rfl,rfl,rfl,by decide +kernel,rfl,by decide +kernel,by decide +kernel⟩
theorem ml (T:Txt K mg t):FnOk P w K mg base Xl 3 t.aZp t.dZp ["web","inside","order"] (mq K t.A_Web):=by
 refine T.fZp.ok Ro (λvs H Q E h=>?_) (λXz A outer s H vs Q E hr h=>?_)
 .obtain⟨w,a,b,n,ps,ka,kb,ns,os,rfl,_⟩:=h;rfl
 .obtain⟨w,a,b,n,ps,ka,kb,ns,os,rfl,hW,hG,hS,Em,LC,Rg,hI,q0,q1⟩:=h;refine⟨_,(XN (Zk (i:=3) Ro.nd rfl (Or.inl rfl) (XF (Rr T) (hr.mono (by decide)) rfl T.mZf T.fZf.kp T.bZf .nil Zs (XZ (pv 0) (XZ (SR XY) XY))))
   (XN (Zk (i:=4) Ro.nd rfl (Or.inl rfl) (Uk XY))
   (XN (Sq Ws rfl (Va K (Zn zV (Zr (HQ K) (by rfl) T.n_list Boot.«list» (XZ (pv 1) XY)) (Zr (HQ K) (by rfl) T.n_list Boot.«list» (XZ (pv 2) XY)))) (Ze (i:=5) Ro.nd rfl (Or.inl rfl))
   (XN (Zk (i:=6) Ro.nd rfl (Or.inl rfl) (ZQ (Zi K) (Zl K (pv 0) rfl) (pv 5) (λ_ _=>rfl)))
   (XG (Ww (Zg OT (ZQ (Zi K) (pv 3) (ZQ (ZK K) (pv 6) Za (λ_ _=>rfl)) (λ_ _=>rfl)) (ZQ (Zi K) (pv 3) (ZQ (ZK K) (pv 6) Za (λ_ _=>rfl)) (λ_ _=>rfl)) (Zv _))
   (XN (Zk (i:=3) Ro.nd rfl (Or.inl rfl) (XF (Cd T) (hr.mono (by decide)) rfl T.mZe T.fZe.kp T.bZe .nil Zs (XZ (pv 0) (XZ (pv 3) (XZ (SR (XZ (pv 5) XY)) XY)))))
   (XG (ZZ (VE K YX Hi Hj Fp (pv 4) (XZ (pv 5) XY)))))
   Zp))))
   (XN (Ww (PW.pt (QJ (Zg (iu K (HV hr)) (Mp (Ml K) (pv 4) Kr (Od (Zd (Zo K) (by rfl) T.n_len Boot.«len» (XZ (pv 1) XY)))) (Zr (HQ K) (by rfl) T.n_list Boot.«list» (XZ (pv 1) XY)) (Zv _)) (Gw (Zg RW (Zd (Zo K) (by rfl) T.n_len Boot.«len» (XZ (pv 4) XY)) (Zn TZ (Zl K (pv 0) rfl) Za) (Zv _)))))
   (XG (Zh Gz))
   Zp)
   (XG (Zh (Zr (ZI K) (by rfl) T.n_tuple Boot.«tuple» (XZ (Zd (tj K) (by rfl) T.n_sorted Boot.«sorted» (XZ (pv 4) XY)) XY)))))))),?_⟩
  obtain⟨g1,g2,g3,g4⟩:=id hG;have one:1<=sizeLine:=by decide
  refine⟨_,rfl,Yo _,λr0 Vk=>?_⟩;have s0:=XH (o:=.tup []) Vk
  refine⟨w,r0,n,ps,[],rfl,hW.same s0,hG,SqT.of XR,λ_ e=>(nomatch e),λm H1 s1 QX Tz=>?_⟩;have cU:=s0.trans s1
  have hmf:=s0.free QX;refine⟨Yo _,λgl mj=>?_⟩;have s2:=XH (o:=.lst []) mj
  have OG:=cU.trans s2;have hgf:=cU.free mj
  refine⟨_,rfl,a,_,rfl,(hS.same OG).or,λl1 SI=>?_⟩;have s3:=XH (o:=.lst (IL ns)) SI
  have cT:=OG.trans s3;refine⟨_,rfl,b,_,rfl,(Em.same cT).or,λl2 Rj=>?_⟩;have s4:=XH (o:=.lst (IL os)) Rj
  have Hm:=cT.trans s4;refine⟨l1,l2,_,_,rfl,rfl,s4 _ _ XR,XR,TN (by rw[Xr,Xr];lia),λcl Vi=>?_⟩;have s5:=XH (o:=.lst (IL ns++IL os)) Vi
  have BU:=Hm.trans s5;have eI:IL ns++IL os=IL (ns++os):=(EX _ _).symm
  have BO:=s5 _ _ (s4 _ _ (s3 _ _ (XR (H:=H1) (a:=gl) (o:=.lst []))));have xY:=s5 _ _ (s4 _ _ (s3 _ _ (s2 _ _ Tz)))
  have IU:=XR (H:=upd (upd (upd H1 gl (.lst [])) l1 (.lst (IL ns))) l2 (.lst (IL os))) (a:=cl) (o:=.lst (IL ns++IL os));have ncg:cl≠gl:=λe=>by rw[e]at Vi;exact absurd ((s4 _ _ (s3 _ _ (XR (H:=H1) (a:=gl) (o:=.lst [])))).symm.trans Vi) (by simp)
  have nmg:m≠gl:=λe=>by rw[e]at Tz;exact absurd (Tz.symm.trans mj) (by simp)
  rw[eI]at s5 BU BO xY IU ⊢;generalize upd (upd (upd (upd H1 gl (.lst [])) l1 (.lst (IL ns))) l2 (.lst (IL os))) cl (.lst (IL (ns++os)))=H5 at *;refine⟨cl,rfl,⟨_,SqL.of IU⟩,wa (K:=K) (a:=cl) (xs:=IL (ns++os)) (λi σ H2=>∃(mc:Addr) (v5 v6:Option V),σ=[some (.ref w),some (.ref a),some (.ref b),some (.ref mc),some (.ref gl),v5,v6]/\Same H H2/\mc≠gl /\
    H2 cl=some (.lst (IL (ns++os)))/\H2 mc=some (.lst (IL (Xx n.toNat (XT ps (WU n.toNat ps ((ns++os).take i))))))/\H2 gl=some (.lst (IL (WU n.toNat ps ((ns++os).take i)))))
   ⟨m,none,none,rfl,BU,nmg,IU,xY,BO⟩ (λi σ H2 _ ⟨_,_,_,_,_,_,e,_⟩=>SqL.of e) ?_ ?_⟩
  .rintro i x σ H2 hi ⟨mc,v5,v6,rfl,s2,XJ,Ve,Wc,Ni⟩;obtain⟨z,rfl,hz⟩:=WL hi;obtain⟨z0,z1⟩:=hI z (Xd hz);have cS:∀ y∈(ns++os).take i,0<=y/\y<(ps.length:Int):=λy hy=>hI y (AJ hy)
   have est:(ns++os).take (i+1)=(ns++os).take i++[z]:=by rw[WA,hz];rfl
   have eG:WU n.toNat ps ((ns++os).take (i+1))=RJ n.toNat ps (WU n.toNat ps ((ns++os).take i)) z:=by rw[est,LY]
   have Wi:=HE hG cS;have BN:=Eb hG cS
   generalize WU n.toNat ps ((ns++os).take i)=G at *;obtain⟨dx,tl,xs,h1,h2,h3⟩:=hW.same s2;obtain⟨p,hp⟩:∃ p,ps[z.toNat]?=some p:=⟨_,Xo (by lia)⟩;obtain⟨v,hv,tt,rfl,Tp⟩:=h3.2 z.toNat p hp;obtain⟨e1,e2,e3,e4⟩:=g4 p (Xd hp);have ed:Zq ps z=(p.1.toNat,p.2.toNat):=by unfold Zq;rw[ZP hp]
   have hl:(Xx n.toNat (XT ps G)).length=n.toNat:=Zx _ _;have iA:Wb (IL (Xx n.toNat (XT ps G))) p.1=some (.int (mk (Xx n.toNat (XT ps G)) p.1.toNat)):=ZN (n:=p.1.toNat) (by lia) (TQ (OO (by grind)))
   have iB:Wb (IL (Xx n.toNat (XT ps G))) p.2=some (.int (mk (Xx n.toNat (XT ps G)) p.2.toNat)):=ZN (n:=p.2.toNat) (by lia) (TQ (OO (by grind)));have t0:Wb ([.int p.1,.int p.2]:List V) 0=some (.int p.1):=rfl
   have t1:Wb ([.int p.1,.int p.2]:List V) 1=some (.int p.2):=rfl;have key:mk (Xx n.toNat (XT ps G)) p.1.toNat=mk (Xx n.toNat (XT ps G)) p.2.toNat↔mk (WW n.toNat (XT ps G)) (Zq ps z).1=mk (WW n.toNat (XT ps G)) (Zq ps z).2:=by rw[ed,VN Wi (by grind) (by grind),ZO Wi (by grind) (by grind)]
   refine⟨_,rfl,w,_,dx,_,_,rfl,h1,T.cl_Web,T.n_Web_ties,Qo _ _,_,rfl,tl,xs,z,.ref tt,rfl,rfl,SqL.of h2,ZN (n:=z.toNat) (by lia) hv,?_⟩;refine⟨_,rfl,_,rfl,tt,_,0,_,rfl,rfl,SqT.of Tp,t0,mc,_,p.1,_,rfl,rfl,SqL.of Wc,iA,_,rfl,_,rfl,tt,_,1,_,rfl,rfl,SqT.of Tp,t1,mc,_,p.2,_,rfl,rfl,SqL.of Wc,iB,rfl,_,rfl,?_⟩;rw[ZC];refine WE (λhe=>?_) (λhe=>?_)
   .refine⟨mc,_,_,rfl,s2,XJ,Ve,?_,?_⟩
    .rw[eG];unfold RJ;rw[if_pos (key.mp he)];exact Wc
    .rw[eG];unfold RJ;rw[if_pos (key.mp he)];exact Ni
   .have cR:WU n.toNat ps ((ns++os).take (i+1))=G++[z]:=by rw[eG];unfold RJ;rw[if_neg (λe=>he (key.mpr e))]
    refine⟨_,rfl,_,rfl,_,rfl,one,λp2 VU=>?_⟩;have s6:=XH (o:=.tup [.int z]) VU
    refine⟨w,mc,p2,n,ps,_,true,[z],rfl,(hW.same s2).same s6,hG,s6 _ _ Wc,hl,SqT.of XR,λy hy=>by rw[XD.mp hy];exact⟨z0,z1⟩,λm' H7 s7 hf xX=>?_⟩;have mi:=s6.trans s7
    have cQ:=mi _ _ Ni;have hc7:=mi _ _ Ve
    have cP:m'≠gl:=by
     rcases hf with rfl | hf
     .exact XJ
     .exact λe=>absurd ((s6 _ _ Ni).symm.trans (e ▸ hf)) (by simp)
    refine⟨_,rfl,.inl ⟨rfl,_,SqL.of cQ⟩,_,rfl,gl,_,_,rfl,rfl,cQ,Zm (by rw[Xr];lia),?_⟩;refine⟨m',_,_,rfl,ZE hgf (s2.trans mi),cP,?_,?_,?_⟩
    .rw[Zb ncg];exact hc7
    .rw[Zb cP,xX,cR,TH,ZT9];rfl
    .rw[XR,cR,ZX]
  .rintro σ H2 ⟨mc,v5,v6,rfl,s2,XJ,Ve,Wc,Ni⟩;rw[Xr,YK]at Ni;have BN:=Eb hG hI
   generalize WU n.toNat ps (ns++os)=G at *;refine⟨_,rfl,_,rfl,a,_,rfl,(hS.same s2).or,_,rfl,gl,_,rfl,SqL.of Ni,λr1 Wn=>?_⟩;have ec:WM (IL G) none (some ((IL ns).length:Int))=IL (G.take ns.length):=by rw[gM (by lia),YA,Xr,EW]
   rw[ec];have s3:=XH (o:=.lst (IL (G.take ns.length))) Wn
   refine⟨_,rfl,a,_,rfl,(hS.same (s2.trans s3)).or,λr2 Vh=>?_⟩;have s4:=XH (o:=.lst (IL ns)) Vh
   refine⟨1,_,r1,r2,rfl,rfl,by decide,ij (SqL.of (s4 _ _ XR)) (SqL.of XR),_,rfl,?_⟩;have LB:=s2.trans (s3.trans s4)
   refine WE (λhe=>?_) (λhe=>?_)
   .obtain⟨dx,tl,xs,h1,h2,h3⟩:=hW.same LB;have cO:=s4 _ _ (s3 _ _ Ni)
    refine⟨_,rfl,gl,_,rfl,.inl (SqL.of cO),_,rfl,w,_,dx,_,_,rfl,h1,T.cl_Web,T.n_Web_places,JZ _ _,_,_,rfl,rfl,_,_,rfl,rfl,_,rfl,?_⟩;rw[Xr];refine WV (λhc=>?_) (λhc=>?_)
    .exact q0 (.inr hc) _ LB
    .refine⟨_,rfl,gl,G,rfl,SqL.of cO,by lia,λms UK VU l hl=>?_⟩;have s5:=XH (o:=.lst (IL ms)) hl
     refine⟨l,_,rfl,.inl ⟨SqL.of XR,λr hr=>?_⟩⟩;exact q1 he hc r ms _ UK VU ((LB.trans s5).trans (XH hr)) ((LB.trans s5).free hr) XR
   .refine VF ?_;exact q0 (.inl he) _ LB
def mh(K:Ad)(C:Addr):Sp:=λvs H Q _=>∃(w a:Addr) (n:Int) (ps:Aa) (kd:Bool) (ns:Ac) (z:Int),vs=[.ref w,.ref a,.int z]/\WebAt C H w n ps/\Zt n ps/\SqK kd K H a (IL ns)/\IsSet ps.length ns /\
 ∀(r:Addr) (H':Hp),Same H H'->H r=none->H' r=some (.tup (IL (unlike (WW n.toNat (XT ps (wo ns z))) ps ps.length)))->Q (.ref r) H'
theorem BM:FnScope ["web","tree","tie","marks"] ["web","tree","tie"] (XA sZq):=⟨rfl,rfl,rfl,by decide +kernel,rfl,by decide +kernel,by decide +kernel⟩
theorem mf (T:Txt K mg t):FnOk P w K mg base Xl 3 t.aZq t.dZq ["web","tree","tie"] (mh K t.A_Web):=by
 refine T.fZq.ok BM (λvs H Q E h=>?_) (λXz A outer s H vs Q E hr h=>?_)
 .obtain⟨w,a,n,ps,kd,ns,z,rfl,_⟩:=h;rfl
 .obtain⟨w,a,n,ps,kd,ns,z,rfl,hW,hG,hS,hI,q⟩:=h;refine⟨_,(XN (Zk (i:=3) BM.nd rfl (Or.inr rfl) (XF (Rr T) (hr.mono (by decide)) rfl T.mZf T.fZf.kp T.bZf .nil Zs (XZ (pv 0) (XZ (XF (Cf T) (hr.mono (by decide)) rfl T.mZb T.fZb.kp T.bZb .nil Zs (XZ (pv 1) (XZ (pv 2) XY))) XY))))
   (XG (Zh (Zr (ZI K) (by rfl) T.n_tuple Boot.«tuple» (XZ (Sn rfl (sc0:=XA sZq) (N0:=["web","tree","tie","marks"]) (N':=["number","ends","marks"]) (o:=2) (fr:=[3]) ⟨rfl,by decide +kernel,by decide +kernel,by decide +kernel,rfl,by decide +kernel⟩ (Mj K rfl T.n_enumerate (XZ (Zl K (pv 0) rfl) XY)) (Fc (Vb (by decide) (Vb (by decide) Fd))) (λ_ _ _ _=>(Qm (n:=2) K rfl (Zu (Ze (i:=0) (show List.Nodup (["number","ends","marks"]:List Str) by decide +kernel) rfl (Or.inl rfl)) (Zu (Ze (i:=1) (show List.Nodup (["number","ends","marks"]:List Str) by decide +kernel) rfl (Or.inl rfl)) QG)))) (λ_ _ _ _=>(Qw (Zg OT (ZQ (Zi K) (pv 2) (ZQ (ZK K) (pv 1) Za (λ_ _=>rfl)) (λ_ _=>rfl)) (ZQ (Zi K) (pv 2) (ZQ (ZK K) (pv 1) Za (λ_ _=>rfl)) (λ_ _=>rfl)) (Zv _)))) (λ_ _ _ _=>(pv 0))) XY))))),?_⟩
  obtain⟨g1,g2,g3,g4⟩:=id hG;have hln:=hI.len
  have hb:∀ y∈wo ns z,0<=y/\y<(ps.length:Int):=λy hy=>hI.all y (Xq.mp hy).1;refine⟨_,rfl,_,rfl,_,rfl,a,kd,ns,z,rfl,hS,by lia,λr1 H1 s1 Vk Wn=>?_⟩;refine⟨w,r1,n,ps,wo ns z,rfl,hW.same s1,hG,SqT.of Wn,hb,λm H2 s2 QX Wc=>?_⟩;have Wi:=ZG hG hb
  have e0:=Zu5 (M:=Xx n.toNat (XT ps (wo ns z))) hG (Zx _ _) (NR Wi);have hl:(Xx n.toNat (XT ps (wo ns z))).length=n.toNat:=Zx _ _
  rw[<- e0]at q;generalize Xx n.toNat (XT ps (wo ns z))=M at *;have WS:=s1.trans s2
  obtain⟨dx,tl,xs,h1,h2,h3⟩:=hW.same WS;have Nx:=h3.1
  refine⟨_,rfl,w,_,dx,_,_,rfl,h1,T.cl_Web,T.n_Web_ties,Qo _ _,tl,rfl,⟨_,SqL.of h2⟩,zr (K:=K) (a:=tl) (xs:=xs) (λi ys H3=>Same H2 H3/\i<=xs.length/\ys=IL (unlike M ps i)) ⟨Same.refl _,Yo _,rfl⟩ (Zm (by lia))
   (λi ys H3 _ ⟨e,_,ey⟩=>⟨SqL.of (e _ _ h2),by rw[ey,Xr];exact ZY5 _ _ _⟩) ?_ ?_⟩
  .rintro i x ys H3 pt Ur hi ⟨s3,Vn,rfl⟩ S Xe;obtain⟨p,Ql,tt,rfl,Tp⟩:=h3.at hi;obtain⟨e1,e2,e3,e4⟩:=g4 p (Xd Ql);have Xk:i<xs.length:=(Xp.mp hi).1
   have s4:Same H3 (upd H3 pt (.tup [.int i,.ref tt])):=XH Ur;have Sg:=s3.trans s4
   have Pz:=Sg _ _ Tp;have BL:=Sg _ _ Wc
   have ed:ps.getD i (0,0)=p:=ZP Ql;have t0:Wb ([.int p.1,.int p.2]:List V) 0=some (.int p.1):=rfl
   have t1:Wb ([.int p.1,.int p.2]:List V) 1=some (.int p.2):=rfl;have iA:Wb (IL M) p.1=some (.int (mk M p.1.toNat)):=ZN (n:=p.1.toNat) (by lia) (TQ (OO (by grind)))
   have iB:Wb (IL M) p.2=some (.int (mk M p.2.toNat)):=ZN (n:=p.2.toNat) (by lia) (TQ (OO (by grind)));refine⟨pt,_,rfl,SqT.of XR,rfl,_,_,rfl,_,_,rfl,rfl,?_⟩;refine⟨_,rfl,_,rfl,tt,_,0,_,rfl,rfl,SqT.of Pz,t0,m,_,p.1,_,rfl,rfl,SqL.of BL,iA,_,rfl,_,rfl,tt,_,1,_,rfl,rfl,SqT.of Pz,t1,m,_,p.2,_,rfl,rfl,SqL.of BL,iB,rfl,_,rfl,?_⟩;rw[ZC];refine WE (λhe=>?_) (λhe=>?_)
   .refine Xe _ _ ⟨Sg,Xk,?_⟩;rw[gX,ed,if_neg (by simpa using he),YF]
   .refine⟨_,rfl,Xe _ _ ⟨Sg,Xk,?_⟩⟩;rw[gX,ed,if_pos he,ZX]
  .rintro ys H3 ⟨s3,_,rfl⟩ p hp;rw[Nx];refine⟨p,_,rfl,.inl ⟨SqL.of XR,λr hr=>?_⟩⟩;exact q r _ (WS.trans (s3.trans (Zw (XH hp) hr))) ((WS.trans (s3.trans (XH hp))).free hr) XR
def me(K:Ad)(C:Addr):Sp:=λvs H Q _=>∃(w a:Addr) (n:Int) (ps:Aa) (kd:Bool) (ns:Ac) (z:Int),vs=[.ref w,.ref a,.int z]/\WebAt C H w n ps/\Zt n ps/\SqK kd K H a (IL ns)/\-(10 ^ 70)<z/\z<10 ^ 70 /\
 (Zf n ps ns->z∉ns->0<=z->z<(ps.length:Int)->∀(ms:Ac),ms.Perm (WD n ps ns z ns++[z])->ms.Pairwise (·<=·)->∀(r:Addr) (H':Hp),Same H H'->H r=none->H' r=some (.tup (IL ms))->Q (.ref r) H') /\
 (Zf n ps ns->(z∈ns\/¬ (0<=z/\z<(ps.length:Int)))->∀ H':Hp,Same H H'->False)/\(¬ Zf n ps ns->∀ H':Hp,Same H H'->False)
theorem md:FnScope ["web","tree","tie"] ["web","tree","tie"] (XA sZr):=⟨rfl,rfl,rfl,by decide +kernel,rfl,by decide +kernel,by decide +kernel⟩
theorem ma (T:Txt K mg t):FnOk P w K mg base Xl 8 t.aZr t.dZr ["web","tree","tie"] (me K t.A_Web):=by
 refine T.fZr.ok md (λvs H Q E h=>?_) (λXz A outer s H vs Q E hr h=>?_)
 .obtain⟨w,a,n,ps,kd,ns,z,rfl,_⟩:=h;rfl
 .obtain⟨w,a,n,ps,kd,ns,z,rfl,hW,hG,hS,z0,z1,q,q1,q2⟩:=h;refine⟨_,(XN (ZZ (XF (BP T) (hr.mono (by decide)) rfl T.mZo T.fZo.kp T.bZo .nil Zs (XZ (pv 0) (XZ (pv 1) XY))))
   (XN (Ww (PW.pt (QJ (Zg (Qn K) (pv 2) (pv 1) rfl) (Gw (OW (QK (XF (Ci T) (hr.mono (by decide)) rfl T.mZ6 T.fZ6.kp T.bZ6 .nil Zs (XZ (pv 0) (XZ (pv 2) XY))))))))
   (XG Mr)
   Zp)
   (XG (Zh (Zr (ZI K) (by rfl) T.n_tuple Boot.«tuple» (XZ (Zd (tj K) (by rfl) T.n_sorted Boot.«sorted» (XZ (Zn zV (Sn rfl (sc0:=XA sZr) (N0:=["web","tree","tie"]) (N':=["out","tie","web","tree"]) (o:=1) (fr:=[2,0,1]) ⟨rfl,by decide +kernel,by decide +kernel,by decide +kernel,rfl,by decide +kernel⟩ (TL K (pv 1)) (Zz (by decide)) (λ_ _ _ _=>(Ze (i:=0) (show List.Nodup (["out","tie","web","tree"]:List Str) by decide +kernel) rfl (Or.inl rfl))) (λ_ _ _ _=>(Qw (Zg (Qn K) (pv 1) (XF (mf T) (hr.mono (by decide)) rfl T.mZq T.fZq.kp T.bZq .nil Zs (XZ (pv 2) (XZ (pv 3) (XZ (pv 0) XY)))) rfl))) (λ_ _ _ _=>(pv 0))) (Uk (XZ (pv 2) XY))) XY)) XY)))))),?_⟩
  refine⟨_,rfl,_,rfl,w,a,n,ps,kd,ns,rfl,hW,hG,hS,λhT H1 s1=>?_,q2⟩;have one:1<=sizeLine:=by decide
  have tl:ns.length<=20:=by have:=hT.2.1;have:=hG.2.1;lia
  refine⟨_,rfl,_,rfl,a,_,rfl,(hS.same s1).or,rfl,ZT _,_,rfl,?_⟩;rw[NQ];refine WV (λhc=>?_) (λhc=>?_)
  .exact VF (q1 hT (.inl hc) H1 s1)
  .refine⟨_,rfl,_,rfl,w,n,ps,z,rfl,hW.same s1,_,rfl,?_⟩;refine WE (λht=>?_) (λht=>?_)
   .refine⟨_,rfl,a,rfl,zP (k:=kd) (K:=K) (xs:=IL ns) (λi ys H2=>Same H1 H2/\i<=ns.length/\ys=IL (WD n ps ns z (ns.take i))) ⟨Same.refl _,Yo _,rfl⟩ (Zm (by rw[Xr];lia))
     (λi ys H2 hi ⟨e,VA,ey⟩=>⟨(hS.same s1).same e,by rw[ey,Xr];exact Yr (HK ..) (by rw[YB];lia)⟩) ?_ ?_⟩
    .rintro i x ys H2 hi ⟨s2,Vn,rfl⟩ S Xe;obtain⟨y,rfl,hy⟩:=WL hi;have Xk:i<ns.length:=(Xp.mp hy).1
     have WS:=s1.trans s2;refine nm ?_;refine⟨_,rfl,_,rfl,_,rfl,_,rfl,w,a,n,ps,kd,ns,y,rfl,hW.same WS,hG,hS.same WS,hT.1,λr H3 s3 Vk UT=>?_⟩;refine⟨r,_,rfl,.inr (SqT.of UT),rfl,ZT _,_,rfl,?_⟩;rw[NQ];refine WV (λhe=>?_) (λhe=>?_)
     .refine⟨_,rfl,Xe _ _ ⟨s2.trans s3,Xk,?_⟩⟩;rw[gU hy,if_pos he,ZX]
     .refine Xe _ _ ⟨s2.trans s3,Xk,?_⟩;rw[gU hy,if_neg he,YF]
    .rintro ys H2 ⟨s2,_,rfl⟩ p hp;rw[Xr,YK];have rl:=HK n ps ns z ns
     refine⟨_,rfl,one,λp2 VU=>?_⟩;refine tm (l2:=[z]) (by rw[Zb (Zc XR VU)];exact XR) XR (by simp only [Yz,Ik];lia) λp3 Nj=>?_;refine⟨p3,_,rfl,SqL.of XR,by simp only [Xs,Yz,Ik];lia,λms Uv NB p4 LH=>?_⟩;refine⟨p4,IL ms,rfl,.inl ⟨SqL.of XR,λr hr=>?_⟩⟩;have s6:=(s1.trans s2).trans (Zw (Zw (XH (o:=.lst (IL (WD n ps ns z ns))) hp) (o:=.lst (IL [z])) VU) (o:=.lst (IL (WD n ps ns z ns++[z]))) Nj)
     exact q hT hc ht.1 ht.2 ms Uv NB r _ (s6.trans (Zw (XH LH) hr)) ((s6.trans (XH LH)).free hr) XR
   .exact q1 hT (.inr ht) H1 s1
def l9(K:Ad)(C:Addr):Sp:=λvs H Q _=>∃(w a b:Addr) (n:Int) (ps:Aa) (I O:Ac),vs=[.ref w,.ref a,.ref b]/\WebAt C H w n ps/\Zt n ps/\SqT K H a (IL I)/\SqT K H b (IL O)/\I.Nodup/\(∀ z∈I,0<=z/\z<(ps.length:Int))/\(∀ z∈I,z∉O) /\
 (∀ H':Hp,Same H H'->(∀ U,¬ With n ps I O U)->Q .non H') /\
 (∀(r:Addr) (F:Ac) (H':Hp),Same H H'->H' r=some (.tup (IL F))->With n ps I O F->(∀ U,With n ps I O U->HT.lexLt U F=false)->Q (.ref r) H')
theorem l8:FnScope ["web","inside","outside"] ["web","inside","outside"] (XA sZs):=⟨rfl,rfl,rfl,by decide +kernel,rfl,by decide +kernel,by decide +kernel⟩
theorem BK (T:Txt K mg t):FnOk P w K mg base Xl 4 t.aZs t.dZs ["web","inside","outside"] (l9 K t.A_Web):=by
 refine T.fZs.ok l8 (λvs H Q E h=>?_) (λXz A outer s H vs Q E hr h=>?_)
 .obtain⟨w,a,b,n,ps,I,O,rfl,_⟩:=h;rfl
 .obtain⟨w,a,b,n,ps,I,O,rfl,hW,hG,hA,hB,hIn,Xt,hd,q0,q1⟩:=h;refine⟨_,(XG (Zh (XF (ml T) (hr.mono (by decide)) rfl T.mZp T.fZp.kp T.bZp .nil Zs (XZ (pv 0) (XZ (pv 1) (XZ (XF (nE T) (hr.mono (by decide)) rfl T.mZa T.fZa.kp T.bZa .nil Zs (XZ (pv 0) (XZ (pv 2) XY))) XY)))))),?_⟩;have g3:=hG.2.2.1
  refine⟨_,rfl,_,rfl,_,rfl,_,rfl,w,b,n,ps,true,O,rfl,hW,by lia,hB,λD cN hD dA H1 s1 l7=>?_⟩;have hDs:IsSet ps.length D:=XX.mpr ⟨λz hz=>((hD z).mp hz).1,cN⟩
  have hb:∀ z∈I++D,0<=z/\z<(ps.length:Int):=λz hz=>(Xy.mp hz).elim (Xt z) λh=>((hD z).mp h).1;have il:I.length<=ps.length:=by
   have:=JC (m:=Wo ps.length) hIn λz hz=>XB.mpr (Xt z hz)
   rw[ZJ]at this;exact this
  have dl:=hDs.len;refine⟨w,a,dA,n,ps,true,true,I,D,rfl,hW.same s1,hG,Mm s1 hA,SqT.of l7,by lia,by lia,hb,λh H2 s2=>q0 H2 (s1.trans s2) λU hU=>?_,λht hl r ms H2 Uv NB s2 Vk hr=>?_⟩
  .have:=rZ hG hU.1 hIn hU.2.1 (hU.sub hD) hb
   rcases h with h | h
   .exact h this.1
   .exact this.2 h
  .have hF:With n ps I O ms:=⟨ZH5 hG hb hl Uv NB,λz hz=>Uv.mem_iff.mpr (AJ (ht ▸ hz)),λz hz h=>(Xy.mp ((zd _ _ _).subset (Uv.mem_iff.mp h))).elim (λh=>hd z h hz) λh=>((hD z).mp h).2 hz⟩;exact q1 r ms H2 (s1.trans s2) hr hF λU hU=>ZW6 hG hU.1 hU.2.1 (hU.sub hD) hb cN hF.1 Uv hF.2.1
def l6(K:Ad)(C:Addr):Sp:=λvs H Q _=>∃(w m:Addr) (n:Int) (ps:Aa) (M:Ac) (z:Int),vs=[.ref w,.ref m,.int z]/\WebAt C H w n ps/\Zt n ps/\H m=some (.lst (IL M))/\M.length=n.toNat/\0<=z/\z<(ps.length:Int) /\
 ∀(r:Addr) (l:Ac) (H':Hp),l.Perm [mk M (ps.getD z.toNat (0,0)).1.toNat,mk M (ps.getD z.toNat (0,0)).2.toNat]->l.Pairwise (·<=·)->Same H H'->H' r=some (.lst (IL l))->Q (.ref r) H'
theorem BJ:FnScope ["web","marks","tie","ends"] ["web","marks","tie"] (XA sZt):=⟨rfl,rfl,rfl,by decide +kernel,rfl,by decide +kernel,by decide +kernel⟩
theorem BI (T:Txt K mg t):FnOk P w K mg base Xl 1 t.aZt t.dZt ["web","marks","tie"] (l6 K t.A_Web):=by
 refine T.fZt.ok BJ (λvs H Q E h=>?_) (λXz A outer s H vs Q E hr h=>?_)
 .obtain⟨w,m,n,ps,M,z,rfl,_⟩:=h;rfl
 .obtain⟨w,m,n,ps,M,z,rfl,hW,hG,hM,Sf,z0,z1,q⟩:=h;refine⟨_,(XN (Zk (i:=3) BJ.nd rfl (Or.inl rfl) (ZQ (Zi K) (Zl K (pv 0) rfl) (pv 2) (λ_ _=>rfl)))
   (XG (Zh (Zd (tj K) (by rfl) T.n_sorted Boot.«sorted» (XZ (Uk (XZ (ZQ (Zi K) (pv 1) (ZQ (ZK K) (pv 3) Za (λ_ _=>rfl)) (λ_ _=>rfl)) (XZ (ZQ (Zi K) (pv 1) (ZQ (ZK K) (pv 3) Za (λ_ _=>rfl)) (λ_ _=>rfl)) XY))) XY))))),?_⟩
  obtain⟨g1,g2,g3,g4⟩:=id hG;obtain⟨dx,tl,xs,h1,h2,h3⟩:=id hW;obtain⟨p,hp⟩:∃ p,ps[z.toNat]?=some p:=⟨_,Xo (by lia)⟩;have ep:ps.getD z.toNat (0,0)=p:=ZP hp
  rw[ep]at q;obtain⟨v,hv,tt,rfl,Tp⟩:=h3.2 _ p hp;obtain⟨e1,e2,e3,e4⟩:=g4 p (Xd hp);have t0:Wb ([.int p.1,.int p.2]:List V) 0=some (.int p.1):=rfl
  have t1:Wb ([.int p.1,.int p.2]:List V) 1=some (.int p.2):=rfl;have iA:Wb (IL M) p.1=some (.int (mk M p.1.toNat)):=ZN (n:=p.1.toNat) (by lia) (TQ (OO (by grind)))
  have iB:Wb (IL M) p.2=some (.int (mk M p.2.toNat)):=ZN (n:=p.2.toNat) (by lia) (TQ (OO (by grind)));refine⟨_,rfl,w,_,dx,_,_,rfl,h1,T.cl_Web,T.n_Web_ties,Qo _ _,_,rfl,tl,_,_,.ref tt,rfl,rfl,SqL.of h2,ZN (n:=z.toNat) (by lia) hv,?_⟩;refine nm ?_;refine⟨_,rfl,_,rfl,tt,_,0,_,rfl,rfl,SqT.of Tp,t0,m,_,p.1,_,rfl,rfl,SqL.of hM,iA,_,rfl,_,rfl,tt,_,1,_,rfl,rfl,SqT.of Tp,t1,m,_,p.2,_,rfl,rfl,SqL.of hM,iB,(by show 2<=sizeLine;decide),λa ha=>?_⟩;have s1:=XH (o:=.lst (IL [mk M p.1.toNat,mk M p.2.toNat])) ha
  refine⟨a,[mk M p.1.toNat,mk M p.2.toNat],rfl,SqL.of XR,(by show 2<64;decide),λl hl hs r hr=>?_⟩;exact q r l _ hl hs (s1.trans (XH hr)) XR
def l5(K:Ad)(C:Addr):Sp:=λvs H Q _=>∃(w m a:Addr) (n:Int) (ps:Aa) (M g:Ac),vs=[.ref w,.ref m,.ref a]/\WebAt C H w n ps/\Zt n ps/\H m=some (.lst (IL M))/\M.length=n.toNat/\SqT K H a (IL g) /\
 ∀(r:Addr) (H':Hp),Same H H'->H r=none->H' r=some (.lst (IL (Nh M ps g ps.length)))->Q (.ref r) H'
theorem lZ:FnScope ["web","marks","gone"] ["web","marks","gone"] (XA sZu):=⟨rfl,rfl,rfl,by decide +kernel,rfl,by decide +kernel,by decide +kernel⟩
theorem BH (T:Txt K mg t):FnOk P w K mg base Xl 1 t.aZu t.dZu ["web","marks","gone"] (l5 K t.A_Web):=by
 refine T.fZu.ok lZ (λvs H Q E h=>?_) (λXz A outer s H vs Q E hr h=>?_)
 .obtain⟨w,m,a,n,ps,M,g,rfl,_⟩:=h;rfl
 .obtain⟨w,m,a,n,ps,M,g,rfl,hW,hG,hM,Sf,hA,q⟩:=h;refine⟨_,(XG (Zh (Sn rfl (sc0:=XA sZu) (N0:=["web","marks","gone"]) (N':=["tie","ends","gone","marks"]) (o:=2) (fr:=[2,1]) ⟨rfl,by decide +kernel,by decide +kernel,by decide +kernel,rfl,by decide +kernel⟩ (Mj K rfl T.n_enumerate (XZ (Zl K (pv 0) rfl) XY)) (Fc (Vb (by decide) (Vb (by decide) Fd))) (λ_ _ _ _=>(Qm (n:=2) K rfl (Zu (Ze (i:=0) (show List.Nodup (["tie","ends","gone","marks"]:List Str) by decide +kernel) rfl (Or.inl rfl)) (Zu (Ze (i:=1) (show List.Nodup (["tie","ends","gone","marks"]:List Str) by decide +kernel) rfl (Or.inl rfl)) QG)))) (λ_ _ _ _=>(Qw (PW.pt (Gv (Zg (HR K) (pv 0) (pv 2) rfl) (ji (Zg OT (ZQ (Zi K) (pv 3) (ZQ (ZK K) (pv 1) Za (λ_ _=>rfl)) (λ_ _=>rfl)) (ZQ (Zi K) (pv 3) (ZQ (ZK K) (pv 1) Za (λ_ _=>rfl)) (λ_ _=>rfl)) (Zv _))))))) (λ_ _ _ _=>(pv 0))))),?_⟩;obtain⟨g1,g2,g3,g4⟩:=id hG;obtain⟨dx,tl,xs,h1,h2,h3⟩:=id hW;have Nx:=h3.1
  refine⟨_,rfl,w,_,dx,_,_,rfl,h1,T.cl_Web,T.n_Web_ties,Qo _ _,tl,rfl,⟨_,SqL.of h2⟩,zr (K:=K) (a:=tl) (xs:=xs) (λi ys H3=>Same H H3/\i<=xs.length/\ys=IL (Nh M ps g i)) ⟨Same.refl _,Yo _,rfl⟩ (Zm (by lia))
   (λi ys H3 _ h=>by obtain⟨e,_,ey⟩:=h;exact⟨SqL.of (e _ _ h2),by rw[ey,Xr];exact o9 _ _ _ _⟩) ?_ ?_⟩
  .rintro i x ys H3 pt Ur hi ⟨s3,Vn,rfl⟩ S Xe;obtain⟨p,Ql,tt,rfl,Tp⟩:=h3.at hi;obtain⟨e1,e2,e3,e4⟩:=g4 p (Xd Ql);have Xk:i<xs.length:=(Xp.mp hi).1
   have s4:Same H3 (upd H3 pt (.tup [.int i,.ref tt])):=XH Ur;have Sg:=s3.trans s4
   have Pz:=Sg _ _ Tp;have BL:=Sg _ _ hM
   have LF:=SqK.same (k:=true) Sg hA;have ed:ps.getD i (0,0)=p:=ZP Ql
   have t0:Wb ([.int p.1,.int p.2]:List V) 0=some (.int p.1):=rfl;have t1:Wb ([.int p.1,.int p.2]:List V) 1=some (.int p.2):=rfl
   have iA:Wb (IL M) p.1=some (.int (mk M p.1.toNat)):=ZN (n:=p.1.toNat) (by lia) (TQ (OO (by grind)));have iB:Wb (IL M) p.2=some (.int (mk M p.2.toNat)):=ZN (n:=p.2.toNat) (by lia) (TQ (OO (by grind)))
   have hs:=CT M ps g i;rw[ed]at hs;refine⟨pt,_,rfl,SqT.of XR,rfl,_,_,rfl,_,_,rfl,rfl,?_⟩;refine⟨_,rfl,_,rfl,a,_,rfl,.inr LF,rfl,ZT _,_,rfl,?_⟩;rw[NQ];refine WE (λhe=>?_) (λhe=>?_)
   .refine Xe _ _ ⟨Sg,Xk,?_⟩;rw[hs,if_neg (λh=>h.1 he),YF]
   refine⟨_,rfl,_,rfl,tt,_,0,_,rfl,rfl,SqT.of Pz,t0,m,_,p.1,_,rfl,rfl,SqL.of BL,iA,_,rfl,_,rfl,tt,_,1,_,rfl,rfl,SqT.of Pz,t1,m,_,p.2,_,rfl,rfl,SqL.of BL,iB,rfl,_,rfl,?_⟩;rw[ZC];refine WE (λhx=>?_) (λhx=>?_)
   .refine Xe _ _ ⟨Sg,Xk,?_⟩;rw[hs,if_neg (λh=>h.2 hx),YF]
   .refine⟨_,rfl,Xe _ _ ⟨Sg,Xk,?_⟩⟩;rw[hs,if_pos ⟨he,hx⟩,ZX]
  .rintro ys H3 ⟨s3,_,rfl⟩ p hp;rw[Nx];exact q p _ (s3.trans (XH hp)) (s3.free hp) XR
def lY(st:Stmt):Pos:=match (Qx st).getD 9 (.Pass ⟨0,0,0,0⟩) with
 | .Assign _ (.Call _ _ [k] _) _=>(match k.value with
  | .Lambda _ _ _ p=>p
  | _=>⟨0,0,0,0⟩)
 | _=>⟨0,0,0,0⟩
def lX:Str:=Str.ofString "Part.__init__"++Str.ofString ".<locals>."++Str.ofString "<lambda>"
abbrev Xj(H:Hp)(Pt:Addr):Prop:=TabH H Pt (lY sZv) lX
def cM(K:Ad)(CP C Pt:Addr):Sp:=λvs H Q _=>∃(x dx w a b:Addr) (n:Int) (ps:Aa) (I O:Ac) (ld:Option Int),vs=[.ref x,.ref w,.ref a,.ref b,Xg ld]/\H x=some (.ins CP dx [])/\WebAt C H w n ps/\Zt n ps/\Xj H Pt /\
 SqT K H a (IL I)/\SqT K H b (IL O)/\I.Nodup/\(∀ z∈I,0<=z/\z<(ps.length:Int))/\(∀ z∈I,z∉O)/\O.length<=30/\(∃ U,With n ps I O U)/\(∀ y,ld=some y->0<=y/\y<(ps.length:Int))/\(ld=none->∀ F,With n ps I O F->(∀ U,With n ps I O U->HT.lexLt U F=false)->WY n ps I O F=[]) /\
 ∀(F inc:Ac) (fu:Option Int) (l i:Addr) (H':Hp),With n ps I O F->(∀ U,With n ps I O U->HT.lexLt U F=false)->Si (λz=>PyProof.Rows.b2i (decide (ld=some z))) (Tt n ps I O F ld) inc->(fu=none↔VX n ps I O F ld=[])->(∀ y,fu=some y->y∈VX n ps I O F ld/\∀ z∈VX n ps I O F ld,y<=z) ->
  H' x=some (.ins CP dx (yB (.ref w) (.ref a) (.ref b) (Xg ld) (.ref l) (.ref i) (Xg fu)))->H' l=some (.tup (IL F))->H' i=some (.lst (IL inc))->(∀ b o,b≠x->b≠Pt->H b=some o->H' b=some o)->Xj H' Pt->Q .non H'
theorem Py:FnScope ["self","web","kept","shut","lead","marks","opened","alike","unlike"] ["self","web","kept","shut","lead"] (XA sZv):=⟨rfl,rfl,rfl,by decide +kernel,rfl,by decide +kernel,by decide +kernel⟩
theorem IT {Pt:Addr} (T:Txt K mg t) (hB:Ry K mg base t.dZv Pt):FnOk P w K mg base Xl 8 t.aZv t.dZv ["self","web","kept","shut","lead"] (cM K t.A_Part t.A_Web Pt):=by
 obtain⟨cA,UL,hC,hBa,Di⟩:=hB;refine T.fZv.okL UL Py (λvs H Q E h=>?_) (λA outer s H vs Q E hr h=>?_)
 .obtain⟨x,dx,w,a,b,n,ps,I,O,ld,rfl,_⟩:=h;rfl
 .obtain⟨x,dx,w,a,b,n,ps,I,O,ld,rfl,hx,hW,hG,hT,hA,Se,hIn,Xt,Vm,Sd,⟨U0,Hl⟩,Cr,Te,q⟩:=h;refine⟨_,(XN (Uz (pv 0) (pv 1) rfl)
   (XN (Uz (pv 0) (pv 2) rfl)
   (XN (Uz (pv 0) (pv 3) rfl)
   (XN (Uz (pv 0) (pv 4) rfl)
   (XN (Uz (pv 0) (XF (BK T) (hr.mono (by decide)) rfl T.mZs T.fZs.kp T.bZs .nil Zs (XZ (pv 1) (XZ (pv 2) (XZ (pv 3) XY)))) rfl)
   (XN (Zk (i:=5) Py.nd rfl (Or.inr rfl) (XF (Rr T) (hr.mono (by decide)) rfl T.mZf T.fZf.kp T.bZf .nil Zs (XZ (pv 1) (XZ (pv 2) XY))))
   (XN (Zk (i:=6) Py.nd rfl (Or.inl rfl) (XF (BH T) (hr.mono (by decide)) rfl T.mZu T.fZu.kp T.bZu .nil Zs (XZ (pv 1) (XZ (pv 5) (XZ (Zn (HJ K) (Zn (HJ K) (pv 2) (pv 3)) (Zl K (pv 0) rfl)) XY)))))
   (XN (Zk (i:=7) Py.nd rfl (Or.inr rfl) (Sn rfl (sc0:=XA sZv) (N0:=["self","web","kept","shut","lead","marks","opened","alike","unlike"]) (N':=["tie","web","marks","lead"]) (o:=1) (fr:=[1,5,4]) ⟨rfl,by decide +kernel,by decide +kernel,by decide +kernel,rfl,by decide +kernel⟩ (Va K (pv 6)) (Zz (by decide)) (λ_ _ _ _=>(Ze (i:=0) (show List.Nodup (["tie","web","marks","lead"]:List Str) by decide +kernel) rfl (Or.inl rfl))) (λ_ _ _ _=>(Qw (Zg (t7 K (HV hr)) (XF (BI T) (hr.mono (by decide)) rfl T.mZt T.fZt.kp T.bZt .nil Zs (XZ (pv 1) (XZ (pv 2) (XZ (pv 0) XY)))) (XF (BI T) (hr.mono (by decide)) rfl T.mZt T.fZt.kp T.bZt .nil Zs (XZ (pv 1) (XZ (pv 2) (XZ (pv 3) XY)))) (Zv _)))) (λ_ _ _ _=>(pv 0))))
   (XN (NX (i:=8) rfl Py.nd rfl rfl (sc0:=XA sZv) (N0:=["self","web","kept","shut","lead","marks","opened","alike","unlike"]) (N':=["tie","alike"]) (o:=1) (fr:=[7]) ⟨rfl,by decide +kernel,by decide +kernel,by decide +kernel,rfl,by decide +kernel⟩ (Va K (pv 6)) (Zz (by decide)) (λ_ _ _ _=>(Ze (i:=0) (show List.Nodup (["tie","alike"]:List Str) by decide +kernel) rfl (Or.inl rfl))) (λ_ _ _ _=>(Qw (Zg (HR K) (pv 0) (pv 1) rfl))) (λ_ _ _ _=>(pv 0)))
   (XN (Uz (pv 0) (ZA5 (k:=0) (i:=4) (v:="tie") (x:="lead") (pv 7) (by rfl) T.n_sorted (hr.mono (by decide)) rfl rfl hC hBa Di (LamScope.of rfl rfl rfl (by first | exact .inl rfl | exact .inr rfl) (by decide)) rfl rfl (λ_ _ _ _=>rfl) rfl rfl rfl (λ_ _ _ _ _ _ hr=>(Og RX (pv 0) (pv 1) (Zv _)))) rfl)
   (XG (Uz (pv 0) (d5 rfl (by rfl) T.n_min (pv 8)) rfl)))))))))))),?_⟩
  obtain⟨g1,g2,g3,g4⟩:=id hG;refine⟨_,rfl,_,rfl,x,_,dx,[],rfl,hx,T.cl_Part,T.n_Part_web,(by show 0<1000;decide),?_⟩;refine⟨_,rfl,_,rfl,x,_,dx,_,rfl,XR,T.cl_Part,T.n_Part_kept,(by show 1<1000;decide),?_⟩;refine⟨_,rfl,_,rfl,x,_,dx,_,rfl,XR,T.cl_Part,T.n_Part_shut,(by show 2<1000;decide),?_⟩;refine⟨_,rfl,_,rfl,x,_,dx,_,rfl,XR,T.cl_Part,T.n_Part_lead,(by show 3<1000;decide),?_⟩;change Ua _ _ _ [some (.ref x),some (.ref w),some (.ref a),some (.ref b),some (Xg ld),none,none,none,none] (upd (upd (upd (upd H x (.ins t.A_Part dx (XQ "web" (.ref w) []))) x (.ins t.A_Part dx (XQ "kept" (.ref a) (XQ "web" (.ref w) [])))) x (.ins t.A_Part dx (XQ "shut" (.ref b) (XQ "kept" (.ref a) (XQ "web" (.ref w) []))))) x (.ins t.A_Part dx (XQ "lead" (Xg ld) (XQ "shut" (.ref b) (XQ "kept" (.ref a) (XQ "web" (.ref w) []))))));have Up:SameX x H (upd (upd (upd (upd H x (.ins t.A_Part dx (XQ "web" (.ref w) []))) x (.ins t.A_Part dx (XQ "kept" (.ref a) (XQ "web" (.ref w) [])))) x (.ins t.A_Part dx (XQ "shut" (.ref b) (XQ "kept" (.ref a) (XQ "web" (.ref w) []))))) x (.ins t.A_Part dx (XQ "lead" (Xg ld) (XQ "shut" (.ref b) (XQ "kept" (.ref a) (XQ "web" (.ref w) [])))))):=((WK.trans WK).trans WK).trans WK
  have x9:(upd (upd (upd (upd H x (.ins t.A_Part dx (XQ "web" (.ref w) []))) x (.ins t.A_Part dx (XQ "kept" (.ref a) (XQ "web" (.ref w) [])))) x (.ins t.A_Part dx (XQ "shut" (.ref b) (XQ "kept" (.ref a) (XQ "web" (.ref w) []))))) x (.ins t.A_Part dx (XQ "lead" (Xg ld) (XQ "shut" (.ref b) (XQ "kept" (.ref a) (XQ "web" (.ref w) [])))))) x=some (.ins t.A_Part dx [("web",.ref w),("kept",.ref a),("shut",.ref b),("lead",Xg ld)]):=XR;generalize upd (upd (upd (upd H x (.ins t.A_Part dx (XQ "web" (.ref w) []))) x (.ins t.A_Part dx (XQ "kept" (.ref a) (XQ "web" (.ref w) [])))) x (.ins t.A_Part dx (XQ "shut" (.ref b) (XQ "kept" (.ref a) (XQ "web" (.ref w) []))))) x (.ins t.A_Part dx (XQ "lead" (Xg ld) (XQ "shut" (.ref b) (XQ "kept" (.ref a) (XQ "web" (.ref w) [])))))=H4 at *;have BG:=hW.but hx Up
  have LF:=CS hA hx Up;have mC:=CS Se hx Up
  have il:I.length<=ps.length:=by
   have:=JC (m:=Wo ps.length) hIn λz hz=>XB.mpr (Xt z hz)
   rw[ZJ]at this;exact this
  refine⟨_,rfl,_,rfl,_,rfl,w,a,b,n,ps,I,O,rfl,BG,hG,LF,mC,hIn,Xt,Vm,λH5 s5 h=>absurd Hl (h U0),λl F H5 s5 hl hF VS=>?_⟩;refine⟨_,rfl,x,_,dx,_,rfl,s5 _ _ x9,T.cl_Part,T.n_Part_least,(by show 4<1000;decide),?_⟩;have Px:SameX x H H5:=Up.trans (SameX.same s5)
  have LA:SameX x H (upd H5 x (.ins t.A_Part dx (XQ "least" (.ref l) [("web",.ref w),("kept",.ref a),("shut",.ref b),("lead",Xg ld)]))):=Px.trans WK;have cL:(upd H5 x (.ins t.A_Part dx (XQ "least" (.ref l) [("web",.ref w),("kept",.ref a),("shut",.ref b),("lead",Xg ld)]))) x=some (.ins t.A_Part dx [("web",.ref w),("kept",.ref a),("shut",.ref b),("lead",Xg ld),("least",.ref l)]):=XR
  have Cb:(upd H5 x (.ins t.A_Part dx (XQ "least" (.ref l) [("web",.ref w),("kept",.ref a),("shut",.ref b),("lead",Xg ld)]))) l=some (.tup (IL F)):=by rw[Zb (λe=>by rw[e,s5 _ _ x9]at hl;cases hl)];exact hl
  change Ua _ _ _ [some (.ref x),some (.ref w),some (.ref a),some (.ref b),some (Xg ld),none,none,none,none] (upd H5 x (.ins t.A_Part dx (XQ "least" (.ref l) [("web",.ref w),("kept",.ref a),("shut",.ref b),("lead",Xg ld)])));generalize upd H5 x (.ins t.A_Part dx (XQ "least" (.ref l) [("web",.ref w),("kept",.ref a),("shut",.ref b),("lead",Xg ld)]))=H6 at *;refine⟨_,rfl,_,rfl,w,a,n,ps,I,rfl,hW.but hx LA,hG,CS hA hx LA,Xt,λm H7 s7 QX xX=>?_⟩;refine nm ?_;dsimp only [List.set];have lW:SameX x H H7:=LA.trans (SameX.same s7)
  have hF1:F.length<=ps.length:=hF.1.1.len;have Sf:(Xx n.toNat (XT ps I)).length=n.toNat:=Zx _ _
  refine⟨_,rfl,_,rfl,_,rfl,_,rfl,?_⟩;refine CQ (l:=I) (m:=O) (CS hA hx lW) (CS Se hx lW) (by lia) λr1 H8 s8 Wn=>?_;have Hk:SameX x H H8:=lW.trans (SameX.same s8)
  have lV:=s7.trans s8;refine⟨_,rfl,x,_,dx,_,.ref l,rfl,lV _ _ cL,T.cl_Part,T.n_Part_least,rfl,?_⟩;refine CQ (l:=I++O) (m:=F) Wn (SqT.of (lV _ _ Cb)) (by rw[Xs];lia) λr2 H9 s9 Vh=>?_;have s69:=lV.trans s9
  have IS:SameX x H H9:=Hk.trans (SameX.same s9);have xZ:=s8.trans s9
  refine⟨w,m,r2,n,ps,Xx n.toNat (XT ps I),I++O++F,rfl,hW.but hx IS,hG,xZ _ _ xX,Sf,Vh,λpA OD BR hp0 Pw=>?_⟩;have Pw:OD pA=some (.lst (IL (WY n ps I O F))):=Pw
  refine nm ?_;dsimp only [List.set];have xW:SameX x H OD:=IS.trans (SameX.same BR)
  have s6A:=s69.trans BR;have cK:=(xZ.trans BR) _ _ xX
  have RP:∀ z∈WY n ps I O F,0<=z/\z<(ps.length:Int):=λz hz=>d3 hz;have Rg:(WY n ps I O F).length<=ps.length:=o9 _ _ _ _
  refine⟨_,rfl,pA,rfl,⟨_,SqL.of Pw⟩,NV (K:=K) (a:=pA) (xs:=IL (WY n ps I O F)) (λi ws MU=>Same OD MU/\i<=(WY n ps I O F).length/\ws=IL (((WY n ps I O F).take i).filter λz=>decide (∃ y,ld=some y/\UI (Xx n.toNat (XT ps I)) ps z=UI (Xx n.toNat (XT ps I)) ps y))) ⟨Same.refl _,Yo _,rfl⟩ (Zm (by rw[Xr];lia))
   (λi ws MU hi h=>by obtain⟨e,VA,ew⟩:=h;exact⟨SqL.of (e _ _ Pw),by rw[ew,Xr];exact Yr (YH ..) (by rw[YB];lia)⟩) ?_ ?_⟩
  .rintro i v ws MU hi ⟨IV,Vn,rfl⟩ S Xe;obtain⟨z,rfl,hz⟩:=WL hi;obtain⟨z0,z1⟩:=RP z (Xd hz);have Xk:i<(WY n ps I O F).length:=(Xp.mp hz).1
   obtain⟨y,rfl⟩:∃ y,ld=some y:=by
    cases ld with
    | some y=>exact⟨y,rfl⟩
    | none =>
     rw[Te rfl F hF VS]at Xk;exact absurd Xk (YZ _)
   obtain⟨y0,y1⟩:=Cr y rfl;refine nm ?_;refine⟨_,rfl,_,rfl,_,rfl,w,m,n,ps,_,z,rfl,hW.but hx (xW.trans (SameX.same IV)),hG,IV _ _ cK,Sf,z0,z1,λe1 l1 H12 SI hs1 WS DB=>?_⟩;have IQ:=IV.trans WS
   refine⟨_,rfl,_,rfl,_,rfl,w,m,n,ps,_,y,rfl,hW.but hx (xW.trans (SameX.same IQ)),hG,IQ _ _ cK,Sf,y0,y1,λe2 l2 H13 Rj RU cJ Qr=>?_⟩;refine⟨1,_,e1,e2,rfl,rfl,by decide,ij (SqL.of (cJ _ _ DB)) (SqL.of Qr),_,rfl,?_⟩;have ed:decide (l1=l2)=decide (∃ cI,some y=some cI/\UI (Xx n.toNat (XT ps I)) ps z=UI (Xx n.toNat (XT ps I)) ps cI):=by
    rw[d4 SI hs1,d4 Rj RU,xj];constructor
    .intro e;injection e with e1 e2
     injection e2 with e2 _;exact⟨y,rfl,Prod.ext e1 e2⟩
    .rintro⟨y',e,e'⟩;cases e;obtain⟨e1,e2⟩:=Prod.mk.inj e';rw[e1,e2]
   have BF:=IQ.trans cJ;show(if decide (l1=l2)=true then _ else _)
   rw[ed];refine WV (λhc=>?_) (λhc=>?_)
   .refine⟨_,rfl,Xe _ _ ⟨BF,Xk,?_⟩⟩;rw[ZU hz,if_pos (Yw hc),ZX]
   .refine Xe _ _ ⟨BF,Xk,?_⟩;rw[ZU hz,if_neg (by simpa using hc),YF]
  rintro ws MU ⟨IV,_,rfl⟩ kA hkA;rw[Xr,YK];have ea:((WY n ps I O F).filter λz=>decide (∃ y,ld=some y/\UI (Xx n.toNat (XT ps I)) ps z=UI (Xx n.toNat (XT ps I)) ps y))=Tt n ps I O F ld:=rfl
  rw[ea];have dj:(Tt n ps I O F ld).length<=ps.length:=Yr (YH ..) Rg
  have v1:=XH (o:=.lst (IL (Tt n ps I O F ld))) hkA;have kK:(upd MU kA (.lst (IL (Tt n ps I O F ld)))) kA=some (.lst (IL (Tt n ps I O F ld))):=XR
  refine nm ?_;dsimp only [List.set];have cH:=IV.trans v1
  change Ua _ _ _ _ (upd MU kA (.lst (IL (Tt n ps I O F ld))));generalize upd MU kA (.lst (IL (Tt n ps I O F ld)))=H14 at *;have cG:=cH _ _ Pw
  refine⟨_,rfl,pA,rfl,⟨_,SqL.of cG⟩,NV (K:=K) (a:=pA) (xs:=IL (WY n ps I O F)) (λi ws Lz=>Lz=H14/\i<=(WY n ps I O F).length/\ws=IL (((WY n ps I O F).take i).filter λz=>decide (z∉Tt n ps I O F ld))) ⟨rfl,Yo _,rfl⟩ (Zm (by rw[Xr];lia))
   (λi ws Lz hi h=>by obtain⟨e,VA,ew⟩:=h;exact⟨e ▸ SqL.of cG,by rw[ew,Xr];exact Yr (YH ..) (by rw[YB];lia)⟩) ?_ ?_⟩
  .rintro i v ws Lz hi ⟨rfl,Vn,rfl⟩ S Xe;obtain⟨z,rfl,hz⟩:=WL hi;have Xk:i<(WY n ps I O F).length:=(Xp.mp hz).1
   refine nm ?_;refine⟨_,rfl,_,rfl,kA,_,rfl,.inl (SqL.of kK),rfl,ZT _,_,rfl,?_⟩;rw[NQ];refine WE (λhe=>?_) (λhe=>?_)
   .refine Xe _ _ ⟨rfl,Xk,?_⟩;rw[ZU hz,if_neg (by simpa using he),YF]
   .refine⟨_,rfl,Xe _ _ ⟨rfl,Xk,?_⟩⟩;rw[ZU hz,if_pos (Yw he),ZX]
  rintro ws Lz ⟨rfl,_,rfl⟩ uA huA;rw[Xr,YK];have eu:((WY n ps I O F).filter λz=>decide (z∉Tt n ps I O F ld))=VX n ps I O F ld:=rfl
  rw[eu];have v2:=XH (o:=.lst (IL (VX n ps I O F ld))) huA
  have kU:(upd Lz uA (.lst (IL (VX n ps I O F ld)))) uA=some (.lst (IL (VX n ps I O F ld))):=XR;refine nm ?_;dsimp only [List.set];have lT:=(s6A.trans cH).trans v2
  have kKU:=v2 _ _ kK;have cF:SameX x H (upd Lz uA (.lst (IL (VX n ps I O F ld)))):=LA.trans (SameX.same lT)
  have JB:=lT _ _ cL;have cE:=lT _ _ Cb
  change Ua _ _ _ _ (upd Lz uA (.lst (IL (VX n ps I O F ld))));generalize upd Lz uA (.lst (IL (VX n ps I O F ld)))=H16 at *;have MT:Xj H16 Pt:=o8 hT hx cF
  refine⟨_,rfl,kA,Tt n ps I O F ld,Xg ld,λz=>decide (ld=some z),rfl,SqL.of kKU,by lia,MT,rfl,λBE Pu z hz=>?_,λinc iA BE WB Pu BD lS=>?_⟩
  .refine⟨_,rfl,_,rfl,(by cases ld <;> rfl),?_,rfl⟩
   show V.bl (decide (V.int z=Xg ld))=V.bl (decide (ld=some z));cases ld with
   | none=>rfl
   | some y =>
    show V.bl (decide (V.int z=V.int y))=V.bl (decide (some y=some z));rw[ZC];congr 1;rw[xj];exact⟨λe=>by rw[e],λe=>(Yi e).symm⟩
  have hxP:x≠Pt:=MT.ne JB (by simp);have v3:=XH (o:=.lst (IL inc)) lS
  have BC:=v3 _ _ (Pu _ _ hxP JB);have BB:=v3 _ _ (Pu _ _ (MT.ne cE (by simp)) cE)
  have BA:=v3 _ _ (Pu _ _ (MT.ne kU (by simp)) kU);have Bz:(upd BE iA (.lst (IL inc))) iA=some (.lst (IL inc)):=XR
  have By:Xj (upd BE iA (.lst (IL inc))) Pt:=BD.same v3;have IP:∀ b o,b≠x->b≠Pt->H b=some o->(upd BE iA (.lst (IL inc))) b=some o:=λb o h1 h2 e=>v3 _ _ (Pu _ _ h2 (cF _ _ h1 e))
  change ∃ _,_;generalize upd BE iA (.lst (IL inc))=Bx at *;refine⟨_,rfl,x,_,dx,_,rfl,BC,T.cl_Part,T.n_Part_incoming,(by show 5<1000;decide),?_⟩;have Pr:∀(c:Addr) (o:HO),Bx c=some o->(∀ a b fs,o≠.ins a b fs)->c≠x:=λc o h ho e=>by rw[e,BC]at h;exact ho _ _ _ (Yi h).symm
  have lR:(upd Bx x (.ins t.A_Part dx (XQ "incoming" (.ref iA) [("web",.ref w),("kept",.ref a),("shut",.ref b),("lead",Xg ld),("least",.ref l)]))) uA=some (.lst (IL (VX n ps I O F ld))):=by rw [Zb (Pr _ _ BA (by simp))];exact BA
  have fin:∀ fu:Option Int,(fu=none↔VX n ps I O F ld=[])->(∀ y,fu=some y->y∈VX n ps I O F ld/\∀ z∈VX n ps I O F ld,y<=z)->Q .non (upd (upd Bx x (.ins t.A_Part dx (XQ "incoming" (.ref iA) [("web",.ref w),("kept",.ref a),("shut",.ref b),("lead",Xg ld),("least",.ref l)]))) x (.ins t.A_Part dx (yB (.ref w) (.ref a) (.ref b) (Xg ld) (.ref l) (.ref iA) (Xg fu)))):=λfu h1 h2=>by
   have up:∀(c:Addr) (o:HO),c≠x->Bx c=some o->(upd (upd Bx x (.ins t.A_Part dx (XQ "incoming" (.ref iA) [("web",.ref w),("kept",.ref a),("shut",.ref b),("lead",Xg ld),("least",.ref l)]))) x (.ins t.A_Part dx (yB (.ref w) (.ref a) (.ref b) (Xg ld) (.ref l) (.ref iA) (Xg fu)))) c=some o:=λc o h e=>by rw [Zb h,Zb h];exact e
   obtain⟨tp,t1,t2,t3⟩:=id By;refine q F inc fu l iA _ hF VS WB h1 h2 XR (up _ _ (Pr _ _ BB (by simp)) BB) (up _ _ (Pr _ _ Bz (by simp)) Bz) (λb o b1 b2 e=>up _ _ b1 (IP b o b1 b2 e)) ⟨tp,up _ _ (Pr _ _ t1 (by simp)) t1,t2,?_⟩;rcases t3 with h | ⟨c,h,h'⟩
   .exact .inl h
   .exact .inr ⟨c,h,up _ _ (Pr _ _ h' (by unfold Hu;simp)) h'⟩
  refine⟨_,rfl,uA,VX n ps I O F ld,rfl,SqL.of lR,λe=>?_,λmn Tz Wc=>?_⟩
  .refine⟨_,rfl,x,_,dx,_,rfl,XR,T.cl_Part,T.n_Part_further,(by show 6<1000;decide),?_⟩;exact fin none ⟨λ_=>e,λ_=>rfl⟩ λy h=>by cases h
  .refine⟨_,rfl,x,_,dx,_,rfl,XR,T.cl_Part,T.n_Part_further,(by show 6<1000;decide),?_⟩;exact fin (some mn) ⟨λh=>(by cases h),λh=>(by rw[h]at Tz;cases Tz)⟩ λy h=>(by cases h;exact⟨Tz,Wc⟩)
def lQ(K:Ad)(CP C Pt:Addr):Sp:=λvs H Q _=>∃(w:Addr) (n:Int) (ps:Aa),vs=[.ref w]/\WebAt C H w n ps/\Zt n ps/\Xj H Pt/\(∃ U,Zf n ps U) /\
 ∀(x:Addr) (F inc:Ac) (ld fu:Option Int) (H':Hp),PartOk n ps [] [] ld F inc fu->(ld=none↔WY n ps [] [] F=[])->(∀ y,ld=some y->y∈WY n ps [] [] F/\∀ z∈WY n ps [] [] F,y<=z)->PartAt K CP C H' x n ps [] [] F inc ld fu->SameX Pt H H'->Xj H' Pt->Q (.ref x) H'
theorem Bw:FnScope ["web","opened"] ["web"] (XA sZw):=⟨rfl,rfl,rfl,by decide +kernel,rfl,by decide +kernel,by decide +kernel⟩
theorem Bv {Pt:Addr} (T:Txt K mg t) (hB:Ry K mg base t.dZv Pt):FnOk P w K mg base Xl 10 t.aZw t.dZw ["web"] (lQ K t.A_Part t.A_Web Pt):=by
 refine T.fZw.ok Bw (λvs H Q E h=>?_) (λXz A outer s H vs Q E hr h=>?_)
 .obtain⟨w,n,ps,rfl,_⟩:=h;rfl
 .obtain⟨w,n,ps,rfl,hW,hG,hT,⟨U0,Hl⟩,q⟩:=h;refine⟨_,(XN (Zk (i:=1) Bw.nd rfl (Or.inl rfl) (XF (BH T) (hr.mono (by decide)) rfl T.mZu T.fZu.kp T.bZu .nil Zs (XZ (pv 0) (XZ (XF (Rr T) (hr.mono (by decide)) rfl T.mZf T.fZf.kp T.bZf .nil Zs (XZ (pv 0) (XZ (SR XY) XY))) (XZ (XF (BK T) (hr.mono (by decide)) rfl T.mZs T.fZs.kp T.bZs .nil Zs (XZ (pv 0) (XZ (SR XY) (XZ (SR XY) XY)))) XY)))))
   (XG (Zh (FI T.k_Part (IT T hB) (hr.mono (by decide)) rfl T.c_Part T.bZv .nil Zs (XZ (pv 0) (XZ (SR XY) (XZ (SR XY) (XZ (d5 rfl (by rfl) T.n_min (pv 1)) XY)))))))),?_⟩
  have cD:With n ps [] [] U0:=⟨Hl,λz h=>(by cases h),λz h=>(by cases h)⟩;refine⟨_,rfl,_,rfl,Yo _,λe1 DB=>?_⟩;have s1:=XH (o:=.tup []) DB
  refine⟨w,e1,n,ps,[],rfl,hW.same s1,hG,SqT.of XR,λz h=>(by cases h),λm H2 s2 QX Wc=>?_⟩;have WS:=s1.trans s2
  refine⟨_,rfl,Yo _,λe2 Qr=>⟨Yo _,λe3 he3=>?_⟩⟩;have s3:=XH (o:=.tup []) Qr
  have s4:=XH (o:=.tup []) he3;have cC:=WS.trans (s3.trans s4)
  refine⟨w,e2,e3,n,ps,[],[],rfl,hW.same cC,hG,SqT.of (s4 _ _ XR),SqT.of XR,.nil,λz h=>(by cases h),λz h=>(by cases h),λH5 s5 h=>absurd cD (h U0),λl F H5 s5 hl hF VS=>?_⟩;have cB:=cC.trans s5
  have xY:=((s3.trans s4).trans s5) _ _ Wc;have Sf:(Xx n.toNat (XT ps [])).length=n.toNat:=Zx _ _
  refine⟨w,m,l,n,ps,Xx n.toNat (XT ps []),F,rfl,hW.same cB,hG,xY,Sf,SqT.of hl,λpA H6 s6 hp0 lP=>?_⟩;have lP:H6 pA=some (.lst (IL (WY n ps [] [] F))):=lP
  refine nm ?_;dsimp only [List.set];have s16:=cB.trans s6
  have RP:∀ z∈WY n ps [] [] F,0<=z/\z<(ps.length:Int):=λz hz=>d3 hz;refine⟨_,rfl,Yo _,λf1 yd=>⟨Yo _,λf2 MW=>?_⟩⟩;have s7:=XH (o:=.tup []) yd
  have s8:=XH (o:=.tup []) MW;have IM:(upd (upd H6 f1 (.tup [])) f2 (.tup [])) f1=some (.tup []):=s8 _ _ XR
  have IK:(upd (upd H6 f1 (.tup [])) f2 (.tup [])) f2=some (.tup []):=XR;have xV:=s16.trans (s7.trans s8)
  have hp8:=(s7.trans s8) _ _ lP;generalize upd (upd H6 f1 (.tup [])) f2 (.tup [])=H8 at *;have main:∀ ld:Option Int,(ld=none↔WY n ps [] [] F=[])->(∀ y,ld=some y->y∈WY n ps [] [] F/\∀ z∈WY n ps [] [] F,y<=z)->∀ x dx,H8 x=none->H8 dx=none->dx≠x->cM K t.A_Part t.A_Web Pt [.ref x,.ref w,.ref f1,.ref f2,Xg ld] (upd (upd H8 dx (.own x)) x (.ins t.A_Part dx [])) (λv H2=>v=.non/\Q (.ref x) H2) E0:=by
   intro ld hn hs x dx nx PB SN;have s9:Same H8 (upd (upd H8 dx (.own x)) x (.ins t.A_Part dx [])):=Zw (XH PB) (by rw[Zb (YY SN)];exact nx)
   have cz:=xV.trans s9;refine⟨x,dx,w,f1,f2,n,ps,[],[],ld,rfl,XR,hW.same cz,hG,hT.same cz,SqT.of (s9 _ _ IM),SqT.of (s9 _ _ IK),.nil,λz h=>(by cases h),λz h=>(by cases h),Yo _,⟨U0,cD⟩,λy hy=>RP y (hs y hy).1,λe F' Ly To=>?_,λF' inc fu l' i' H' Ly To WB h1 h2 Vc Ss NH keep Pq=>⟨rfl,?_⟩⟩
   .have eF:F'=F:=Tb (VS F' Ly) (To F hF);rw[eF];exact hn.mp e
   .have eF:F'=F:=Tb (VS F' Ly) (To F hF);subst eF;have sx:SameX Pt H8 H':=λb o hb e=>keep b o (Zc e nx) hb (s9 _ _ e)
    have Tn:Xj H8 Pt:=hT.same xV;refine q x F' inc ld fu H' ⟨Ly,To,WB,h1,h2⟩ hn hs ⟨dx,w,f1,f2,l',i',Vc,(hW.same xV).samex Tn sx,SqT.of (sx _ _ (Tn.ne IM (by simp)) IM),SqT.of (sx _ _ (Tn.ne IK (by simp)) IK),Ss,NH⟩ ((SameX.same xV).trans sx) Pq
  refine⟨_,rfl,pA,WY n ps [] [] F,rfl,SqL.of hp8,λe=>?_,λmn h1 h2=>?_⟩
  .exact main none ⟨λ_=>e,λ_=>rfl⟩ λy h=>by cases h
  .exact main (some mn) ⟨λh=>(by cases h),λh=>(by rw[h]at h1;cases h1)⟩ λy h=>(by cases h;exact⟨h1,h2⟩)
def lO(K:Ad)(CP C Pt:Addr):Sp:=λvs H Q _=>∃(x:Addr) (n:Int) (ps:Aa) (I O F inc:Ac) (z y:Int),vs=[.ref x]/\PartAt K CP C H x n ps I O F inc (some z) (some y)/\Zt n ps/\Xj H Pt/\(I).Nodup/\(∀ v∈I,0<=v/\v<(ps.length:Int))/\(∀ v∈I,v∉O++[z])/\(O++[z]).length<=30/\(∃ U,With n ps (I) (O++[z]) U)/\0<=y/\y<(ps.length:Int) /\
 ∀(x':Addr) (F' Wx:Ac) (fu:Option Int) (H':Hp),PartOk n ps (I) (O++[z]) (some y) F' Wx fu->PartAt K CP C H' x' n ps (I) (O++[z]) F' Wx (some y) fu->SameX Pt H H'->Xj H' Pt->Q (.ref x') H'
theorem lN:FnScope ["part"] ["part"] (XA sZx):=⟨rfl,rfl,rfl,by decide +kernel,rfl,by decide +kernel,by decide +kernel⟩
theorem Bu {Pt:Addr} (T:Txt K mg t) (hB:Ry K mg base t.dZv Pt):FnOk P w K mg base Xl 10 t.aZx t.dZx ["part"] (lO K t.A_Part t.A_Web Pt):=by
 refine T.fZx.ok lN (λvs H Q E h=>?_) (λXz A outer s H vs Q E hr h=>?_)
 .obtain⟨x,n,ps,I,O,F,inc,z,y,rfl,_⟩:=h;rfl
 .obtain⟨x,n,ps,I,O,F,inc,z,y,rfl,⟨dx,w,a,b,l,i,hx,hW,hA,Se,hl,hi⟩,hG,hT,hIn,Xt,Vm,Sd,hex,y0,y1,q⟩:=h;refine⟨_,(XG (Zh (FI T.k_Part (IT T hB) (hr.mono (by decide)) rfl T.c_Part T.bZv .nil Zs (XZ (Zl K (pv 0) rfl) (XZ (Zl K (pv 0) rfl) (XZ (Zn (HJ K) (Zl K (pv 0) rfl) (SR (XZ (Zl K (pv 0) rfl) XY))) (XZ (Zl K (pv 0) rfl) XY))))))),?_⟩;have lM:I.length<=30:=by
   have:=JC (m:=Wo ps.length) hIn λv hv=>XB.mpr (Xt v hv)
   have e:=hG.2.2.1;rw[ZJ]at this
   try simp only [Xs,Yk]at this
   lia
  have SH:O.length<=30:=by
   have:=Sd
   try simp only [Xs,Yk]at this
   lia
  refine⟨_,rfl,x,_,dx,_,.ref w,rfl,hx,T.cl_Part,T.n_Part_web,rfl,_,rfl,x,_,dx,_,.ref a,rfl,hx,T.cl_Part,T.n_Part_kept,rfl,_,rfl,x,_,dx,_,.ref b,rfl,hx,T.cl_Part,T.n_Part_shut,rfl,_,rfl,x,_,dx,_,.int z,rfl,hx,T.cl_Part,T.n_Part_lead,rfl,(by show 1<=sizeLine;decide),λp hp=>?_⟩;have s1:=XH (o:=.tup (IL [z])) hp
  refine CQ (l:=O) (m:=[z]) (SqK.same (k:=true) s1 Se) (SqT.of XR) (by rw[Yk];lia) λr1 H2 s2 Wn=>?_;have WS:=s1.trans s2
  refine⟨_,rfl,x,_,dx,_,.int y,rfl,WS _ _ hx,T.cl_Part,T.n_Part_further,rfl,?_⟩;intro x' MS nx PB SN;have s9:Same H2 (upd (upd H2 MS (.own x')) x' (.ins t.A_Part MS [])):=Zw (XH PB) (by rw[Zb (YY SN)];exact nx)
  have WX:Xj H2 Pt:=hT.same WS;refine⟨x',MS,w,a,r1,n,ps,I,O++[z],some y,rfl,XR,hW.same (WS.trans s9),hG,WX.same s9,SqK.same (k:=true) (WS.trans s9) hA,SqK.same (k:=true) s9 Wn,hIn,Xt,Vm,Sd,hex,λv e=>(by cases e;exact⟨y0,y1⟩),λe=>(by cases e),λF' Wx fu l' i' H' Ly To WB h1 h2 Vc Ss NH keep Pq=>⟨rfl,?_⟩⟩;have sx:SameX Pt H2 H':=λb o hb e=>keep b o (Zc e nx) hb (s9 _ _ e)
  exact q x' F' Wx fu H' ⟨Ly,To,WB,h1,h2⟩ ⟨MS,w,a,r1,l',i',Vc,(hW.same WS).samex WX sx,SqK.samex (kd:=true) (SqK.same (k:=true) WS hA) WX sx,SqK.samex (kd:=true) (Wn) WX sx,Ss,NH⟩ ((SameX.same WS).trans sx) Pq
def lL(K:Ad)(CP C Pt:Addr):Sp:=λvs H Q _=>∃(x:Addr) (n:Int) (ps:Aa) (I O F inc:Ac) (z y:Int),vs=[.ref x]/\PartAt K CP C H x n ps I O F inc (some z) (some y)/\Zt n ps/\Xj H Pt/\(I++[z]).Nodup/\(∀ v∈I++[z],0<=v/\v<(ps.length:Int))/\(∀ v∈I++[z],v∉O)/\(O).length<=30/\(∃ U,With n ps (I++[z]) (O) U)/\0<=y/\y<(ps.length:Int) /\
 ∀(x':Addr) (F' Wx:Ac) (fu:Option Int) (H':Hp),PartOk n ps (I++[z]) (O) (some y) F' Wx fu->PartAt K CP C H' x' n ps (I++[z]) (O) F' Wx (some y) fu->SameX Pt H H'->Xj H' Pt->Q (.ref x') H'
theorem lK:FnScope ["part"] ["part"] (XA sZy):=⟨rfl,rfl,rfl,by decide +kernel,rfl,by decide +kernel,by decide +kernel⟩
theorem Bt {Pt:Addr} (T:Txt K mg t) (hB:Ry K mg base t.dZv Pt):FnOk P w K mg base Xl 10 t.aZy t.dZy ["part"] (lL K t.A_Part t.A_Web Pt):=by
 refine T.fZy.ok lK (λvs H Q E h=>?_) (λXz A outer s H vs Q E hr h=>?_)
 .obtain⟨x,n,ps,I,O,F,inc,z,y,rfl,_⟩:=h;rfl
 .obtain⟨x,n,ps,I,O,F,inc,z,y,rfl,⟨dx,w,a,b,l,i,hx,hW,hA,Se,hl,hi⟩,hG,hT,hIn,Xt,Vm,Sd,hex,y0,y1,q⟩:=h;refine⟨_,(XG (Zh (FI T.k_Part (IT T hB) (hr.mono (by decide)) rfl T.c_Part T.bZv .nil Zs (XZ (Zl K (pv 0) rfl) (XZ (Zn (HJ K) (Zl K (pv 0) rfl) (SR (XZ (Zl K (pv 0) rfl) XY))) (XZ (Zl K (pv 0) rfl) (XZ (Zl K (pv 0) rfl) XY))))))),?_⟩;have lM:I.length<=30:=by
   have:=JC (m:=Wo ps.length) hIn λv hv=>XB.mpr (Xt v hv)
   have e:=hG.2.2.1;rw[ZJ]at this
   try simp only [Xs,Yk]at this
   lia
  have SH:O.length<=30:=by
   have:=Sd
   try simp only [Xs,Yk]at this
   lia
  refine⟨_,rfl,x,_,dx,_,.ref w,rfl,hx,T.cl_Part,T.n_Part_web,rfl,_,rfl,x,_,dx,_,.ref a,rfl,hx,T.cl_Part,T.n_Part_kept,rfl,_,rfl,x,_,dx,_,.int z,rfl,hx,T.cl_Part,T.n_Part_lead,rfl,(by show 1<=sizeLine;decide),λp hp=>?_⟩;have s1:=XH (o:=.tup (IL [z])) hp
  refine CQ (l:=I) (m:=[z]) (SqK.same (k:=true) s1 hA) (SqT.of XR) (by rw[Yk];lia) λr1 H2 s2 Wn=>?_;have WS:=s1.trans s2
  refine⟨_,rfl,x,_,dx,_,.ref b,rfl,WS _ _ hx,T.cl_Part,T.n_Part_shut,rfl,_,rfl,x,_,dx,_,.int y,rfl,WS _ _ hx,T.cl_Part,T.n_Part_further,rfl,?_⟩;intro x' MS nx PB SN;have s9:Same H2 (upd (upd H2 MS (.own x')) x' (.ins t.A_Part MS [])):=Zw (XH PB) (by rw[Zb (YY SN)];exact nx)
  have WX:Xj H2 Pt:=hT.same WS;refine⟨x',MS,w,r1,b,n,ps,I++[z],O,some y,rfl,XR,hW.same (WS.trans s9),hG,WX.same s9,SqK.same (k:=true) s9 Wn,SqK.same (k:=true) (WS.trans s9) Se,hIn,Xt,Vm,Sd,hex,λv e=>(by cases e;exact⟨y0,y1⟩),λe=>(by cases e),λF' Wx fu l' i' H' Ly To WB h1 h2 Vc Ss NH keep Pq=>⟨rfl,?_⟩⟩;have sx:SameX Pt H2 H':=λb o hb e=>keep b o (Zc e nx) hb (s9 _ _ e)
  exact q x' F' Wx fu H' ⟨Ly,To,WB,h1,h2⟩ ⟨MS,w,r1,b,l',i',Vc,(hW.same WS).samex WX sx,SqK.samex (kd:=true) (Wn) WX sx,SqK.samex (kd:=true) (SqK.same (k:=true) WS Se) WX sx,Ss,NH⟩ ((SameX.same WS).trans sx) Pq
def lJ(K:Ad)(CP C:Addr):Sp:=λvs H Q _=>∃(x:Addr) (n:Int) (ps:Aa) (I O F inc:Ac) (ld fu:Option Int),vs=[.ref x]/\PartAt K CP C H x n ps I O F inc ld fu/\Zt n ps/\I.Nodup/\(∀ z∈I,0<=z/\z<(ps.length:Int))/\O.length<=30/\(∀ z∈I,z∉O)/\∀(c:Nat) (H':Hp),PC n ps I O c->Same H H'->Q (.int c) H'
theorem lI:FnScope ["part"] ["part"] (XA sZz):=⟨rfl,rfl,rfl,by decide +kernel,rfl,by decide +kernel,by decide +kernel⟩
theorem Bs (T:Txt K mg t):FnOk P w K mg base Xl 8 t.aZz t.dZz ["part"] (lJ K t.A_Part t.A_Web):=by
 refine T.fZz.ok lI (λvs H Q E h=>?_) (λXz A outer s H vs Q E hr h=>?_)
 .obtain⟨x,n,ps,I,O,F,inc,ld,fu,rfl,_⟩:=h;rfl
 .obtain⟨x,n,ps,I,O,F,inc,ld,fu,rfl,⟨dx,w,a,b,l,i,hx,hW,hA,Se,hl,hi⟩,hG,hI,Xt,hO,Vm,q⟩:=h;refine⟨_,(XG (Zh (XF (mE T) (hr.mono (by decide)) rfl T.mZm T.fZm.kp T.bZm .nil Zs (XZ (Zl K (pv 0) rfl) (XZ (Zl K (pv 0) rfl) (XZ (Zl K (pv 0) rfl) XY)))))),?_⟩;refine⟨_,rfl,x,_,dx,_,.ref w,rfl,hx,T.cl_Part,T.n_Part_web,rfl,_,rfl,x,_,dx,_,.ref a,rfl,hx,T.cl_Part,T.n_Part_kept,rfl,_,rfl,x,_,dx,_,.ref b,rfl,hx,T.cl_Part,T.n_Part_shut,rfl,?_⟩;exact⟨w,a,b,n,ps,I,O,rfl,hW,hG,hA,Se,hI,Xt,hO,Vm,q⟩
theorem lH{n:Int}{ps:Aa}{I F ms:Ac}{z:Int}(hF:Zf n ps F)(hz:z∉F)(hp:ms.Perm (WD n ps F z F++[z]))(hs:ms.Pairwise (·<=·)):(ms.filter λt=>decide (t≠z/\t∉I))=WN n ps I F z:=by
 refine zq ((hp.filter _).trans ?_) (hs.filter _) ?_
 .rw[QW,List.filter_cons_of_neg (by simp),KR,YF];refine List.Perm.of_eq (ME λt ht=>?_)
  have:t≠z:=λe=>hz (e ▸ (VM.mp ht).1)
  simp[this]
 .exact((XX.mp hF.1).2.filter _).filter _ |>.imp λh=>by lia
def lG(K:Ad)(CP C:Addr):Sp:=λvs H Q _=>∃(x:Addr) (n:Int) (ps:Aa) (I O F inc:Ac) (ld fu:Option Int) (z:Int),vs=[.ref x,.int z]/\PartAt K CP C H x n ps I O F inc ld fu/\Zt n ps/\Zf n ps F/\z∉F/\0<=z/\z<(ps.length:Int) /\
 ∀(r:Addr) (xs:List V) (H':Hp),Same H H'->H r=none->H' r=some (.lst xs)->Bears (Wq H') xs ((WN n ps I F z).map λo=>xchT F o z)->Q (.ref r) H'
theorem Br:FnScope ["part","into","leaving"] ["part","into"] (XA sZA):=⟨rfl,rfl,rfl,by decide +kernel,rfl,by decide +kernel,by decide +kernel⟩
theorem lF (T:Txt K mg t):FnOk P w K mg base Xl 9 t.aZA t.dZA ["part","into"] (lG K t.A_Part t.A_Web):=by
 refine T.fZA.ok Br (λvs H Q E h=>?_) (λXz A outer s H vs Q E hr h=>?_)
 .obtain⟨x,n,ps,I,O,F,inc,ld,fu,z,rfl,_⟩:=h;rfl
 .obtain⟨x,n,ps,I,O,F,inc,ld,fu,z,rfl,⟨dx,w,a,b,l,i,hx,hW,hA,Se,hl,hi⟩,hG,hF,hz,z0,z1,q⟩:=h;refine⟨_,(XN (NX (i:=2) rfl Br.nd rfl rfl (sc0:=XA sZA) (N0:=["part","into","leaving"]) (N':=["tie","into","part"]) (o:=1) (fr:=[1,0]) ⟨rfl,by decide +kernel,by decide +kernel,by decide +kernel,rfl,by decide +kernel⟩ (t5 K (XF (ma T) (hr.mono (by decide)) rfl T.mZr T.fZr.kp T.bZr .nil Zs (XZ (Zl K (pv 0) rfl) (XZ (Zl K (pv 0) rfl) (XZ (pv 1) XY))))) (Zz (by decide)) (λ_ _ _ _=>(Ze (i:=0) (show List.Nodup (["tie","into","part"]:List Str) by decide +kernel) rfl (Or.inl rfl))) (λ_ _ _ _=>(Qw (PW.pt (Gv (Zg OT (pv 0) (pv 1) (Zv _)) (ji (Zg (HR K) (pv 0) (Zl K (pv 2) rfl) rfl)))))) (λ_ _ _ _=>(pv 0)))
   (XG (Zh (Sn rfl (sc0:=XA sZA) (N0:=["part","into","leaving"]) (N':=["out","part","into"]) (o:=1) (fr:=[0,1]) ⟨rfl,by decide +kernel,by decide +kernel,by decide +kernel,rfl,by decide +kernel⟩ (Va K (pv 2)) (Zz (by decide)) (λ_ _ _ _=>(Ze (i:=0) (show List.Nodup (["out","part","into"]:List Str) by decide +kernel) rfl (Or.inl rfl))) (λ_ _ _ _=>Ri) (λ_ _ _ _=>(Zr (ZI K) (by rfl) T.n_tuple Boot.«tuple» (XZ (Zd (Zq4 K) (by rfl) T.n_sorted Boot.«sorted» (XZ (Zn (HJ K) (XF (Cf T) (hr.mono (by decide)) rfl T.mZb T.fZb.kp T.bZb .nil Zs (XZ (Zl K (pv 1) rfl) (XZ (pv 0) XY))) (SR (XZ (pv 2) XY))) XY)) XY))))))),?_⟩
  have big:(30:Int)<10 ^ 70:=by decide
  have g3:=hG.2.2.1;refine⟨_,rfl,x,_,dx,_,.ref w,rfl,hx,T.cl_Part,T.n_Part_web,rfl,_,rfl,x,_,dx,_,.ref l,rfl,hx,T.cl_Part,T.n_Part_least,rfl,_,rfl,?_⟩;refine⟨w,l,n,ps,true,F,z,rfl,hW,hG,SqT.of hl,by omega,by lia,λ_ _ _ _ ms Tz Wc rA H1 s1 Vk Nd=>?_,λ_ h=>absurd h (λh=>h.elim hz λh=>h ⟨z0,z1⟩),λh=>absurd hF h⟩;have hm30:ms.length<=40:=by
   rw[Tz.length_eq,Xs,Yk]
   have:=HK n ps F z F
   have:=hF.1.len
   lia
  refine⟨rA,rfl,⟨_,SqT.of Nd⟩,JY (K:=K) (a:=rA) (xs:=IL ms) (λj ws H2=>H2=H1/\j<=ms.length/\ws=IL ((ms.take j).filter λt=>decide (t≠z/\t∉I))) ⟨rfl,Yo _,rfl⟩ (Zm (by rw[Xr];lia))
   (λj ws H2 hj h=>by obtain⟨e,Ra,ew⟩:=h;exact⟨e ▸ SqT.of Nd,by rw[ew,Xr];exact Yr (YH ..) (by rw[YB];lia)⟩) ?_ ?_⟩
  .rintro j v ws H2 hj ⟨rfl,NP,rfl⟩ S Xe;obtain⟨y,rfl,hy⟩:=WL hj;have VV:j<ms.length:=(Xp.mp hy).1
   refine nm ?_;refine⟨_,rfl,_,rfl,rfl,_,rfl,?_⟩;rw[ZC];refine WE (λhe=>?_) (λhe=>?_)
   .refine Xe _ _ ⟨rfl,VV,?_⟩;rw[ZU hy,if_neg (by simp[he]),YF]
   refine⟨_,rfl,_,rfl,x,_,dx,_,.ref a,rfl,s1 _ _ hx,T.cl_Part,T.n_Part_kept,rfl,a,_,rfl,.inr (SqK.same (k:=true) s1 hA),rfl,ZT _,_,rfl,?_⟩;rw[NQ];refine WE (λhc=>?_) (λhc=>?_)
   .refine Xe _ _ ⟨rfl,VV,?_⟩;rw[ZU hy,if_neg (by simp[hc]),YF]
   .refine⟨_,rfl,Xe _ _ ⟨rfl,VV,?_⟩⟩;rw[ZU hy,if_pos (Yw ⟨he,hc⟩),ZX]
  rintro ws H2 ⟨rfl,_,rfl⟩ lA hlA;rw[Xr,YK,lH hF hz Tz Wc];have u1:=XH (o:=.lst (IL (WN n ps I F z))) hlA
  have kL:(upd H2 lA (.lst (IL (WN n ps I F z)))) lA=some (.lst (IL (WN n ps I F z))):=XR;refine nm ?_;dsimp only [List.set];have s2:=s1.trans u1
  change Gm _ _ _ (upd H2 lA (.lst (IL (WN n ps I F z))));generalize upd H2 lA (.lst (IL (WN n ps I F z)))=H3 at *;have lvl:(WN n ps I F z).length<=30:=Yr (YH ..) (by have:=HK n ps F z F;have:=hF.1.len;lia)
  have hFl:F.length<=30:=by have:=hF.1.len;lia
  refine⟨_,rfl,lA,rfl,⟨_,SqL.of kL⟩,NV (K:=K) (a:=lA) (xs:=IL (WN n ps I F z)) (λj ys H4=>Same H3 H4/\j<=(WN n ps I F z).length/\Bears (Wq H4) ys (((WN n ps I F z).take j).map λo=>xchT F o z)) ⟨Same.refl _,Yo _,⟨rfl,λi l e=>by simp at e⟩⟩ (Zm (by rw[Xr];lia))
   (λj ys H4 hj h=>by obtain⟨e,Ra,ey⟩:=h;exact⟨SqL.of (e _ _ kL),by rw[ey.1,Yd,YB];lia⟩) ?_ ?_⟩
  .rintro j v ys H4 hj ⟨s4,NP,hY⟩ S Xe;obtain⟨o,rfl,ho⟩:=WL hj;have VV:j<(WN n ps I F z).length:=(Xp.mp ho).1
   have LB:=s2.trans s4;refine nm ?_;refine⟨_,rfl,x,_,dx,_,.ref l,rfl,LB _ _ hx,T.cl_Part,T.n_Part_least,rfl,_,rfl,l,true,F,o,rfl,SqT.of (LB _ _ hl),by lia,λr1 H5 s5 hr10 Wn=>?_⟩;have wl:=Mb F o
   refine⟨_,rfl,(by show 1<=sizeLine;decide),λp2 VU=>?_⟩;have s6:=XH (o:=.tup (IL [z])) VU
   refine CQ (l:=wo F o) (m:=[z]) (SqT.of (s6 _ _ Wn)) (SqT.of XR) (by rw[Yk];lia) λr3 H7 s7 UT=>?_;refine⟨r3,wo F o++[z],rfl,UT,by rw[Xs,Yk];lia,λns mR Of p4 LH=>?_⟩;have en:ns=xchT F o z:=zq (mR.trans (LN F o z).symm) Of (Rw F o z)
   subst en;have s8:=XH (o:=.lst (IL (xchT F o z))) LH
   refine⟨p4,_,rfl,.inl ⟨SqL.of XR,λp5 yj=>?_⟩⟩;have s9:=XH (o:=.tup (IL (xchT F o z))) yj
   have sA:=(s5.trans s6).trans (s7.trans (s8.trans s9));refine Xe _ _ ⟨s4.trans sA,VV,?_⟩;rw[WA,ho,QP];exact(hY.imp λ_ _ h=>by obtain⟨q,e,hq⟩:=h;exact⟨q,e,sA _ _ hq⟩).snoc ⟨p5,rfl,XR⟩
  .rintro ys H4 ⟨s4,_,hY⟩ d hd;rw[Xr,YK]at hY;have s5:=XH (o:=.lst ys) hd
   exact q d ys _ (s2.trans (s4.trans s5)) ((s2.trans s4).free hd) XR (hY.imp λ_ _ h=>by obtain⟨q,e,hq⟩:=h;exact⟨q,e,s5 _ _ hq⟩)
theorem cy{α:Type}{R:V->α->Prop}{xs ys:List V}{l m:List α}(h1:Bears R xs l)(h2:Bears R ys m):Bears R (xs++ys) (l++m):=by
 refine⟨by rw[Xs,Xs,h1.1,h2.1],λi a e=>?_⟩;by_cases c:i<l.length
 .rw[Ys c]at e;obtain⟨v,hv,r⟩:=h1.2 i a e;exact⟨v,by rw[Ys (by rw[h1.1];exact c)];exact hv,r⟩
 .rw[Yq (by lia)]at e;obtain⟨v,hv,r⟩:=h2.2 _ a e;exact⟨v,by rw[Yq (by rw[h1.1];omega),h1.1];exact hv,r⟩
theorem cx{α:Type}{R:V->α->Prop}{xs:List V}{l:List α}(h:Bears R xs l):Bears R xs.reverse l.reverse:=by
 refine⟨by rw[YJ,YJ,h.1],λi a e=>?_⟩;have hi:i<l.length:=by have:=(Xp.mp e).1;rw[YJ]at this;exact this
 rw[Ls hi]at e;obtain⟨v,hv,r⟩:=h.2 _ a e;exact⟨v,by rw[Ls (by rw[h.1];exact hi),h.1];exact hv,r⟩
def lE(K:Ad)(CP C:Addr):Sp:=λvs H Q _=>∃(x:Addr) (n:Int) (ps:Aa) (I O F inc:Ac) (ld fu:Option Int),vs=[.ref x]/\PartAt K CP C H x n ps I O F inc ld fu/\Zt n ps/\Zf n ps F/\inc.length<=30/\(∀ z∈inc,z∉F/\0<=z/\z<(ps.length:Int)) /\
 ∀(r:Addr) (xs:List V) (H':Hp),Same H H'->H r=none->H' r=some (.lst xs)->Bears (Wq H') xs (CL n ps I F inc)->Q (.ref r) H'
theorem Rn:FnScope ["part","row","ascending","into","trees"] ["part"] (XA sZB):=⟨rfl,rfl,rfl,by decide +kernel,rfl,by decide +kernel,by decide +kernel⟩
theorem Bq (T:Txt K mg t):FnOk P w K mg base Xl 10 t.aZB t.dZB ["part"] (lE K t.A_Part t.A_Web):=by
 refine T.fZB.ok Rn (λvs H Q E h=>?_) (λXz A outer s H vs Q E hr h=>?_)
 .obtain⟨x,n,ps,I,O,F,inc,ld,fu,rfl,_⟩:=h;rfl
 .obtain⟨x,n,ps,I,O,F,inc,ld,fu,rfl,SD,hG,hF,Vn,Ts,q⟩:=h;refine⟨_,(XN (Zk (i:=1) Rn.nd rfl (Or.inl rfl) (Uk (XZ (Zl K (pv 0) rfl) XY)))
   (XN (Zk (i:=2) Rn.nd rfl (Or.inl rfl) (Og RX (Zn ZH (Zd (Zo K) (by rfl) T.n_len Boot.«len» (XZ (Zl K (pv 0) rfl) XY)) Za) Za (Zv _)))
   (XN (Sq Ws rfl (Va K (Zl K (pv 0) rfl)) (Ze (i:=3) Rn.nd rfl (Or.inl rfl))
   (XN (Zk (i:=4) Rn.nd rfl (Or.inl rfl) (XF (lF T) (hr.mono (by decide)) rfl T.mZA T.fZA.kp T.bZA .nil Zs (XZ (pv 0) (XZ (pv 3) XY))))
   (XN (ZZ (VE K YX jF jG iM (pv 1) (XZ (jh (QK (pv 2)) (pv 4) (g7 K rfl rfl T.n_list rfl T.n_reversed (XZ (pv 4) XY))) XY)))
   (XG (Zk (i:=2) Rn.nd rfl (Or.inl rfl) (Gq (pv 2)))))))
   (XG (Zh (pv 1)))))),?_⟩
  obtain⟨dx,w,a,b,l,i,hx,hW,hA,Se,hl,hi⟩:=id SD;refine⟨_,rfl,x,_,dx,_,.ref l,rfl,hx,T.cl_Part,T.n_Part_least,rfl,(by show 1<=sizeLine;decide),λr hr=>?_⟩;have s1:=XH (o:=.lst [.ref l]) hr
  refine nm ?_;dsimp only [List.set];refine⟨_,rfl,x,_,dx,_,.ref i,rfl,s1 _ _ hx,T.cl_Part,T.n_Part_incoming,rfl,i,_,rfl,.inl (SqL.of (s1 _ _ hi)),_,_,rfl,rfl,(by show(0:Int)<2;decide),rfl,?_⟩;refine nm ?_;dsimp only [List.set];have ea:decide (V.int ((IL inc).length % 2:Int)=V.int 1)=(inc.length % 2 == 1):=by rw[ZC,Xr,Pa,YU,SW];omega
  change Ua _ _ _ [some (.ref x),some (.ref r),some (.bl (decide (V.int ((IL inc).length % 2:Int)=V.int 1))),none,none] (upd H r (.lst [.ref l]));rw[ea];generalize SJ:(inc.length % 2 == 1)=asc at *;have kr:(upd H r (.lst [.ref l])) r=some (.lst [.ref l]):=XR
  generalize upd H r (.lst [.ref l])=H1 at *;have rR:=s1 _ _ hi
  have fresh:∀ b o,H b=some o->b≠r:=λb o e=>Zc e hr;refine⟨_,rfl,x,_,dx,_,.ref i,rfl,s1 _ _ hx,T.cl_Part,T.n_Part_incoming,rfl,i,rfl,⟨_,SqL.of rR⟩,wa (K:=K) (a:=i) (xs:=IL inc) (λj σ H2=>∃(xs:List V) (v3 v4:Option V),σ=[some (.ref x),some (.ref r),some (.bl (asc != (j % 2 == 1))),v3,v4]/\Same H H2/\H2 r=some (.lst xs)/\Bears (Wq H2) xs (F :: VC n ps I F (inc.take j) asc)) ⟨[.ref l],none,none,by cases asc <;> rfl,s1,kr,⟨rfl,λj m e=>by
   match j,e with
   | 0,e=>exact⟨_,rfl,l,rfl,by rw[<- Yi e];exact s1 _ _ hl⟩⟩⟩ (λj σ H2 _ h=>by obtain⟨_,_,_,_,e,_⟩:=h;exact SqL.of (e _ _ hi)) ?_ ?_⟩
  rotate_left
  .rintro σ H2 ⟨xs,v3,v4,rfl,s2,Vh,hX⟩;rw[Xr,YK]at hX;refine Rc ?_;refine⟨_,rfl,?_⟩;rw[<- SJ]at hX;exact q r xs H2 s2 hr Vh hX
  rintro j v σ H2 hj ⟨xs,v3,v4,rfl,s2,Vh,hX⟩;obtain⟨z,rfl,hz⟩:=WL hj;obtain⟨zF,z0,z1⟩:=Ts z (Xd hz);have sW:j<inc.length:=(Xp.mp hz).1
  refine nm ?_;dsimp only [List.set];refine⟨_,rfl,_,rfl,x,n,ps,I,O,F,inc,ld,fu,z,rfl,⟨dx,w,a,b,l,i,s2 _ _ hx,hW.same s2,SqK.same (k:=true) s2 hA,SqK.same (k:=true) s2 Se,s2 _ _ hl,s2 _ _ hi⟩,hG,hF,zF,z0,z1,λtA ys H3 s3 ht0 PH hY=>?_⟩;refine nm ?_;dsimp only [List.set];have UT:=s3 _ _ Vh
  have Bp:F.length<=30:=by have:=hF.1.len;have:=hG.2.2.1;lia
  have xl:xs.length<=1000:=by
   rw[hX.1,Yz];have h1:=dX n ps I F (inc.take j) asc
   have h2:(inc.take j).length * F.length<=30 * 30:=Lm (by rw[YB];grind) Bp;lia
  have yl:ys.length<=30:=by rw[hY.1,Yd];exact Yr (YH ..) (Yr (HK n ps F z F) Bp)
  have lD:VC n ps I F (inc.take (j+1)) asc=VC n ps I F (inc.take j) asc++VR n ps I F (asc != (j % 2 == 1)) z:=by
   have e:inc.take (j+1)=inc.take j++[z]:=by rw[WA,hz];rfl
   have el:(inc.take j).length=j:=by rw[YB];lia
   rw[e,Ji,el]
  have flip:(!(asc != (j % 2 == 1)))=(asc != ((j+1) % 2 == 1)):=by rcases(by grind:j % 2=0/\(j+1) % 2=1\/j % 2=1/\(j+1) % 2=0) with ⟨a,b⟩ | ⟨a,b⟩ <;> rw[a,b] <;> cases asc <;> rfl
  have fin:∀(zs:List V) (H4:Hp),Same H3 H4->zs.length=ys.length->Bears (Wq H4) zs (VR n ps I F (asc != (j % 2 == 1)) z)->Same H (upd H4 r (.lst (xs++zs)))/\Bears (Wq (upd H4 r (.lst (xs++zs)))) (xs++zs) (F :: VC n ps I F (inc.take (j+1)) asc):=λzs H4 s4 mB hZ=>by
   have Ru:=s4 _ _ UT;refine⟨ZE hr ((s2.trans s3).trans s4),?_⟩;rw[lD];have hX4:Bears (Wq H4) xs (F :: VC n ps I F (inc.take j) asc):=hX.imp λ_ _ h=>by obtain⟨c,e,hc⟩:=h;exact⟨c,e,(s3.trans s4) _ _ hc⟩
   exact(cy hX4 hZ).imp λ_ _ h=>by obtain⟨c,e,hc⟩:=h;exact⟨c,e,by rw[Zb (OY hc Ru (by simp))];exact hc⟩
  refine⟨_,rfl,.inl ⟨rfl,_,SqL.of UT⟩,?_⟩;cases hb:(asc != (j % 2 == 1)) with
  | true =>
   rw[hb]at fin flip;refine⟨_,rfl,_,rfl,?_⟩;refine VF ?_;refine⟨_,rfl,?_⟩;obtain⟨f1,f2⟩:=fin ys H3 (Same.refl _) rfl hY;refine⟨r,tA,xs,ys,rfl,rfl,UT,PH,TN (by lia),?_⟩;refine⟨_,rfl,_,rfl,?_⟩;exact⟨xs++ys,_,_,by rw[<- flip];rfl,f1,XR,f2⟩
  | false =>
   rw[hb]at fin flip;refine⟨_,rfl,_,rfl,?_⟩;refine Vd ?_;refine⟨_,rfl,tA,ys,rfl,SqL.of PH,λd hd=>?_⟩;have s4:=XH (o:=.lst ys.reverse) hd
   obtain⟨f1,f2⟩:=fin ys.reverse _ s4 (YJ) (cx (hY.imp λ_ _ h=>by obtain⟨c,e,hc⟩:=h;exact⟨c,e,s4 _ _ hc⟩));refine⟨r,d,xs,ys.reverse,rfl,rfl,s4 _ _ UT,XR,TN (by rw[YJ];omega),?_⟩;refine⟨_,rfl,_,rfl,?_⟩;exact⟨xs++ys.reverse,_,_,by rw[<- flip];rfl,f1,XR,f2⟩
def IJ(K:Ad)(CP C Pt:Addr)(d:Nat):Sp:=λvs H Q _=>∃(x:Addr) (n:Int) (ps:Aa) (I O F inc:Ac) (ld fu:Option Int) (R:Ab) (size start stop:Int),vs=[.ref x,.int size,.int start,.int stop]/\PartAt K CP C H x n ps I O F inc ld fu/\PartOk n ps I O ld F inc fu/\Zt n ps/\Xj H Pt/\RowR n ps d I O ld R/\size=R.length/\0<=start/\stop<=size/\stop - start<=100000 /\
 ∀(r:Addr) (xs:List V) (H':Hp),SameX Pt H H'->Xj H' Pt->H r=none->H' r=some (.lst xs)->Bears (Wq H') xs ((R.drop start.toNat).take (stop - start).toNat)->Q (.ref r) H'
theorem lC(xs:List V){a b:Nat}(h2:b<=xs.length):WM xs (some (a:Int)) (some (b:Int))=(xs.drop a).take (b - a):=by
 have e1:HT.Vw xs.length 0 (some (a:Int))=min a xs.length:=rfl;have e2:HT.Vw xs.length xs.length (some (b:Int))=min b xs.length:=rfl
 unfold WM;rw[e1,e2,GV h2];rcases Nat.le_total a xs.length with c | c
 .rw[GV c]
 .rw[xi c,xF (XO _),xF c,Ax,Ax]
theorem ZC8{α:Type}{R:V->α->Prop}{xs:List V}{l:List α}(h:Bears R xs l)(a b:Nat):Bears R ((xs.drop a).take b) ((l.drop a).take b):=by
 refine⟨by rw[YB,YB,QT,QT,h.1],λi x e=>?_⟩;rw[Hc]at e;by_cases c:i<b
 .rw[if_pos c,xq]at e;obtain⟨v,hv,r⟩:=h.2 _ x e;exact⟨v,by rw[Hc,if_pos c,xq];exact hv,r⟩
 .rw[if_neg c]at e;cases e
theorem lB{α:Type}(A B:List α){a b:Nat}(h:b<=A.length):((A++B).drop a).take (b - a)=(A.drop a).take (b - a):=by
 rcases Nat.le_total a A.length with c | c
 .rw[xO c,xP (by rw[QT];exact Nat.sub_le_sub_right h a)]
 .rw[Nat.sub_eq_zero_of_le (Yr h c),w5,w5]
theorem cu{α:Type}(B:List α){i k:Nat}(h:i+k<=B.length):((B.reverse).drop i).take k=((B.drop (B.length - i - k)).take k).reverse:=by rw[List.drop_reverse,List.take_reverse,YB,GV (Nat.sub_le _ _),List.drop_take,Nat.sub_sub_self (Nat.le_sub_of_add_le' h)]
theorem lz{α:Type}(A B:List α){a b c:Nat}(hc:(a<=A.length/\c=A.length)\/(A.length<=a/\c=a))(ly:c<=b)(hb:b<=A.length+B.length):((A++B.reverse).drop a).take (b - a)=A.drop a++((B.drop (A.length+B.length - b)).take (b - c)).reverse:=by
 rcases hc with ⟨h,rfl⟩ | ⟨h,rfl⟩
 .rw[xO h,List.take_append,UH (by rw[QT];exact Nat.sub_le_sub_right ly a),QT,Nat.sub_sub_sub_cancel_right h]
  have:=cu B (i:=0) (k:=b - A.length) (by grind)
  rw[List.drop_zero]at this;rw[this,show B.length - 0 - (b - A.length)=A.length+B.length - b by grind]
 .rw[List.drop_append,xF h,Mz,Mz,cu B (by grind),show B.length - (c - A.length) - (b - c)=A.length+B.length - b by grind]
theorem lx{x y:Int}:∃ m,(if x<y then x else y)=m/\m<=x/\m<=y/\(x<y->m=x)/\(¬ x<y->m=y):=by
 by_cases c:x<y
 .exact⟨x,if_pos c,Ou _,Li c,λ_=>rfl,λh=>absurd c h⟩
 .exact⟨y,if_neg c,GL.mp c,Ou _,λh=>absurd h c,λ_=>rfl⟩
theorem cq{H H2:Hp}{Pt r:Addr}{pos:Pos}{qual:Str}(t:TabH H2 Pt pos qual)(s:SameX Pt H H2)(h:H2 r=none):H r=none:=by
 cases e:H r with
 | none=>rfl
 | some o =>
  have XJ:r≠Pt:=λe'=>by obtain⟨p,h1,_⟩:=t;rw[<- e',h]at h1;cases h1
  rw[s _ _ XJ e]at h;cases h
theorem Pp:FnScope ["part","size","start","stop","first","middle","trees","turned"] ["part","size","start","stop"] (XA sZC):=⟨rfl,rfl,rfl,by decide +kernel,rfl,by decide +kernel,by decide +kernel⟩
theorem lu {Pt:Addr} (T:Txt K mg t) (hB:Ry K mg base t.dZv Pt) (d:Nat):FnOk P w K mg base Xl (11+d) t.aZC t.dZC ["part","size","start","stop"] (IJ K t.A_Part t.A_Web Pt d):=by
 have key:∀(d k:Nat) (sp:Sp),FnOk P w K mg base Xl k t.aZC t.dZC ["part","size","start","stop"] sp->k<=10+d->(∀ e,d=e+1->sp=IJ K t.A_Part t.A_Web Pt e)->FnOk P w K mg base Xl (11+d) t.aZC t.dZC ["part","size","start","stop"] (IJ K t.A_Part t.A_Web Pt d):=by
  intro d k sp ih hk Tg;rw[show 11+d=10+d+1 by lia];refine T.fZC.ok Pp (λvs H Q E h=>?_) (λXz A outer s H vs Q E hr h=>?_)
  .obtain⟨x,n,ps,I,O,F,inc,ld,fu,R,size,start,stop,rfl,_⟩:=h;rfl
  .obtain⟨x,n,ps,I,O,F,inc,ld,fu,R,size,start,stop,rfl,SD,Vg,hG,hT,hR,hsz,HM,Ke,Oi,q⟩:=h;refine⟨_,(XN (Ww (Zg FR (pv 2) (pv 3) (Zv _))
   (XG (Zh (Uk XY)))
   Zp)
   (XN (Ww (Zg QD (Zl K (pv 0) rfl) Gz (Zv _))
   (XG (Zh (Mp (Ml K) (XF (Bq T) (hr.mono (by omega)) rfl T.mZB T.fZB.kp T.bZB .nil Zs (XZ (pv 0) XY)) (Od (pv 2)) (Od (pv 3)))))
   Zp)
   (XN (Zk (i:=4) Pp.nd rfl (Or.inl rfl) (XF (Bu T hB) (hr.mono (by omega)) rfl T.mZx T.fZx.kp T.bZx .nil Zs (XZ (pv 0) XY)))
   (XN (Zk (i:=5) Pp.nd rfl (Or.inl rfl) (XF (Bs T) (hr.mono (by omega)) rfl T.mZz T.fZz.kp T.bZz .nil Zs (XZ (pv 4) XY)))
   (XN (Zk (i:=6) Pp.nd rfl (Or.inl rfl) (XF ih (hr.mono (by omega)) rfl T.mZC T.fZC.kp T.bZC .nil Zs (XZ (pv 4) (XZ (pv 5) (XZ (pv 2) (XZ (Zd (vX rfl) (by rfl) T.n_min Boot.«min» (XZ (pv 3) (XZ (pv 5) XY))) XY))))))
   (XN (Ww (Zg RV (pv 3) (pv 5) (Zv _))
   (XN (Zk (i:=7) Pp.nd rfl (Or.inl rfl) (XF ih (hr.mono (by omega)) rfl T.mZC T.fZC.kp T.bZC .nil Zs (XZ (XF (Bt T hB) (hr.mono (by omega)) rfl T.mZy T.fZy.kp T.bZy .nil Zs (XZ (pv 0) XY)) (XZ (Zn TZ (pv 1) (pv 5)) (XZ (Zn TZ (pv 1) (pv 3)) (XZ (Zn TZ (pv 1) (Zd (vY rfl) (by rfl) T.n_max Boot.«max» (XZ (pv 2) (XZ (pv 5) XY)))) XY))))))
   (XG (ZZ (VE K YX jF jG iM (pv 6) (XZ (g7 K rfl rfl T.n_list rfl T.n_reversed (XZ (pv 7) XY)) XY)))))
   Zp)
   (XG (Zh (pv 6))))))))),?_⟩
   obtain⟨dx,w0,a,b,l,i,hx,hW,hA,Se,hl,hi⟩:=id SD;refine⟨_,rfl,_,rfl,_,_,rfl,rfl,_,rfl,?_⟩;refine WV (λPR=>?_) (λXi=>?_)
   .refine⟨Yo _,λr hr=>?_⟩;have s1:=XH (o:=.lst []) hr
    refine q r [] _ (SameX.same s1) (hT.same s1) hr XR ?_;rw[show(stop - start).toNat=0 by lia,w5];exact⟨rfl,λi l e=>by simp at e⟩
   show(_:Prop);refine Rc ?_;obtain⟨a0,rfl⟩:=Le HM;obtain⟨b0,rfl⟩:=Le (show 0<=stop by lia);have VI:a0<=b0:=by lia
   have lr:b0<=R.length:=by rw[hsz]at Ke;exact Int.ofNat_le.mp Ke
   have e0:((b0:Int) - (a0:Int)).toNat=b0 - a0:=Int.toNat_sub _ _;rw[YA,e0]at q;subst hsz;refine⟨_,rfl,x,_,dx,_,Xg fu,rfl,hx,T.cl_Part,T.n_Part_further,rfl,rfl,_,rfl,?_⟩;cases hR with
   | und We Vn lq =>
    obtain⟨rfl,rfl,rfl⟩:=Vg.uniq We;refine VF ?_;refine⟨_,rfl,x,n,ps,I,O,F,inc,ld,none,rfl,SD,hG,Vg.tr.1,Vn,lq,λr xs H1 s1 Vk Wn hX=>?_⟩;have Jf:=hX.1
    refine⟨_,rfl,_,rfl,_,rfl,_,rfl,r,xs,rfl,SqL.of Wn,λq1 cn=>?_⟩;rw[lC xs (by rw[Jf];exact lr)];have s2:=XH (o:=.lst ((xs.drop a0).take (b0 - a0))) cn
    have WS:=s1.trans s2;refine q q1 _ _ (SameX.same WS) (hT.same WS) (s1.free cn) XR ?_;exact(ZC8 hX _ _).imp λ_ _ h=>by obtain⟨c,e,hc⟩:=h;exact⟨c,e,s2 _ _ hc⟩
   | div We hIn Xt Vm Sd II IG y0 y1 lp xU xT =>
    rename_i e F' Wx z y A' B;obtain⟨rfl,rfl,rfl⟩:=Vg.uniq We;have lj:=Tg e rfl
    subst lj;refine Vd ?_;show(_:Prop)
    refine Rc ?_;have Tx:=YS.mp hIn
    have Po:I.Nodup:=Tx.1;have Pn:∀ v∈I,0<=v/\v<(ps.length:Int):=λv hv=>Xt v (Ya _ hv)
    have Pm:∀ v∈I,v∉O++[z]:=λv hv h=>(Xy.mp h).elim (Vm v (Ya _ hv)) λh=>Tx.2.2 v hv z (by simp) (XD.mp h);have SH:O.length<=30:=by rw[Xs,Yk]at Sd;lia
    rw[Xs,YJ]at lr;have QY:(((A'++B.reverse).length:Nat):Int)=(A'.length:Int)+B.length:=by rw[Xs,YJ,Int.natCast_add]
    obtain⟨m,em,m1,m2,m3,m4⟩:=lx (x:=(A'.length:Int)) (y:=(b0:Int));refine⟨_,rfl,x,n,ps,I,O,F,inc,z,y,rfl,SD,hG,hT,Po,Pn,Pm,Sd,IG,y0,y1,λx1 F1 SG Jh H1 Nq Qh Pl Wm=>?_⟩;refine nm ?_;dsimp only [List.set];refine⟨_,rfl,x1,n,ps,I,O++[z],F1,SG,some y,Jh,rfl,Qh,hG,Po,Pn,Sd,Pm,λc H2 hc s2=>?_⟩;have ec:=hc.uniq lp
    subst ec;refine nm ?_;dsimp only [List.set];have SA:SameX Pt H H2:=Pl.trans (SameX.same s2)
    have WX:=Wm.same s2;refine⟨_,rfl,_,rfl,_,rfl,_,rfl,_,rfl,_,_,rfl,?_⟩;refine⟨x1,n,ps,I,O++[z],F1,SG,some y,Jh,A',_,_,_,rfl,Qh.samex Wm (SameX.same s2),Nq,hG,WX,xU,rfl,HM,(by rw[em];exact m1),(by rw[em];exact Ie (Int.sub_le_sub_right m2 _) Oi),λr xs H3 Lx Wd Vk UT hX=>?_⟩;refine nm ?_;dsimp only [List.set];have US:=SA.trans Lx
    have lh:H r=none:=cq WX SA Vk;rw[YA,em]at hX;refine⟨_,rfl,_,rfl,_,_,rfl,rfl,_,rfl,?_⟩;refine WV (λhgt=>?_) (λhle=>?_);rotate_left
    .show(_:Prop);refine Rc ?_;refine⟨_,rfl,?_⟩;have lg:¬ (A'.length:Int)<(b0:Int):=hle
     rw[m4 lg,e0]at hX;rw[lB A' B.reverse (by lia)]at q;exact q r xs H3 US Wd lh UT hX
    have Bo:(A'.length:Int)<(b0:Int):=hgt;rw[m3 Bo,Int.toNat_sub,UH (by rw[QT];exact XO _)]at hX;clear m1 m2 m3 m4 em m;refine⟨_,rfl,x,n,ps,I,O,F,inc,z,y,rfl,SD.samex hT US,hG,Wd,hIn,Xt,Vm,SH,II,y0,y1,λx2 F2 PL CA H4 SF Ui Up Wl=>?_⟩;refine⟨_,rfl,_,rfl,_,_,rfl,rfl,_,rfl,_,rfl,_,_,rfl,rfl,_,rfl,_,rfl,_,rfl,_,_,rfl,_,_,rfl,rfl,?_⟩;obtain⟨c0,ec,Ck,ly⟩:∃ c0:Nat,(if (A'.length:Int) > (a0:Int) then (A'.length:Int) else (a0:Int))=(c0:Int)/\((a0<=A'.length/\c0=A'.length)\/(A'.length<=a0/\c0=a0))/\c0<=b0:=by
     by_cases c:(A'.length:Int) > (a0:Int)
     .exact⟨A'.length,if_pos c,.inl ⟨UB (Int.ofNat_lt.mp c),rfl⟩,UB (Int.ofNat_lt.mp Bo)⟩
     .exact⟨a0,if_neg c,.inr ⟨Int.ofNat_le.mp (GL.mp c),rfl⟩,VI⟩
    rw[lz A' B Ck ly lr]at q;have hAc:A'.length<=c0:=by rcases Ck with h | h <;> lia
    have hac:a0<=c0:=by rcases Ck with h | h <;> lia
    clear Ck;refine⟨x2,n,ps,I++[z],O,F2,PL,some y,CA,B,_,_,_,rfl,Ui,SF,hG,Wl,xT,(by rw[QY];lia),(by rw[QY];lia),(by rw[ec,QY];lia),(by rw[ec,QY];lia),λr2 ys H5 Px Sz hr20 Bn hY=>?_⟩;refine nm ?_;dsimp only [List.set];have Ru:=Up _ _ (Wd.ne UT (by simp)) UT
    have Bm:=Px _ _ (Wl.ne Ru (by simp)) Ru;have k9:=(US.trans Up).trans Px
    have e2:((A'.length:Int)+B.length - (b0:Int)).toNat=A'.length+B.length - b0:=by grind
    have e3:((A'.length:Int)+B.length - (c0:Int) - ((A'.length:Int)+B.length - (b0:Int))).toNat=b0 - c0:=by grind
    rw[ec,QY,e2,e3]at hY;have Jf:xs.length<=100000:=by rw[hX.1,QT];lia
    have yn:ys.length<=100000:=by rw[hY.1,YB];lia
    refine⟨_,rfl,.inl ⟨rfl,_,SqL.of Bm⟩,_,rfl,r2,ys,rfl,SqL.of Bn,λdA hd=>?_⟩;have s6:=XH (o:=.lst ys.reverse) hd
    have Na:=s6 _ _ Bm;have z1:1000000<=sizeLine:=by decide
    refine⟨r,dA,xs,ys.reverse,rfl,rfl,Na,XR,(by rw[YJ];lia),?_⟩;refine⟨_,rfl,?_⟩;refine q r (xs++ys.reverse) _ (λb o hb e=>?_) ((Sz.same s6).put Na) lh XR ?_
    .rw[Zb (Zc e lh)];exact s6 _ _ (k9 _ _ hb e)
    .have f1:Bears (Wq (upd H5 dA (.lst ys.reverse))) xs (A'.drop a0):=hX.imp λ_ _ h=>by
      obtain⟨c,e,hc⟩:=h;have cm:=Up _ _ (Wd.ne hc (by simp)) hc
      exact⟨c,e,s6 _ _ (Px _ _ (Wl.ne cm (by simp)) cm)⟩
     have f2:Bears (Wq (upd H5 dA (.lst ys.reverse))) ys.reverse ((B.drop (A'.length+B.length - b0)).take (b0 - c0)).reverse:=cx (hY.imp λ_ _ h=>by obtain⟨c,e,hc⟩:=h;exact⟨c,e,s6 _ _ hc⟩)
     exact(cy f1 f2).imp λ_ _ h=>by obtain⟨c,e,hc⟩:=h;exact⟨c,e,by rw[Zb (OY hc Na (by simp))];exact hc⟩
 induction d with
 | zero=>exact key 0 0 _ dN (by lia) λe h=>(by cases h)
 | succ d ih=>exact key (d+1) (11+d) _ ih (by lia) λe h=>(by cases h;rfl)
def k8(N:Addr):Sp:=λvs H Q E=>∃ z:Int,vs=[.int z]/\-(10 ^ 70)<z/\z<10 ^ 70/\(0<=z->Q .non H)/\(z<0->E (.ref N) none H)
theorem k4:FnScope ["number"] ["number"] (XA sZD):=⟨rfl,rfl,rfl,by decide +kernel,rfl,by decide +kernel,by decide +kernel⟩
theorem kZ (T:Txt K mg t):FnOk P w K mg base (UX P w) 1 t.aZD t.dZD ["number"] (k8 t.A_NoSuch):=by
 refine T.fZD.okX k4 (λvs H Q E h=>?_) (λXz A outer s H vs Q E hr h=>?_)
 .obtain⟨z,rfl,_⟩:=h;rfl
 .obtain⟨z,rfl,z0,z1,q,qe⟩:=h;refine⟨_,(XG (Ww (Zg RW (pv 0) Za (Zv _))
   (XG (h7 T.x_NoSuch T.c_NoSuch (XZ (g8 (Er (pv 0) (Et Eu))) XY)))
   Zp)),?_⟩
  refine⟨_,rfl,_,_,rfl,rfl,_,rfl,?_⟩;refine WV (λh=>?_) (λh=>?_)
  .exact⟨_,rfl,z,rfl,z0,z1,λx=>⟨by show 1<=sizeLine;decide,qe h⟩⟩
  .exact q (by omega)
def kY(K:Ad)(CP C Pt N:Addr):Sp:=λvs H Q E=>∃(w:Addr) (n:Int) (ps:Aa) (num most:Int) (R:Ab),vs=[.ref w,.int num,.int most]/\WebAt C H w n ps/\Zt n ps/\Xj H Pt/\-(10 ^ 70)<num/\num<10 ^ 70/\0<=most/\most<=100000/\((∃ U,Zf n ps U)->RowW n ps R)/\((∀ U,¬ Zf n ps U)->R=[]) /\
 (0<=num->∀(r:Addr) (xs:List V) (H':Hp),SameX Pt H H'->Xj H' Pt->H r=none->H' r=some (.lst xs)->Bears (Wq H') xs ((R.drop num.toNat).take most.toNat)->Q (.ref r) H')/\(num<0->E (.ref N) none H)
theorem Bl:FnScope ["web","number","most","size"] ["web","number","most"] (XA sZE):=⟨rfl,rfl,rfl,by decide +kernel,rfl,by decide +kernel,by decide +kernel⟩
theorem kX {Pt:Addr} (T:Txt K mg t) (hB:Ry K mg base t.dZv Pt):FnOk P w K mg base (UX P w) 44 t.aZE t.dZE ["web","number","most"] (kY K t.A_Part t.A_Web Pt t.A_NoSuch):=by
 refine T.fZE.okX Bl (λvs H Q E h=>?_) (λXz A outer s H vs Q E hr h=>?_)
 .obtain⟨w,n,ps,num,most,R,rfl,_⟩:=h;rfl
 .obtain⟨w,n,ps,num,most,R,rfl,hW,hG,hT,n0,n1,m0,m1,cg,kW,q,qe⟩:=h;refine⟨_,(XN (ZZ (XF (kZ T) (hr.mono (by decide)) rfl T.mZD T.fZD.kp T.bZD .nil h8 (XZ (pv 1) XY)))
   (XN (Zk (i:=3) Bl.nd rfl (Or.inl rfl) (XF (PD T) (hr.mono (by decide)) rfl T.mZl T.fZl.kp T.bZl .nil Zs (XZ (pv 0) XY)))
   (XN (Ww (Zg FR (pv 1) (pv 3) (Zv _))
   (XG (Zh (Uk XY)))
   Zp)
   (XG (Zh (XF (lu T hB 31) (hr.mono (by decide)) rfl T.mZC T.fZC.kp T.bZC .nil Zs (XZ (XF (Bv T hB) (hr.mono (by decide)) rfl T.mZw T.fZw.kp T.bZw .nil Zs (XZ (pv 0) XY)) (XZ (pv 3) (XZ (pv 1) (XZ (Zd (vX rfl) (by rfl) T.n_min Boot.«min» (XZ (Zn WO (pv 1) (pv 2)) (XZ (pv 3) XY))) XY)))))))))),?_⟩
  refine⟨_,rfl,num,rfl,n0,n1,λnp=>?_,qe⟩;have q:=q np
  refine⟨_,rfl,w,n,ps,rfl,hW,hG,λc H1 hc s1=>?_⟩;refine nm ?_;dsimp only [List.set];have QY:R.length=c:=by
   by_cases hex:∃ U,Zf n ps U
   .obtain⟨_,_,_,_,_,_,_,_,h⟩:=cg hex;exact h.uniq hc
   .have Te:∀ U,¬ Zf n ps U:=λU hU=>hex ⟨U,hU⟩;rw[kW Te,(pG hc).mpr Te];rfl
  refine⟨_,rfl,_,rfl,_,_,rfl,rfl,_,rfl,?_⟩;refine WV (λPR=>?_) (λXi=>?_)
  .refine⟨Yo _,λr hr=>?_⟩;have s2:=XH (o:=.lst []) hr
   have WS:=s1.trans s2;refine q r [] _ (SameX.same WS) (hT.same WS) (s1.free hr) XR ?_;rw[Lu (by omega),Ax];exact⟨rfl,λi l e=>by simp at e⟩
  show(_:Prop);refine Rc ?_;obtain⟨U0,Hl⟩:∃ U,Zf n ps U:=Yx λno=>by
   have:=(pG hc).mpr λU hU=>no ⟨U,hU⟩
   omega
  obtain⟨ld,F,inc,fu,Vg,hn,hs,LI,_⟩:=cg ⟨U0,Hl⟩;have Wm:=hT.same s1
  refine⟨_,rfl,w,n,ps,rfl,hW.same s1,hG,Wm,⟨U0,Hl⟩,λx F' Wx LJ LL H2 We Ub OR SD SA WX=>?_⟩;have eF:F'=F:=Tb (Vg.least F' We.tr) (We.least F Vg.tr)
  subst eF;have el:=dG Ub OR hn hs
  subst el;refine⟨_,rfl,_,rfl,_,rfl,_,rfl,_,_,rfl,rfl,_,rfl,_,_,rfl,?_⟩;refine⟨x,n,ps,[],[],F',Wx,LJ,LL,R,_,_,_,rfl,SD,We,hG,WX,LI,by omega,np,(by split <;> omega),(by split <;> omega),λr xs H3 Lx Wd Vk UT hX=>?_⟩
  have e1:((R.drop num.toNat).take ((if (c:Int)<num+most then (c:Int) else num+most) - num).toNat)=(R.drop num.toNat).take most.toNat:=by rw[List.take_eq_take_iff,QT];split <;> omega
  rw[e1]at hX;exact q r xs H3 ((SameX.same s1).trans (SA.trans Lx)) Wd (cq WX ((SameX.same s1).trans SA) Vk) UT hX
def kT(K:Ad)(CP C Pt N:Addr):Sp:=λvs H Q E=>∃(w:Addr) (n:Int) (ps:Aa) (num:Int) (R:Ab),vs=[.ref w,.int num]/\WebAt C H w n ps/\Zt n ps/\Xj H Pt/\-(10 ^ 70)<num/\num<10 ^ 70/\RowW n ps R /\
 (0<=num->num<R.length->∀(r:Addr) (T:Ac) (H':Hp),R[num.toNat]?=some T->SameX Pt H H'->Xj H' Pt->H' r=some (.tup (IL T))->Q (.ref r) H')/\((num<0\/(R.length:Int)<=num)->∀ H':Hp,SameX Pt H H'->Xj H' Pt->E (.ref N) none H')
theorem Bk{R:Ab}{j:Nat}{T:Ac}(h:R[j]?=some T):(R.drop j).take 1=[T]:=by have hj:=(Xp.mp h);rw[jI hj.1,hj.2];rfl
theorem Bj:FnScope ["web","number","trees"] ["web","number"] (XA sZF):=⟨rfl,rfl,rfl,by decide +kernel,rfl,by decide +kernel,by decide +kernel⟩
theorem Pk {Pt:Addr} (T:Txt K mg t) (hB:Ry K mg base t.dZv Pt):FnOk P w K mg base (UX P w) 45 t.aZF t.dZF ["web","number"] (kT K t.A_Part t.A_Web Pt t.A_NoSuch):=by
 refine T.fZF.okX Bj (λvs H Q E h=>?_) (λXz A outer s H vs Q E hr h=>?_)
 .obtain⟨w,n,ps,num,R,rfl,_⟩:=h;rfl
 .obtain⟨w,n,ps,num,R,rfl,hW,hG,hT,n0,n1,hR,q,qe⟩:=h;refine⟨_,(XN (Zk (i:=2) Bj.nd rfl (Or.inl rfl) (XF (kX T hB) (hr.mono (by decide)) rfl T.mZE T.fZE.kp T.bZE .nil h8 (XZ (pv 0) (XZ (pv 1) (XZ Za XY)))))
   (XN (Ww (Zg RX (Zd (Zo K) (by rfl) T.n_len Boot.«len» (XZ (pv 2) XY)) Za (Zv _))
   (XG (h7 T.x_NoSuch T.c_NoSuch (XZ (g8 (Et (Er (pv 1) Eu))) XY)))
   Zp)
   (XG (Zh (ZQ (Zi K) (pv 2) Za (λ_ _=>rfl)))))),?_⟩
  obtain⟨ld,F,inc,fu,Vg,_,_,_,OC⟩:=id hR;refine⟨_,rfl,_,rfl,w,n,ps,num,1,R,rfl,hW,hG,hT,n0,n1,by decide,by decide,λ_=>hR,λno=>absurd Vg.tr.1 (no F),λnp r xs H1 Pl Wm Vk Wn hX=>?_,λh=>qe (.inl h) H (SameX.same (Same.refl _)) hT⟩;refine nm ?_;dsimp only [List.set];refine⟨_,rfl,r,xs,rfl,.inl (SqL.of Wn),rfl,_,rfl,?_⟩;rw[ZC];by_cases Xi:num<R.length
  .obtain⟨U,hU⟩:∃ U,R[num.toNat]?=some U:=⟨_,Xo (by omega)⟩;rw[show(1:Int).toNat=1 from rfl,Bk hU]at hX;obtain⟨v,hv,c,rfl,hc⟩:=hX.2 0 U rfl;have hl:xs.length=1:=hX.1
   refine WV (λh0=>by omega) (λ_=>?_);show(_:Prop)
   refine Rc ?_;exact⟨_,rfl,r,xs,0,.ref c,rfl,rfl,SqL.of Wn,ZN (n:=0) rfl hv,q np Xi c U H1 hU Pl Wm hc⟩
  .rw[Lu (by omega),Ax]at hX;have hl:xs.length=0:=hX.1
   refine WV (λ_=>?_) (λh0=>by omega);exact⟨_,rfl,num,rfl,n0,n1,λx=>⟨by show 1<=sizeLine;decide,qe (.inr (by omega)) H1 Pl Wm⟩⟩
def kR(K:Ad)(CP C Pt:Addr):Sp:=λvs H Q _=>∃(w:Addr) (n:Int) (ps:Aa) (R:Ab),vs=[.ref w]/\WebAt C H w n ps/\Zt n ps/\Xj H Pt/\RowW n ps R /\
 ∀(r:Addr) (T:Ac) (H':Hp),R[R.length - 1]?=some T->SameX Pt H H'->Xj H' Pt->H' r=some (.tup (IL T))->Q (.ref r) H'
theorem Zv5{n:Int}{ps:Aa}{T:Ac}(h:Zf n ps T):LZ n ps:=λi j hi hj=>(h.2.2 i j hi hj).mono (ZA λz hz=>XB.mpr (h.1.all z hz))
theorem kQ:FnScope ["web"] ["web"] (XA sZG):=⟨rfl,rfl,rfl,by decide +kernel,rfl,by decide +kernel,by decide +kernel⟩
theorem Bi {Pt:Addr} (T:Txt K mg t) (hB:Ry K mg base t.dZv Pt):FnOk P w K mg base Xl 46 t.aZG t.dZG ["web"] (kR K t.A_Part t.A_Web Pt):=by
 refine T.fZG.ok kQ (λvs H Q E h=>?_) (λXz A outer s H vs Q E hr h=>?_)
 .obtain⟨w,n,ps,R,rfl,_⟩:=h;rfl
 .obtain⟨w,n,ps,R,rfl,hW,hG,hT,hR,q⟩:=h;refine⟨_,(XN (ZZ (XF (mW T) (hr.mono (by decide)) rfl T.mZi T.fZi.kp T.bZi .nil Zs (XZ (pv 0) XY)))
   (XG (Zh (XF (Pk T hB) (hr.mono (by decide)) rfl T.mZF T.fZF.kp T.bZF .nil NJ (XZ (pv 0) (XZ (Zn TZ (XF (PD T) (hr.mono (by decide)) rfl T.mZl T.fZl.kp T.bZl .nil Zs (XZ (pv 0) XY)) Za) XY)))))),?_⟩
  obtain⟨ld,F,inc,fu,Vg,_,_,_,OC⟩:=id hR;have hJ:=Zv5 Vg.tr.1
  have c0:R.length≠0:=λe=>by rw[e]at OC;exact(pG OC).mp rfl F Vg.tr.1
  refine⟨_,rfl,w,n,ps,rfl,hW,hG,λ_ H1 s1=>?_,λh=>absurd hJ h⟩;refine⟨_,rfl,_,rfl,w,n,ps,rfl,hW.same s1,hG,λc H2 hc s2=>⟨_,_,rfl,rfl,?_⟩⟩;obtain rfl:=hc.uniq OC;have WS:=s1.trans s2
  have cf:=Jv hG hc;refine⟨w,n,ps,(R.length:Int) - 1,R,rfl,hW.same WS,hG,hT.same WS,by omega,by omega,hR,λ_ _ r U H3 hU sx tab UT=>?_,λh=>absurd h (by omega)⟩;exact q r U H3 (by rw[show((R.length:Int) - 1).toNat=R.length - 1 by omega]at hU;exact hU) ((SameX.same WS).trans sx) tab UT
def IF(K:Ad)(CP C Pt:Addr)(d:Nat):Sp:=λvs H Q _=>∃(x a:Addr) (n:Int) (ps:Aa) (I O F inc T:Ac) (ld fu:Option Int) (R:Ab) (size:Int),vs=[.ref x,.int size,.ref a]/\PartAt K CP C H x n ps I O F inc ld fu/\PartOk n ps I O ld F inc fu/\Zt n ps/\Xj H Pt/\RowR n ps d I O ld R/\size=R.length/\SqT K H a (IL T)/\T∈R /\
 ∀(j:Nat) (H':Hp),R[j]?=some T->SameX Pt H H'->Xj H' Pt->Q (.int j) H'
theorem IE:FnScope ["part","size","tree","first","middle"] ["part","size","tree"] (XA sZH):=⟨rfl,rfl,rfl,by decide +kernel,rfl,by decide +kernel,by decide +kernel⟩
theorem kP {Pt:Addr} (T:Txt K mg t) (hB:Ry K mg base t.dZv Pt) (d:Nat):FnOk P w K mg base Xl (11+d) t.aZH t.dZH ["part","size","tree"] (IF K t.A_Part t.A_Web Pt d):=by
 have key:∀(d k:Nat) (sp:Sp),FnOk P w K mg base Xl k t.aZH t.dZH ["part","size","tree"] sp->k<=10+d->(∀ e,d=e+1->sp=IF K t.A_Part t.A_Web Pt e)->FnOk P w K mg base Xl (11+d) t.aZH t.dZH ["part","size","tree"] (IF K t.A_Part t.A_Web Pt d):=by
  intro d k sp ih hk Tg;rw[show 11+d=10+d+1 by lia];refine T.fZH.ok IE (λvs H Q E h=>?_) (λXz A outer s H vs Q E hr h=>?_)
  .obtain⟨x,a,n,ps,I,O,F,inc,U,ld,fu,R,size,rfl,_⟩:=h;rfl
  .obtain⟨x,ta,n,ps,I,O,F,inc,U,ld,fu,R,size,rfl,SD,Vg,hG,hT,hR,hsz,yq,hU,q⟩:=h;refine⟨_,(XN (Ww (Zg QD (Zl K (pv 0) rfl) Gz (Zv _))
   (XG (Zh (VE K YX jB jC (oP K (HV hr)) (XF (Bq T) (hr.mono (by omega)) rfl T.mZB T.fZB.kp T.bZB .nil Zs (XZ (pv 0) XY)) (XZ (pv 2) XY))))
   Zp)
   (XN (Zk (i:=3) IE.nd rfl (Or.inl rfl) (XF (Bu T hB) (hr.mono (by omega)) rfl T.mZx T.fZx.kp T.bZx .nil Zs (XZ (pv 0) XY)))
   (XN (Zk (i:=4) IE.nd rfl (Or.inl rfl) (XF (Bs T) (hr.mono (by omega)) rfl T.mZz T.fZz.kp T.bZz .nil Zs (XZ (pv 3) XY)))
   (XN (Ww (Zg (Qn K) (Zl K (pv 0) rfl) (pv 2) rfl)
   (XG (Zh (Zn TZ (Zn TZ (pv 1) Za) (XF ih (hr.mono (by omega)) rfl T.mZH T.fZH.kp T.bZH .nil Zs (XZ (XF (Bt T hB) (hr.mono (by omega)) rfl T.mZy T.fZy.kp T.bZy .nil Zs (XZ (pv 0) XY)) (XZ (Zn TZ (pv 1) (pv 4)) (XZ (pv 2) XY)))))))
   Zp)
   (XG (Zh (XF ih (hr.mono (by omega)) rfl T.mZH T.fZH.kp T.bZH .nil Zs (XZ (pv 3) (XZ (pv 4) (XZ (pv 2) XY)))))))))),?_⟩
   obtain⟨dx,w0,a,b,l,i,hx,hW,hA,Se,hl,hi⟩:=id SD;refine⟨_,rfl,x,_,dx,_,Xg fu,rfl,hx,T.cl_Part,T.n_Part_further,rfl,rfl,_,rfl,?_⟩;have cb:=Cz hG hR
   cases hR with
   | und We Vn lq =>
    obtain⟨rfl,rfl,rfl⟩:=Vg.uniq We;refine VF ?_;refine⟨_,rfl,x,n,ps,I,O,F,inc,ld,none,rfl,SD,hG,Vg.tr.1,Vn,lq,λr xs H1 s1 Vk Wn hX=>?_⟩;obtain⟨e,j,c,h1,h2,h3,h4,h5⟩:=ZK7 (K:=K) hX (SqK.same (k:=true) s1 yq) hU;refine⟨.inl ⟨rfl,_,SqL.of Wn⟩,_,rfl,1,r,xs,.ref ta,e,j,c,rfl,rfl,Wn,by decide,h1,h2,h3,h4,?_⟩;exact q j H1 h5 (SameX.same s1) (hT.same s1)
   | div We hIn Xt Vm Sd II IG y0 y1 lp xU xT =>
    rename_i e F' Wx z y A' B;obtain⟨rfl,rfl,rfl⟩:=Vg.uniq We;have lj:=Tg e rfl
    subst lj;refine Vd ?_;show(_:Prop)
    refine Rc ?_;have Tx:=YS.mp hIn
    have Po:I.Nodup:=Tx.1;have Pn:∀ v∈I,0<=v/\v<(ps.length:Int):=λv hv=>Xt v (Ya _ hv)
    have Pm:∀ v∈I,v∉O++[z]:=λv hv h=>(Xy.mp h).elim (Vm v (Ya _ hv)) λh=>Tx.2.2 v hv z (by simp) (XD.mp h);have SH:O.length<=30:=by rw[Xs,Yk]at Sd;lia
    have QY:size=(A'.length:Int)+B.length:=by rw[hsz,Xs,YJ];lia
    refine⟨_,rfl,x,n,ps,I,O,F,inc,z,y,rfl,SD,hG,hT,Po,Pn,Pm,Sd,IG,y0,y1,λx1 F1 SG Jh H1 Nq Qh Pl Wm=>?_⟩;refine nm ?_;dsimp only [List.set];refine⟨_,rfl,x1,n,ps,I,O++[z],F1,SG,some y,Jh,rfl,Qh,hG,Po,Pn,Sd,Pm,λc H2 hc s2=>?_⟩;have ec:=hc.uniq lp
    subst ec;refine nm ?_;dsimp only [List.set];have SA:SameX Pt H H2:=Pl.trans (SameX.same s2)
    have WX:=Wm.same s2;have Ex:=SA _ _ (hT.ne hx (by simp)) hx
    have ID:SqT K H2 ta (IL U):=SqK.samex (kd:=true) yq hT SA;refine⟨_,rfl,x,_,dx,_,.int z,rfl,Ex,T.cl_Part,T.n_Part_lead,rfl,_,rfl,ta,_,rfl,.inr ID,rfl,ZT _,_,rfl,?_⟩;rw[NQ];refine WV (λhz=>?_) (λhz=>?_)
    .have hUB:U∈B:=by
      rcases Xy.mp hU with h | h
      .exact absurd hz ((Cz hG xU U h).2.2 z (by simp))
      .exact Im.mp h
     refine⟨_,rfl,_,_,rfl,rfl,_,rfl,x,n,ps,I,O,F,inc,z,y,rfl,SD.samex hT SA,hG,WX,hIn,Xt,Vm,SH,II,y0,y1,λx2 F2 PL CA H4 SF Ui Up Wl=>?_⟩;refine⟨_,rfl,_,rfl,_,_,rfl,rfl,_,rfl,?_⟩;refine⟨x2,ta,n,ps,I++[z],O,F2,PL,U,some y,CA,B,_,rfl,Ui,SF,hG,Wl,xT,by lia,SqK.samex (kd:=true) ID WX Up,hUB,λj H5 hj Px Sz=>?_⟩;have NP:=(Xp.mp hj).1
     refine⟨_,_,rfl,rfl,?_⟩;have e:size - 1 - (j:Int)=((A'.length+(B.length - 1 - j):Nat):Int):=by grind
     show Q (.int (size - 1 - (j:Int))) H5;rw[e];refine q _ H5 ?_ ((SA.trans Up).trans Px) Sz;rw[Yq (by lia),Ls (by lia),show B.length - 1 - (A'.length+(B.length - 1 - j) - A'.length)=j by lia];exact hj
    .have hUA:U∈A':=by
      rcases Xy.mp hU with h | h
      .exact h
      .exact absurd ((Cz hG xT U (Im.mp h)).2.1 z (by simp)) hz
     show(_:Prop);refine Rc ?_;refine⟨_,rfl,_,rfl,_,rfl,?_⟩;refine⟨x1,ta,n,ps,I,O++[z],F1,SG,U,some y,Jh,A',_,rfl,Qh.samex Wm (SameX.same s2),Nq,hG,WX,xU,rfl,ID,hUA,λj H3 hj Lx Wd=>?_⟩;refine q j H3 ?_ (SA.trans Lx) Wd;rw[Ys (Xp.mp hj).1];exact hj
 induction d with
 | zero=>exact key 0 0 _ dN (by lia) λe h=>(by cases h)
 | succ d ih=>exact key (d+1) (11+d) _ ih (by lia) λe h=>(by cases h;rfl)
def kO(K:Ad)(CP C Pt:Addr):Sp:=λvs H Q _=>∃(w a:Addr) (n:Int) (ps:Aa) (U:Ac) (R:Ab),vs=[.ref w,.ref a]/\WebAt C H w n ps/\Zt n ps/\Xj H Pt/\SqT K H a (IL U)/\Zf n ps U/\RowW n ps R/\U∈R /\
 ∀(j:Nat) (H':Hp),R[j]?=some U->SameX Pt H H'->Xj H' Pt->Q (.int j) H'
theorem kN:FnScope ["web","tree"] ["web","tree"] (XA sZI):=⟨rfl,rfl,rfl,by decide +kernel,rfl,by decide +kernel,by decide +kernel⟩
theorem kM {Pt:Addr} (T:Txt K mg t) (hB:Ry K mg base t.dZv Pt):FnOk P w K mg base Xl 44 t.aZI t.dZI ["web","tree"] (kO K t.A_Part t.A_Web Pt):=by
 refine T.fZI.ok kN (λvs H Q E h=>?_) (λXz A outer s H vs Q E hr h=>?_)
 .obtain⟨w,a,n,ps,U,R,rfl,_⟩:=h;rfl
 .obtain⟨w,a,n,ps,U,R,rfl,hW,hG,hT,hA,hU,⟨ld,F,inc,fu,Vg,hn,hs,LI,OC⟩,xS,q⟩:=h;refine⟨_,(XN (ZZ (XF (BP T) (hr.mono (by decide)) rfl T.mZo T.fZo.kp T.bZo .nil Zs (XZ (pv 0) (XZ (pv 1) XY))))
   (XG (Zh (XF (kP T hB 31) (hr.mono (by decide)) rfl T.mZH T.fZH.kp T.bZH .nil Zs (XZ (XF (Bv T hB) (hr.mono (by decide)) rfl T.mZw T.fZw.kp T.bZw .nil Zs (XZ (pv 0) XY)) (XZ (XF (PD T) (hr.mono (by decide)) rfl T.mZl T.fZl.kp T.bZl .nil Zs (XZ (pv 0) XY)) (XZ (Zr (ZI K) (by rfl) T.n_tuple Boot.«tuple» (XZ (pv 1) XY)) XY))))))),?_⟩
  refine⟨_,rfl,_,rfl,w,a,n,ps,true,U,rfl,hW,hG,hA,λ_ H1 s1=>?_,λh=>absurd hU h⟩;have Wm:=hT.same s1
  refine⟨_,rfl,w,n,ps,rfl,hW.same s1,hG,Wm,⟨U,hU⟩,λx F' Wx LJ LL H2 We Ub OR SD SA WX=>?_⟩;have eF:F'=F:=Tb (Vg.least F' We.tr) (We.least F Vg.tr)
  subst eF;have el:=dG Ub OR hn hs
  subst el;have Bh:SameX Pt H H2:=(SameX.same s1).trans SA
  refine⟨_,rfl,w,n,ps,rfl,hW.samex hT Bh,hG,λc H3 hc s3=>?_⟩;have ec:=hc.uniq OC
  have US:=Bh.trans (SameX.same s3);have Wd:=WX.same s3
  have ND:SqT K H3 a (IL U):=SqK.samex (kd:=true) hA hT US;refine⟨_,rfl,a,_,rfl,.inr ⟨ND,?_⟩⟩;exact⟨x,a,n,ps,[],[],F',Wx,U,LJ,LL,R,_,rfl,SD.samex WX (SameX.same s3),We,hG,Wd,LI,by rw[ec],ND,xS,λj H4 hj Up Wl=>q j H4 hj (US.trans Up) Wl⟩
def kJ(K:Ad):Sp:=λvs H Q _=>∃(a:Addr) (ns:Ac) (k:Int),vs=[.ref a,.int k]/\SqL K H a (IL ns)/\0<=k/\∀ r:Int,Q (.int r) H
theorem kI:FnScope ["script","k"] ["script","k"] (XA sZJ):=⟨rfl,rfl,rfl,by decide +kernel,rfl,by decide +kernel,by decide +kernel⟩
theorem Uo (T:Txt K mg t):FnOk P w K mg base Xl 1 t.aZJ t.dZJ ["script","k"] (kJ K):=by
 refine T.fZJ.ok kI (λvs H Q E h=>?_) (λXz A outer s H vs Q E hr h=>?_)
 .obtain⟨a,ns,k,rfl,_⟩:=h;rfl
 .obtain⟨a,ns,k,rfl,hS,hk,q⟩:=h;refine⟨_,(XN (Ww (Zg RW (pv 1) (Zd (Zo K) (by rfl) T.n_len Boot.«len» (XZ (pv 0) XY)) (Zv _))
   (XG (Zh (ZQ (Zi K) (pv 0) (pv 1) (λ_ _=>rfl))))
   Zp)
   (XG (Zh Za))),?_⟩
  refine⟨_,rfl,_,rfl,a,_,rfl,.inl hS,_,_,rfl,rfl,_,rfl,?_⟩;refine Fg (λhc=>?_) (λ_=>?_)
  .have hc:=Yu hc;rw[Xr]at hc;obtain⟨z,hz⟩:∃ z,ns[k.toNat]?=some z:=⟨_,Xo (by lia)⟩;exact⟨_,rfl,_,rfl,a,_,k,.int z,rfl,rfl,hS,ZN (n:=k.toNat) (by lia) (by rw[Yp,hz];rfl),q z⟩
  .exact q 0
def kH:Sp:=λvs H Q _=>∃(c k:Int),vs=[.int c,.int k]/\0<=k/\k<1000000000/\∀ r:Int,0<=r->Q (.int r) H
theorem IC:FnScope ["cell","k","big"] ["cell","k"] (XA sZK):=⟨rfl,rfl,rfl,by decide +kernel,rfl,by decide +kernel,by decide +kernel⟩
theorem Sy (T:Txt K mg t):FnOk P w K mg base Xl 1 t.aZK t.dZK ["cell","k"] kH:=by
 refine T.fZK.ok IC (λvs H Q E h=>?_) (λXz A outer s H vs Q E hr h=>?_)
 .obtain⟨c,k,rfl,_⟩:=h;rfl
 .obtain⟨c,k,rfl,k0,k1,q⟩:=h;refine⟨_,(XN (Zk (i:=2) IC.nd rfl (Or.inl rfl) (Zn DZ (Zn WO (Zn ZH (pv 0) (Zn OU Za Za)) Za) (Zn WO Za (Zn DZ (Zn DZ Za (pv 1)) (pv 1)))))
   (XN (Zk (i:=2) IC.nd rfl (Or.inl rfl) (Zn WO (pv 2) (Zn DZ Za (pv 1))))
   (XG (Zh (Zn ZH (Zn DZ (pv 2) (pv 2)) (Zn WO (Zn OU Za Za) Za)))))),?_⟩
  have a0:0<=c % 10 ^ (60:Int).toNat:=YR _ (by decide);have a1:c % 10 ^ (60:Int).toNat<10 ^ 60:=YO _ (by decide)
  have b:=gy (M:=10 ^ 20) (N:=10 ^ 20) (a:=2 * k) (b:=k) (by lia) (by lia) k0 (by lia);have d:=gy (M:=10 ^ 70) (N:=10 ^ 70) (a:=c % 10 ^ (60:Int).toNat+3) (b:=16180339887498948482045868343656381177203+2 * k * k) (by lia) (by lia) (by grind) (by omega)
  refine⟨_,rfl,_,_,rfl,rfl,⟨by decide,by decide,by decide⟩,_,_,rfl,rfl,(by show(0:Int)<10 ^ 60;decide),_,_,rfl,rfl,_,rfl,_,_,rfl,rfl,⟨⟨by decide,by decide⟩,by lia,by lia⟩,_,rfl,_,_,rfl,rfl,⟨⟨by lia,by lia⟩,by omega,by omega⟩,_,_,rfl,rfl,_,_,rfl,rfl,⟨⟨by lia,by lia⟩,by omega,by omega⟩,?_⟩;refine⟨_,rfl,_,rfl,_,_,rfl,rfl,⟨⟨by decide,by decide⟩,by omega,by omega⟩,_,_,rfl,rfl,?_⟩;refine⟨_,rfl,_,rfl,_,_,rfl,rfl,⟨⟨by omega,by omega⟩,by omega,by omega⟩,_,_,rfl,rfl,⟨by decide,by decide,by decide⟩,_,_,rfl,rfl,_,_,rfl,rfl,(by show(0:Int)<10 ^ 60+33;decide),?_⟩;exact q _ (YR _ (by decide))
def kG(K:Ad):Sp:=λvs H Q _=>∃(a:Addr) (ns:Ac) (size:Int),vs=[.ref a,.int size]/\SqL K H a (IL ns)/\0<=size/\size<=200 /\
 ∀(l:Addr) (L:Ac) (H':Hp),Same H H'->H' l=some (.lst (IL L))->(L.length:Int)=size->(∀ z∈L,0<=z)->Q (.ref l) H'
theorem Sx:FnScope ["script","size","rest","told","k"] ["script","size"] (XA sZL):=⟨rfl,rfl,rfl,by decide +kernel,rfl,by decide +kernel,by decide +kernel⟩
theorem kF (T:Txt K mg t):FnOk P w K mg base Xl 2 t.aZL t.dZL ["script","size"] (kG K):=by
 refine T.fZL.ok Sx (λvs H Q E h=>?_) (λXz A outer s H vs Q E hr h=>?_)
 .obtain⟨a,ns,size,rfl,_⟩:=h;rfl
 .obtain⟨a,ns,size,rfl,hS,s0,s2,q⟩:=h;refine⟨_,(XN (Zk (i:=2) Sx.nd rfl (Or.inl rfl) (Zn ZH (XF (Uo T) (hr.mono (by decide)) rfl T.mZJ T.fZJ.kp T.bZJ .nil Zs (XZ (pv 0) (XZ Za XY))) (Zn OU Za Za)))
   (XN (Zk (i:=3) Sx.nd rfl (Or.inl rfl) (Uk XY))
   (XN (Sq Ws rfl (HY rfl T.n_range (XZ (pv 1) XY)) (Ze (i:=4) Sx.nd rfl (Or.inl rfl))
   (XN (Ww (Zg RX (pv 4) Za (Zv _))
   (XG (Zk (i:=2) Sx.nd rfl (Or.inl rfl) (Zn ZH (XF (Uo T) (hr.mono (by decide)) rfl T.mZJ T.fZJ.kp T.bZJ .nil Zs (XZ (pv 0) (XZ Za XY))) (Zn OU Za Za))))
   Zp)
   (XN (Ww (Zg RX (pv 2) Za (Zv _))
   (XG (Zk (i:=2) Sx.nd rfl (Or.inl rfl) (XF (Sy T) (hr.mono (by decide)) rfl T.mZK T.fZK.kp T.bZK .nil Zs (XZ (XF (Uo T) (hr.mono (by decide)) rfl T.mZJ T.fZJ.kp T.bZJ .nil Zs (XZ (pv 0) (XZ Za XY))) (XZ Za XY)))))
   Zp)
   (XN (ZZ (VE K YX Hi Hj Fp (pv 3) (XZ (Zn ZH (pv 2) Za) XY)))
   (XG (Zk (i:=2) Sx.nd rfl (Or.inl rfl) (Zn OV (pv 2) Za)))))))
   (XG (Zh (pv 3)))))),?_⟩
  refine⟨_,rfl,a,ns,2,rfl,hS,by decide,λc1=>⟨_,_,rfl,rfl,⟨by decide,by decide,by decide⟩,_,_,rfl,rfl,(by show(0:Int)<10 ^ 60;decide),?_⟩⟩;refine nm ?_;dsimp only;refine⟨Yo _,λtd MR=>?_⟩;have u0:=XH (o:=.lst []) MR
  have k0:=XR (H:=H) (a:=td) (o:=.lst []);generalize upd H td (.lst [])=H0 at *;refine nm ?_;dsimp only;refine⟨_,rfl,_,rfl,by lia,by omega,FW (lo:=0) (n:=size.toNat) (λi σ H2=>∃(L:Ac) (rs:Int) (v4:Option V),σ=[some (.ref a),some (.int size),some (.int rs),some (.ref td),v4]/\Same H H2/\H2 td=some (.lst (IL L))/\L.length=i/\∀ z∈L,0<=z) ⟨[],_,_,rfl,u0,k0,rfl,λz h=>(by cases h)⟩ ?_ ?_⟩
  .rintro i σ H2 hi ⟨L,rs,v4,rfl,s2,h2,hl,hp⟩;refine nm ?_;dsimp only;refine Np (λσ H3=>∃ IB:Int,H3=H2/\σ=[some (.ref a),some (.int size),some (.int IB),some (.ref td),some (.int (0+(i:Int)))]) ?_ ?_
   .rintro σ H3 ⟨IB,rfl,rfl⟩;refine Np (λσ H4=>∃ IB:Int,H4=H3/\σ=[some (.ref a),some (.int size),some (.int IB),some (.ref td),some (.int (0+(i:Int)))]) ?_ ?_
    .rintro σ H4 ⟨IB,rfl,rfl⟩;refine⟨_,rfl,.inl ⟨rfl,_,SqL.of h2⟩,_,rfl,_,_,rfl,rfl,(by show(0:Int)<12;decide),td,_,_,rfl,rfl,h2,Zm (by rw[Xr];lia),?_⟩;refine⟨_,rfl,_,_,rfl,rfl,⟨by decide,by decide⟩,?_⟩;refine⟨L++[IB % 12],_,_,rfl,ZE MR s2,by rw[XR,ZX],by rw[Xs,Yk,hl],λz hz=>?_⟩;rcases Xy.mp hz with e | e
     .exact hp z e
     .rw[XD.mp e];exact YR _ (by decide)
    .intro Kn hK;refine⟨_,rfl,rfl,_,rfl,?_⟩;rw[ZC];refine WV (λ_=>?_) (λ_=>hK _ _ ⟨IB,rfl,rfl⟩);exact⟨_,rfl,a,ns,2,rfl,s2.seq hS,by decide,λc3=>⟨c3,38,rfl,by decide,by decide,λr3 _=>hK _ _ ⟨r3,rfl,rfl⟩⟩⟩
   .intro Kn hK;refine⟨_,rfl,rfl,_,rfl,?_⟩;rw[ZC];refine WV (λ_=>?_) (λ_=>hK _ _ ⟨rs,rfl,rfl⟩);exact⟨_,rfl,a,ns,3,rfl,s2.seq hS,by decide,λc3=>⟨_,_,rfl,rfl,⟨by decide,by decide,by decide⟩,_,_,rfl,rfl,(by show(0:Int)<10 ^ 60;decide),hK _ _ ⟨_,rfl,rfl⟩⟩⟩
  .rintro σ H2 ⟨L,rs,v4,rfl,s2,h2,hl,hp⟩;exact⟨_,rfl,q td L H2 s2 h2 (by lia) hp⟩
def kE(K:Ad):Sp:=λvs H Q _=>∃(a:Addr) (ns:Ac) (size:Int),vs=[.ref a,.int size]/\SqL K H a (IL ns)/\ns.length<=63/\1<=size/\size<=200 /\
 ∀(l:Addr) (L:Ac) (H':Hp),Same H H'->H' l=some (.lst (IL L))->(L.length:Int)=size->(∀ z∈L,0<=z)->Q (.ref l) H'
theorem Pj:FnScope ["script","size","told","k","cell","at"] ["script","size"] (XA sZM):=⟨rfl,rfl,rfl,by decide +kernel,rfl,by decide +kernel,by decide +kernel⟩
theorem kD (T:Txt K mg t):FnOk P w K mg base Xl 2 t.aZM t.dZM ["script","size"] (kE K):=by
 refine T.fZM.ok Pj (λvs H Q E h=>?_) (λXz A outer s H vs Q E hr h=>?_)
 .obtain⟨a,ns,size,rfl,_⟩:=h;rfl
 .obtain⟨a,ns,size,rfl,hS,hn,s0,s2,q⟩:=h;refine⟨_,(XN (NX (i:=2) rfl Pj.nd rfl rfl (sc0:=XA sZM) (N0:=["script","size","told","k","cell","at"]) (N':=["k","script"]) (o:=1) (fr:=[0]) ⟨rfl,by decide +kernel,by decide +kernel,by decide +kernel,rfl,by decide +kernel⟩ (HY rfl T.n_range (XZ (pv 1) XY)) (Zz (by decide)) (λ_ _ _ _=>(Ze (i:=0) (show List.Nodup (["k","script"]:List Str) by decide +kernel) rfl (Or.inl rfl))) (λ_ _ _ _=>Ri) (λ_ _ _ _=>(XF (Sy T) (hr.mono (by decide)) rfl T.mZK T.fZK.kp T.bZK .nil Zs (XZ (Zn WO (pv 0) (Zn FU Za (Zd (Zo K) (by rfl) T.n_len Boot.«len» (XZ (pv 1) XY)))) (XZ Za XY)))))
   (XN (Sq Ws rfl (Mj K rfl T.n_enumerate (XZ (Mp (Ml K) (pv 0) (Od Za) Kr) XY)) (Qm (n:=2) K rfl (Zu (Ze (i:=3) Pj.nd rfl (Or.inl rfl)) (Zu (Ze (i:=4) Pj.nd rfl (Or.inl rfl)) QG)))
   (XN (Zk (i:=5) Pj.nd rfl (Or.inl rfl) (Zn ZH (pv 3) (pv 1)))
   (XG (Gg (XF (Sy T) (hr.mono (by decide)) rfl T.mZK T.fZK.kp T.bZK .nil Zs (XZ (Zn WO (ZQ (Zi K) (pv 2) (pv 5) (λ_ _=>rfl)) (Zn ZH (pv 4) (Zn OU Za Za))) (XZ (Zn ZH (pv 3) Za) XY))) (wq (pv 2) (pv 5) Fy)))))
   (XG (Zh (Sn rfl (sc0:=XA sZM) (N0:=["script","size","told","k","cell","at"]) (N':=["m"]) (o:=1) (fr:=[]) ⟨rfl,by decide +kernel,by decide +kernel,by decide +kernel,rfl,by decide +kernel⟩ (Va K (pv 2)) (Zz (by decide)) (λ_ _ _ _=>(Ze (i:=0) (show List.Nodup (["m"]:List Str) by decide +kernel) rfl (Or.inl rfl))) (λ_ _ _ _=>Ri) (λ_ _ _ _=>(Zn ZH (Zn OV (pv 0) Za) Za))))))),?_⟩
  refine⟨_,rfl,_,rfl,by lia,by lia,NU (lo:=0) (n:=size.toNat) (λi ys H3=>H3=H/\∃ L:Ac,ys=IL L/\L.length=i) ⟨rfl,[],rfl,rfl⟩ (Zm (by lia)) (λi ys H3 _ ⟨_,L,e,l⟩=>by rw[e,Xr,l];exact XO _) ?_ ?_⟩
  .rintro i ys H3 hi ⟨rfl,L,rfl,hl⟩ S Xe;refine⟨_,rfl,_,rfl,a,_,rfl,.inl hS,_,_,rfl,rfl,.inl ⟨by decide,by decide⟩,_,_,rfl,rfl,_,40,rfl,by decide,by decide,λm m0=>?_⟩;exact Xe _ _ ⟨rfl,L++[m],by rw[ZX],by rw[Xs,Yk,hl]⟩
  .rintro ys H3 ⟨rfl,L,rfl,hl⟩ td MR;have u0:=XH (o:=.lst (IL L)) MR
   have k0:=XR (H:=H3) (a:=td) (o:=.lst (IL L));generalize hH0:upd H3 td (.lst (IL L))=H0 at *;clear hH0;refine nm ?_;dsimp only;refine⟨_,rfl,_,rfl,a,_,rfl,u0.seq hS,λp1 UK=>?_⟩;rw[zx];have cl:(RL ns (some 3) none).length<=63:=by
    have:=Qz (IL ns) (some 3) none
    rw[zx,Xr,Xr]at this;lia
   generalize RL ns (some 3) none=cs at *;have u1:=XH (o:=.lst (IL cs)) UK
   have Ur:p1≠td:=λe=>by rw[e,k0]at UK;cases UK
   refine⟨p1,rfl,⟨_,SqL.of XR⟩,zN (K:=K) (a:=p1) (xs:=IL cs) (λi σ H2=>∃(L:Ac) (v3 v4 v5:Option V),σ=[some (.ref a),some (.int size),some (.ref td),v3,v4,v5]/\Same H3 H2/\H2 p1=some (.lst (IL cs))/\H2 td=some (.lst (IL L))/\(L.length:Int)=size) ⟨L,none,none,none,rfl,u0.trans u1,XR,u1 _ _ k0,by grind⟩ (λi σ H2 _ ⟨_,_,_,_,_,_,e,_⟩=>SqL.of e) ?_ ?_⟩
   .rintro i v σ H2 pt kC hi ⟨L,v3,v4,v5,rfl,kB,VU,h2,Ss⟩;obtain⟨c,rfl,hc⟩:=WL hi;have hi63:=(Xp.mp hc).1
    have u2:=XH (o:=.tup [.int i,.int c]) kC;refine⟨pt,_,rfl,SqT.of XR,rfl,_,_,rfl,_,_,rfl,rfl,?_⟩;have Nj:=u2 _ _ VU
    have h3:=u2 _ _ h2;have s3:=kB.trans u2
    generalize upd H2 pt (.tup [.int i,.int c])=H4 at *;have at0:0<=(i:Int) % size:=YR _ (by lia)
    have sL:(i:Int) % size<size:=YO _ (by grind);obtain⟨z,hz⟩:∃ z,L[((i:Int) % size).toNat]?=some z:=⟨_,Xo (by lia)⟩;refine⟨_,rfl,_,rfl,_,_,rfl,rfl,(by show(0:Int)<size;omega),?_⟩;refine⟨_,rfl,_,rfl,td,_,(i:Int) % size,.int z,rfl,rfl,SqL.of h3,ZN (n:=((i:Int) % size).toNat) (by lia) (TQ hz),_,rfl,_,_,rfl,rfl,⟨by decide,by decide,by decide⟩,_,_,rfl,rfl,(by show(0:Int)<10 ^ 60;decide),_,_,rfl,rfl,_,rfl,_,_,rfl,rfl,(by show(0:Int)<37;decide),_,_,rfl,YR _ (by decide),Int.lt_trans (YO _ (by decide)) (by decide),λm' m0'=>?_⟩;refine⟨_,rfl,_,rfl,td,_,_,((i:Int) % size).toNat,rfl,rfl,h3,?_,?_⟩
    .unfold Oc;rw[Xr,if_pos (by lia),if_pos (by grind)]
    .refine⟨L.set ((i:Int) % size).toNat m',_,_,_,rfl,ZE MR s3,by rw[Zb Ur];exact Nj,by rw[XR,ue],by rw[SV];exact Ss⟩
   .rintro σ H2 ⟨L,v3,v4,v5,rfl,kB,VU,h2,Ss⟩;refine⟨_,rfl,td,rfl,⟨_,SqL.of h2⟩,NV (K:=K) (a:=td) (xs:=IL L) (λi ys H4=>H4=H2/\∃ M:Ac,ys=IL M/\M.length=i/\∀ z∈M,0<=z) ⟨rfl,[],rfl,rfl,λz h=>(by cases h)⟩ (Zm (by rw[Xr];lia)) (λi ys H4 _ ⟨e,M,ey,l,_⟩=>⟨e ▸ SqL.of h2,by rw[ey,Xr,l];exact XO _⟩) ?_ ?_⟩
    .rintro i v ys H4 hi ⟨rfl,M,rfl,hm,hp⟩ S Xe;obtain⟨c,rfl,hc⟩:=WL hi;refine⟨_,rfl,_,_,rfl,rfl,⟨by decide,by decide⟩,_,_,rfl,rfl,(by show(0:Int)<1000;decide),?_⟩;refine Xe _ _ ⟨rfl,M++[c / 8 % 1000],by rw[ZX],by rw[Xs,Yk,hm],λz hz=>?_⟩;rcases Xy.mp hz with e | e
     .exact hp z e
     .rw[XD.mp e];exact YR _ (by decide)
    .rintro ys H4 ⟨rfl,M,rfl,hm,hp⟩ p LH;exact q p M _ (kB.trans (XH LH)) XR (by rw[Xr]at hm;lia) hp
def ky(K:Ad):Sp:=λvs H Q _=>∃(a:Addr) (ns:Ac),vs=[.ref a]/\SqL K H a (IL ns)/\∀ b:Bool,Q (.bl b) H
theorem kx:FnScope ["script"] ["script"] (XA sZN):=⟨rfl,rfl,rfl,by decide +kernel,rfl,by decide +kernel,by decide +kernel⟩
theorem Bg (T:Txt K mg t):FnOk P w K mg base Xl 2 t.aZN t.dZN ["script"] (ky K):=by
 refine T.fZN.ok kx (λvs H Q E h=>?_) (λXz A outer s H vs Q E hr h=>?_)
 .obtain⟨a,ns,rfl,_⟩:=h;rfl
 .obtain⟨a,ns,rfl,hS,q⟩:=h;refine⟨_,(XG (Zh (Og RX (Zn ZH (Zn OV (Zn ZH (XF (Uo T) (hr.mono (by decide)) rfl T.mZJ T.fZJ.kp T.bZJ .nil Zs (XZ (pv 0) (XZ Za XY))) (Zn OU Za Za)) (Zn OU Za Za)) Za) Za (Zv _)))),?_⟩;refine⟨_,rfl,a,ns,0,rfl,hS,by decide,λc=>⟨_,_,rfl,rfl,⟨by decide,by decide,by decide⟩,_,_,rfl,rfl,(by show(0:Int)<10 ^ 30;decide),_,_,rfl,rfl,⟨by decide,by decide,by decide⟩,_,_,rfl,rfl,⟨by decide,by decide⟩,_,_,rfl,rfl,(by show(0:Int)<8;decide),rfl,q _⟩⟩
def ku(K:Ad):Sp:=λvs H Q _=>∃(a:Addr) (ns:Ac) (most:Int),vs=[.ref a,.int most]/\SqL K H a (IL ns)/\ns.length<=63 /\
 ∀(r:Addr) (cs:Ac) (H':Hp),Same H H'->H' r=some (.lst (IL cs))->cs.length<=64->Q (.ref r) H'
theorem kq:FnScope ["script","most"] ["script","most"] (XA sZO):=⟨rfl,rfl,rfl,by decide +kernel,rfl,by decide +kernel,by decide +kernel⟩
theorem ko (T:Txt K mg t):FnOk P w K mg base Xl 3 t.aZO t.dZO ["script","most"] (ku K):=by
 refine T.fZO.ok kq (λvs H Q E h=>?_) (λXz A outer s H vs Q E hr h=>?_)
 .obtain⟨a,ns,most,rfl,_⟩:=h;rfl
 .obtain⟨a,ns,most,rfl,hS,hn,q⟩:=h;refine⟨_,(XN (Ww (QK (XF (Bg T) (hr.mono (by decide)) rfl T.mZN T.fZN.kp T.bZN .nil Zs (XZ (pv 0) XY)))
   (XG (Zh (Uk (XZ (XF (Uo T) (hr.mono (by decide)) rfl T.mZJ T.fZJ.kp T.bZJ .nil Zs (XZ (pv 0) (XZ Za XY))) XY))))
   Zp)
   (XG (Zh (Zn zV (Uk (XZ Za XY)) (Mp (Ml K) (pv 0) Kr (Od (pv 1))))))),?_⟩
  refine⟨_,rfl,a,ns,rfl,hS,λb=>⟨_,rfl,?_⟩⟩;have one:1<=sizeLine:=by decide
  refine t9 (λ_=>?_) (λ_=>?_)
  .refine⟨_,rfl,a,ns,2,rfl,hS,by decide,λc=>⟨one,λr hr=>?_⟩⟩;exact q r [c] _ (XH hr) XR (by show 1<=64;decide)
  .refine⟨one,λp1 UK=>?_⟩;have u1:=XH (o:=.lst (IL [0])) UK
   refine⟨_,rfl,_,rfl,_,rfl,a,_,rfl,u1.seq hS,λp2 VU=>?_⟩;rw[zx];have cl:(RL ns none (some most)).length<=63:=by
    have:=Qz (IL ns) none (some most)
    rw[zx,Xr,Xr]at this;lia
   generalize RL ns none (some most)=cs at *;have u2:=XH (o:=.lst (IL cs)) VU
   refine⟨p1,p2,_,_,rfl,rfl,u2 _ _ XR,XR,TN (by rw[Xr];show 1+_<=_;lia),λp3 Nj=>?_⟩;have u3:=XH (o:=.lst (IL [0]++IL cs)) Nj
   refine q p3 ([0]++cs) _ (u1.trans (u2.trans u3)) ?_ (by rw[Xs];show 1+_<=_;lia);rw[XR,EX];rfl
def km(K:Ad):Sp:=λvs H Q _=>∃(a:Addr) (ns:Ac),vs=[.ref a]/\SqL K H a (IL ns)/\ns.length<=63 /\
 ∀(r l:Addr) (n:Int) (xs:List V) (ps:Aa) (H':Hp),Same H H'->H' r=some (.tup [.int n,.ref l])->H l=none->H' l=some (.lst xs)->PairsV H' xs ps->Zt n ps->2<=n->LZ n ps->Q (.ref r) H'
def IA(n:Int)(p:Int × Int):Prop:=0<=p.1/\p.1<n/\0<=p.2/\p.2<n
def xR(n:Int)(P:Int × Int->Prop):Prop:=∀ j:Nat,(j:Int)+1<n->∃ p,P p/\p.2=(j:Int)+1/\0<=p.1/\p.1<(j:Int)+1
theorem kj{n:Int}{ps:Aa}(h:xR n λp=>p∈ps):LZ n ps:=by
 have key:∀(m i:Nat),i<=m->i<n.toNat->Conn (Dl ps) i 0:=by
  intro m
  induction m with
  | zero=>intro i hi _;rw[show i=0 by lia];exact .refl _
  | succ m ih =>
   intro i hi hn;by_cases c:i=0
   .rw[c];exact .refl _
   obtain⟨p,hp,e,p0,p1⟩:=h (i - 1) (by grind);have c2:=ih p.1.toNat (by lia) (by grind)
   have ed:Conn (Dl ps) p.1.toNat p.2.toNat:=.edge (YC.mpr ⟨p,hp,rfl⟩);rw[show i=p.2.toNat by grind];exact ed.symm.trans c2
 exact RB.mpr λi j hi hj=>(key i i (XO _) hi).trans (key j j (XO _) hj).symm
theorem ki{rs:Aa}{i:Nat}{g p:Int × Int}(h:rs[i]?=some g)(hp:p∈rs):p∈rs.eraseIdx i\/p=g:=by
 obtain⟨hi,e⟩:=Xp.mp h;rw[List.eraseIdx_eq_take_drop_succ];rw[<- List.take_append_drop i rs,jI hi,e,Xy,Yg]at hp;rw[Xy];rcases hp with q | q | q
 .exact .inl (.inl q)
 .exact .inr q
 .exact .inl (.inr q)
theorem kh{n:Int}{ps:Aa}{g:Int × Int}(h:∀ p∈ps,IA n p)(hg:IA n g):∀ p∈ps++[g],IA n p:=λp hp=>by
 rcases Xy.mp hp with e | e
 .exact h p e
 .rw[XD.mp e];exact hg
theorem VL:FnScope ["script","head","count","more","numbers","ties","k","told","m"] ["script"] (XA sZP):=⟨rfl,rfl,rfl,by decide +kernel,rfl,by decide +kernel,by decide +kernel⟩
theorem kg (T:Txt K mg t):FnOk P w K mg base Xl 4 t.aZP t.dZP ["script"] (km K):=by
 refine T.fZP.ok VL (λvs H Q E h=>?_) (λXz A outer s H vs Q E hr h=>?_)
 .obtain⟨a,ns,rfl,_⟩:=h;rfl
 .obtain⟨a,ns,rfl,hS,MQ,q⟩:=h;refine⟨_,(XN (Zk (i:=1) VL.nd rfl (Or.inl rfl) (Zn ZH (XF (Uo T) (hr.mono (by decide)) rfl T.mZJ T.fZJ.kp T.bZJ .nil Zs (XZ (pv 0) (XZ Za XY))) (Zn OU Za Za)))
   (XN (Zk (i:=2) VL.nd rfl (Or.inl rfl) (Zn WO Za (Zn ZH (pv 1) Za)))
   (XN (Zk (i:=3) VL.nd rfl (Or.inl rfl) (Zn ZH (Zn OV (pv 1) Za) Za))
   (XN (Ww (QK (XF (Bg T) (hr.mono (by decide)) rfl T.mZN T.fZN.kp T.bZN .nil Zs (XZ (pv 0) XY)))
   (XN (Zk (i:=2) VL.nd rfl (Or.inl rfl) (Zn WO Za (Zn ZH (pv 1) Za)))
   (XG (Zk (i:=3) VL.nd rfl (Or.inl rfl) (Zn ZH (Zn OV (pv 1) Za) (Zn TZ Za (pv 2))))))
   Zp)
   (XN (Zk (i:=4) VL.nd rfl (Or.inr rfl) (XF (kD T) (hr.mono (by decide)) rfl T.mZM T.fZM.kp T.bZM .nil Zs (XZ (pv 0) (XZ (Zn FU Za (Zn WO (pv 2) (pv 3))) XY))))
   (XN (Ww (Zg RX (Zn ZH (XF (Uo T) (hr.mono (by decide)) rfl T.mZJ T.fZJ.kp T.bZJ .nil Zs (XZ (pv 0) (XZ Za XY))) Za) Za (Zv _))
   (XG (Zk (i:=4) VL.nd rfl (Or.inr rfl) (XF (kF T) (hr.mono (by decide)) rfl T.mZL T.fZL.kp T.bZL .nil Zs (XZ (pv 0) (XZ (Zn FU Za (Zn WO (pv 2) (pv 3))) XY)))))
   Zp)
   (XN (NX (i:=5) rfl VL.nd rfl rfl (sc0:=XA sZP) (N0:=["script","head","count","more","numbers","ties","k","told","m"]) (N':=["k","numbers"]) (o:=1) (fr:=[4]) ⟨rfl,by decide +kernel,by decide +kernel,by decide +kernel,rfl,by decide +kernel⟩ (HY rfl T.n_range (XZ (Zn TZ (pv 2) Za) XY)) (Zz (by decide)) (λ_ _ _ _=>(Ze (i:=0) (show List.Nodup (["k","numbers"]:List Str) by decide +kernel) rfl (Or.inl rfl))) (λ_ _ _ _=>Ri) (λ_ _ _ _=>(SR (XZ (Zn ZH (ZQ (Zi K) (pv 1) (pv 0) (λ_ _=>rfl)) (Zn WO (pv 0) Za)) (XZ (Zn WO (pv 0) Za) XY)))))
   (XN (Sq Ws rfl (HY rfl T.n_range (XZ (pv 3) XY)) (Ze (i:=6) VL.nd rfl (Or.inl rfl))
   (XG (ZZ (VE K YX Hi Hj Fp (pv 5) (XZ (SR (XZ (Zn ZH (ZQ (Zi K) (pv 4) (Zn WO (pv 2) (Zn FU Za (pv 6))) (λ_ _=>rfl)) (pv 2)) (XZ (Zn ZH (ZQ (Zi K) (pv 4) (Zn WO (Zn WO (pv 2) (Zn FU Za (pv 6))) Za) (λ_ _=>rfl)) (pv 2)) XY))) XY)))))
   (XN (Zk (i:=7) VL.nd rfl (Or.inl rfl) (Uk XY))
   (XN (Zk (i:=8) VL.nd rfl (Or.inl rfl) (XF (Sy T) (hr.mono (by decide)) rfl T.mZK T.fZK.kp T.bZK .nil Zs (XZ (Zn ZH (XF (Uo T) (hr.mono (by decide)) rfl T.mZJ T.fZJ.kp T.bZJ .nil Zs (XZ (pv 0) (XZ Za XY))) (Zn OU Za Za)) (XZ Za XY))))
   (XN (jf Ws (Zg RV (Zd (Zo K) (by rfl) T.n_len Boot.«len» (XZ (pv 5) XY)) Za (Zv _))
   (XN (Zk (i:=8) VL.nd rfl (Or.inl rfl) (XF (Sy T) (hr.mono (by decide)) rfl T.mZK T.fZK.kp T.bZK .nil Zs (XZ (pv 8) (XZ Za XY))))
   (XG (ZZ (VE K YX Hi Hj Fp (pv 7) (XZ (VE K YX ju jv iL (pv 5) (XZ (Zn ZH (Zn OV (pv 8) Za) (Zd (Zo K) (by rfl) T.n_len Boot.«len» (XZ (pv 5) XY))) XY)) XY))))))
   (XG (Zh (SR (XZ (pv 2) (XZ (pv 7) XY)))))))))))))))),?_⟩
  have two:2<=sizeLine:=by decide
  refine⟨_,rfl,a,ns,0,rfl,hS,by decide,λc1=>⟨_,_,rfl,rfl,⟨by decide,by decide,by decide⟩,_,_,rfl,rfl,(by show(0:Int)<10 ^ 30;decide),?_⟩⟩;refine nm ?_;dsimp only;obtain⟨hd,ehd⟩:∃ hd,hd=c1 % 10 ^ (30:Int).toNat:=⟨_,rfl⟩;rw[<- ehd];refine⟨_,rfl,_,_,rfl,rfl,(by show(0:Int)<7;decide),_,_,rfl,rfl,?_⟩;refine⟨_,rfl,_,_,rfl,rfl,⟨by decide,by decide⟩,_,_,rfl,rfl,(by show(0:Int)<12;decide),?_⟩;refine nm ?_;dsimp only [List.set];refine Np (λσ H1=>∃ n mo:Int,H1=H/\2<=n/\n<=12/\0<=mo/\n - 1+mo<=30/\σ=[some (.ref a),some (.int hd),some (.int n),some (.int mo),none,none,none,none,none]) ?_ ?_;rotate_left
  .intro Kn hK;refine⟨_,rfl,a,ns,rfl,hS,λb=>⟨_,rfl,?_⟩⟩;have a0:=YR hd (show(7:Int)≠0 by decide)
   have a1:=YO hd (show(0:Int)<7 by decide);have b0:=YR (hd / 11) (show(12:Int)≠0 by decide)
   have b1:=YO (hd / 11) (show(0:Int)<12 by decide);have d0:=YR hd (show(11:Int)≠0 by decide)
   have d1:=YO hd (show(0:Int)<11 by decide);have e0:=YR (hd / 11) (show 32 - (2+hd % 11)≠0 by lia)
   have e1:=YO (hd / 11) (show 0<32 - (2+hd % 11) by grind);refine t9 (λ_=>?_) (λ_=>hK _ _ ⟨_,_,rfl,by grind,by grind,b0,by lia,rfl⟩);refine⟨_,rfl,_,_,rfl,rfl,(by show(0:Int)<11;decide),_,_,rfl,rfl,?_⟩;refine⟨_,rfl,_,_,rfl,rfl,⟨by decide,by decide⟩,_,rfl,_,_,rfl,rfl,_,_,rfl,rfl,(by show(0:Int)<32 - (2+hd % 11);omega),?_⟩;exact hK _ _ ⟨_,_,rfl,by grind,by grind,e0,by grind,rfl⟩
  rintro σ H1 ⟨n,mo,rfl,n2,n12,m0,nm30,rfl⟩;refine⟨_,rfl,_,rfl,_,rfl,_,_,rfl,rfl,_,_,rfl,rfl,.inl ⟨by decide,by decide⟩,a,ns,_,rfl,hS,MQ,by lia,by lia,λnl L H2 s2 LC Hq Cs=>?_⟩;refine nm ?_;dsimp only [List.set];refine Np (λσ H3=>∃(nl:Addr) (L:Ac),Same H1 H3/\H3 nl=some (.lst (IL L))/\(L.length:Int)=2 * (n+mo)/\(∀ z∈L,0<=z)/\σ=[some (.ref a),some (.int hd),some (.int n),some (.int mo),some (.ref nl),none,none,none,none]) ?_ ?_;rotate_left
  .intro Kn hK;refine⟨_,rfl,a,ns,1,rfl,s2.seq hS,by decide,λc2=>⟨_,_,rfl,rfl,(by show(0:Int)<2;decide),rfl,_,rfl,?_⟩⟩;rw[ZC];refine WV (λ_=>?_) (λ_=>hK _ _ ⟨nl,L,s2,LC,Hq,Cs,rfl⟩);exact⟨_,rfl,_,rfl,_,rfl,_,_,rfl,rfl,_,_,rfl,rfl,.inl ⟨by decide,by decide⟩,a,ns,_,rfl,s2.seq hS,by lia,by lia,λdl M H3 s3 yP Sf hM0=>hK _ _ ⟨dl,M,s2.trans s3,yP,Sf,hM0,rfl⟩⟩
  clear LC Hq Cs s2;rintro σ H3 ⟨nl,L,s3,LC,Hq,Cs,rfl⟩;have at_:∀ i:Int,0<=i->i<2 * (n+mo)->∃ z,Wb (IL L) i=some (.int z):=λi i0 i1=>by obtain⟨z,hz⟩:∃ z,L[i.toNat]?=some z:=⟨_,Xo (by lia)⟩;exact⟨z,ZN (n:=i.toNat) (by lia) (TQ hz)⟩
  refine⟨_,rfl,_,_,rfl,rfl,_,rfl,by lia,by lia,NU (lo:=0) (n:=(n - 1).toNat) (λi ys H4=>Same H3 H4/\∃ ps:Aa,PairsV H4 ys ps/\ps.length=i/\(∀ p∈ps,IA n p)/\xR ((i:Int)+1) λp=>p∈ps) ⟨Same.refl _,[],PairsV.nil,rfl,λp h=>(by cases h),λj h=>absurd h (by lia)⟩ (Zm (by lia)) (λi ys H4 _ ⟨_,ps,hP,l,_⟩=>by rw[hP.1,l];exact XO _) ?_ ?_⟩
  .rintro i ys H4 hi ⟨s4,ps,hP,hl,hok,MP⟩ S Xe;obtain⟨z,hz⟩:=at_ (0+(i:Int)) (by lia) (by grind);have z0:=YR z (show 0+(i:Int)+1≠0 by lia)
   have z1:=YO z (show 0<0+(i:Int)+1 by lia);refine⟨_,rfl,_,rfl,nl,_,_,_,rfl,rfl,SqL.of (s4 _ _ LC),hz,_,rfl,_,_,rfl,rfl,_,_,rfl,rfl,(by show 0<0+(i:Int)+1;omega),_,rfl,_,_,rfl,rfl,two,λtp JM=>?_⟩;have u5:=XH (o:=.tup [.int (z % (0+(i:Int)+1)),.int (0+(i:Int)+1)]) JM
   refine Xe _ _ ⟨s4.trans u5,ps++[(z % (0+(i:Int)+1),0+(i:Int)+1)],(hP.same u5).snoc ⟨tp,rfl,XR⟩,by rw[Xs,Yk,hl],kh hok ⟨z0,by show z % (0+(i:Int)+1)<n;grind,by show 0<=0+(i:Int)+1;lia,by show 0+(i:Int)+1<n;grind⟩,λj hj=>?_⟩;by_cases c:j=i
   .exact⟨_,Yc _ (XD.mpr rfl),by show 0+(i:Int)+1=_;lia,z0,by show z % (0+(i:Int)+1)<_;lia⟩
   .obtain⟨p,h1,h2⟩:=MP j (by lia);exact⟨p,Ya _ h1,h2⟩
  rintro xQ H4 ⟨s4,ps0,yr,QZ,kf,Bf⟩ tA PH;have MX:H1 tA=none:=s3.free (s4.free PH)
  have u5:=XH (o:=.lst xQ) PH;have k5:=XR (H:=H4) (a:=tA) (o:=.lst xQ)
  have hP5:=yr.same u5;have s5:=s3.trans (s4.trans u5)
  have ke:=u5 _ _ (s4 _ _ LC);have nt:nl≠tA:=λe=>by rw[e,s4.free PH]at LC;cases LC
  generalize upd H4 tA (.lst xQ)=H5 at *;refine nm ?_;dsimp only [List.set];have elk:((n - 1).toNat:Int)+1=n:=by grind
  rw[elk]at Bf;refine⟨_,rfl,_,rfl,by lia,by lia,FW (lo:=0) (n:=mo.toNat) (λi σ H6=>∃(xs:List V) (ps:Aa) (v6:Option V),σ=[some (.ref a),some (.int hd),some (.int n),some (.int mo),some (.ref nl),some (.ref tA),v6,none,none]/\Same H1 H6/\H6 nl=some (.lst (IL L))/\H6 tA=some (.lst xs)/\PairsV H6 xs ps/\ps.length=(n - 1).toNat+i/\(∀ p∈ps,IA n p)/\xR n λp=>p∈ps) ⟨xQ,ps0,none,rfl,s5,ke,k5,hP5,by lia,kf,Bf⟩ ?_ ?_⟩
  .rintro i σ H6 hi ⟨xs,ps,v6,rfl,s6,MO,k6,hP,hl,hok,MP⟩;refine nm ?_;dsimp only [List.set];obtain⟨x,hx⟩:=at_ (n+2 * (0+(i:Int))) (by lia) (by lia);obtain⟨y,hy⟩:=at_ (n+2 * (0+(i:Int))+1) (by lia) (by lia);have np:(0:Int)<n:=by lia
   have x0:=YR x (show n≠0 by lia);have x1:=YO x np
   have y0:=YR y (show n≠0 by lia);have y1:=YO y np
   refine⟨_,rfl,.inl ⟨rfl,_,SqL.of k6⟩,_,rfl,_,rfl,_,rfl,_,_,rfl,rfl,.inl ⟨by decide,by decide⟩,_,_,rfl,rfl,nl,_,_,_,rfl,rfl,SqL.of MO,hx,_,rfl,_,_,rfl,rfl,np,_,rfl,_,rfl,_,rfl,_,_,rfl,rfl,.inl ⟨by decide,by decide⟩,_,_,rfl,rfl,_,_,rfl,rfl,nl,_,_,_,rfl,rfl,SqL.of MO,hy,_,rfl,_,_,rfl,rfl,np,two,λtp JM=>?_⟩;have u7:=XH (o:=.tup [.int (x % n),.int (y % n)]) JM
   have k7:=u7 _ _ k6;refine⟨tA,xs,_,rfl,rfl,k7,Zm (by rw[hP.1];lia),?_⟩;refine⟨_,ps++[(x % n,y % n)],_,rfl,ZE MX (s6.trans u7),by rw[Zb nt];exact u7 _ _ MO,XR,((hP.same u7).snoc ⟨tp,rfl,XR⟩).mut k7,by rw[Xs,Yk,hl];lia,kh hok ⟨x0,x1,y0,y1⟩,λj hj=>?_⟩;obtain⟨p,h1,h2⟩:=MP j hj;exact⟨p,Ya _ h1,h2⟩
  rintro σ H6 ⟨xs,ps,v6,rfl,s6,MO,k6,hP,hl,hok,MP⟩;refine⟨Yo _,λtd MR=>?_⟩;have u7:=XH (o:=.lst []) MR
  have k7:=XR (H:=H6) (a:=td) (o:=.lst []);have b9:=u7 _ _ k6
  have rt:tA≠td:=Zc k6 MR;have b8:=hP.same u7
  have s7:=s6.trans u7;have Be:H1 td=none:=s6.free MR
  generalize upd H6 td (.lst [])=H7 at *;refine nm ?_;dsimp only [List.set];refine⟨_,rfl,a,ns,1,rfl,s7.seq hS,by decide,λc3=>⟨_,_,rfl,rfl,⟨by decide,by decide,by decide⟩,_,_,rfl,rfl,(by show(0:Int)<10 ^ 60;decide),_,44,rfl,by decide,by decide,λm m0'=>?_⟩⟩;refine nm ?_;dsimp only [List.set];refine⟨λk σ H8=>∃(xs ys:List V) (rs ts:Aa) (mm:Int),σ=[some (.ref a),some (.int hd),some (.int n),some (.int mo),some (.ref nl),some (.ref tA),v6,some (.ref td),some (.int mm)]/\Same H1 H8/\H8 tA=some (.lst xs)/\PairsV H8 xs rs/\H8 td=some (.lst ys)/\PairsV H8 ys ts/\rs.length=k/\ts.length+k<=30/\(∀ p∈rs,IA n p)/\(∀ p∈ts,IA n p)/\xR n λp=>p∈rs\/p∈ts,
   ⟨ps.length,xs,[],ps,[],m,rfl,s7,b9,b8,k7,PairsV.nil,rfl,by show 0+_<=30;lia,hok,λp h=>(by cases h),λj hj=>by obtain⟨p,h1,h2⟩:=MP j hj;exact⟨p,.inl h1,h2⟩⟩,?_⟩
  clear hP hl hok MP b8 b9 k6;rintro k σ H8 ⟨xs,ys,rs,ts,mm,rfl,s8,kr,hP,kt,hT,hrk,vK,b7,CK,MP⟩;have xl:=hP.1
  have yl:=hT.1;refine⟨_,rfl,tA,xs,rfl,.inl (SqL.of kr),_,_,rfl,rfl,_,rfl,?_⟩;refine WV (λRM=>?_) (λRM=>?_)
  .refine⟨_,λσ' H' h=>h,?_⟩;refine⟨_,rfl,mm,45,rfl,by decide,by decide,λm2 m20=>?_⟩;refine nm ?_;dsimp only [List.set];have l0:(0:Int)<(xs.length:Int):=by lia
   have a0:=YR (m2 / 8) (show(xs.length:Int)≠0 by lia);have a1:=YO (m2 / 8) l0
   obtain⟨at',bZ⟩:∃ at',m2 / 8 % (xs.length:Int)=at':=⟨_,rfl⟩;rw[bZ]at a0 a1;obtain⟨g,hg⟩:∃ g,rs[at'.toNat]?=some g:=⟨_,Xo (by grind)⟩;obtain⟨y1,hy1,tt,rfl,Tp⟩:=hP.2 _ _ hg;have gi:=b7 g (Xd hg)
   have ttA:tt≠tA:=OY Tp kr (λz=>nomatch z);refine⟨_,rfl,.inl ⟨rfl,_,SqL.of kt⟩,_,rfl,.inl ⟨rfl,_,SqL.of kr⟩,_,rfl,_,_,rfl,rfl,⟨by decide,by decide⟩,_,rfl,tA,xs,rfl,.inl (SqL.of kr),_,_,rfl,rfl,l0,?_⟩;refine⟨tA,xs,at',at'.toNat,.ref tt,rfl,by rw[<- bZ],kr,by lia,by lia,El a0 (by grind),hy1,?_⟩;have mz:PairsV (upd H8 tA (.lst (xs.eraseIdx at'.toNat))) (xs.eraseIdx at'.toNat) (rs.eraseIdx at'.toNat):=(show Bears (PairV _) _ _ from hP.mut (l:=tA) (zs:=xs.eraseIdx at'.toNat) kr).erase at'.toNat
   have mM:=hT.mut (l:=tA) (zs:=xs.eraseIdx at'.toNat) kr;have kr9:=XR (H:=H8) (a:=tA) (o:=.lst (xs.eraseIdx at'.toNat))
   have j9:(upd H8 tA (.lst (xs.eraseIdx at'.toNat))) td=some (.lst ys):=by rw[Zb (YY rt)];exact kt
   have ht9:(upd H8 tA (.lst (xs.eraseIdx at'.toNat))) tt=some (.tup [.int g.1,.int g.2]):=by rw[Zb ttA];exact Tp
   have s9:Same H1 (upd H8 tA (.lst (xs.eraseIdx at'.toNat))):=ZE MX s8;generalize upd H8 tA (.lst (xs.eraseIdx at'.toNat))=H9 at *;have elen:(rs.eraseIdx at'.toNat).length+1=rs.length:=by
    rw[AI,if_pos (Xp.mp hg).1]
    have:=(Xp.mp hg).1
    lia
   refine⟨td,ys,_,rfl,rfl,j9,Zm (by lia),k - 1,by lia,?_⟩;refine⟨xs.eraseIdx at'.toNat,ys++[.ref tt],rs.eraseIdx at'.toNat,ts++[g],m2,rfl,ZE Be s9,by rw[Zb rt];exact kr9,mz.mut (l:=td) (zs:=ys++[.ref tt]) j9,XR,(mM.snoc ⟨tt,rfl,ht9⟩).mut (l:=td) (zs:=ys++[.ref tt]) j9,by lia,by rw[Xs,Yk];lia,λp hp=>b7 p (xK hp),kh CK gi,λj hj=>?_⟩;obtain⟨p,h1,h2⟩:=MP j hj;refine⟨p,?_,h2⟩;rcases h1 with h1 | h1
   .rcases ki hg h1 with e | e
    .exact .inl e
    .exact .inr (Yc _ (XD.mpr e))
   .exact .inr (Ya _ h1)
  .have k00:k=0:=by lia
   subst k00;have r0:rs=[]:=YQ.mp hrk
   subst r0;refine⟨_,rfl,_,rfl,two,λr hr'=>?_⟩;have u9:=XH (o:=.tup [.int n,.ref td]) hr'
   refine q r td n ys ts _ (s8.trans u9) XR Be (u9 _ _ kt) (hT.same u9) ⟨by lia,by lia,by lia,λp hp=>CK p hp⟩ n2 (kj λj hj=>?_);obtain⟨p,h1,h2⟩:=MP j hj;exact⟨p,h1.resolve_left (λe=>by cases e),h2⟩
def j8(K:Ad):Sp:=λvs H Q _=>∃ z:Int,vs=[.int z]/\Q (.bl true) H
theorem j7:FnScope ["found"] ["found"] (XA sZQ):=⟨rfl,rfl,rfl,by decide +kernel,rfl,by decide +kernel,by decide +kernel⟩
theorem j6 (T:Txt K mg t):FnOk P w K mg base Xl 1 t.aZQ t.dZQ ["found"] (j8 K):=by
 refine T.fZQ.ok j7 (λvs H Q E h=>?_) (λXz A outer s H vs Q E hr h=>?_)
 .obtain⟨z,rfl,_⟩:=h;rfl
 .obtain⟨z,rfl,q⟩:=h;refine⟨_,(XG (Zh (Gr (Zd (t6 K (T:="int")) (by rfl) T.n_isinstance Boot.«isinstance» (XZ (pv 0) (XZ (Ah (v:=V.ty "int") rfl T.n_int Boot.«int» rfl) XY))) (wB (Gq (Zd (t6 K (T:="bool")) (by rfl) T.n_isinstance Boot.«isinstance» (XZ (pv 0) (XZ (Ah (v:=V.ty "bool") rfl T.n_bool Boot.«bool» rfl) XY)))))))),?_⟩;refine⟨_,rfl,_,_,_,rfl,TyOf.int _,tV,_,rfl,?_⟩;refine VF ?_;exact⟨_,rfl,_,_,_,rfl,TyOf.int _,Ze4,_,rfl,q⟩
def j5(K:Ad)(CP C Pt:Addr):Sp:=λvs H Q _=>∃(w:Addr) (n:Int) (ps:Aa) (num:Int) (R:Ab),vs=[.ref w,.int num]/\WebAt C H w n ps/\Zt n ps/\Xj H Pt/\-(10 ^ 70)<num/\num<10 ^ 70/\RowW n ps R/\(num<0\/(R.length:Int)<=num)/\∀ H':Hp,SameX Pt H H'->Xj H' Pt->Q (.bl true) H'
theorem MN:FnScope ["web","number","kinds","e"] ["web","number"] (XA sZR):=⟨rfl,rfl,rfl,by decide +kernel,rfl,by decide +kernel,by decide +kernel⟩
theorem Iz {Pt:Addr} (T:Txt K mg t) (hB:Ry K mg base t.dZv Pt):FnOk P w K mg base Xl 46 t.aZR t.dZR ["web","number"] (j5 K t.A_Part t.A_Web Pt):=by
 refine T.fZR.ok MN (λvs H Q E h=>?_) (λXz A outer s H vs Q E hr h=>?_)
 .obtain⟨w,n,ps,num,R,rfl,_⟩:=h;rfl
 .obtain⟨w,n,ps,num,R,rfl,hW,hG,hT,n0,n1,hR,Te,q⟩:=h;refine⟨_,(XN (Zk (i:=2) MN.nd rfl (Or.inl rfl) (Uk XY))
   (XN (tJ (i:=3) rfl rfl rfl MN.nd rfl rfl T.c_WebError rfl (λR _=>(XG (ZZ (ZZ9 (Pk T hB) (hr.mono (by decide)) rfl T.mZF T.fZF.kp T.bZF .nil pxT (XZ (pv 0) (XZ (pv 1) XY)))))) (λe C oe _ Td=>(XG (Zk (i:=2) MN.nd rfl (Or.inl rfl) (Uk (XZ (Zd (zy K (Yc _ (XD.mpr rfl)) Td) (by rfl) T.n_isinstance Boot.«isinstance» (XZ (pv 3) (XZ (Ah (v:=V.ty "ValueError") rfl T.n_ValueError Boot.«ValueError» rfl) XY))) (XZ (Zd (zy K (Yc _ (XD.mpr rfl)) Td) (by rfl) T.n_isinstance Boot.«isinstance» (XZ (pv 3) (XZ (Gx (v:=V.ref t.A_NoSuch) rfl T.c_NoSuch rfl) XY))) (XZ (Zd (zy K (Yc _ (XD.mpr rfl)) Td) (by rfl) T.n_isinstance Boot.«isinstance» (XZ (pv 3) (XZ (Gx (v:=V.ref t.A_NoTree) rfl T.c_NoTree rfl) XY))) (XZ (Zd (zy K (Yc _ (XD.mpr rfl)) Td) (by rfl) T.n_isinstance Boot.«isinstance» (XZ (pv 3) (XZ (Gx (v:=V.ref t.A_Parted) rfl T.c_Parted rfl) XY))) XY)))))))))
   (XG (Zh (Og (t7 K (HV hr)) (pv 2) (Uk (XZ QL (XZ QL (XZ QL (XZ QL XY))))) (Zv _)))))),?_⟩
  refine⟨Yo _,λkl pC=>?_⟩;have s0:=XH (o:=.lst []) pC
  have j4:=hT.same s0;refine⟨_,rfl,_,rfl,w,n,ps,num,R,rfl,hW.same s0,hG,j4,n0,n1,hR,λa b=>absurd Te (by omega),λ_ H1 Pl Wm=>⟨_,rfl,T.em_NoSuch,λe he=>?_⟩⟩;refine⟨_,rfl,_,_,_,rfl,λz h=>h,T.x_NoSuch,T.ki_NoSuch_ValueError,_,rfl,_,_,_,rfl,λz h=>h,T.x_NoSuch,tV,_,rfl,_,_,_,rfl,λz h=>h,T.x_NoSuch,T.ki_NoSuch_NoTree,_,rfl,_,_,_,rfl,λz h=>h,T.x_NoSuch,T.ki_NoSuch_Parted,(by show 4<=sizeLine;decide),λkk yf=>?_⟩;refine⟨_,rfl,(by show 4<=sizeLine;decide),λk2 j3=>⟨1,_,kk,k2,rfl,rfl,by decide,Zw8 (bs:=[true,true,false,false]) (cs:=[true,true,false,false]) (SqL.of (XH j3 _ _ XR)) (SqL.of XR),?_⟩⟩;exact q _ (((SameX.same s0).trans Pl).trans (SameX.same (Zw (XH yf) j3))) (Wm.same (Zw (XH yf) j3))
def j0(K:Ad):Sp:=λvs H Q _=>∃ total m:Int,vs=[.int total,.int m]/\1<=total/\∀(r:Int) (H':Hp),0<=r->r<total->Same H H'->Q (.int r) H'
theorem jZ:FnScope ["total","m"] ["total","m"] (XA sZS):=⟨rfl,rfl,rfl,by decide +kernel,rfl,by decide +kernel,by decide +kernel⟩
theorem jY (T:Txt K mg t):FnOk P w K mg base Xl 1 t.aZS t.dZS ["total","m"] (j0 K):=by
 refine T.fZS.ok jZ (λvs H Q E h=>?_) (λXz A outer s H vs Q E hr h=>?_)
 .obtain⟨total,m,rfl,_⟩:=h;rfl
 .obtain⟨c,m,rfl,c1,q⟩:=h;refine⟨_,(XG (Zh (ZQ (Zi K) (Uk (XZ Za (XZ (Zn TZ (pv 0) Za) (XZ (Zn OV (pv 0) Za) (XZ (Zd (vY rfl) (by rfl) T.n_max Boot.«max» (XZ Za (XZ (Zn TZ (Zn OV (pv 0) Za) Za) XY))) (XZ (Zn ZH (Zn OV (pv 1) Za) (pv 0)) XY)))))) (Zn ZH (ZQ (Zi K) (Uk (XZ (Zn ZH (Zn OV (pv 1) Za) Za) (XZ Za XY))) (Zr bu (by rfl) T.n_int Boot.«int» (XZ (Og RV (Zn ZH (pv 1) Za) Za (Zv _)) XY)) (λ_ _=>rfl)) Za) (λ_ _=>rfl)))),?_⟩;have cp:(0:Int)<c:=by omega
  have two:2<=sizeLine:=by decide
  refine⟨_,rfl,_,_,rfl,rfl,_,rfl,_,_,rfl,rfl,⟨by decide,by decide⟩,_,rfl,_,_,rfl,rfl,⟨by decide,by decide⟩,_,_,rfl,rfl,_,_,rfl,_,rfl,_,_,rfl,rfl,⟨by decide,by decide⟩,_,rfl,_,_,rfl,rfl,cp,(by show 5<=sizeLine;decide),λqA hqA=>?_⟩;have b0:=YR (m / 8) (show c≠0 by omega)
  have b1:=YO (m / 8) cp;have d0:=YR (m / 8) (show(8:Int)≠0 by decide)
  have d1:=YO (m / 8) (show(0:Int)<8 by decide);have h2:c / 2<c/\0<=c / 2:=by omega
  have u1:=XH (o:=.lst (IL [0,c - 1,c / 2,if c / 2 - 1 > 0 then c / 2 - 1 else 0,m / 8 % c])) hqA;have k1:(upd H qA (.lst (IL [0,c - 1,c / 2,if c / 2 - 1 > 0 then c / 2 - 1 else 0,m / 8 % c]))) qA=some (.lst (IL [0,c - 1,c / 2,if c / 2 - 1 > 0 then c / 2 - 1 else 0,m / 8 % c])):=XR
  refine⟨_,rfl,_,_,rfl,rfl,⟨by decide,by decide⟩,_,_,rfl,rfl,(by show(0:Int)<8;decide),two,λpA n4=>?_⟩;have u2:=XH (o:=.lst (IL [m / 8 % 8,4])) n4
  refine⟨_,rfl,_,_,rfl,rfl,(by show(0:Int)<8;decide),_,_,rfl,rfl,.inr ⟨_,rfl,?_⟩⟩;have pick:∀ y:Int,0<=y->y<8->∀ H':Hp,Same H H'->H' qA=some (.lst (IL [0,c - 1,c / 2,if c / 2 - 1 > 0 then c / 2 - 1 else 0,m / 8 % c]))->∃ r:Int,Wb (IL [0,c - 1,c / 2,if c / 2 - 1 > 0 then c / 2 - 1 else 0,m / 8 % c]) (y % 5)=some (.int r)/\0<=r/\r<c:=λy y0 y1 H' _ _=>by
   have e0:=YR y (show(5:Int)≠0 by decide);have e1:=YO y (show(0:Int)<5 by decide)
   rcases(show y % 5=0\/y % 5=1\/y % 5=2\/y % 5=3\/y % 5=4 by omega) with e | e | e | e | e <;> rw[e]
   .exact⟨_,rfl,by omega,by omega⟩
   .exact⟨_,rfl,by omega,by omega⟩
   .exact⟨_,rfl,h2.2,h2.1⟩
   .refine⟨_,rfl,?_,?_⟩ <;> split <;> omega
   .exact⟨_,rfl,b0,b1⟩
  have WS:=u1.trans u2;have k2:=u2 _ _ k1
  have fin:∀ y:Int,0<=y->y<8->∃ r:Int,Wb (IL [0,c - 1,c / 2,if c / 2 - 1 > 0 then c / 2 - 1 else 0,m / 8 % c]) (y % 5)=some (.int r)/\0<=r/\r<c:=λy y0 y1=>pick y y0 y1 _ WS k2;by_cases c3:3<m % 8
  .rw[Yw c3];obtain⟨r,h1,h3,h4⟩:=fin 4 (by decide) (by decide);exact⟨pA,_,1,.int 4,rfl,rfl,SqL.of XR,rfl,_,_,rfl,rfl,(by show(0:Int)<5;decide),qA,_,_,.int r,rfl,rfl,SqL.of k2,h1,q r _ h3 h4 WS⟩
  .rw[Wh c3];obtain⟨r,h1,h3,h4⟩:=fin (m / 8 % 8) d0 d1;exact⟨pA,_,0,.int (m / 8 % 8),rfl,rfl,SqL.of XR,rfl,_,_,rfl,rfl,(by show(0:Int)<5;decide),qA,_,_,.int r,rfl,rfl,SqL.of k2,h1,q r _ h3 h4 WS⟩
def jX(K:Ad)(CP C Pt:Addr):Sp:=λvs H Q _=>∃(w:Addr) (n:Int) (ps:Aa) (num:Int) (R:Ab),vs=[.ref w,.int R.length,.int num]/\WebAt C H w n ps/\Zt n ps/\Xj H Pt/\RowW n ps R/\R.Nodup/\(∀ T,T∈R↔Zf n ps T)/\Adj SE R/\(∀ L F,1<R.length->R[R.length - 1]?=some L->R[0]?=some F->SE L F)/\0<=num/\num<R.length/\∀ H':Hp,SameX Pt H H'->Xj H' Pt->Q (.bl true) H'
theorem MM:FnScope ["web","total","number","tree","found","behind_it"] ["web","total","number"] (XA sZT):=⟨rfl,rfl,rfl,by decide +kernel,rfl,by decide +kernel,by decide +kernel⟩
theorem jW {Pt:Addr} (T:Txt K mg t) (hB:Ry K mg base t.dZv Pt):FnOk P w K mg base Xl 47 t.aZT t.dZT ["web","total","number"] (jX K t.A_Part t.A_Web Pt):=by
 refine T.fZT.ok MM (λvs H Q E h=>?_) (λXz A outer s H vs Q E hr h=>?_)
 .obtain⟨w,n,ps,num,R,rfl,_⟩:=h;rfl
 .obtain⟨w,n,ps,num,R,rfl,hW,hG,hT,hR,hN,jV,jU,Vi,n0,n1,q⟩:=h;refine⟨_,(XN (Zk (i:=3) MM.nd rfl (Or.inl rfl) (XF (Pk T hB) (hr.mono (by decide)) rfl T.mZF T.fZF.kp T.bZF .nil NJ (XZ (pv 0) (XZ (pv 2) XY))))
   (XN (Ww (PW.pt (QJ (OW (QK (Zd (t6 K (T:="tuple")) (by rfl) T.n_isinstance Boot.«isinstance» (XZ (pv 3) (XZ (Ah (v:=V.ty "tuple") rfl T.n_tuple Boot.«tuple» rfl) XY))))) (Gw (Zg pZ (XF (BQ T) (hr.mono (by decide)) rfl T.mZn T.fZn.kp T.bZn .nil Zs (XZ (pv 0) (XZ (pv 3) XY))) QL (Zv _)))))
   (XG (Zh QL))
   Zp)
   (XN (Zk (i:=4) MM.nd rfl (Or.inl rfl) (XF (kM T hB) (hr.mono (by decide)) rfl T.mZI T.fZI.kp T.bZI .nil Zs (XZ (pv 0) (XZ (pv 3) XY))))
   (XN (Ww (PW.pt (QJ (OW (QK (XF (j6 T) (hr.mono (by decide)) rfl T.mZQ T.fZQ.kp T.bZQ .nil Zs (XZ (pv 4) XY)))) (Gw (Zg OT (pv 4) (pv 2) (Zv _)))))
   (XG (Zh QL))
   Zp)
   (XN (Ww (Zg RX (pv 1) Za (Zv _))
   (XG (Zh (Og (t7 K (HV hr)) (XF (Bi T hB) (hr.mono (by decide)) rfl T.mZG T.fZG.kp T.bZG .nil Zs (XZ (pv 0) XY)) (pv 3) (Zv _))))
   Zp)
   (XN (Zk (i:=5) MM.nd rfl (Or.inr rfl) (XF (Pk T hB) (hr.mono (by decide)) rfl T.mZF T.fZF.kp T.bZF .nil NJ (XZ (pv 0) (XZ (Zn ZH (Zn WO (pv 2) Za) (pv 1)) XY))))
   (XG (Zh (Og RX (Zd (Zo K) (by rfl) T.n_len Boot.«len» (XZ (Sn rfl (sc0:=XA sZT) (N0:=["web","total","number","tree","found","behind_it"]) (N':=["tie","behind_it"]) (o:=1) (fr:=[5]) ⟨rfl,by decide +kernel,by decide +kernel,by decide +kernel,rfl,by decide +kernel⟩ (t5 K (pv 3)) (Zz (by decide)) (λ_ _ _ _=>(Ze (i:=0) (show List.Nodup (["tie","behind_it"]:List Str) by decide +kernel) rfl (Or.inl rfl))) (λ_ _ _ _=>(Qw (Zg (HR K) (pv 0) (pv 1) rfl))) (λ_ _ _ _=>(pv 0))) XY)) Za (Zv _)))))))))),?_⟩
  obtain⟨_,_,_,_,_,_,_,_,OC⟩:=id hR;have cf:=Jv hG OC
  obtain⟨j,rfl⟩:=Le n0;have jl:j<R.length:=by omega
  refine⟨_,rfl,_,rfl,w,n,ps,_,R,rfl,hW,hG,hT,by omega,by omega,hR,λ_ _ r U H1 hU Pl Wm Wn=>?_,λh=>absurd h (by omega)⟩;rw[YA]at hU;refine nm ?_;dsimp only [List.set];have xS:=Xd hU
  have jT:=(jV U).mp xS;have bY:=hW.samex hT Pl
  refine⟨_,rfl,_,_,_,rfl,TyOf.tup Wn,tV,_,rfl,?_⟩;refine Vd ?_;refine⟨_,rfl,_,rfl,w,r,n,ps,true,U,rfl,bY,hG,SqT.of Wn,λb H2 s2 hb=>?_⟩;refine⟨_,_,rfl,rfl,_,rfl,?_⟩;rw[hb.mpr jT];refine Vd ?_;show(_:Prop)
  refine Rc ?_;have SA:=Pl.trans (SameX.same s2)
  have WX:=Wm.same s2;have Vh:=s2 _ _ Wn
  have hW2:=bY.same s2;refine⟨_,rfl,_,rfl,w,r,n,ps,U,R,rfl,hW2,hG,WX,SqT.of Vh,jT,hR,xS,λi H3 hi Lx Wd=>?_⟩;obtain rfl:i=j:=(xn (Xp.mp hi).1 hN).mp (hi.trans hU.symm);refine nm ?_;dsimp only [List.set];refine⟨_,rfl,_,rfl,_,rfl,?_⟩;refine Vd ?_;refine⟨_,rfl,_,rfl,rfl,_,rfl,?_⟩;rw[ZC];refine WE (λ_=>?_) (λh=>absurd rfl h);show(_:Prop)
  refine Rc ?_;have US:=SA.trans Lx
  have UT:=Lx _ _ (WX.ne Vh (by simp)) Vh;have bX:=hW.samex hT US
  refine⟨_,rfl,rfl,_,rfl,?_⟩;rw[ZC];refine WV (λh1=>?_) (λh1=>?_)
  .refine⟨_,rfl,w,n,ps,R,rfl,bX,hG,Wd,hR,λr4 U4 H4 bW Up Wl Ru=>?_⟩;rw[show R.length - 1=i by omega,hU]at bW;obtain rfl:=Yi bW;have jS:=Up _ _ (Wd.ne UT (by simp)) UT
   refine⟨_,rfl,1,_,r4,r,rfl,rfl,by decide,tP (SqT.of Ru) (SqT.of jS),?_⟩;show Q (.bl (decide (U=U))) H4
   rw[Yw rfl];exact q H4 (US.trans Up) Wl
  show(_:Prop);refine Rc ?_;have m0:=YR ((i:Int)+1) (show(R.length:Int)≠0 by omega)
  have m1:=YO ((i:Int)+1) (show(0:Int)<(R.length:Int) by omega);refine⟨_,rfl,_,rfl,_,_,rfl,rfl,_,rfl,_,_,rfl,rfl,(by show(0:Int)<(R.length:Int);omega),w,n,ps,((i:Int)+1) % (R.length:Int),R,rfl,bX,hG,Wd,by omega,by omega,hR,λ_ _ b4 V H4 hV Up Wl hb4=>?_,λh=>absurd h (by omega)⟩;have st:SE U V:=by
   by_cases c:i+1<R.length
   .rw[show(((i:Int)+1) % (R.length:Int)).toNat=i+1 by rw[Int.emod_eq_of_lt (by omega) (by omega)];omega]at hV;exact jU i U V hU hV
   .rw[show(((i:Int)+1) % (R.length:Int)).toNat=0 by rw[show(i:Int)+1=(R.length:Int) by omega,Int.emod_self];rfl]at hV;exact Vi U V (by omega) (by rw[show R.length - 1=i by omega];exact hU) hV
  refine nm ?_;dsimp only [List.set];have jR:=US.trans Up
  have Ru:=Up _ _ (Wd.ne UT (by simp)) UT;have lU:U.length<=20:=by have:=jT.2.1;have:=hG.2.1;omega
  refine⟨_,rfl,r,rfl,⟨_,SqT.of Ru⟩,JY (K:=K) (a:=r) (xs:=IL U) (λi ws OD=>OD=H4/\i<=U.length/\ws=IL ((U.take i).filter λy=>decide (y∉V))) ⟨rfl,Yo _,rfl⟩ (Zm (by rw[Xr];omega)) (λi ws OD hi h=>by obtain⟨e,VA,ew⟩:=h;exact⟨e ▸ SqT.of Ru,by rw[ew,Xr];exact Yr (YH ..) (by rw[YB];omega)⟩) ?_ ?_⟩
  .rintro i y ws OD hi ⟨rfl,Vn,rfl⟩ S Xe;obtain⟨y,rfl,hy⟩:=WL hi;have Xk:i<U.length:=(Xp.mp hy).1
   refine⟨_,rfl,_,rfl,b4,_,rfl,.inr (SqT.of hb4),rfl,ZT _,_,rfl,?_⟩;rw[NQ];refine WE (λhc=>?_) (λhc=>?_)
   .refine Xe _ _ ⟨rfl,Xk,?_⟩;rw[ZU hy,if_neg (by simpa using hc),YF]
   .refine⟨_,rfl,Xe _ _ ⟨rfl,Xk,?_⟩⟩;rw[ZU hy,if_pos (Yw hc),ZX]
  rintro ws OD ⟨rfl,_,rfl⟩ dA l7;rw[Xr,YK];have e1:(U.filter λy=>decide (y∉V)).length=1:=st
  refine⟨dA,_,rfl,.inl (SqL.of XR),rfl,?_⟩;rw[Xr,e1];have s5:=XH (o:=.lst (IL (U.filter λy=>decide (y∉V)))) l7
  exact q _ (jR.trans (SameX.same s5)) (Wl.same s5)
def Bc(K:Ad)(Pt:Addr):Sp:=λvs H Q _=>∃(a:Addr) (ns:Ac),vs=[.ref a]/\SqL K H a (IL ns)/\ns.length<=63/\Xj H Pt/\∀ H',Q (.bl true) H'
theorem Tj:FnScope ["script","count","ties","web","total","k","cell","m"] ["script"] (XA sZU):=⟨rfl,rfl,rfl,by decide +kernel,rfl,by decide +kernel,by decide +kernel⟩
theorem jQ {Pt:Addr} (T:Txt K mg t) (hB:Ry K mg base t.dZv Pt):FnOk P w K mg base Xl 48 t.aZU t.dZU ["script"] (Bc K Pt):=by
 refine T.fZU.ok Tj (λvs H Q E h=>?_) (λXz A outer s H vs Q E hr h=>?_)
 .obtain⟨a,ns,rfl,_⟩:=h;rfl
 .obtain⟨a,ns,rfl,hS,MQ,hT,k⟩:=h;refine⟨_,(XN (Gg (XF (kg T) (hr.mono (by decide)) rfl T.mZP T.fZP.kp T.bZP .nil Zs (XZ (pv 0) XY)) (Qm (n:=2) K rfl (Zu (Ze (i:=1) Tj.nd rfl (Or.inl rfl)) (Zu (Ze (i:=2) Tj.nd rfl (Or.inl rfl)) QG))))
   (XN (Zk (i:=3) Tj.nd rfl (Or.inl rfl) (FI T.k_Web (Cg T) (hr.mono (by decide)) rfl T.c_Web T.bZ8 .nil Zs (XZ (pv 1) (XZ (pv 2) XY))))
   (XN (Zk (i:=4) Tj.nd rfl (Or.inl rfl) (XF (PD T) (hr.mono (by decide)) rfl T.mZl T.fZl.kp T.bZl .nil Zs (XZ (pv 3) XY)))
   (XN (Ww (Zg (iu K (HV hr)) (XF (Pk T hB) (hr.mono (by decide)) rfl T.mZF T.fZF.kp T.bZF .nil NJ (XZ (pv 3) (XZ (Zn TZ (pv 4) Za) XY))) (XF (Bi T hB) (hr.mono (by decide)) rfl T.mZG T.fZG.kp T.bZG .nil Zs (XZ (pv 3) XY)) (Zv _))
   (XG (Zh QL))
   Zp)
   (XN (Sq Ws rfl (Mj K rfl T.n_enumerate (XZ (XF (ko T) (hr.mono (by decide)) rfl T.mZO T.fZO.kp T.bZO .nil Zs (XZ (pv 0) (XZ Za XY))) XY)) (Qm (n:=2) K rfl (Zu (Ze (i:=5) Tj.nd rfl (Or.inl rfl)) (Zu (Ze (i:=6) Tj.nd rfl (Or.inl rfl)) QG)))
   (XG (Ww (OW (QK (XF (jW T hB) (hr.mono (by decide)) rfl T.mZT T.fZT.kp T.bZT .nil Zs (XZ (pv 3) (XZ (pv 4) (XZ (XF (jY T) (hr.mono (by decide)) rfl T.mZS T.fZS.kp T.bZS .nil Zs (XZ (pv 4) (XZ (XF (Sy T) (hr.mono (by decide)) rfl T.mZK T.fZK.kp T.bZK .nil Zs (XZ (pv 6) (XZ (Zn WO Za (pv 5)) XY))) XY))) XY))))))
   (XG (Zh QL))
   Zp)))
   (XN (Zk (i:=7) Tj.nd rfl (Or.inl rfl) (XF (Sy T) (hr.mono (by decide)) rfl T.mZK T.fZK.kp T.bZK .nil Zs (XZ (XF (Uo T) (hr.mono (by decide)) rfl T.mZJ T.fZJ.kp T.bZJ .nil Zs (XZ (pv 0) (XZ Za XY))) (XZ Za XY))))
   (XG (Zh (Gr (XF (Iz T hB) (hr.mono (by decide)) rfl T.mZR T.fZR.kp T.bZR .nil Zs (XZ (pv 3) (XZ (pv 4) XY))) (Gr (XF (Iz T hB) (hr.mono (by decide)) rfl T.mZR T.fZR.kp T.bZR .nil Zs (XZ (pv 3) (XZ (Zn TZ (Ky vZ Za) (Zn ZH (pv 7) Za)) XY))) (wB (XF (Iz T hB) (hr.mono (by decide)) rfl T.mZR T.fZR.kp T.bZR .nil Zs (XZ (pv 3) (XZ (Zn WO (pv 4) (Zn ZH (pv 7) (Zn OU Za Za))) XY)))))))))))))),?_⟩
  refine⟨_,rfl,a,ns,rfl,hS,MQ,λr l n xs ps H1 s1 Wn QZ SI hP hG Of hJ=>?_⟩;refine⟨r,_,rfl,SqT.of Wn,rfl,_,_,rfl,_,_,rfl,rfl,?_⟩;refine nm ?_;dsimp only [List.set];refine⟨_,rfl,_,rfl,?_⟩;intro x dx nx PB SN;have t1:Same H1 (upd (upd H1 dx (.own x)) x (.ins t.A_Web dx [])):=Zw (XH PB) (by rw[Zb (YY SN)];exact nx)
  refine⟨x,dx,n,l,false,xs,ps,rfl,XR,λo=>?_,hP.same t1,hG,λH3 hW k3=>⟨rfl,?_⟩⟩
  .exact SqL.of (by rw[Zb (Zc SI nx),Zb (Zc SI nx),Zb (Zc SI PB)];exact SI)
  have t03:Same H1 H3:=λb o e=>k3 b o (t1 b o e) (Zc e nx);have s3:=s1.trans t03
  refine nm ?_;dsimp only [List.set];have hg:=(ZY6 hG).mp hJ
  have hF:=gO hG hg;have VS:∀ U,Zf n ps U->HT.lexLt U (WQ n.toNat ps ps.length)=false:=λU hU=>Zq8 hG hU
  obtain⟨R,hR,kW,n6⟩:=oS hG ⟨_,hF⟩;obtain⟨_,_,_,_,_,_,_,_,OC⟩:=id hR;refine⟨_,rfl,x,n,ps,rfl,hW,hG,λc H4 hc s4=>?_⟩;obtain rfl:=hc.uniq OC;refine nm ?_;dsimp only [List.set];have Hm:=s3.trans s4
  have Wl:=hT.same Hm;have cf:=Jv hG hc
  have c0:0<R.length:=QO ((n6 _).mpr hF);have BG:=hW.same s4
  have Vi:∀ L F,1<R.length->R[R.length - 1]?=some L->R[0]?=some F->SE L F:=λL F h1 h2 h3=>by obtain⟨a1,_,a3⟩:=dF (L:=L) hG hR hF VS;rw[a1]at h3;rw[<- Yi h3];exact a3 h1 h2
  have jU:=(dF (L:=[]) hG hR hF VS).2.1;refine⟨_,rfl,_,rfl,_,_,rfl,rfl,x,n,ps,(R.length:Int) - 1,R,rfl,BG,hG,Wl,by omega,by omega,hR,λ_ _ r5 U5 H5 bV Px Sz Bn=>?_,λh=>absurd h (by omega)⟩;have bU:=BG.samex Wl Px
  refine⟨_,rfl,x,n,ps,R,rfl,bU,hG,Sz,hR,λr6 U6 H6 bT LA jP Na=>?_⟩;rw[show((R.length:Int) - 1).toNat=R.length - 1 by omega,bT]at bV;obtain rfl:=Yi bV;refine⟨1,_,r5,r6,rfl,rfl,by decide,tP (SqT.of (LA _ _ (Sz.ne Bn (by simp)) Bn)) (SqT.of Na),_,rfl,?_⟩;rw[Yw rfl];refine Vd ?_;show(_:Prop)
  refine Rc ?_;have Iy:=Px.trans LA
  have bS:SqL K H6 a (IL ns):=SqK.samex (kd:=false) (Hm.seq hS) Wl Iy;have hW6:=BG.samex Wl Iy
  clear Bn Na bT Px LA Iy bU Sz;refine⟨_,rfl,a,ns,2,rfl,bS,MQ,λcA cs H7 s7 Jb hcl'=>?_⟩;have Ph:=jP.same s7
  have bR:=hW6.same s7;have hS7:=s7.seq bS
  refine⟨cA,rfl,⟨_,SqL.of Jb⟩,zN (K:=K) (a:=cA) (xs:=IL cs) (λi σ H8=>∃(v5 v6:Option V),σ=[some (.ref a),some (.int n),some (.ref l),some (.ref x),some (.int R.length),v5,v6,none]/\SameX Pt H7 H8/\Xj H8 Pt) ⟨none,none,rfl,SameX.same (Same.refl _),Ph⟩ (λi σ H8 _ h=>by obtain⟨_,_,_,e,_⟩:=h;exact SqL.of (e _ _ (Ph.ne Jb (by simp)) Jb)) ?_ ?_⟩
  .rintro i v σ H8 pt Ur hi ⟨v5,v6,rfl,Hk,Tn⟩;obtain⟨c,rfl,WH⟩:=WL hi;have Vn:=(Xp.mp WH).1
   have u9:=XH (o:=.tup [.int i,.int c]) Ur;refine⟨pt,_,rfl,SqT.of XR,rfl,_,_,rfl,_,_,rfl,rfl,?_⟩;have IS:=Hk.trans (SameX.same u9)
   have ML:=Tn.same u9;generalize upd H8 pt (.tup [.int i,.int c])=H9 at *;refine⟨_,rfl,_,rfl,_,rfl,_,rfl,_,rfl,_,_,rfl,rfl,c,_,rfl,by omega,by omega,λm m0=>?_⟩;refine⟨_,m,rfl,by omega,λnum HA a0 a1 sA=>?_⟩;refine⟨x,n,ps,num,R,rfl,(bR.samex Ph IS).same sA,hG,ML.same sA,hR,kW,n6,jU,Vi,a0,a1,λHB bQ Bb=>⟨_,rfl,?_⟩⟩;refine Vd ?_;exact⟨_,_,rfl,(IS.trans (SameX.same sA)).trans bQ,Bb⟩
  .rintro σ H8 ⟨v5,v6,rfl,Hk,Tn⟩;have hS8:SqL K H8 a (IL ns):=SqK.samex (kd:=false) hS7 Ph Hk
   have bP:=bR.samex Ph Hk;refine⟨_,rfl,a,ns,4,rfl,hS8,by decide,λc4=>⟨c4,75,rfl,by decide,by decide,λm m0=>?_⟩⟩;refine nm ?_;dsimp only [List.set];have e0:=YR m (show(9:Int)≠0 by decide)
   have e1:=YO m (show(0:Int)<9 by decide);have f0:0<=m % 10 ^ (59:Int).toNat:=YR _ (by decide)
   have f1:m % 10 ^ (59:Int).toNat<10 ^ 59:=YO _ (by decide);refine⟨_,rfl,_,rfl,x,n,ps,_,R,rfl,bP,hG,Tn,by omega,by omega,hR,.inr (Ou _),λH9 IS ML=>⟨_,rfl,?_⟩⟩;refine VF ?_;have bO:=bP.samex Tn IS
   refine⟨_,rfl,_,rfl,_,rfl,_,_,rfl,rfl,(by show(0:Int)<9;decide),_,_,rfl,rfl,x,n,ps,_,R,rfl,bO,hG,ML,(by show -(10 ^ 70) < -1 - m % 9;omega),(by show -1 - m % 9<10 ^ 70;omega),hR,.inl (by show -1 - m % 9<0;omega),λHA xW jO=>⟨_,rfl,?_⟩⟩;refine VF ?_;exact⟨_,rfl,_,rfl,_,rfl,_,_,rfl,rfl,⟨by decide,by decide,by decide⟩,_,_,rfl,rfl,(by show(0:Int)<10 ^ 59;decide),_,_,rfl,rfl,x,n,ps,_,R,rfl,bO.samex ML xW,hG,jO,(by show -(10 ^ 70)<(R.length:Int)+m % 10 ^ (59:Int).toNat;omega),(by show(R.length:Int)+m % 10 ^ (59:Int).toNat<10 ^ 70;omega),hR,.inr (by show(R.length:Int)<=(R.length:Int)+m % 10 ^ (59:Int).toNat;omega),λHB bQ Bb=>k _⟩
end
end My
namespace My
open PySem L2
theorem Rm {K:Ad} {f:Addr} {fd:FuncData} (F:Fun K "law" "law" sZU f fd) (s:Shared) (u:Value):BindsTo s fd ⟨[u],[]⟩ [("script",u)]:=by obtain⟨oc,od,kV,doc,pm,an,Xz,ct,Uy,rfl,lk,Ul⟩:=F.ex;exact .of_eq rfl
end My
open PySem PySem.W PyProof.Rows
set_option maxRecDepth 100000 in
set_option maxHeartbeats 0 in
theorem PySem.Challenge.cw_spanrow_k39_whole_numbers_there_and_back_holds : PySem.Challenge.rw_spanrow_k39_whole_numbers_there_and_back.Holds := by
 w_on;o_law;k_head;(case hw=>w_witness2)
 k_fill
 refine L2.PN (l:=PySem.Challenge.rw_spanrow_k39_whole_numbers_there_and_back) (n:=63) (k:=48) (x:="script") (CX:=L2.Xl) (sp:=λK=>My.Bc K 334) (c:=336) (Pt:=334) rfl (by decide) rfl ⟨rfl,by decide,by decide⟩ (λw h Y=>⟨PySem.W.km_in_of Y,PySem.W.km_tabs_of Y 334 (XD.mpr rfl)⟩) ?C ?P ?F (λ_ H a ns hl hO hS=>⟨a,ns,rfl,hS,hl,⟨#[],hO.1,trivial,.inl rfl⟩,λ_=>rfl⟩) (λ_ _ _ _ z=>z)
 case C=>intro w;kernel_rfl
 case P=>intro w;kernel_rfl
 case F =>
  intro w mg fa h KX G Fi;obtain⟨aZ0,dZ0,mZ0,fZ0⟩:My.FX (L2.XM KX) mg "refuse_not_square" "refuse_not_square" My.sZ0:=by dsimp only [L2.XM];refine' My.XS KX G ?a ?l ?c ?k;case a | l | c | k=>k_is
  obtain⟨aZ1,dZ1,mZ1,fZ1⟩:My.FX (L2.XM KX) mg "row_taken_off" "row_taken_off" My.sZ1:=by dsimp only [L2.XM];refine' My.XS KX G ?a ?l ?c ?k;case a | l | c | k=>k_is
  obtain⟨aZ2,dZ2,mZ2,fZ2⟩:My.FX (L2.XM KX) mg "first_with_some" "first_with_some" My.sZ2:=by dsimp only [L2.XM];refine' My.XS KX G ?a ?l ?c ?k;case a | l | c | k=>k_is
  obtain⟨aZ3,dZ3,mZ3,fZ3⟩:My.FX (L2.XM KX) mg "determinant" "determinant" My.sZ3:=by dsimp only [L2.XM];refine' My.XS KX G ?a ?l ?c ?k;case a | l | c | k=>k_is
  obtain⟨aZ4,dZ4,mZ4,fZ4⟩:My.FX (L2.XM KX) mg "row_without" "row_without" My.sZ4:=by dsimp only [L2.XM];refine' My.XS KX G ?a ?l ?c ?k;case a | l | c | k=>k_is
  obtain⟨aZ5,dZ5,mZ5,fZ5⟩:My.FX (L2.XM KX) mg "table_without" "table_without" My.sZ5:=by dsimp only [L2.XM];refine' My.XS KX G ?a ?l ?c ?k;case a | l | c | k=>k_is
  obtain⟨aZ6,dZ6,mZ6,fZ6⟩:My.FX (L2.XM KX) mg "is_tie" "is_tie" My.sZ6:=by dsimp only [L2.XM];refine' My.XS KX G ?a ?l ?c ?k;case a | l | c | k=>k_is
  obtain⟨aZ7,dZ7,mZ7,fZ7⟩:My.FX (L2.XM KX) mg "refuse_bad_web" "refuse_bad_web" My.sZ7:=by dsimp only [L2.XM];refine' My.XS KX G ?a ?l ?c ?k;case a | l | c | k=>k_is
  obtain⟨aZ9,dZ9,mZ9,fZ9⟩:My.FX (L2.XM KX) mg "all_ties" "all_ties" My.sZ9:=by dsimp only [L2.XM];refine' My.XS KX G ?a ?l ?c ?k;case a | l | c | k=>k_is
  obtain⟨aZa,dZa,mZa,fZa⟩:My.FX (L2.XM KX) mg "ties_beside" "ties_beside" My.sZa:=by dsimp only [L2.XM];refine' My.XS KX G ?a ?l ?c ?k;case a | l | c | k=>k_is
  obtain⟨aZb,dZb,mZb,fZb⟩:My.FX (L2.XM KX) mg "ties_without" "ties_without" My.sZb:=by dsimp only [L2.XM];refine' My.XS KX G ?a ?l ?c ?k;case a | l | c | k=>k_is
  obtain⟨aZc,dZc,mZc,fZc⟩:My.FX (L2.XM KX) mg "is_set" "is_set" My.sZc:=by dsimp only [L2.XM];refine' My.XS KX G ?a ?l ?c ?k;case a | l | c | k=>k_is
  obtain⟨aZd,dZd,mZd,fZd⟩:My.FX (L2.XM KX) mg "made_set" "made_set" My.sZd:=by dsimp only [L2.XM];refine' My.XS KX G ?a ?l ?c ?k;case a | l | c | k=>k_is
  obtain⟨aZe,dZe,mZe,fZe⟩:My.FX (L2.XM KX) mg "merged_marks" "merged_marks" My.sZe:=by dsimp only [L2.XM];refine' My.XS KX G ?a ?l ?c ?k;case a | l | c | k=>k_is
  obtain⟨aZf,dZf,mZf,fZf⟩:My.FX (L2.XM KX) mg "piece_marks" "piece_marks" My.sZf:=by dsimp only [L2.XM];refine' My.XS KX G ?a ?l ?c ?k;case a | l | c | k=>k_is
  obtain⟨aZg,dZg,mZg,fZg⟩:My.FX (L2.XM KX) mg "pieces_of" "pieces_of" My.sZg:=by dsimp only [L2.XM];refine' My.XS KX G ?a ?l ?c ?k;case a | l | c | k=>k_is
  obtain⟨aZh,dZh,mZh,fZh⟩:My.FX (L2.XM KX) mg "is_joined" "is_joined" My.sZh:=by dsimp only [L2.XM];refine' My.XS KX G ?a ?l ?c ?k;case a | l | c | k=>k_is
  obtain⟨aZi,dZi,mZi,fZi⟩:My.FX (L2.XM KX) mg "refuse_parted" "refuse_parted" My.sZi:=by dsimp only [L2.XM];refine' My.XS KX G ?a ?l ?c ?k;case a | l | c | k=>k_is
  obtain⟨aZj,dZj,mZj,fZj⟩:My.FX (L2.XM KX) mg "weighted_table" "weighted_table" My.sZj:=by dsimp only [L2.XM];refine' My.XS KX G ?a ?l ?c ?k;case a | l | c | k=>k_is
  obtain⟨aZk,dZk,mZk,fZk⟩:My.FX (L2.XM KX) mg "pull_table" "pull_table" My.sZk:=by dsimp only [L2.XM];refine' My.XS KX G ?a ?l ?c ?k;case a | l | c | k=>k_is
  obtain⟨aZl,dZl,mZl,fZl⟩:My.FX (L2.XM KX) mg "tree_count" "tree_count" My.sZl:=by dsimp only [L2.XM];refine' My.XS KX G ?a ?l ?c ?k;case a | l | c | k=>k_is
  obtain⟨aZm,dZm,mZm,fZm⟩:My.FX (L2.XM KX) mg "part_count" "part_count" My.sZm:=by dsimp only [L2.XM];refine' My.XS KX G ?a ?l ?c ?k;case a | l | c | k=>k_is
  obtain⟨aZn,dZn,mZn,fZn⟩:My.FX (L2.XM KX) mg "is_tree" "is_tree" My.sZn:=by dsimp only [L2.XM];refine' My.XS KX G ?a ?l ?c ?k;case a | l | c | k=>k_is
  obtain⟨aZo,dZo,mZo,fZo⟩:My.FX (L2.XM KX) mg "refuse_no_tree" "refuse_no_tree" My.sZo:=by dsimp only [L2.XM];refine' My.XS KX G ?a ?l ?c ?k;case a | l | c | k=>k_is
  obtain⟨aZp,dZp,mZp,fZp⟩:My.FX (L2.XM KX) mg "grown_tree" "grown_tree" My.sZp:=by dsimp only [L2.XM];refine' My.XS KX G ?a ?l ?c ?k;case a | l | c | k=>k_is
  obtain⟨aZq,dZq,mZq,fZq⟩:My.FX (L2.XM KX) mg "tree_cut" "tree_cut" My.sZq:=by dsimp only [L2.XM];refine' My.XS KX G ?a ?l ?c ?k;case a | l | c | k=>k_is
  obtain⟨aZr,dZr,mZr,fZr⟩:My.FX (L2.XM KX) mg "ring_of" "ring_of" My.sZr:=by dsimp only [L2.XM];refine' My.XS KX G ?a ?l ?c ?k;case a | l | c | k=>k_is
  obtain⟨aZs,dZs,mZs,fZs⟩:My.FX (L2.XM KX) mg "least_in" "least_in" My.sZs:=by dsimp only [L2.XM];refine' My.XS KX G ?a ?l ?c ?k;case a | l | c | k=>k_is
  obtain⟨aZt,dZt,mZt,fZt⟩:My.FX (L2.XM KX) mg "end_pieces" "end_pieces" My.sZt:=by dsimp only [L2.XM];refine' My.XS KX G ?a ?l ?c ?k;case a | l | c | k=>k_is
  obtain⟨aZu,dZu,mZu,fZu⟩:My.FX (L2.XM KX) mg "open_ties" "open_ties" My.sZu:=by dsimp only [L2.XM];refine' My.XS KX G ?a ?l ?c ?k;case a | l | c | k=>k_is
  obtain⟨aZw,dZw,mZw,fZw⟩:My.FX (L2.XM KX) mg "whole_part" "whole_part" My.sZw:=by dsimp only [L2.XM];refine' My.XS KX G ?a ?l ?c ?k;case a | l | c | k=>k_is
  obtain⟨aZx,dZx,mZx,fZx⟩:My.FX (L2.XM KX) mg "half_without" "half_without" My.sZx:=by dsimp only [L2.XM];refine' My.XS KX G ?a ?l ?c ?k;case a | l | c | k=>k_is
  obtain⟨aZy,dZy,mZy,fZy⟩:My.FX (L2.XM KX) mg "half_with" "half_with" My.sZy:=by dsimp only [L2.XM];refine' My.XS KX G ?a ?l ?c ?k;case a | l | c | k=>k_is
  obtain⟨aZz,dZz,mZz,fZz⟩:My.FX (L2.XM KX) mg "part_size" "part_size" My.sZz:=by dsimp only [L2.XM];refine' My.XS KX G ?a ?l ?c ?k;case a | l | c | k=>k_is
  obtain⟨aZA,dZA,mZA,fZA⟩:My.FX (L2.XM KX) mg "trees_with_tie" "trees_with_tie" My.sZA:=by dsimp only [L2.XM];refine' My.XS KX G ?a ?l ?c ?k;case a | l | c | k=>k_is
  obtain⟨aZB,dZB,mZB,fZB⟩:My.FX (L2.XM KX) mg "undivided_row" "undivided_row" My.sZB:=by dsimp only [L2.XM];refine' My.XS KX G ?a ?l ?c ?k;case a | l | c | k=>k_is
  obtain⟨aZC,dZC,mZC,fZC⟩:My.FX (L2.XM KX) mg "trees_between" "trees_between" My.sZC:=by dsimp only [L2.XM];refine' My.XS KX G ?a ?l ?c ?k;case a | l | c | k=>k_is
  obtain⟨aZD,dZD,mZD,fZD⟩:My.FX (L2.XM KX) mg "refuse_below_nought" "refuse_below_nought" My.sZD:=by dsimp only [L2.XM];refine' My.XS KX G ?a ?l ?c ?k;case a | l | c | k=>k_is
  obtain⟨aZE,dZE,mZE,fZE⟩:My.FX (L2.XM KX) mg "row_from" "row_from" My.sZE:=by dsimp only [L2.XM];refine' My.XS KX G ?a ?l ?c ?k;case a | l | c | k=>k_is
  obtain⟨aZF,dZF,mZF,fZF⟩:My.FX (L2.XM KX) mg "row_at" "row_at" My.sZF:=by dsimp only [L2.XM];refine' My.XS KX G ?a ?l ?c ?k;case a | l | c | k=>k_is
  obtain⟨aZG,dZG,mZG,fZG⟩:My.FX (L2.XM KX) mg "row_last" "row_last" My.sZG:=by dsimp only [L2.XM];refine' My.XS KX G ?a ?l ?c ?k;case a | l | c | k=>k_is
  obtain⟨aZH,dZH,mZH,fZH⟩:My.FX (L2.XM KX) mg "number_in" "number_in" My.sZH:=by dsimp only [L2.XM];refine' My.XS KX G ?a ?l ?c ?k;case a | l | c | k=>k_is
  obtain⟨aZI,dZI,mZI,fZI⟩:My.FX (L2.XM KX) mg "row_number" "row_number" My.sZI:=by dsimp only [L2.XM];refine' My.XS KX G ?a ?l ?c ?k;case a | l | c | k=>k_is
  obtain⟨aZJ,dZJ,mZJ,fZJ⟩:My.FX (L2.XM KX) mg "_law_at" "_law_at" My.sZJ:=by dsimp only [L2.XM];refine' My.XS KX G ?a ?l ?c ?k;case a | l | c | k=>k_is
  obtain⟨aZK,dZK,mZK,fZK⟩:My.FX (L2.XM KX) mg "_law_mixed" "_law_mixed" My.sZK:=by dsimp only [L2.XM];refine' My.XS KX G ?a ?l ?c ?k;case a | l | c | k=>k_is
  obtain⟨aZL,dZL,mZL,fZL⟩:My.FX (L2.XM KX) mg "_law_digits" "_law_digits" My.sZL:=by dsimp only [L2.XM];refine' My.XS KX G ?a ?l ?c ?k;case a | l | c | k=>k_is
  obtain⟨aZM,dZM,mZM,fZM⟩:My.FX (L2.XM KX) mg "_law_stirred" "_law_stirred" My.sZM:=by dsimp only [L2.XM];refine' My.XS KX G ?a ?l ?c ?k;case a | l | c | k=>k_is
  obtain⟨aZN,dZN,mZN,fZN⟩:My.FX (L2.XM KX) mg "_law_large" "_law_large" My.sZN:=by dsimp only [L2.XM];refine' My.XS KX G ?a ?l ?c ?k;case a | l | c | k=>k_is
  obtain⟨aZO,dZO,mZO,fZO⟩:My.FX (L2.XM KX) mg "_law_cells" "_law_cells" My.sZO:=by dsimp only [L2.XM];refine' My.XS KX G ?a ?l ?c ?k;case a | l | c | k=>k_is
  obtain⟨aZP,dZP,mZP,fZP⟩:My.FX (L2.XM KX) mg "_law_far_web" "_law_far_web" My.sZP:=by dsimp only [L2.XM];refine' My.XS KX G ?a ?l ?c ?k;case a | l | c | k=>k_is
  obtain⟨aZQ,dZQ,mZQ,fZQ⟩:My.FX (L2.XM KX) mg "_law_whole" "_law_whole" My.sZQ:=by dsimp only [L2.XM];refine' My.XS KX G ?a ?l ?c ?k;case a | l | c | k=>k_is
  obtain⟨aZR,dZR,mZR,fZR⟩:My.FX (L2.XM KX) mg "_law_refused" "_law_refused" My.sZR:=by dsimp only [L2.XM];refine' My.XS KX G ?a ?l ?c ?k;case a | l | c | k=>k_is
  obtain⟨aZS,dZS,mZS,fZS⟩:My.FX (L2.XM KX) mg "_law_number" "_law_number" My.sZS:=by dsimp only [L2.XM];refine' My.XS KX G ?a ?l ?c ?k;case a | l | c | k=>k_is
  obtain⟨aZT,dZT,mZT,fZT⟩:My.FX (L2.XM KX) mg "_law_good" "_law_good" My.sZT:=by dsimp only [L2.XM];refine' My.XS KX G ?a ?l ?c ?k;case a | l | c | k=>k_is
  obtain⟨aZU,dZU,oA,fZU⟩:My.FX (L2.XM KX) mg "law" "law" My.sZU:=by dsimp only [L2.XM];refine' My.XS KX G ?a ?l ?c ?k;case a | l | c | k=>k_is
  have Ba:My.iy (L2.XM KX) mg "Web" "Web.__init__" My.sZ8 ["places","ties"]:=by
   dsimp only [L2.XM];refine' My.EU KX G ?aC ?a ?i ?l ?c ?k ?pg ?hd ?po ?sa ?mk ?kc ?na
   (case aC=>k_is);(case a=>k_is);(case i=>k_is);(case l=>k_is);(case c=>k_is);(case k=>k_is)
   (case pg=>k_is);(case hd=>k_is);(case po=>k_is);(case sa=>k_is);(case mk=>k_is);(case kc=>k_is)
   (case na=>(intro f hf;simp only [Yg,xh,or_false]at hf;rcases hf with rfl | rfl <;> k_is))
  have Iw:My.CU (L2.XM KX) mg "Part" "Part.__init__" My.sZv ["web","kept","shut","lead","least","incoming","further"] 334:=by
   dsimp only [L2.XM];refine' My.Jj KX G ?aC ?a ?i ?l ?c ?k ?pg ?hd ?po ?sa ?mk ?kc ?na ?z
   (case aC=>k_is);(case a=>k_is);(case i=>k_is);(case l=>k_is);(case c=>k_is);(case k=>k_is)
   (case pg=>k_is);(case hd=>k_is);(case po=>k_is);(case sa=>k_is);(case mk=>k_is);(case kc=>k_is)
   (case na=>(intro f hf;simp only [Yg,xh,or_false]at hf;rcases hf with rfl | rfl | rfl | rfl | rfl | rfl | rfl <;> k_is))
   (case z=>kernel_rfl)
  have hX:∃ A_WebError A_NoTree A_NoSuch A_Parted:Addr,mg "WebError"=some (.ref A_WebError)/\mg "NoTree"=some (.ref A_NoTree)/\mg "NoSuch"=some (.ref A_NoSuch)/\mg "Parted"=some (.ref A_Parted)/\L2.XCls (L2.XM KX) (A_NoSuch)/\PySem.W.kitOne (L2.XM KX) (.ref (A_NoSuch)) (.type "ValueError")=some true/\PySem.W.kitOne (L2.XM KX) (.ref (A_NoSuch)) (.ref (A_NoTree))=some false/\PySem.W.kitOne (L2.XM KX) (.ref (A_NoSuch)) (.ref (A_Parted))=some false/\PySem.W.exmOne (L2.XM KX) (.ref (A_NoSuch)) (.ref (A_WebError))=some true:=by
   dsimp only [L2.XM];refine' My.xI (My.xI (My.xI (My.xI (⟨Ud KX G ?m_WebError,Ud KX G ?m_NoTree,Ud KX G ?m_NoSuch,Ud KX G ?m_Parted,⟨?x_NoSuch_ex,?x_NoSuch_ga,?x_NoSuch_gh,?x_NoSuch_cl,?x_NoSuch_ob,?x_NoSuch_bx⟩,?ki_NoSuch_ValueError,?ki_NoSuch_NoTree,?ki_NoSuch_Parted,?em_NoSuch⟩))))
   (case m_WebError=>k_is)
   (case m_NoTree=>k_is)
   (case m_NoSuch=>k_is)
   (case m_Parted=>k_is)
   (case x_NoSuch_ex=>k_exc);(case x_NoSuch_ga=>k_is);(case x_NoSuch_gh=>k_is);(case x_NoSuch_cl=>k_is);(case x_NoSuch_ob=>k_is);(case x_NoSuch_bx=>k_is)
   (case ki_NoSuch_ValueError=>kit_is)
   (case ki_NoSuch_NoTree=>kit_is)
   (case ki_NoSuch_Parted=>kit_is)
   (case em_NoSuch=>kts_exm)
  have h_MOST_PLACES:∃ tk,mg "MOST_PLACES"=some (.int 14 tk):=by
   refine' My.TM KX G ?a ?b
   (case a=>k_is);(case b=>exact⟨_,rfl⟩)
  have h_MOST_TIES:∃ tk,mg "MOST_TIES"=some (.int 30 tk):=by
   refine' My.TM KX G ?a ?b
   (case a=>k_is);(case b=>exact⟨_,rfl⟩)
  have h_ValueError:mg "ValueError"=none:=by refine' YV KX G ?a;case a=>k_is
  have Iv:mg "bool"=none:=by refine' YV KX G ?a;case a=>k_is
  have h_enumerate:mg "enumerate"=none:=by refine' YV KX G ?a;case a=>k_is
  have AZ:mg "int"=none:=by refine' YV KX G ?a;case a=>k_is
  have h_isinstance:mg "isinstance"=none:=by refine' YV KX G ?a;case a=>k_is
  have AY:mg "len"=none:=by refine' YV KX G ?a;case a=>k_is
  have Iu:mg "list"=none:=by refine' YV KX G ?a;case a=>k_is
  have AX:mg "max"=none:=by refine' YV KX G ?a;case a=>k_is
  have AW:mg "min"=none:=by refine' YV KX G ?a;case a=>k_is
  have MK:mg "range"=none:=by refine' YV KX G ?a;case a=>k_is
  have h_reversed:mg "reversed"=none:=by refine' YV KX G ?a;case a=>k_is
  have AV:mg "set"=none:=by refine' YV KX G ?a;case a=>k_is
  have Pg:mg "sorted"=none:=by refine' YV KX G ?a;case a=>k_is
  have MJ:mg "tuple"=none:=by refine' YV KX G ?a;case a=>k_is
  have AU:mg "zip"=none:=by refine' YV KX G ?a;case a=>k_is
  obtain⟨A_Web,aZ8,dZ8,c_Web,fZ8,cl_Web,k_Web,Pf⟩:=Ba;obtain⟨A_Part,aZv,dZv,AS,c_Part,fZv,cl_Part,k_Part,WC,AR,AQ⟩:=Iw;obtain⟨A_WebError,A_NoTree,A_NoSuch,A_Parted,c_WebError,c_NoTree,c_NoSuch,c_Parted,x_NoSuch,ki_NoSuch_ValueError,ki_NoSuch_NoTree,ki_NoSuch_Parted,em_NoSuch⟩:=hX;have T:My.Txt (L2.XM KX) mg ⟨aZ0,dZ0,aZ1,dZ1,aZ2,dZ2,aZ3,dZ3,aZ4,dZ4,aZ5,dZ5,aZ6,dZ6,aZ7,dZ7,aZ8,dZ8,aZ9,dZ9,aZa,dZa,aZb,dZb,aZc,dZc,aZd,dZd,aZe,dZe,aZf,dZf,aZg,dZg,aZh,dZh,aZi,dZi,aZj,dZj,aZk,dZk,aZl,dZl,aZm,dZm,aZn,dZn,aZo,dZo,aZp,dZp,aZq,dZq,aZr,dZr,aZs,dZs,aZt,dZt,aZu,dZu,aZv,dZv,aZw,dZw,aZx,dZx,aZy,dZy,aZz,dZz,aZA,dZA,aZB,dZB,aZC,dZC,aZD,dZD,aZE,dZE,aZF,dZF,aZG,dZG,aZH,dZH,aZI,dZI,aZJ,dZJ,aZK,dZK,aZL,dZL,aZM,dZM,aZN,dZN,aZO,dZO,aZP,dZP,aZQ,dZQ,aZR,dZR,aZS,dZS,aZT,dZT,aZU,dZU,A_Web,A_Part,A_WebError,A_NoTree,A_NoSuch,A_Parted⟩:=⟨fZ0,fZ0.binds (λ_ _ _ _ _ _=>My.Ug λ_=>rfl),mZ0,fZ1,fZ1.binds (λ_ _ _ _ _ _=>My.Rx λ_ _ _=>rfl),mZ1,fZ2,fZ2.binds (λ_ _ _ _ _ _=>My.Ug λ_=>rfl),mZ2,fZ3,fZ3.binds (λ_ _ _ _ _ _=>My.Ug λ_=>rfl),mZ3,fZ4,fZ4.binds (λ_ _ _ _ _ _=>My.VJ λ_ _=>rfl),mZ4,fZ5,fZ5.binds (λ_ _ _ _ _ _=>My.VJ λ_ _=>rfl),mZ5,fZ6,fZ6.binds (λ_ _ _ _ _ _=>My.VJ λ_ _=>rfl),mZ6,fZ7,fZ7.binds (λ_ _ _ _ _ _=>My.VJ λ_ _=>rfl),mZ7,fZ8,fZ8.binds (λ_ _ _ _ _ _=>My.Rx λ_ _ _=>rfl),fZ9,fZ9.binds (λ_ _ _ _ _ _=>My.Ug λ_=>rfl),mZ9,fZa,fZa.binds (λ_ _ _ _ _ _=>My.VJ λ_ _=>rfl),mZa,fZb,fZb.binds (λ_ _ _ _ _ _=>My.VJ λ_ _=>rfl),mZb,fZc,fZc.binds (λ_ _ _ _ _ _=>My.VJ λ_ _=>rfl),mZc,fZd,fZd.binds (λ_ _ _ _ _ _=>My.VJ λ_ _=>rfl),mZd,fZe,fZe.binds (λ_ _ _ _ _ _=>My.Rx λ_ _ _=>rfl),mZe,fZf,fZf.binds (λ_ _ _ _ _ _=>My.VJ λ_ _=>rfl),mZf,fZg,fZg.binds (λ_ _ _ _ _ _=>My.VJ λ_ _=>rfl),mZg,fZh,fZh.binds (λ_ _ _ _ _ _=>My.VJ λ_ _=>rfl),mZh,fZi,fZi.binds (λ_ _ _ _ _ _=>My.Ug λ_=>rfl),mZi,fZj,fZj.binds (λ_ _ _ _ _ _=>My.VJ λ_ _=>rfl),mZj,fZk,fZk.binds (λ_ _ _ _ _ _=>My.Ug λ_=>rfl),mZk,fZl,fZl.binds (λ_ _ _ _ _ _=>My.Ug λ_=>rfl),mZl,fZm,fZm.binds (λ_ _ _ _ _ _=>My.Rx λ_ _ _=>rfl),mZm,fZn,fZn.binds (λ_ _ _ _ _ _=>My.VJ λ_ _=>rfl),mZn,fZo,fZo.binds (λ_ _ _ _ _ _=>My.VJ λ_ _=>rfl),mZo,fZp,fZp.binds (λ_ _ _ _ _ _=>My.Rx λ_ _ _=>rfl),mZp,fZq,fZq.binds (λ_ _ _ _ _ _=>My.Rx λ_ _ _=>rfl),mZq,fZr,fZr.binds (λ_ _ _ _ _ _=>My.Rx λ_ _ _=>rfl),mZr,fZs,fZs.binds (λ_ _ _ _ _ _=>My.Rx λ_ _ _=>rfl),mZs,fZt,fZt.binds (λ_ _ _ _ _ _=>My.Rx λ_ _ _=>rfl),mZt,fZu,fZu.binds (λ_ _ _ _ _ _=>My.Rx λ_ _ _=>rfl),mZu,fZv,fZv.binds (λ_ _ _ _ _ _=>My.un5 λ_ _ _ _ _=>rfl),fZw,fZw.binds (λ_ _ _ _ _ _=>My.Ug λ_=>rfl),mZw,fZx,fZx.binds (λ_ _ _ _ _ _=>My.Ug λ_=>rfl),mZx,fZy,fZy.binds (λ_ _ _ _ _ _=>My.Ug λ_=>rfl),mZy,fZz,fZz.binds (λ_ _ _ _ _ _=>My.Ug λ_=>rfl),mZz,fZA,fZA.binds (λ_ _ _ _ _ _=>My.VJ λ_ _=>rfl),mZA,fZB,fZB.binds (λ_ _ _ _ _ _=>My.Ug λ_=>rfl),mZB,fZC,fZC.binds (λ_ _ _ _ _ _=>My.un4 λ_ _ _ _=>rfl),mZC,fZD,fZD.binds (λ_ _ _ _ _ _=>My.Ug λ_=>rfl),mZD,fZE,fZE.binds (λ_ _ _ _ _ _=>My.Rx λ_ _ _=>rfl),mZE,fZF,fZF.binds (λ_ _ _ _ _ _=>My.VJ λ_ _=>rfl),mZF,fZG,fZG.binds (λ_ _ _ _ _ _=>My.Ug λ_=>rfl),mZG,fZH,fZH.binds (λ_ _ _ _ _ _=>My.Rx λ_ _ _=>rfl),mZH,fZI,fZI.binds (λ_ _ _ _ _ _=>My.VJ λ_ _=>rfl),mZI,fZJ,fZJ.binds (λ_ _ _ _ _ _=>My.VJ λ_ _=>rfl),mZJ,fZK,fZK.binds (λ_ _ _ _ _ _=>My.VJ λ_ _=>rfl),mZK,fZL,fZL.binds (λ_ _ _ _ _ _=>My.VJ λ_ _=>rfl),mZL,fZM,fZM.binds (λ_ _ _ _ _ _=>My.VJ λ_ _=>rfl),mZM,fZN,fZN.binds (λ_ _ _ _ _ _=>My.Ug λ_=>rfl),mZN,fZO,fZO.binds (λ_ _ _ _ _ _=>My.VJ λ_ _=>rfl),mZO,fZP,fZP.binds (λ_ _ _ _ _ _=>My.Ug λ_=>rfl),mZP,fZQ,fZQ.binds (λ_ _ _ _ _ _=>My.Ug λ_=>rfl),mZQ,fZR,fZR.binds (λ_ _ _ _ _ _=>My.VJ λ_ _=>rfl),mZR,fZS,fZS.binds (λ_ _ _ _ _ _=>My.VJ λ_ _=>rfl),mZS,fZT,fZT.binds (λ_ _ _ _ _ _=>My.Rx λ_ _ _=>rfl),mZT,fZU,fZU.binds (λ_ _ _ _ _ _=>My.Ug λ_=>rfl),oA,c_Web,cl_Web,k_Web,Pf _ (by simp),Pf _ (by simp),c_Part,cl_Part,k_Part,WC _ (by simp),WC _ (by simp),WC _ (by simp),WC _ (by simp),WC _ (by simp),WC _ (by simp),WC _ (by simp),c_WebError,c_NoTree,c_NoSuch,c_Parted,x_NoSuch,ki_NoSuch_ValueError,ki_NoSuch_NoTree,ki_NoSuch_Parted,em_NoSuch,h_MOST_PLACES,h_MOST_TIES,h_ValueError,Iv,h_enumerate,AZ,h_isinstance,AY,Iu,AX,AW,MK,h_reversed,AV,Pg,MJ,AU⟩
  have e0:=Fi.symm.trans oA;cases e0;exact⟨dZU,λs u=>My.Rm fZU s u,λbase _ _ HB=>My.jQ T ⟨AS,AR,AQ,HB,by decide⟩⟩
#print axioms PySem.Challenge.cw_spanrow_k39_whole_numbers_there_and_back_holds
