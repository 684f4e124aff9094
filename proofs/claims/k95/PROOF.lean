import PyProof.Rows.All
import Wide.All
import OpenK.AllK
import Wide.FinOn
import Lean
import PyProof.EqAt
import PyProof.EqKinds
import PyProof.TupleCall
import PySem.Challenge.RW_spanrow_k95_whole_cheapest_and_papers
set_option Elab.async false
set_option linter.all false
set_option maxRecDepth 100000
namespace PySem.W.Fast
def tw14617429520215681069:=0
def tw14083723722097066025:=0
def tw16731222383890095274:=0
def tw3175914124008189828:=0
def tw405090478541874149:=0
def tw16870746798069066795:=0
def tw1352130742715656928:=0
def tw4317798765661131226:=0
def tw3524571353865525890:=0
def tw2900325409406507106:=0
def tw12128283957727311569:=0
def tw18346550183163377780:=0
def tw4364550449215838603:=0
def tw15267900633922038280:=0
def tw11898604425368897409:=0
def tw4092707757248620243:=0
def tw9674914871761726920:=0
def tw16738766132603432284:=0
def tw5957023740985293368:=0
def tw6598404537130153055:=0
def tw15202649563058464698:=0
def tw9192066450200756399:=0
def tw14949389576135794357:=0
def tw12766934779588661622:=0
def tw13523386835658713088:=0
def tw7496317325934585325:=0
def tw12440673260539713751:=0
def tw11835271758255010015:=0
def tw15741408273354545005:=0
def tw10035156382134604068:=0
def tw12728834602597851951:=0
def tw16035839809052684929:=0
def tw6476149649972406545:=0
def tw6039964380674979489:=0
def tw13533905498545080446:=0
def tw139814585346113979:=0
def tw12789980810401406763:=0
def tw11279423556355357750:=0
def tw16866234595836362269:=0
def tw16264520346381977406:=0
def tw15837155013368395617:=0
def tw8633865652012818651:=0
def tw6589038967647046910:=0
def tw3053822436643299655:=0
def tw6463108226591577492:=0
def tw18054303641230336010:=0
def tw8459117937981325381:=0
def tw14033753243830952229:=0
def tw2169897225383472923:=0
def tw8717686842823034696:=0
def tw17374921584367140314:=0
def tw18164330087250913673:=0
def tw13338342759363920788:=0
def tw3488841075358260573:=0
def tw7495147663095286729:=0
def tw13400437100401552469:=0
def tw10493802398851533164:=0
def tw9626120993820909801:=0
def tw630640155878430688:=0
def tw16383463652367343371:=0
def tw2385002091697233194:=0
def tw17275410807699815149:=0
def tw17246623250535075322:=0
def tw2691030615216724136:=0
def tw15167856377618272756:=0
def tw8859769376831453115:=0
def tw8484348522764704548:=0
def tw497752824009102679:=0
def tw6283524816748066410:=0
def tw2589786735129518165:=0
def tw11748950229010041378:=0
def tw17484386154303319487:=0
def tw17877331109112563581:=0
def tw1059018047690009947:=0
def tw18162087302742253868:=0
def tw14622524834068787596:=0
def tw17381585064695101967:=0
def tw16465268875494096957:=0
def tw14836233815311555766:=0
def tw388503668251424133:=0
def tw9595745970346540060:=0
def tw8356270300680639744:=0
def tw9069549620829492747:=0
def tw2302565973071764668:=0
def tw14643427947322574396:=0
def tw4431130912371868022:=0
def tw14092987445251073402:=0
def tw6496357452911254315:=0
def tw10473772569806628785:=0
def tw10221831296634236346:=0
def tw6502894835179490278:=0
def tw7834210678630610170:=0
def tw6428595814030982932:=0
def tw10995902948808758428:=0
def tw16377289640469805823:=0
def tw8876634887298355534:=0
def tw11808032712615117989:=0
def tw16083399777062240052:=0
def tw7316785131559167687:=0
def tw3105139981466479650:=0
def tw7716137465439139053:=0
def tw159117533257969657:=0
def tw15894981484258404594:=0
def tw10496432103200250566:=0
def tw66060717198890099:=0
def tw12111410606606511034:=0
def tw16676396898728306799:=0
def tw16198249640223331335:=0
def tw9160950098252786845:=0
def tw9158931654090761279:=0
def tw13722741718572994066:=0
def tw9463129596643119013:=0
def tw17022251917079744525:=0
def tw6342290421312993676:=0
def tw9383428637564787399:=0
def tw4900656333265210596:=0
def tw13738735146950424985:=0
def tw15846835832271047158:=0
def tw13247143300717467264:=0
def tw5212731422458320414:=0
def tw11837360429298054613:=0
def tw180819514178886859:=0
def tw640949000761970430:=0
def tw8674018081398937792:=0
def tw7958594933597863190:=0
def tw8704342832932239449:=0
def tw16684632295781121943:=0
def tw13783246992063231524:=0
def tw16869458232764658665:=0
def tw13821423634833847214:=0
def tw8318816019260747916:=0
def tw15647859200234532194:=0
def tw15533534740750901030:=0
def tw11386937147082681724:=0
def tw13284566348006168122:=0
def tw11992687819865822060:=0
def tw11048035266323872085:=0
def tw351152050802815469:=0
def tw6088797609375782161:=0
def tw13537589571807571909:=0
def tw14059838196701828279:=0
def tw10768992936032140054:=0
def tw6316653718174980671:=0
def tw809662918385404377:=0
def tw14180657003777182797:=0
def tw435933913794467988:=0
def tw9173785523774613827:=0
def tw8900399295597187837:=0
def tw8277505311205054397:=0
def tw673112233731284026:=0
def tw4208495687159842585:=0
def tw2372013440328253050:=0
def tw15548649082792916468:=0
def tw10009692410356244605:=0
def tw12357394340753827628:=0
def tw4574802132469702670:=0
def tw5380448328451844986:=0
def tw4515303116507850783:=0
def tw8586699824627837800:=0
def tw6446025167744037368:=0
def tw12427738224557780932:=0
def tw8008203127562854372:=0
def tw6663651182805927568:=0
def tw6130054518233045753:=0
def tw5734627247355148733:=0
def tw5697493293862777732:=0
def tw4192061167108316980:=0
def tw5389462915880955124:=0
def tw10047110715997932330:=0
def tw16669579008756312287:=0
def tw3061783714109038400:=0
def tw5526279975257408660:=0
def tw9911670065328341925:=0
def tw12960057220787767143:=0
def tw9681315133328793763:=0
def tw11469251878551685934:=0
def tw17402954640802401289:=0
def tw614729126640261789:=0
def tw3714130475134729348:=0
def tw10834947888179708386:=0
def tw6577231455210868003:=0
def tw16509085323005048489:=0
def tw13449493141471305266:=0
def tw6662223985975555450:=0
def tw15417397665629234545:=0
def tw17657596388493078914:=0
def tw9725510148213266468:=0
def tw4689357293077981201:=0
def tw17295077856201624500:=0
def tw470961868997554176:=0
def tw199999143511197635:=0
def tw16029065235627587942:=0
def tw14510138526239369984:=0
def tw5228547763577346347:=0
def tw13139042344477458693:=0
def tw2095090155488121078:=0
def tw17674043130434215093:=0
def tw8472302430109475834:=0
def tw7958845814614556507:=0
def tw6856525775234651843:=0
def tw5294116620308694655:=0
def tw16202467835916737152:=0
def tw9819839863538465184:=0
def tw8871081290977961323:=0
def tw7871420444208124563:=0
def tw4781142596868149979:=0
def tw17945620227291257650:=0
def tw13520146336768062699:=0
def tw5341913243293894932:=0
def tw17114959932610375714:=0
def tw5370638657126705119:=0
def tw2525847948606724640:=0
def tw18052000547450895342:=0
def tw6230374342994943930:=0
def tw7864380051810380171:=0
def tw4855055147154116620:=0
def tw9775602741553309436:=0
def tw11913608325470011780:=0
def tw9489272657013148886:=0
def tw12327763296765153494:=0
def tw10022237812477901578:=0
def tw3322312601123329159:=0
def tw11367541712986742854:=0
def tw10226773955877718337:=0
def tw1296988325799160431:=0
def tw12428568035059457087:=0
def tw5108013360454398636:=0
def tw13862827905076061085:=0
def tw65068290339660409:=0
def tw2192349486293766509:=0
def tw543673669404784293:=0
def tw15477362941419265360:=0
def tw9728615593564012653:=0
def tw4693010860955859062:=0
def tw11514983823140592353:=0
def tw9246410884174432026:=0
def tw10156867800599438674:=0
def tw8787862432701982840:=0
def tw8228134320156950617:=0
def tw1499796425798938444:=0
def tw2455524201021600339:=0
def tw15558426607005713299:=0
def tw9021410005471743046:=0
def tw4631780569285192679:=0
def tw8600968000793245232:=0
def tw6685629251568680753:=0
def tw3045503685993358336:=0
def tw14422410182286797929:=0
def tw9835881712629736020:=0
def tw8935574860850918861:=0
def tw5978694085563565199:=0
def tw17372634801986940583:=0
def tw17180309346300832204:=0
def tw13692362871544739985:=0
def tw12707417058778443618:=0
def tw10363915424987471291:=0
def tw12338022498813658265:=0
def tw5096787311187637795:=0
def tw5970247520654477588:=0
def tw3269527240490283245:=0
def tw17247340551241485300:=0
def tw13656049691268902682:=0
def tw2894900257247088677:=0
def tw14847909687170200934:=0
def tw3660555892468988808:=0
def tw9882689910958160425:=0
def tw10779304338615969587:=0
def tw12248412494535491160:=0
def tw16737810934919187587:=0
def tw3445406667016822278:=0
def tw1647199300550892419:=0
def tw15423904265543024915:=0
def tw9529930837411083221:=0
def tw9488105573442577499:=0
def tw9052816456525484782:=0
def tw8328024306080078436:=0
def tw2075934897485287887:=0
def tw14588551868351579189:=0
def tw13356009750016870567:=0
def tw1334128234970844975:=0
def tw10349657587888977959:=0
def tw7595633127681314119:=0
def tw9508420353924627836:=0
def tw8826456919842522570:=0
def tw6314335194936175160:=0
def tw18118714309829825845:=0
def tw16469443525426991273:=0
def tw16097812089963781995:=0
def tw15474041066150286474:=0
def tw11109500260412606900:=0
def tw10580274564545266659:=0
def tw6467135366040683889:=0
def tw4675264698938408188:=0
def tw4565047879941844149:=0
def tw2954068791248846156:=0
def tw17593544156875656657:=0
def tw16702564149685153768:=0
def tw15985293929742704394:=0
def tw14059763006804340306:=0
def tw4001646315444765421:=0
def tw3226219096609874991:=0
def tw2146801064713949981:=0
def tw17539064372598975442:=0
def tw15193286656586570687:=0
def tw14235914209809683308:=0
def tw13030475684048205921:=0
def tw1239818429289672027:=0
def tw11686885077280318943:=0
def tw9766020596636206926:=0
def tw9666816172614071406:=0
def tw9532962917516763266:=0
def tw9524445706795083792:=0
def tw9472358053869930049:=0
def tw9448700751358906010:=0
def tw9409713870590816693:=0
def tw9181790558075477739:=0
def tw9121107784195382708:=0
def tw8947172033289494118:=0
def tw8666889911730723006:=0
def tw8561750443471816450:=0
def tw854271821297378192:=0
def tw8105893636910951660:=0
def tw8049577161638429386:=0
def tw8003480871238755317:=0
def tw7887938587394205033:=0
def tw7535777606174758759:=0
def tw7364667172794974327:=0
def tw7165475326806970858:=0
def tw7142028942363547222:=0
def tw7129255868177945204:=0
def tw7115049616654624256:=0
def tw711032589003489381:=0
def tw7034913063461443603:=0
def tw7003585667924802545:=0
def tw6602182055505551924:=0
def tw6309477061585981173:=0
def tw5934472664275204855:=0
def tw5272145312166515571:=0
def tw5111395670692422944:=0
def tw5106387866663867724:=0
def tw5026791799710449858:=0
def tw499925296096751247:=0
def tw4975603521951447440:=0
def tw4626858491284967254:=0
def tw4045061064525012282:=0
def tw3476446039811222433:=0
def tw3380737952334028653:=0
def tw3149602519180025437:=0
def tw2847674131776340794:=0
def tw2693380108927466996:=0
def tw2673287949353762160:=0
def tw2531170824287296552:=0
def tw18165821528637144739:=0
def tw18135964052918677691:=0
def tw17630797769794626805:=0
def tw1747845767849639577:=0
def tw1746833405703804191:=0
def tw17219615457266160973:=0
def tw17188846186140051041:=0
def tw17083776227385180833:=0
def tw16987834467836653993:=0
def tw16694904716595373449:=0
def tw16549391693607565665:=0
def tw16409704347011352260:=0
def tw16314830163286887052:=0
def tw16267876072994589906:=0
def tw16181864804329332636:=0
def tw16032721084418387173:=0
def tw15818423518173885571:=0
def tw15744846915548404374:=0
def tw15673014595265267900:=0
def tw15566844772279460505:=0
def tw14886638195543793149:=0
def tw14778922630373768953:=0
def tw14658332456107443018:=0
def tw14393988908729539455:=0
def tw14214571632989411287:=0
def tw14187855418520427408:=0
def tw14047834161149556503:=0
def tw13985603383781464319:=0
def tw13445092534332564700:=0
def tw13300387466730837880:=0
def tw12802835067836247802:=0
def tw12755284689181123544:=0
def tw12754770938068356809:=0
def tw1258662561336501736:=0
def tw12519922682815559380:=0
def tw12146422744701313371:=0
def tw11612471328453481113:=0
def tw11192646126312339502:=0
def tw11131722883674247614:=0
def tw11105523718907818469:=0
def tw109617416905595115:=0
def tw10868545265489059547:=0
def tw10796411479538848386:=0
def tw1070513110364018510:=0
def tw10450055105453614912:=0
def tw10305024640256662441:=0
def tw1018033913222533268:=0
def tw1014043036287867680:=0
def tw10106270912555640923:=0
end PySem.W.Fast
def ζζ0:=@List.getElem?_eq_getElem
def ζζ1:=@List.mem_singleton
def ζζ2:=@PySem.wpAny_bind
def ζζ3:=@PySem.Heap.get?_push_of_some
def ζζ4:=@List.getElem?_eq_some_iff
def ζζ5:=@Nat.le_refl
def ζζ6:=@List.length_append
def ζζ7:=@List.size_toArray
def ζζ8:=@Option.some.inj
def ζζ9:=@List.mem_append
def ζζa:=@List.length_map
def ζζb:=@List.mem_cons
def ζζc:=@List.mem_append_right
def ζζd:=@decide_eq_true
def ζζe:=@List.mem_of_getElem?
def ζζf:=@PySem.Heap.get?_push_size
def ζζg:=@List.mem_cons_self
def ζζh:=@List.getElem?_map
def ζζi:=@List.getD_eq_getElem?_getD
def ζζj:=@Nat.zero_le
def ζζk:=@List.mem_cons_of_mem
def ζζl:=@PySem.wpAny_pure
def ζζm:=@List.mem_filter
def ζζn:=@PySem.Heap.lt_size
def ζζo:=@List.mem_append_left
def ζζp:=@Classical.byContradiction
def ζζq:=@List.length_cons
def ζζr:=@Nat.ne_of_lt
def ζζs:=@of_decide_eq_true
def ζζt:=@Nat.lt_of_lt_of_le
def ζζu:=@Bool.false_ne_true
def ζζv:=@List.length_take
def ζζw:=@Array.getD_eq_getD_getElem?
def ζζx:=@List.mem_map
def ζζy:=@List.mem_range
def ζζz:=@List.getElem?_append_right
def ζζA:=@List.map_append
def ζζB:=@Array.getElem?_eq_getElem
def ζζC:=@Int.toNat_natCast
def ζζD:=@Array.length_toList
def ζζE:=@decide_eq_false
def ζζF:=@List.map_cons
def ζζG:=@List.getElem?_eq_none
def ζζH:=@List.take_length
def ζζI:=@List.getElem?_append_left
def ζζJ:=@List.filter_cons
def ζζK:=@List.take_succ
def ζζL:=@PySem.F.plainAttrs_list
def ζζM:=@decide_eq_true_iff
def ζζN:=@Array.getElem?_toList
def ζζO:=@Nat.le_trans
def ζζP:=@PySem.PassesOwn.never
def ζζQ:=@PySem.Heap.get?_update_other
def ζζR:=@List.length_singleton
def ζζS:=@List.length_range
def ζζT:=@Int.emod_nonneg
def ζζU:=@PySem.W.mg_none_of
def ζζV:=@List.filter_append
def ζζW:=@Int.emod_lt_of_pos
def ζζX:=@List.pairwise_append
def ζζY:=@Ne.symm
def ζζZ:=@List.pairwise_singleton
def ζζ00:=@List.length_eq_zero_iff
def ζζ01:=@List.length_replicate
def ζζ02:=@List.append_assoc
def ζζ03:=@List.pairwise_iff_getElem
def ζζ04:=@List.append_nil
def ζζ05:=@PySem.Heap.get?_update_self
def ζζ06:=@List.take_of_length_le
def ζζ07:=@PySem.F.type_list_append
def ζζ08:=@PySem.F.slot_list_append
def ζζ09:=@PySem.codeAny_builtin
def ζζ0a:=@List.getElem?_range
def ζζ0b:=@PySem.Obj.data_mapFields
def ζζ0c:=@List.nodup_append
def ζζ0d:=@List.pairwise_cons
def ζζ0e:=@PyProof.Rows.callWith_type1
def ζζ0f:=@List.sum_cons
def ζζ0g:=@List.map_congr_left
def ζζ0h:=@List.nodup_cons
def ζζ0i:=@List.all_eq_true
def ζζ0j:=@Bool.eq_iff_iff
def ζζ0k:=@PySem.Heap.SameBut.update
def ζζ0l:=@congrArg
def ζζ0m:=@PySem.wpAny_newObj_type
def ζζ0n:=@List.length_filter_le
def ζζ0o:=@Nat.lt_succ_of_lt
def ζζ0p:=@PySem.wpAny_call_entry
def ζζ0q:=@List.filter_cons_of_pos
def ζζ0r:=@List.filter_cons_of_neg
def ζζ0s:=@PySem.F.called_set
def ζζ0t:=@PySem.wpAny_callSpecial?_slot
def ζζ0u:=@Bool.and_eq_true
def ζζ0v:=@PySem.Around.under_plainId
def ζζ0w:=@Nat.le_succ
def ζζ0x:=@PySem.wpAny_holding
def ζζ0y:=@PySem.wpAny_truthy_bool
def ζζ0z:=@Nat.lt_succ_self
def ζζ0A:=@List.length_drop
def ζζ0B:=@PySem.Heap.size_push
def ζζ0C:=@PySem.sizeLine_eq
def ζζ0D:=@List.ext_getElem?
def ζζ0E:=@PySem.mem_of_lookup
def ζζ0F:=@List.replicate_succ
def ζζ0G:=@Nat.not_lt_zero
def ζζ0H:=@Nat.ne_of_gt
def ζζ0I:=@PySem.wpAny_mono
def ζζ0J:=@List.lookup_cons
def ζζ0K:=@List.getElem_mem
def ζζ0L:=@Int.le_refl
def ζζ0M:=@Nat.lt_irrefl
def ζζ0N:=@PySem.wpAny_Call_Name_kw
def ζζ0O:=@List.range_succ
def ζζ0P:=@List.length_set
def ζζ0Q:=@List.length_nil
def ζζ0R:=@List.getElem_of_mem
def ζζ0S:=@List.filter_eq_self
def ζζ0T:=@PySem.F.slot_str_split
def ζζ0U:=@PySem.F.plainAttrs_str
def ζζ0V:=@Option.map_eq_some_iff
def ζζ0W:=@List.any_eq_true
def ζζ0X:=@Array.getElem?_eq_none
def ζζ0Y:=@PySem.wpAny_loadPart'
def ζζ0Z:=@PySem.plainId_quiet
def ζζ10:=@PySem.codeAny_mono
def ζζ11:=@beq_iff_eq
def ζζ12:=@List.filter_nil
def ζζ13:=@PySem.F.plain_min_loop
def ζζ14:=@Array.perm_iff_toList_perm
def ζζ15:=@PySem.wpAny_setField
def ζζ16:=@PySem.SeqAt.EqAt.int_int
def ζζ17:=@List.mem_of_mem_take
def ζζ18:=@List.length_eraseIdx
def ζζ19:=@List.getElem?_of_mem
def ζζ1a:=@PySem.Obj.isFreed_of_fields
def ζζ1b:=@PySem.wpAny_passesOwn
def ζζ1c:=@decide_eq_decide
def ζζ1d:=@beq_eq_false_iff_ne
def ζζ1e:=@List.length_zipWith
def ζζ1f:=@List.Pairwise.imp_of_mem
def ζζ1g:=@PySem.F.slot_tuple_iterator_next
def ζζ1h:=@PySem.wpAny_setState_of
def ζζ1i:=@PySem.wpAny_of_eq
def ζζ1j:=@List.getElem?_replicate
def ζζ1k:=@Nat.succ.inj
def ζζ1l:=@Nat.sub_self
def ζζ1m:=@List.map_singleton
def ζζ1n:=@PySem.wpAny_setEntries_of
def ζζ1o:=@PySem.wpAny_seqItems
def ζζ1p:=@PySem.wpAny_askSetting
def ζζ1q:=@List.pairwise_lt_range
def ζζ1r:=@decide_eq_true_eq
def ζζ1s:=@List.take_sublist
def ζζ1t:=@List.foldl_append
def ζζ1u:=@List.flatten_cons
def ζζ1v:=@PySem.wpAny_pyIter_tuple
def ζζ1w:=@PySem.Code.quiet_builtin
def ζζ1x:=@PySem.wpAny_newList
def ζζ1y:=@Nat.le_of_not_lt
def ζζ1z:=@Nat.le_of_lt
def ζζ1A:=@List.mem_flatMap
def ζζ1B:=@PySem.wpAny_pyIter_list
def ζζ1C:=@PySem.wpAny_pyIter_enum
def ζζ1D:=@PySem.builtinLookup_eq_fast
def ζζ1E:=@List.filterMap_cons
def ζζ1F:=@List.perm_ext_iff_of_nodup
def ζζ1G:=@List.nil_append
def ζζ1H:=@List.length_eraseIdx_of_lt
def ζζ1I:=@PySem.call_meets
def ζζ1J:=@List.drop_eq_getElem_cons
def ζζ1K:=@PyProof.Rows.listUpdate_at
def ζζ1L:=@PySem.F.type_list_extend
def ζζ1M:=@PySem.F.slot_list_extend
def ζζ1N:=@PySem.F.args_tuple_add_2
def ζζ1O:=@PySem.F.args_str_split_2
def ζζ1P:=@Option.isSome_iff_exists
def ζζ1Q:=@PySem.wpAny_attempt
def ζζ1R:=@List.pairwise_map
def ζζ1S:=@List.getElem?_set
def ζζ1T:=@List.filter_congr
def ζζ1U:=@Bool.eq_false_iff
def ζζ1V:=@PySem.F.entry_tuple_add
def ζζ1W:=@PySem.F.entry_str_split
def ζζ1X:=@PySem.SeqAt.EqAt.of_refs
def ζζ1Y:=@PySem.W.mg_of
def ζζ1Z:=@PySem.F.slot_tuple_add
def ζζ20:=@Nat.succ_ne_self
def ζζ21:=@List.length_pos_of_mem
def ζζ22:=@List.getElem?_set_self
def ζζ23:=@List.filter_eq_nil_iff
def ζζ24:=@List.drop_eq_nil_of_le
def ζζ25:=@List.cons_append
def ζζ26:=@List.cons.inj
def ζζ27:=@List.any_cons
def ζζ28:=@PySem.wpAny_runValue
def ζζ29:=@PySem.AutoSeq1.wpAny_loadPart'
def ζζ2a:=@PySem.Obj.cls_mapFields
def ζζ2b:=@List.foldl_cons
def ζζ2c:=@List.find?_cons
def ζζ2d:=@List.mem_iff_getElem
def ζζ2e:=@List.getElem?_set_ne
def ζζ2f:=@PySem.wpAny_isInstance
def ζζ2g:=@Array.toList_append
def ζζ2h:=@Nat.add_sub_cancel
def ζζ2i:=@List.getElem?_drop
def ζζ2j:=@Bool.false_eq_true
def ζζ2k:=@PySem.wpAny_updateSeq
def ζζ2l:=@PySem.wpAny_execs_nil
def ζζ2m:=@PySem.typeLookup_type
def ζζ2n:=@PySem.SeqAt.EqAt.same
def ζζ2o:=@List.eraseIdx_eq_take_drop_succ
def ζζ2p:=@Bool.and_true
def ζζ2q:=@PyProof.Rows.callWith_builtin1
def ζζ2r:=@List.mem_eraseIdx_iff_getElem?
def ζζ2s:=@Array.toList_push
def ζζ2t:=@List.exists_mem_of_length_pos
def ζζ2u:=@PyProof.Rows.F.plain_set_update_loop
def ζζ2v:=@PySem.wpAny_tryCatch
def ζζ2w:=@PySem.wpAny_fieldsOf
def ζζ2x:=@PySem.typeIs_str
def ζζ2y:=@beq_self_eq_true
def ζζ2z:=@PySem.F.slot_dict_setdefault
def ζζ2A:=@List.length_tail
def ζζ2B:=@Int.sub_zero
def ζζ2C:=@Int.min_eq_right
def ζζ2D:=@PyProof.Rows.firstMet_succ
def ζζ2E:=@PySem.wpAny_letGo
def ζζ2F:=@PySem.wpAny_field
def ζζ2G:=@beq_false_of_ne
def ζζ2H:=@Option.map_some
def ζζ2I:=@Nat.le_antisymm
def ζζ2J:=@List.of_mem_zip
def ζζ2K:=@Int.min_eq_left
def ζζ2L:=@List.getElem?_eq_none_iff
def ζζ2M:=@PyProof.Rows.get?_update_seq
def ζζ2N:=@PySem.F.slot_dict_values
def ζζ2O:=@Nat.mul_le_mul
def ζζ2P:=@List.sublist_append_left
def ζζ2Q:=@List.length_erase_of_mem
def ζζ2R:=@List.getElem?_take_of_lt
def ζζ2S:=@PyProof.Rows.entry_proto_collect'
def ζζ2T:=@PySem.F.plainAttrs_dict
def ζζ2U:=@PySem.F.args_tuple_lt_2
def ζζ2V:=@PySem.wpAny_typeOf
def ζζ2W:=@PySem.wpAny_rule
def ζζ2X:=@PySem.wpAny_load
def ζζ2Y:=@PySem.wpAny_call
def ζζ2Z:=@PySem.noFill_tuple_add
def ζζ30:=@PySem.W.cellsFrom_some
def ζζ31:=@PySem.F.type_str_split
def ζζ32:=@PySem.F.entry_tuple_lt
def ζζ33:=@List.length_eq_one_iff
def ζζ34:=@List.getElem?_eraseIdx
def ζζ35:=@PySem.F.entry_min_loop
def ζζ36:=@PySem.F.args_tuple_iterator_next_1
def ζζ37:=@PySem.F.type_str_join
def ζζ38:=@PySem.F.slot_tuple_lt
def ζζ39:=@PySem.F.slot_str_join
def ζζ3a:=@List.pairwise_and_iff
def ζζ3b:=@List.getElem?_zipWith
def ζζ3c:=@List.getElem?_toArray
def ζζ3d:=@List.Perm.append_left
def ζζ3e:=@List.Pairwise.sublist
def ζζ3f:=@PyProof.Rows.IntsAre.int_at
def ζζ3g:=@PySem.F.entry_tuple_iterator_next
/-! THE HAND LAYER,for ints,bools,texts,own classes,LISTS and tuples (index,slices,in,append,pop ..),calls,loops. Paste it whole ahead of your own text;what your proof does not reach may be deleted. -/
namespace L2
open PySem PySem.Spec PyProof.Rows
abbrev Key:=Sum Int Str
def ζS9:Key->Value->Bool
 | .inl k,v=>Value.isInt k v
 | .inr x,v=>Value.isStrOf x v
def keyH(w:World):Key->Int
 | .inl k=>hashInt k
 | .inr x=>hashStr w x
theorem ζD:∀ {k:Key} {v:Value},ζS9 k v=true->(∃ i t,k=Sum.inl i/\v=Value.int i t)\/(∃ x t,k=Sum.inr x/\v=Value.str x t)
 | .inl i,v,h=>by
  obtain⟨t,e⟩:=Value.isInt_shape (k:=i) (v:=v) h
  exact .inl ⟨i,t,rfl,e⟩
 | .inr x,v,h=>by
  obtain⟨t,e⟩:=Value.isStrOf_shape (x:=x) (v:=v) h
  exact .inr ⟨x,t,rfl,e⟩
theorem ζh7(i:Int)(t:Tok):ζS9 (.inl i) (.int i t)=true:=by simp[ζS9,Value.isInt]
theorem ζg7(x:Str)(t:Tok):ζS9 (.inr x) (.str x t)=true:=by simp[ζS9,Value.isStrOf]
theorem ζ612(a b:Int):decide ((Sum.inl a:Key)=Sum.inl b)=(a == b):=by
 by_cases e:a=b
 ·subst e;simp
 ·have h:¬ (Sum.inl a:Key)=Sum.inl b:=fun q=>e (Sum.inl.inj q)
  rw[ζζE h]
  exact(ζζ1d.mpr e).symm
theorem ζ312(a b:Str):decide ((Sum.inr a:Key)=Sum.inr b)=decide (a=b):=by
 by_cases e:a=b
 ·subst e;simp
 ·have h:¬ (Sum.inr a:Key)=Sum.inr b:=fun q=>e (Sum.inr.inj q)
  rw[ζζE h,ζζE e]
theorem ζ512(a:Int)(b:Str):decide ((Sum.inl a:Key)=Sum.inr b)=false:=ζζE (fun q=>nomatch q)
theorem ζ412(a:Str)(b:Int):decide ((Sum.inr a:Key)=Sum.inl b)=false:=ζζE (fun q=>nomatch q)
def ζ81(prog:Program)(w:World):PySem.KeyKind prog w Key where
 is:=ζS9
 hash:=keyH w
 inj:=fun v a b ha hb=>by
  rcases ζD ha with ⟨i,t,rfl,rfl⟩ | ⟨x,t,rfl,rfl⟩
  ·rcases ζD hb with ⟨j,u,rfl,e⟩ | ⟨y,u,rfl,e⟩
   ·injection e with e1 _;rw[e1]
   ·exact nomatch e
  ·rcases ζD hb with ⟨j,u,rfl,e⟩ | ⟨y,u,rfl,e⟩
   ·exact nomatch e
   ·injection e with e1 _;rw[e1]
 byValue:=fun k v h=>by
  rcases ζD h with ⟨i,t,rfl,rfl⟩ | ⟨x,t,rfl,rfl⟩ <;> rfl
 pyHash:=fun hv h=>by
  rcases ζD hv with ⟨i,t,rfl,rfl⟩ | ⟨x,t,rfl,rfl⟩
  ·exact wpAny_pyHash_int h
  ·exact wpAny_pyHash_str h
 eqBool:=fun hu hv h=>by
  rcases ζD hu with ⟨i,t,rfl,rfl⟩ | ⟨x,t,rfl,rfl⟩
  ·rcases ζD hv with ⟨j,u,rfl,rfl⟩ | ⟨y,u,rfl,rfl⟩
   ·rw[ζ612]at h;exact wpAny_eqBool_int h
   ·rw[ζ512]at h;exact SeqAt.EqAt.int_str i t y u _ _ _ _ h
  ·rcases ζD hv with ⟨j,u,rfl,rfl⟩ | ⟨y,u,rfl,rfl⟩
   ·rw[ζ412]at h;exact SeqAt.EqAt.str_int x t j u _ _ _ _ h
   ·rw[ζ312]at h;exact wpAny_eqBool_str h
 «strs»:=fun k x t v h=>by
  rcases ζD h with ⟨i,u,rfl,e⟩ | ⟨y,u,rfl,e⟩
  ·exact nomatch e
  ·injection e with e1 _
   subst e1
   cases v <;> rfl
theorem ζc5(prog:Program)(w:World)(i:Int)(t:Tok):(ζ81 prog w).is (.inl i) (.int i t)=true:=ζh7 i t
theorem ζb5(prog:Program)(w:World)(x:Str)(t:Tok):(ζ81 prog w).is (.inr x) (.str x t)=true:=ζg7 x t
inductive V where
 | non | bl (b:Bool) | int (i:Int) | str (x:Str) | byt (b:Array UInt8) | flt (b:UInt64) | ref (a:Addr) | ty (n:String)
 deriving DecidableEq
def RelV:V->Value->Prop
 | .non,u=>u=Value.none
 | .bl b,u=>u=Value.bool b
 | .int i,u=>∃ t,u=Value.int i t
 | .str x,u=>∃ t,u=Value.str x t
 | .byt b,u=>∃ t,u=Value.bytes b t
 | .flt b,u=>∃ t,u=Value.float b t
 | .ref a,u=>u=Value.ref a
 | .ty n,u=>u=Value.type n
abbrev Vals:List V->List Value->Prop:=Paired RelV
theorem Vals.length{xs:List V}{us:List Value}(r:Vals xs us):xs.length=us.length:=Paired.length r
theorem Vals.get:∀ {xs:List V} {us:List Value} {i:Nat} {x:V},Vals xs us->xs[i]?=some x->∃ u,us[i]?=some u/\RelV x u
 | _,_,_,_,.nil,e=>by simp at e
 | _,_,0,_,.cons r _,e=>by simp at e;subst e;exact⟨_,rfl,r⟩
 | _,_,i+1,x,.cons _ t,e=>by
  obtain⟨u,h1,h2⟩:=Vals.get (i:=i) (x:=x) t (by simpa using e)
  exact⟨u,by simpa using h1,h2⟩
theorem Vals.set{x:V}{u:Value}(r:RelV x u):∀ {xs:List V} {us:List Value} (i:Nat),Vals xs us->Vals (xs.set i x) (us.set i u)
 | _,_,_,.nil=>.nil
 | _,_,0,.cons _ t=>.cons r t
 | _,_,i+1,.cons q t=>.cons q (Vals.set r i t)
theorem Vals.append:∀ {xs ys:List V} {us ws:List Value},Vals xs us->Vals ys ws->Vals (xs++ys) (us++ws)
 | _,_,_,_,.nil,s=>s
 | _,_,_,_,.cons r t,s=>.cons r (Vals.append t s)
theorem Vals.take:∀ {xs:List V} {us:List Value} (n:Nat),Vals xs us->Vals (xs.take n) (us.take n)
 | _,_,0,_=>.nil
 | _,_,_+1,.nil=>.nil
 | _,_,n+1,.cons r t=>.cons r (Vals.take n t)
theorem Vals.drop:∀ {xs:List V} {us:List Value} (n:Nat),Vals xs us->Vals (xs.drop n) (us.drop n)
 | _,_,0,r=>r
 | _,_,_+1,.nil=>.nil
 | _,_,n+1,.cons _ t=>Vals.drop n t
def RelO:Option V->Option Value->Prop
 | some v,some u=>RelV v u
 | none,none=>True
 | _,_=>False
def KV{κ:Type}:List (κ × V)->List (κ × Value)->Prop:=Paired fun(p:κ × V) (q:κ × Value)=>p.1=q.1/\RelV p.2 q.2
def kV:Key->V
 | .inl i=>.int i
 | .inr x=>.str x
inductive HO where
 | lst (xs:List V)
 | tup (xs:List V)
 | dK (kvs:List (Key × V)) | dT (kvs:List (List Key × V))
 | set (S:Int->Bool) (n:Nat)
 | ins (C dx:Addr) (fs:List (Str × V))
 | own (x:Addr)
 | xd (fs:List (Str × V))
 | met (f x:Addr)
 | rng (lo hi:Int)
 | frz (o:Obj) (u:HO)
 | tbl (ps:Array Value)
 | ext (φ:Heap->Prop)
abbrev Hp:=Addr->Option HO
def upd(H:Hp)(a:Addr)(o:HO):Hp:=fun b=>if b=a then some o else H b
theorem ζ1{H:Hp}{a:Addr}{o:HO}:upd H a o a=some o:=by unfold upd;rw[if_pos rfl]
theorem ζ9{H:Hp}{a b:Addr}{o:HO}(h:b≠a):upd H a o b=H b:=by unfold upd;rw[if_neg h]
theorem ζr5{H:Hp}{a b:Addr}{o u:HO}(h:H a=some o)(h':H b=some u)(d:o≠u):a≠b:=by
 intro e;subst e;rw[h]at h';exact d (ζζ8 h')
theorem ζb{H:Hp}{a b:Addr}{o:HO}(h:H a=some o)(h':H b=none):a≠b:=by
 intro e;subst e;rw[h]at h';cases h'
section
variable(P:Program)(w:World)
def ObjOk(H:Hp)(h:Heap)(a:Addr):HO->Prop
 | .lst xs=>xs.length<=sizeLine/\∃(its:List Value) (n:Nat),Vals xs its/\h.get? a=some { cls:=.type "list",data:=.seq its.toArray n }
 | .tup xs=>xs.length<=sizeLine/\∃ its:List Value,Vals xs its/\IsTup h a its.toArray
 | .dK kvs=>kvs.length<=sizeLine/\(a == sysModules)=false/\∃ vs,KV kvs vs/\h.DictOf (ζ81 P w) a vs
 | .dT kvs=>kvs.length<=sizeLine/\(a == sysModules)=false/\∃ xs:List (List Key × Addr × Value),
   Paired (fun(p:List Key × V) (q:List Key × Addr × Value)=>p.1=q.1/\H q.2.1=some (.tup (p.1.map kV))/\RelV p.2 q.2.2) kvs xs /\
   ∃ o es ep,h.get? a=some o/\o.ExactDict/\o.data=.dict es ep/\es.toList=xs.map (entryOfKey (tupleKind (ζ81 P w)))/\(xs.map (·.1)).Nodup
 | .set S n=>h.SetOf (intKind P w) a S n
 | .ins C dx fs=>H dx=some (.own a)/\fs.length<=1000/\dx≠a/\h.get? a=some (PySem.W.instObj C dx) /\
   ∃ mA,h.Ns1 dx mA/\(∀ f,RelO (fs.lookup f) (mA f))/\PySem.Within mA (fs.map (·.1))
 | .own _=>∃ o,h.get? a=some o
 | .xd fs=>∃ mA,h.Ns1 a mA/\∀ f,RelO (fs.lookup f) (mA f)
 | .rng lo hi=>∃ t u v,h.get? a=some { cls:=.type "range",data:=.fields #[.int lo t,.int hi u,.int 1 v] }
 | .frz o u=>h.get? a=some o/\ObjOk H h a u
 | .tbl ps=>h.get? a=some { cls:=.none,data:=.fields ps }
 | .met f x=>h.get? a=some (PySem.W.methodObj (.ref f) (.ref x))
 | .ext φ=>φ h/\(∃ o,h.get? a=some o)/\∀ h1 h2:Heap,φ h1->(∀ o,h1.get? a=some o->h2.get? a=some o)->φ h2
def HOk(H:Hp)(h:Heap):Prop:=∀ a o,H a=some o->ObjOk P w H h a o
end
section
variable{P:Program}{w:World}{H H':Hp}{h h':Heap}{a:Addr}{o:HO}
theorem ObjOk.lt(x:ObjOk P w H h a o):a<h.objs.size:=by
 cases o with
 | lst xs=>obtain⟨_,_,_,_,e⟩:=x;exact ζζn e
 | tup xs=>obtain⟨_,_,_,p⟩:=x;exact p.lt
 | dK kvs=>obtain⟨_,_,_,_,o,_,_,e,_⟩:=x;exact ζζn e
 | dT kvs=>obtain⟨_,_,_,_,o,_,_,e,_⟩:=x;exact ζζn e
 | set S n=>obtain⟨o,_,_,_,e,_⟩:=x;exact ζζn e
 | ins C dx fs=>obtain⟨_,_,_,e,_⟩:=x;exact ζζn e
 | own y=>obtain⟨_,e⟩:=x;exact ζζn e
 | xd fs=>obtain⟨_,⟨_,_,_,e,_⟩,_⟩:=x;exact ζζn e
 | rng lo hi=>obtain⟨_,_,_,e⟩:=x;exact ζζn e
 | frz ob u=>obtain⟨e,_⟩:=x;exact ζζn e
 | tbl ps=>exact ζζn (show h.get? a=some _ from x)
 | met f y=>exact ζζn (show h.get? a=some _ from x)
 | ext φ=>obtain⟨_,⟨_,e⟩,_⟩:=x;exact ζζn e
theorem Paired.mapP{α β:Type}{F G:α->β->Prop}:∀ {l₁:List α} {l₂:List β},Paired F l₁ l₂->(∀ a b,F a b->G a b)->Paired G l₁ l₂
 | _,_,.nil,_=>.nil
 | _,_,.cons r t,f=>.cons (f _ _ r) (Paired.mapP t f)
theorem ObjOk.stay(x:ObjOk P w H h a o)(k:∀ b u,(b=a\/H b=some (.own a))->h.get? b=some u->h'.get? b=some u)
  (ho:∀ b,H b=some (.own a)->H' b=some (.own a)) (ht:∀ b xs,H b=some (.tup xs)->H' b=some (.tup xs)):ObjOk P w H' h' a o:=by
 induction o with
 | lst xs=>obtain⟨z,its,n,r,e⟩:=x;exact⟨z,its,n,r,k _ _ (.inl rfl) e⟩
 | tup xs=>obtain⟨z,its,r,ob,e,c⟩:=x;exact⟨z,its,r,ob,k _ _ (.inl rfl) e,c⟩
 | dK kvs=>obtain⟨z,y,vs,r,ob,es,ep,e,c⟩:=x;exact⟨z,y,vs,r,ob,es,ep,k _ _ (.inl rfl) e,c⟩
 | dT kvs =>
  obtain⟨z,y,xs,r,ob,es,ep,e,c⟩:=x
  exact⟨z,y,xs,Paired.mapP r fun p q z=>⟨z.1,ht _ _ z.2.1,z.2.2⟩,ob,es,ep,k _ _ (.inl rfl) e,c⟩
 | set S n=>obtain⟨ob,es,ep,t,e,c⟩:=x;exact⟨ob,es,ep,t,k _ _ (.inl rfl) e,c⟩
 | ins C dx fs =>
  obtain⟨d,z,ne,e,mA,⟨od,es,ep,e2,c⟩,r⟩:=x
  exact⟨ho _ d,z,ne,k _ _ (.inl rfl) e,mA,⟨od,es,ep,k _ _ (.inr d) e2,c⟩,r⟩
 | own y=>obtain⟨ob,e⟩:=x;exact⟨ob,k _ _ (.inl rfl) e⟩
 | xd fs=>obtain⟨mA,⟨od,es,ep,e,c⟩,r⟩:=x;exact⟨mA,⟨od,es,ep,k _ _ (.inl rfl) e,c⟩,r⟩
 | rng lo hi=>obtain⟨t,u,v,e⟩:=x;exact⟨t,u,v,k _ _ (.inl rfl) e⟩
 | frz ob u ih=>obtain⟨e,q⟩:=x;exact⟨k _ _ (.inl rfl) e,ih q⟩
 | tbl ps =>
  have e:h.get? a=some { cls:=.none,data:=.fields ps }:=x
  show h'.get? a=some { cls:=.none,data:=.fields ps }
  exact k a _ (.inl rfl) e
 | met f y =>
  have e:h.get? a=some (PySem.W.methodObj (.ref f) (.ref y)):=x
  show h'.get? a=some (PySem.W.methodObj (.ref f) (.ref y))
  exact k a _ (.inl rfl) e
 | ext φ=>obtain⟨p,⟨o,e⟩,st⟩:=x;exact⟨st _ _ p fun o q=>k _ _ (.inl rfl) q,⟨o,k _ _ (.inl rfl) e⟩,st⟩
theorem HOk.lt(x:HOk P w H h)(e:H a=some o):a<h.objs.size:=(x a o e).lt
theorem HOk.fresh(x:HOk P w H h)(e:h.objs.size<=a):H a=none:=by
 cases q:H a with
 | none=>rfl
 | some u=>exact absurd (ζζt (x.lt q) e) (ζζ0M _)
theorem HOk.kept(x:HOk P w H h)(k:∀ b u,h.get? b=some u->h'.get? b=some u):HOk P w H h':=fun a o e =>
 (x a o e).stay (fun b u _ q=>k b u q) (fun _ q=>q) fun _ _ q=>q
theorem HOk.laid(x:HOk P w H h)(k:∀ b u,h.get? b=some u->h'.get? b=some u)(hp:h.objs.size<=a)(new:ObjOk P w (upd H a o) h' a o):HOk P w (upd H a o) h':=fun b u e=>by
 have hn:=x.fresh hp
 by_cases hb:b=a
 ·subst hb;rw[ζ1]at e;cases e;exact new
 ·rw[ζ9 hb]at e
  exact(x b u e).stay (fun c v _ q=>k c v q) (fun c q=>by rw[ζ9 (ζb q hn)];exact q) fun c xs q=>by rw[ζ9 (ζb q hn)];exact q
end
def Rd(H:Hp)(a:Addr)(u:HO):Prop:=H a=some u\/∃ o,H a=some (.frz o u)
theorem Rd.ok{P:Program}{w:World}{H:Hp}{h:Heap}{a:Addr}{u:HO}(r:Rd H a u)(x:HOk P w H h):ObjOk P w H h a u:=by
 rcases r with r | ⟨o,r⟩
 ·exact x a u r
 ·obtain⟨_,q⟩:=x a _ r
  exact q
def Mut:Option HO->Prop
 | some (.lst _)=>True
 | some (.dK _)=>True
 | some (.dT _)=>True
 | some (.set _ _)=>True
 | some (.ins _ _ _)=>True
 | some (.ext _)=>True
 | _=>False
section
variable{P:Program}{w:World}{H:Hp}{h h':Heap}{x e:Addr}{o':HO}
theorem HOk.write(ok:HOk P w H h)(mu:Mut (H x))(he:e=x\/H e=some (.own x))(k:∀ b u,b≠e->h.get? b=some u->h'.get? b=some u)(heo:∃ u,h'.get? e=some u)
  (new:ObjOk P w (upd H x o') h' x o'):HOk P w (upd H x o') h':=fun b u q=>by
 have nown:∀ c y,H c=some (.own y)->c≠x:=fun c y r z=>by subst z;rw[r]at mu;exact mu
 have ntup:∀ c xs,H c=some (.tup xs)->c≠x:=fun c xs r z=>by subst z;rw[r]at mu;exact mu
 by_cases hb:b=x
 ·subst hb;rw[ζ1]at q;cases q;exact new
 ·rw[ζ9 hb]at q
  by_cases hbe:b=e
  ·have q':H b=some (.own x):=by
    rcases he with z | z
    ·exact absurd (hbe.trans z) hb
    ·rw[hbe];exact z
   rw[q]at q';cases q'
   obtain⟨v,hv⟩:=heo
   exact⟨v,by rw[hbe];exact hv⟩
  ·refine(ok b u q).stay (fun c v hc r=>k c v ?_ r) (fun c r=>by rw[ζ9 (nown c b r)];exact r) fun c xs r=>by rw[ζ9 (ntup c xs r)];exact r
   rcases hc with rfl | hc
   ·exact hbe
   ·rintro rfl
    rcases he with z | z
    ·exact nown c b hc z
    ·rw[hc]at z;cases z;exact hb rfl
end
structure Un (fs ex:List Addr) (H H':Hp) (h h':Heap):Prop where
 keep:∀ b o,h.get? b=some o->H b=none->b∉fs->b∉ex->h'.get? b=some o
 slot:∀ b o,h.get? b=some o->H b=none->b∈fs->b∉ex->∃ sl,h'.get? b=some { o with slots:=sl }
 free:∀ b o,h.get? b=some o->H b=none->b∉ex->H' b=none
 there:∀ b o,h.get? b=some o->b∉ex->∃ o',h'.get? b=some o'
 tups:∀ b xs,H b=some (.tup xs)->H' b=some (.tup xs)
 frzs:∀ b o u,H b=some (.frz o u)->H' b=some (.frz o u)
 tbls:∀ b ps,H b=some (.tbl ps)->∃ more,H' b=some (.tbl (ps++more))
section
variable{fs ex:List Addr}{H H1:Hp}{h h1 h':Heap}{a x e:Addr}{o:HO}
theorem Un.any(u:Un fs ex H H1 h h1){b:Addr}{ob:Obj}(q:h.get? b=some ob)(n:H b=none)(hx:b∉ex):∃ sl,h1.get? b=some { ob with slots:=sl }:=by
 by_cases hb:b∈fs
 ·exact u.slot b ob q n hb hx
 ·exact⟨ob.slots,u.keep b ob q n hb hx⟩
theorem Un.kept(k:∀ b u,h.get? b=some u->h'.get? b=some u):Un fs ex H H h h' :=
 ⟨fun b ob q _ _ _=>k b ob q,fun b ob q _ _ _=>⟨ob.slots,k b ob q⟩,fun _ _ _ n _=>n,fun b ob q _=>⟨ob,k b ob q⟩,fun _ _ q=>q,fun _ _ _ q=>q,fun _ ps q=>⟨#[],by rw[q];simp⟩⟩
theorem Un.refl:Un fs ex H H h h:=Un.kept fun _ _ q=>q
theorem Un.laid(k:∀ b u,h.get? b=some u->h'.get? b=some u)(hp:h.objs.size<=a)(hn:H a=none):Un fs ex H (upd H a o) h h' where
 keep:=fun b u q _ _ _=>k b u q
 slot:=fun b u q _ _ _=>⟨u.slots,k b u q⟩
 free:=fun b u q n _=>by rw[ζ9 (ζζr (ζζt (ζζn q) hp))];exact n
 there:=fun b u q _=>⟨u,k b u q⟩
 tups:=fun b xs q=>by rw[ζ9 (ζb q hn)];exact q
 frzs:=fun b u xs q=>by rw[ζ9 (ζb q hn)];exact q
 tbls:=fun b ps q=>⟨#[],by rw[ζ9 (ζb q hn),q];simp⟩
theorem Un.write(mu:Mut (H x))(he:e=x\/H e=some (.own x))(k:∀ b u,b≠e->h.get? b=some u->h'.get? b=some u)(heo:∃ u,h'.get? e=some u):Un fs ex H (upd H x o) h h':=by
 have hx:∀ b,H b=none->b≠x:=fun b n z=>by subst z;rw[n]at mu;exact mu
 have hb:∀ b,H b=none->b≠e:=fun b n z=>by
  subst z
  rcases he with r | r
  ·exact hx b n r
  ·rw[n]at r;cases r
 have hm:∀ b u,H b=some u->¬ Mut (some u)->b≠x:=fun b u q nm z=>by subst z;rw[q]at mu;exact nm mu
 refine⟨fun b u q n _ _=>k b u (hb b n) q,fun b u q n _ _=>⟨u.slots,k b u (hb b n) q⟩,fun b u q n _=>by rw[ζ9 (hx b n)];exact n,fun b u q _=>?_,
  fun b xs q=>by rw[ζ9 (hm b _ q fun z=>z)];exact q,fun b u xs q=>by rw[ζ9 (hm b _ q fun z=>z)];exact q,fun b ps q=>⟨#[],by rw[ζ9 (hm b _ q fun z=>z),q];simp⟩⟩
 by_cases hbe:b=e
 ·subst hbe;exact heo
 ·exact⟨u,k b u hbe q⟩
end
def trk(h:Heap)(H:Hp):List Addr:=(List.range h.objs.size).filter fun a=>(H a).isSome
def hidT(h:Heap)(H:Hp):Heap:=PySem.W.hideAll h (trk h H)
theorem ζm7(h:Heap)(H:Hp):(hidT h H).objs.size=h.objs.size:=PySem.W.hideAll_size _ _
theorem ζp9{h:Heap}{H:Hp}{b:Addr}{o:Obj}(e:h.get? b=some o)(n:H b=none):(hidT h H).get? b=some o :=
 PySem.W.hideAll_get _ e fun hm=>by
  have q:(H b).isSome=true:=(ζζm.mp hm).2
  rw[n]at q;simp at q
theorem ζs10{h:Heap}{H:Hp}{b:Addr}{o:Obj}(e:(hidT h H).get? b=some o):h.get? b=some o/\H b=none:=by
 have e':h.get? b=some o:=PySem.W.of_hideAll (trk h H) e
 refine⟨e',?_⟩
 cases q:H b with
 | none=>rfl
 | some x =>
  have hm:b∈trk h H:=ζζm.mpr ⟨ζζy.mpr (ζζn e'),by simp[q]⟩
  have z:(hidT h H).get? b=none:=PySem.W.hideAll_none (trk h H) hm
  rw[z]at e;cases e
def ζg11(g h:Heap)(L:Addr):List (Addr × Obj):=(List.range h.objs.size).filterMap fun a=>if a=L\/(g.get? a).isSome=true then none else (h.get? a).map fun o=>(a,o)
def rest(g h:Heap)(L d:Addr):List (Addr × Obj):=(ζg11 g h L).filter fun p=>decide (p.1≠d)
structure Mod (K:PySem.W.Frag) (mg:Str->Option Value) (base:Heap):Prop where
 kin:K.In base
 glob:base.Ns mainGlobals mg
 blt:∃ mb,base.Ns builtinsNs mb/\∀ x:Str,x≠"__name__"->mb x=bootBuiltins x
 nolimit:base.NoLimit
structure Cx where
 prog:Program
 w:World
 K:PySem.W.Frag
 mg:Str->Option Value
 base:Heap
 A:Around
 N:List Str
 s₀:Shared
 H₀:Hp
 env:Env
 outer:List Env
 stack:List Env
 ex:List Addr
 fn:Str->Bool
 calm:Bool
 pn:List (Addr × Obj)
 xe:Value->Shared->Prop
def frs(l:List Env):List Addr:=l.filterMap (·.frame)
abbrev Cx.fs(X:Cx):List Addr:=frs X.outer
def Vis(sc:Scope)(x:Str):Prop:=sc.names.lookup x=some .local\/sc.names.lookup x=some .cell\/sc.names.lookup x=some .free
def Loc(sc:Scope)(x:Str):Prop:=sc.names.lookup x=some .local\/sc.names.lookup x=some .cell
def Look(env:Env)(h:Heap)(m:Str->Option Value)(x:Str)(u:Value):Prop :=
 (env.kindOf x=some .local/\m x=some u)\/((env.kindOf x=some .cell\/env.kindOf x=some .free)/\∃ c,env.cells.lookup x=some c/\h.IsCell c (some u))
structure Cx.Ok (X:Cx):Prop where
 mod:Mod X.K X.mg X.base
 kind:X.env.scope.kind=.function
 glob:X.env.globals=mainGlobals
 blt:X.env.builtins=builtinsNs
 above:X.s₀.heap.objs.size<=X.env.locals
 inj:∀ x y c,X.env.cells.lookup x=some c->X.env.cells.lookup y=some c->x=y
 has:∀ x,(X.env.kindOf x=some .cell\/X.env.kindOf x=some .free)->∃ c,X.env.cells.lookup x=some c
 cab:∀ x c,X.fn x=true->X.env.cells.lookup x=some c->X.s₀.heap.objs.size<=c
 hd:X.calm=true->X.A.handled=none
 frames:X.A.frames=some X.stack
 stk:X.stack=X.outer\/(X.stack=X.env :: X.outer/\X.env.frame=some X.env.locals)
 exf:∀ b∈X.ex,b≠X.env.locals/\∀ x c,X.env.cells.lookup x=some c->c≠b
 bs:∀ b o,X.base.get? b=some o->X.s₀.heap.get? b=some o/\X.H₀ b=none
 bsz:X.base.objs.size<=X.s₀.heap.objs.size
 noex:∀ b o,X.base.get? b=some o->b∉X.ex
 exfs:∀ b∈X.ex,b∉X.fs
 funs:X.s₀.heap.FunFrames X.base X.outer
 frf:∀ b∈X.fs,X.H₀ b=none
structure Inv (X:Cx) (pins:List (Addr × Obj)) (σ:List (Option V)) (H:Hp) (s:Shared):Prop where
 ok:X.Ok
 os:s.os=X.s₀.os
 bare:AllBare s.gens
 base:Un X.fs X.ex X.H₀ H X.s₀.heap s.heap
 loc:∃ m,s.heap.Ns X.env.locals m/\∀(i:Nat) (x:Str) (v:V),X.N[i]?=some x->σ[i]?=some (some v)->Vis X.env.scope x->∃ u,RelV v u/\Look X.env s.heap m x u
 cell:∀ x c,X.env.cells.lookup x=some c->∃ v,s.heap.IsCell c v
 free:H X.env.locals=none
 freeC:∀ x c,X.env.cells.lookup x=some c->H c=none
 pin:∀ p∈X.pn++pins,s.heap.get? p.1=some p.2/\H p.1=none/\p.1≠X.env.locals/\p.1∉X.fs/\∀ v,p.2.data≠.cell v
 hok:HOk X.prog X.w H s.heap
 len:σ.length=X.N.length
section
variable{X:Cx}{pins:List (Addr × Obj)}{σ:List (Option V)}{H H':Hp}{s:Shared}{h':Heap}
theorem Cx.Ok.nofr(ok:X.Ok){b:Addr}{o:Obj}(e:X.base.get? b=some o):b∉X.fs:=fun hb=>by
 have:=(ok.funs.mem hb).1
 rw[e]at this;cases this
theorem Inv.bs(I:Inv X pins σ H s):∀ b o,X.base.get? b=some o->s.heap.get? b=some o/\H b=none:=fun b o e =>
 ⟨I.base.keep b o (I.ok.bs b o e).1 (I.ok.bs b o e).2 (I.ok.nofr e) (I.ok.noex b o e),I.base.free b o (I.ok.bs b o e).1 (I.ok.bs b o e).2 (I.ok.noex b o e)⟩
theorem Inv.bk(I:Inv X pins σ H s):∀ b o,X.base.get? b=some o->s.heap.get? b=some o:=fun b o e=>(I.bs b o e).1
theorem Inv.mod(I:Inv X pins σ H s):Mod X.K X.mg X.base:=I.ok.mod
theorem Inv.kIn(I:Inv X pins σ H s):X.K.In s.heap:=I.ok.mod.kin.keeps I.bk
theorem Inv.lt(I:Inv X pins σ H s):X.env.locals<s.heap.objs.size:=let ⟨_,hn,_⟩:=I.loc;hn.lt
theorem Inv.sz(I:Inv X pins σ H s):X.s₀.heap.objs.size<=s.heap.objs.size:=ζζO I.ok.above (ζζ1z I.lt)
theorem Inv.nofs(I:Inv X pins σ H s){a:Addr}(h:s.heap.objs.size<=a):a∉X.fs:=fun hb=>by
 obtain⟨_,o,ho,_⟩:=I.ok.funs.mem hb
 exact absurd (ζζt (ζζn ho) (ζζO I.sz h)) (ζζ0M _)
theorem Inv.cne(I:Inv X pins σ H s):∀ x c,X.env.cells.lookup x=some c->c≠X.env.locals:=fun x c e z=>by
 obtain⟨v,o,ho,hd⟩:=I.cell x c e
 obtain⟨m,⟨o',es,ep,ho',hd',_⟩,_⟩:=I.loc
 rw[z,ho']at ho;cases ho;rw[hd']at hd;cases hd
theorem Inv.funs(I:Inv X pins σ H s):s.heap.FunFrames X.base X.outer:=by
 have all:∀(l:List Env),(∀ b∈frs l,b∈X.fs)->X.s₀.heap.FunFrames X.base l->s.heap.FunFrames X.base l:=by
  intro l
  induction l with
  | nil=>intro _ _;trivial
  | cons env r ih =>
   intro hs hl
   obtain⟨hk,⟨L,o,hf,hn,ho,hd⟩,hr⟩:=hl
   have hL:L∈X.fs:=hs L (by unfold frs;rw[ζζ1E,hf];exact ζζg)
   obtain⟨sl,e⟩:=I.base.slot L o ho (I.ok.frf L hL) hL fun z=>I.ok.exfs L z hL
   exact⟨hk,⟨L,_,hf,hn,e,hd⟩,ih (fun b hb=>hs b (by unfold frs;rw[ζζ1E,hf];exact ζζk _ hb)) hr⟩
 exact all X.outer (fun _ hb=>hb) I.ok.funs
theorem Inv.stack(I:Inv X pins σ H s):s.heap.FunFrames X.base X.stack:=by
 rcases I.ok.stk with e | ⟨e,hf⟩
 ·rw[e];exact I.funs
 ·rw[e]
  obtain⟨m,hn,_⟩:=I.loc
  refine .cons (by rw[I.ok.kind];decide) hf hn ?_ I.funs
  exact Heap.get?_none_of_le (ζζO I.ok.bsz I.ok.above)
theorem Inv.stkSub(I:Inv X pins σ H s):∀ b∈frs X.stack,b∈X.env.locals :: X.fs:=fun b hb=>by
 rcases I.ok.stk with e | ⟨e,hf⟩
 ·rw[e]at hb;exact ζζk _ hb
 ·rw[e]at hb
  unfold frs at hb
  rw[ζζ1E,hf]at hb
  exact hb
theorem Inv.stkFree(I:Inv X pins σ H s):∀ b∈frs X.stack,H b=none:=fun b hb=>by
 rcases ζζb.mp (I.stkSub b hb) with e | hb
 ·rw[e];exact I.free
 ·obtain⟨_,o,ho,_⟩:=I.ok.funs.mem hb
  exact I.base.free b o ho (I.ok.frf b hb) fun z=>I.ok.exfs b z hb
theorem Inv.step{g':Array GenState}{t':Nat}{d':Drawn}{ch:List Addr}(I:Inv X pins σ H s)
  (hch:∀ b∈ch,(b∈X.ex\/X.s₀.heap.objs.size<=b)/\b≠X.env.locals/\(∀ x c,X.env.cells.lookup x=some c->c≠b)/\∀ p∈X.pn++pins,p.1≠b)
  (keep:∀ b o,b≠X.env.locals->b∉X.fs->b∉ch->s.heap.get? b=some o->H b=none->h'.get? b=some o)
  (slot:∀ b o,b≠X.env.locals->b∈X.fs->b∉ch->s.heap.get? b=some o->H b=none->∃ sl,h'.get? b=some { o with slots:=sl }) (free:∀ b o,b∉ch->s.heap.get? b=some o->H b=none->H' b=none)
  (there:∀ b o,b∉ch->s.heap.get? b=some o->∃ o',h'.get? b=some o')
  (tups:∀ b xs,H b=some (.tup xs)->H' b=some (.tup xs)) (frzs:∀ b o u,H b=some (.frz o u)->H' b=some (.frz o u)) (tbls:∀ b ps,H b=some (.tbl ps)->∃ more,H' b=some (.tbl (ps++more)))
  (ns:∀ m,s.heap.Ns X.env.locals m->h'.Ns X.env.locals m) (hok:HOk X.prog X.w H' h') (hg:AllBare g') :
  Inv X pins σ H' { s with heap:=h',gens:=g',drawn:=d',toks:=t' }:=by
 have neL:∀ b o,X.s₀.heap.get? b=some o->b≠X.env.locals:=fun b o e=>ζζr (ζζt (ζζn e) I.ok.above)
 have neC:∀ b o,X.s₀.heap.get? b=some o->b∉X.ex->b∉ch:=fun b o e hx hb=>by
  rcases(hch b hb).1 with z | z
  ·exact hx z
  ·exact absurd (ζζt (ζζn e) z) (ζζ0M _)
 have cellK:∀ x c,X.env.cells.lookup x=some c->∀ v,s.heap.IsCell c v->h'.IsCell c v:=fun x c e v ⟨o,ho,hd⟩=>by
  have nch:c∉ch:=fun z=>(hch c z).2.2.1 x c e rfl
  by_cases hc:c∈X.fs
  ·obtain⟨sl,q⟩:=slot c o (I.cne x c e) hc nch ho (I.freeC x c e)
   exact⟨_,q,hd⟩
  ·exact⟨o,keep c o (I.cne x c e) hc nch ho (I.freeC x c e),hd⟩
 refine⟨I.ok,I.os,hg,⟨fun b o e n hb hx=>?_,fun b o e n hb hx=>?_,fun b o e n hx=>?_,fun b o e hx=>?_,fun b xs e=>tups b xs (I.base.tups b xs e),fun b o xs e=>frzs b o xs (I.base.frzs b o xs e),fun b ps e=>?_⟩,?_,fun x c e=>?_,?_,fun x c e=>?_,fun p hp=>?_,hok,I.len⟩
 ·exact keep b o (neL b o e) hb (neC b o e hx) (I.base.keep b o e n hb hx) (I.base.free b o e n hx)
 ·obtain⟨sl,e1⟩:=I.base.slot b o e n hb hx
  obtain⟨sl',e2⟩:=slot b _ (neL b o e) hb (neC b o e hx) e1 (I.base.free b o e n hx)
  exact⟨sl',e2⟩
 ·obtain⟨o',e1⟩:=I.base.there b o e hx
  exact free b o' (neC b o e hx) e1 (I.base.free b o e n hx)
 ·obtain⟨o',e1⟩:=I.base.there b o e hx
  exact there b o' (neC b o e hx) e1
 ·obtain⟨m1,e1⟩:=I.base.tbls b ps e
  obtain⟨m2,e2⟩:=tbls b _ e1
  exact⟨m1++m2,by rw[e2,Array.append_assoc]⟩
 ·obtain⟨m,hn,hl⟩:=I.loc
  refine⟨m,ns m hn,fun i x v e1 e2 e3=>?_⟩
  obtain⟨u,r,l⟩:=hl i x v e1 e2 e3
  refine⟨u,r,?_⟩
  rcases l with l | ⟨k,c,e,z⟩
  ·exact .inl l
  ·exact .inr ⟨k,c,e,cellK x c e _ z⟩
 ·obtain⟨v,z⟩:=I.cell x c e
  exact⟨v,cellK x c e v z⟩
 ·obtain⟨m,⟨o,_,_,ho,_⟩,_⟩:=I.loc
  exact free _ o (fun z=>(hch _ z).2.1 rfl) ho I.free
 ·obtain⟨v,o,ho,hd⟩:=I.cell x c e
  exact free c o (fun z=>(hch c z).2.2.1 x c e rfl) ho (I.freeC x c e)
 ·obtain⟨e,n,ne,nf,d⟩:=I.pin p hp
  have nch:p.1∉ch:=fun z=>(hch p.1 z).2.2.2 p hp rfl
  exact⟨keep p.1 p.2 ne nf nch e n,free p.1 p.2 nch e n,ne,nf,d⟩
theorem Inv.un{t':Nat}(I:Inv X pins σ H s)(u:Un X.fs [] H H' s.heap h')(hok:HOk X.prog X.w H' h'):Inv X pins σ H' { s with heap:=h',toks:=t' }:=by
 obtain⟨m,⟨o,es,ep,ho,r⟩,_⟩:=id I.loc
 obtain⟨sl,hL⟩:=u.any ho I.free (by simp)
 exact I.step (g':=s.gens) (d':=s.drawn) (ch:=[]) (fun _ z=>nomatch z) (fun b o _ hb _ e n=>u.keep b o e n hb (by simp)) (fun b o _ hb _ e n=>u.slot b o e n hb (by simp)) (fun b o _ e n=>u.free b o e n (by simp)) (fun b o _ e=>u.there b o e (by simp)) u.tups u.frzs u.tbls (fun m' hm=>by
  obtain⟨o',es',ep',ho',r'⟩:=hm
  rw[ho]at ho';cases ho'
  exact⟨_,es',ep',hL,r'⟩) hok I.bare
theorem Inv.call{g':Array GenState}{t':Nat}{d':Drawn}{ch:List Addr}(I:Inv X pins σ H s)(u:Un (frs X.stack) ch H H' s.heap h')(hok:HOk X.prog X.w H' h')(hg:AllBare g')
  (hch:∀ b∈ch,(b∈X.ex\/X.s₀.heap.objs.size<=b)/\b≠X.env.locals/\(∀ x c,X.env.cells.lookup x=some c->c≠b)/\∀ p∈X.pn++pins,p.1≠b) :
  Inv X pins σ H' { s with heap:=h',gens:=g',drawn:=d',toks:=t' }:=by
 obtain⟨m,⟨o,es,ep,ho,r⟩,_⟩:=id I.loc
 obtain⟨sl,hL⟩:=u.any ho I.free fun z=>(hch _ z).2.1 rfl
 exact I.step (ch:=ch) hch (fun b o hL hb hc e n=>u.keep b o e n (fun z=>(ζζb.mp (I.stkSub b z)).elim hL hb) hc) (fun b o _ _ hc e n=>u.any e n hc) (fun b o hc e n=>u.free b o e n hc) (fun b o hc e=>u.there b o e hc) u.tups u.frzs u.tbls (fun m' hm=>by
  obtain⟨o',es',ep',ho',r'⟩:=hm
  rw[ho]at ho';cases ho'
  exact⟨_,es',ep',hL,r'⟩) hok hg
theorem Inv.turned{t':Nat}{it:Addr}(I:Inv X pins σ H s)(k:∀ b o,b≠it->s.heap.get? b=some o->h'.get? b=some o)(hn:H it=none)(hL:it≠X.env.locals)
  (h1:it∈X.ex\/X.s₀.heap.objs.size<=it) (h2:∀ x c,X.env.cells.lookup x=some c->c≠it) (h3:∀ p∈X.pn++pins,p.1≠it):Inv X pins σ H { s with heap:=h',toks:=t' }:=by
 have nit:∀ b u,H b=some u->b≠it:=fun b u e z=>by rw[z,hn]at e;cases e
 refine I.step (g':=s.gens) (d':=s.drawn) (ch:=[it]) (fun b hb=>?_) (fun b o _ _ hc e _=>k b o (fun z=>hc (by simp[z])) e) (fun b o _ _ hc e _=>⟨o.slots,k b o (fun z=>hc (by simp[z])) e⟩) (fun _ _ _ _ n=>n)
  (fun b o hc e=>⟨o,k b o (fun z=>hc (by simp[z])) e⟩) (fun _ _ e=>e) (fun _ _ _ e=>e) (fun b ps e=>⟨#[],by rw[e];simp⟩) (fun m hm=>?_) (fun b u e=>?_) I.bare
 ·have e:b=it:=by simpa using hb
  subst e
  exact⟨h1,hL,h2,h3⟩
 ·obtain⟨o,es,ep,ho,r⟩:=hm
  exact⟨o,es,ep,k _ o (ζζY hL) ho,r⟩
 ·refine(I.hok b u e).stay (fun c v hc q=>k c v ?_ q) (fun _ q=>q) fun _ _ q=>q
  rcases hc with z | z
  ·rw[z];exact nit b u e
  ·exact nit c _ z
theorem Inv.tok(I:Inv X pins σ H s)(t:Nat):Inv X pins σ H { s with toks:=t }:=I.un (h':=s.heap) (t':=t) Un.refl I.hok
theorem Inv.kept{t':Nat}(I:Inv X pins σ H s)(k:∀ b u,s.heap.get? b=some u->h'.get? b=some u):Inv X pins σ H { s with heap:=h',toks:=t' }:=I.un (Un.kept k) (I.hok.kept k)
theorem Inv.laid{a:Addr}{o:HO}{t':Nat}(I:Inv X pins σ H s)(k:∀ b u,s.heap.get? b=some u->h'.get? b=some u)(hp:s.heap.objs.size<=a)(new:ObjOk X.prog X.w (upd H a o) h' a o) :
  Inv X pins σ (upd H a o) { s with heap:=h',toks:=t' }:=I.un (Un.laid k hp (I.hok.fresh hp)) (I.hok.laid k hp new)
theorem Inv.write{x e:Addr}{o:HO}{t':Nat}(I:Inv X pins σ H s)(mu:Mut (H x))(he:e=x\/H e=some (.own x))(k:∀ b u,b≠e->s.heap.get? b=some u->h'.get? b=some u)(heo:∃ u,h'.get? e=some u)
  (new:ObjOk X.prog X.w (upd H x o) h' x o):Inv X pins σ (upd H x o) { s with heap:=h',toks:=t' }:=I.un (Un.write mu he k heo) (I.hok.write mu he k heo new)
theorem Inv.weak{σ':List (Option V)}(I:Inv X pins σ H s)(hl:σ'.length=σ.length)(w:∀(i:Nat) v,σ'[i]?=some (some v)->σ[i]?=some (some v)):Inv X pins σ' H s :=
 ⟨I.ok,I.os,I.bare,I.base,let ⟨m,hn,hl'⟩:=I.loc;⟨m,hn,fun i x v e1 e2 e3=>hl' i x v e1 (w i v e2) e3⟩,I.cell,I.free,I.freeC,I.pin,I.hok,hl.trans I.len⟩
theorem Inv.pins_of{pins':List (Addr × Obj)}(I:Inv X pins σ H s)(h:∀ p∈pins',s.heap.get? p.1=some p.2/\H p.1=none/\p.1≠X.env.locals/\p.1∉X.fs/\∀ v,p.2.data≠.cell v):Inv X pins' σ H s :=
 ⟨I.ok,I.os,I.bare,I.base,I.loc,I.cell,I.free,I.freeC,fun p hp=>(ζζ9.mp hp).elim (fun z=>I.pin p (ζζo _ z)) (h p),I.hok,I.len⟩
theorem ζV5{N:List Str}(hN:N.Nodup){i j:Nat}{x:Str}(a:N[i]?=some x)(b:N[j]?=some x):i=j:=by
 obtain⟨h1,e1⟩:=ζζ4.mp a
 obtain⟨h2,e2⟩:=ζζ4.mp b
 exact(List.getElem_inj hN).mp (e1.trans e2.symm)
theorem ζT6{M:Model}{A:Around}{E:Value->Shared->Prop}{i:Nat}{x:Str}{v:V}{u:Value}{Q:Unit->Shared->Prop}(I:Inv X pins σ H s)(hN:X.N.Nodup)(hi:X.N[i]?=some x)(hx:Loc X.env.scope x)(r:RelV v u)
  (h:∀ s',Inv X pins (σ.set i (some v)) H s'->(∃ a,Heap.SameBut a s.heap s'.heap/\(a=X.env.locals\/X.env.cells.lookup x=some a))->Q () s') (hf:X.fn x=true\/X.env.scope.names.lookup x=some .local:=by first | exact .inl rfl | exact .inr rfl | assumption):wpAny M A (storeName X.env x u) Q E s:=by
 obtain⟨m,hn,hl⟩:=id I.loc
 have hcls:(X.env.scope.kind == .class || (X.env.scope.kind == .module && X.env.locals != X.env.globals))=false:=by rw[I.ok.kind];rfl
 have hiσ:i<σ.length:=by rw[I.len];exact(ζζ4.mp hi).1
 have cne:=I.cne
 have tracked:∀ {a:Addr} {h':Heap},(∃ o,s.heap.get? a=some o/\H a=none)->Heap.SameBut a s.heap h'->HOk X.prog X.w H h':=fun {a h'} ha hs b ob e=>by
  obtain⟨_,_,hfree⟩:=ha
  refine(I.hok b ob e).stay (fun c w' hc q=>(hs.2 c ?_).trans q) (fun _ q=>q) fun _ _ q=>q
  rintro rfl
  rcases hc with rfl | hc
  ·rw[hfree]at e;cases e
  ·rw[hfree]at hc;cases hc
 rcases hx with hk | hk
 ·refine wpAny_storeName_local hk hn (fun h' hn' hs=>?_) hcls
  obtain⟨oL,_,_,hoL,_⟩:=id hn
  refine h _ ⟨I.ok,I.os,I.bare,⟨fun b o e n hb hx=>?_,fun b o e n hb hx=>?_,I.base.free,fun b o e hx=>?_,I.base.tups,I.base.frzs,I.base.tbls⟩,⟨_,hn',fun j y v' e1 e2 e3=>?_⟩,fun y c e=>?_,I.free,I.freeC,fun p hp=>?_,tracked ⟨oL,hoL,I.free⟩ hs,by simpa using I.len⟩ ⟨_,hs,.inl rfl⟩
  ·exact(hs.2 b (ζζr (ζζt (ζζn e) I.ok.above))).trans (I.base.keep b o e n hb hx)
  ·obtain⟨sl,e1⟩:=I.base.slot b o e n hb hx
   exact⟨sl,(hs.2 b (ζζr (ζζt (ζζn e) I.ok.above))).trans e1⟩
  ·obtain⟨o',e1⟩:=I.base.there b o e hx
   exact⟨o',(hs.2 b (ζζr (ζζt (ζζn e) I.ok.above))).trans e1⟩
  ·by_cases hj:j=i
   ·subst hj
    rw[hi]at e1;cases e1
    rw[ζζ22 hiσ]at e2
    cases e2
    exact⟨u,r,.inl ⟨hk,by simp⟩⟩
   ·rw[ζζ2e (ζζY hj)]at e2
    obtain⟨u',r',q⟩:=hl j y v' e1 e2 e3
    refine⟨u',r',?_⟩
    rcases q with ⟨k,e⟩ | ⟨k,c,e,z⟩
    ·refine .inl ⟨k,?_⟩
     have:y≠x:=fun e=>hj (ζV5 hN e1 (e ▸ hi))
     simp[this,e]
    ·exact .inr ⟨k,c,e,z.sameBut hs (cne y c e)⟩
  ·obtain⟨w',z⟩:=I.cell y c e
   exact⟨w',z.sameBut hs (cne y c e)⟩
  ·obtain⟨e,n,ne,nf,d⟩:=I.pin p hp
   exact⟨(hs.2 p.1 ne).trans e,n,ne,nf,d⟩
 ·have hfn:X.fn x=true:=by
   rcases hf with z | z
   ·exact z
   ·rw[z]at hk;cases hk
  obtain⟨c,hc⟩:=I.ok.has x (.inl hk)
  obtain⟨w',z⟩:=I.cell x c hc
  refine wpAny_storeName_cell I.ok.kind hk hc z (fun h' hc' hs=>?_)
  obtain⟨oc,hoc,hocd⟩:=id z
  refine h { s with heap:=h' } ⟨I.ok,I.os,I.bare,⟨fun b o e n hb hx=>?_,fun b o e n hb hx=>?_,I.base.free,fun b o e hx=>?_,I.base.tups,I.base.frzs,I.base.tbls⟩,⟨m,hn.sameBut hs (ζζY (cne x c hc)),fun j y v' e1 e2 e3=>?_⟩,fun y c' e=>?_,I.free,I.freeC,fun p hp=>?_,tracked ⟨oc,hoc,I.freeC x c hc⟩ hs,by simpa using I.len⟩ ⟨c,hs,.inr hc⟩
  ·exact(hs.2 b (ζζr (ζζt (ζζn e) (I.ok.cab x c hfn hc)))).trans (I.base.keep b o e n hb hx)
  ·obtain⟨sl,e1⟩:=I.base.slot b o e n hb hx
   exact⟨sl,(hs.2 b (ζζr (ζζt (ζζn e) (I.ok.cab x c hfn hc)))).trans e1⟩
  ·obtain⟨o',e1⟩:=I.base.there b o e hx
   exact⟨o',(hs.2 b (ζζr (ζζt (ζζn e) (I.ok.cab x c hfn hc)))).trans e1⟩
  ·by_cases hj:j=i
   ·subst hj
    rw[hi]at e1;cases e1
    rw[ζζ22 hiσ]at e2
    cases e2
    exact⟨u,r,.inr ⟨.inl hk,c,hc,hc'⟩⟩
   ·rw[ζζ2e (ζζY hj)]at e2
    obtain⟨u',r',q⟩:=hl j y v' e1 e2 e3
    refine⟨u',r',?_⟩
    rcases q with q | ⟨k,c',e,z'⟩
    ·exact .inl q
    ·refine .inr ⟨k,c',e,z'.sameBut hs ?_⟩
     rintro rfl
     exact hj (ζV5 hN e1 (I.ok.inj _ _ _ e hc ▸ hi))
  ·by_cases hcc:c'=c
   ·subst hcc;exact⟨_,hc'⟩
   ·obtain⟨w2,z2⟩:=I.cell y c' e
    exact⟨w2,z2.sameBut hs hcc⟩
  ·obtain⟨e,n,ne,nf,d⟩:=I.pin p hp
   refine⟨(hs.2 p.1 ?_).trans e,n,ne,nf,d⟩
   intro q
   rw[q,hoc]at e
   have q':oc=p.2:=ζζ8 e
   exact d w' (by rw[<- q'];exact hocd)
theorem ζL3{M:Model}{A:Around}{E:Value->Shared->Prop}{i:Nat}{x:Str}{v:V}{u:Value}{Q:Unit->Shared->Prop}(I:Inv X pins σ H s)(hN:X.N.Nodup)(hi:X.N[i]?=some x)(hx:Loc X.env.scope x)(r:RelV v u)
  (h:∀ s',Inv X pins (σ.set i (some v)) H s'->Q () s') (hf:X.fn x=true\/X.env.scope.names.lookup x=some .local:=by first | exact .inl rfl | exact .inr rfl | assumption):wpAny M A (storeName X.env x u) Q E s :=
 ζT6 I hN hi hx r (fun s' I' _=>h s' I') hf
theorem Inv.call'{s':Shared}{ch:List Addr}(I:Inv X pins σ H s)(ho:s'.os=s.os)(u:Un (frs X.stack) ch H H' s.heap s'.heap)(hok:HOk X.prog X.w H' s'.heap)(hg:AllBare s'.gens)
  (hch:∀ b∈ch,(b∈X.ex\/X.s₀.heap.objs.size<=b)/\b≠X.env.locals/\(∀ x c,X.env.cells.lookup x=some c->c≠b)/\∀ p∈X.pn++pins,p.1≠b):Inv X pins σ H' s':=by
 obtain⟨h',g',d',t',o'⟩:=s'
 have e:o'=s.os:=ho
 subst e
 exact I.call (g':=g') (t':=t') (d':=d') u hok hg hch
end
abbrev XK:=Value->Option Addr->Hp->Prop
abbrev St:=List (Option V)
abbrev VK:=V->Hp->Prop
abbrev TE:=St->Hp->VK->Prop
abbrev TT:=St->Hp->(Bool->Hp->Prop)->Prop
abbrev TA:=St->Hp->(List V->Hp->Prop)->Prop
structure Ends where
 nx:St->Hp->Prop
 rt:VK
 bk:St->Hp->Prop:=fun _ _=>False
 ct:St->Hp->Prop:=fun _ _=>False
abbrev TS:=Ends->St->Hp->Prop
def EP(X:Cx)(pins:List (Addr × Obj))(σ:St)(Q:VK)(u:Value)(s':Shared):Prop:=∃ v H',Inv X pins σ H' s'/\RelV v u/\Q v H'
def TP(X:Cx)(pins:List (Addr × Obj))(σ:St)(Q:Bool->Hp->Prop)(b:Bool)(s':Shared):Prop:=∃ H',Inv X pins σ H' s'/\Q b H'
def AP(X:Cx)(pins:List (Addr × Obj))(σ:St)(Q:List V->Hp->Prop)(us:List Value)(s':Shared):Prop:=∃ vs H',Inv X pins σ H' s'/\Vals vs us/\Q vs H'
def SP(X:Cx)(pins:List (Addr × Obj))(D:Ends)(f:Flow)(s':Shared):Prop :=
 match f with
 | .next=>∃ σ' H',Inv X pins σ' H' s'/\D.nx σ' H'
 | .brk=>∃ σ' H',Inv X pins σ' H' s'/\D.bk σ' H'
 | .cont=>∃ σ' H',Inv X pins σ' H' s'/\D.ct σ' H'
 | .ret u=>∃ v σ' H',Inv X pins σ' H' s'/\RelV v u/\D.rt v H'
def PE(X:Cx)(e:Expr)(t:TE):Prop :=
 ∀(pins:List (Addr × Obj)) (s:Shared) (σ:St) (H:Hp) (Q:VK),Inv X pins σ H s->t σ H Q->wpAny (model X.prog X.w) X.A (eval e X.env) (EP X pins σ Q) X.xe s
def PT(X:Cx)(e:Expr)(t:TT):Prop :=
 ∀(pins:List (Addr × Obj)) (s:Shared) (σ:St) (H:Hp) (Q:Bool->Hp->Prop),Inv X pins σ H s->t σ H Q->wpAny (model X.prog X.w) X.A (isTrue e X.env (eval e X.env)) (TP X pins σ Q) X.xe s
def PW(X:Cx)(e:Expr)(t:TT):Prop :=
 ∀(whole:Sem Value) (pins:List (Addr × Obj)) (s:Shared) (σ:St) (H:Hp) (Q:Bool->Hp->Prop),Inv X pins σ H s->t σ H Q->wpAny (model X.prog X.w) X.A (isTrue e X.env whole) (TP X pins σ Q) X.xe s
theorem PW.pt{X:Cx}{e:Expr}{t:TT}(h:PW X e t):PT X e t:=h _
def PA(X:Cx)(es:List Expr)(t:TA):Prop :=
 ∀(pos:Pos) (pins:List (Addr × Obj)) (s:Shared) (σ:St) (H:Hp) (Q:List V->Hp->Prop),Inv X pins σ H s->t σ H Q->wpAny (model X.prog X.w) X.A (spliced (backTo pos (starEach es X.env))) (AP X pins σ Q) X.xe s
def PS(X:Cx)(st:Stmt)(t:TS):Prop :=
 ∀(pins:List (Addr × Obj)) (s:Shared) (σ:St) (H:Hp) (D:Ends),Inv X pins σ H s->t D σ H->wpAny (model X.prog X.w) X.A (exec st X.env) (SP X pins D) X.xe s
def PSs(X:Cx)(st:List Stmt)(t:TS):Prop :=
 ∀(pins:List (Addr × Obj)) (s:Shared) (σ:St) (H:Hp) (D:Ends),Inv X pins σ H s->t D σ H->wpAny (model X.prog X.w) X.A (execs st X.env) (SP X pins D) X.xe s
theorem thn{α:Type}{t:Sem α}{Q Q':α->Shared->Prop}{M:Model}{A:Around}{E:Value->Shared->Prop}{s:Shared}(h:wpAny M A t Q E s)(hQ:∀ a s,Q a s->Q' a s):wpAny M A t Q' E s:=ζζ0I h hQ fun _ _ x=>x
section
variable{X:Cx}
def tVar(i:Nat):TE:=fun σ H Q=>∃ v,σ[i]?=some (some v)/\Q v H
def tC(v:V):TE:=fun _ H Q=>Q v H
theorem ζS11 {i:Nat} {x:Str} {pos:Pos} (hN:X.N[i]?=some x) (hv:Vis X.env.scope x) (hd:(x == ("__debug__":Str))=false:=by decide) (hcd:(x == ("__classdict__":Str))=false:=by decide):PE X (.Name x pos) (tVar i):=by
 intro pins s σ H Q I h
 obtain⟨v,e,h⟩:=h
 obtain⟨m,hn,hl⟩:=I.loc
 obtain⟨u,r,l⟩:=hl i x v hN e hv
 have fin:EP X pins σ Q u s:=⟨v,H,I,r,h⟩
 rcases l with ⟨hk,hm⟩ | ⟨hk,c,hc,hcell⟩
 ·exact wpAny_Name (wpAny_loadName_local I.ok.kind hk hn hm fin) hd
 ·rcases hk with hk | hk
  ·exact wpAny_Name (wpAny_loadName_cell I.ok.kind hk hc hcell fin) hd
  ·exact wpAny_Name (wpAny_loadName_free I.ok.kind hk hc hcell fin hcd) hd
theorem ζ8{i j pos}:PE X (.Constant (.int i) j pos) (tC (.int i)):=fun _ _ _ H _ I h=>wpAny_Constant_int ⟨.int i,H,I.tok _,⟨_,rfl⟩,h⟩
theorem ζw4{b j pos}:PE X (.Constant (.bool b) j pos) (tC (.bl b)):=fun _ _ _ H _ I h=>Constant_bool ⟨.bl b,H,I,rfl,h⟩
theorem ζ67{j pos}:PE X (.Constant .none j pos) (tC .non):=fun _ _ _ H _ I h=>Constant_none ⟨.non,H,I,rfl,h⟩
theorem ζd2{x j pos}:PE X (.Constant (.str x) j pos) (tC (.str x)):=fun _ _ _ H _ I h=>Calls.Constant_str ⟨.str x,H,I.tok _,⟨_,rfl⟩,h⟩
def Gl(X:Cx)(x:Str):Prop:=X.env.kindOf x=some .globalImplicit
theorem ζc6{E:Value->Shared->Prop}{pins:List (Addr × Obj)}{s:Shared}{σ:St}{H:Hp}{x:Str}{u:Value}{pos:Pos}{Q:Value->Shared->Prop}(I:Inv X pins σ H s)(hg:Gl X x)(hm:X.mg x=some u)(h:Q u s)
  (hd:(x == ("__debug__":Str))=false:=by decide):wpAny (model X.prog X.w) X.A (eval (.Name x pos) X.env) Q E s :=
 Calls.Name_function_global I.ok.kind hg (Calls.loadGlobal_global (by rw[I.ok.glob];exact I.mod.glob.keeps I.bk) hm h) hd
theorem ζs2{E:Value->Shared->Prop}{pins:List (Addr × Obj)}{s:Shared}{σ:St}{H:Hp}{x:Str}{u:Value}{pos:Pos}{Q:Value->Shared->Prop}(I:Inv X pins σ H s)(hg:Gl X x)(hm:X.mg x=none)(hv:bootBuiltins x=some u)(h:Q u s)
  (hn:x≠"__name__":=by decide) (hd:(x == ("__debug__":Str))=false:=by decide):wpAny (model X.prog X.w) X.A (eval (.Name x pos) X.env) Q E s:=by
 obtain⟨mb,h1,h2⟩:=I.mod.blt
 exact Calls.Name_function_global I.ok.kind hg (Calls.loadGlobal_builtin (by rw[I.ok.glob];exact I.mod.glob.keeps I.bk) hm (by rw[I.ok.blt];exact h1.keeps I.bk) ((h2 x hn).trans hv) h) hd
theorem ζv4 {x:Str} {v:V} {u:Value} {pos:Pos} (hg:Gl X x) (hm:X.mg x=some u) (r:RelV v u) (hd:(x == ("__debug__":Str))=false:=by decide):PE X (.Name x pos) (tC v) :=
 fun _ _ _ H _ I h=>ζc6 I hg hm ⟨v,H,I,r,h⟩ hd
variable{a b:Expr}{ta tb:TE}{pos:Pos}
def tB(t:TE):TT:=fun σ H Q=>t σ H fun x H1=>∃ c,x=.bl c/\Q c H1
theorem ζ82{e:Expr}{t:TE}(h:PE X e t)(he:∀ whole,isTrue e X.env whole=(do let v <- whole;standAt e.pos;holding [v] (truthy v)):=by intro _;rfl):PT X e (tB t):=by
 intro pins s σ H Q I hw
 refine isTrue_plain (thn (h pins s σ H _ I hw) fun v s1 ⟨x,H1,I1,r1,q1⟩=>?_) (he _)
 obtain⟨d,rfl,q⟩:=q1
 cases r1
 exact ζζ0y ⟨H1,I1,q⟩
variable{tA tB':TT}{rest:List Expr}
def tAnd(t u:TT):TT:=fun σ H Q=>t σ H fun c H1=>if c=true then u σ H1 Q else Q false H1
def tOr(t u:TT):TT:=fun σ H Q=>t σ H fun c H1=>if c=true then Q true H1 else u σ H1 Q
def tNot(t:TT):TT:=fun σ H Q=>t σ H fun c H1=>Q (!c) H1
theorem ζN5(ha:PT X a tA):PW X (.BoolOp .And [a] pos) tA:=by
 intro wh pins s σ H Q I h
 refine isTrue_and (thn (ha pins s σ H Q I h) fun c s1 e=>?_)
 cases c with
 | true=>exact isTrue_and_nil e
 | false=>exact e
theorem ζe3(ha:PT X a tA):PW X (.BoolOp .Or [a] pos) tA:=by
 intro wh pins s σ H Q I h
 refine isTrue_or (thn (ha pins s σ H Q I h) fun c s1 e=>?_)
 cases c with
 | false=>exact isTrue_or_nil e
 | true=>exact e
theorem ζQ8(ha:PT X a tA)(hb:PW X (.BoolOp .And (b :: rest) pos) tB'):PW X (.BoolOp .And (a :: b :: rest) pos) (tAnd tA tB'):=by
 intro wh pins s σ H Q I h
 refine isTrue_and (thn (ha pins s σ H _ I h) fun c s1 ⟨H1,I1,q1⟩=>?_)
 cases c with
 | true=>exact hb wh pins s1 σ H1 Q I1 q1
 | false=>exact⟨H1,I1,q1⟩
theorem ζ17(ha:PT X a tA)(hb:PW X (.BoolOp .Or (b :: rest) pos) tB'):PW X (.BoolOp .Or (a :: b :: rest) pos) (tOr tA tB'):=by
 intro wh pins s σ H Q I h
 refine isTrue_or (thn (ha pins s σ H _ I h) fun c s1 ⟨H1,I1,q1⟩=>?_)
 cases c with
 | true=>exact⟨H1,I1,q1⟩
 | false=>exact hb wh pins s1 σ H1 Q I1 q1
theorem ζr2(ha:PT X a tA):PT X (.UnaryOp .Not a pos) (tNot tA):=by
 intro pins s σ H Q I h
 exact isTrue_not (ha pins s σ H (fun c H1=>Q (!c) H1) I h)
def ζB12(ta tb:TE):TE:=fun σ H Q=>ta σ H fun x H1=>∃ c,x=.bl c/\if c=true then tb σ H1 Q else Q (.bl false) H1
def tOrV(ta tb:TE):TE:=fun σ H Q=>ta σ H fun x H1=>∃ c,x=.bl c/\if c=true then Q (.bl true) H1 else tb σ H1 Q
theorem ζl10{op}{t:TE}(h:PE X a t):PE X (.BoolOp op [a] pos) t:=fun pins s σ H Q I hw=>BoolOp_one (h pins s σ H Q I hw)
theorem ζn10(ha:PE X a ta)(hb:PE X (.BoolOp .And (b :: rest) pos) tb):PE X (.BoolOp .And (a :: b :: rest) pos) (ζB12 ta tb):=by
 intro pins s σ H Q I h
 refine BoolOp_and (thn (ha pins s σ H _ I h) fun v s1 ⟨x,H1,I1,r1,q1⟩=>?_)
 obtain⟨c,rfl,q1⟩:=q1
 cases r1
 refine ζζ0y ?_
 cases c with
 | true=>exact hb pins s1 σ H1 Q I1 q1
 | false=>exact⟨.bl false,H1,I1,rfl,q1⟩
theorem ζJ12(ha:PE X a ta)(hb:PE X (.BoolOp .Or (b :: rest) pos) tb):PE X (.BoolOp .Or (a :: b :: rest) pos) (tOrV ta tb):=by
 intro pins s σ H Q I h
 refine BoolOp_or (thn (ha pins s σ H _ I h) fun v s1 ⟨x,H1,I1,r1,q1⟩=>?_)
 obtain⟨c,rfl,q1⟩:=q1
 cases r1
 refine ζζ0y ?_
 cases c with
 | false=>exact hb pins s1 σ H1 Q I1 q1
 | true=>exact⟨.bl true,H1,I1,rfl,q1⟩
def tIf(t:TT)(ta tb:TE):TE:=fun σ H Q=>t σ H fun c H1=>if c=true then ta σ H1 Q else tb σ H1 Q
theorem ζS3{c:Expr}(hc:PT X c tA)(ha:PE X a ta)(hb:PE X b tb):PE X (.IfExp c a b pos) (tIf tA ta tb):=by
 intro pins s σ H Q I h
 refine wpAny_IfExp (thn (hc pins s σ H _ I h) fun d s1 ⟨H1,I1,q1⟩=>?_)
 cases d with
 | true=>exact ha pins s1 σ H1 Q I1 q1
 | false=>exact hb pins s1 σ H1 Q I1 q1
end
def SqL(K:PySem.W.Frag)(H:Hp)(a:Addr)(xs:List V):Prop :=
 Rd H a (.lst xs) \/
  ∃(o:Obj) (its:Array Value) (n:Nat),K.lookup a=some o/\o.cls=.type "list"/\o.dict=none/\o.data=.seq its n/\its.size<=sizeLine/\Vals xs its.toList
def SqT(K:PySem.W.Frag)(H:Hp)(a:Addr)(xs:List V):Prop :=
 Rd H a (.tup xs) \/
  ∃(o:Obj) (its:Array Value) (n:Nat),K.lookup a=some o/\o.cls=.type "tuple"/\o.data=.seq its n/\its.size<=sizeLine/\Vals xs its.toList
def absV:Value->Option V
 | .none=>some .non
 | .bool b=>some (.bl b)
 | .int i _=>some (.int i)
 | .str x _=>some (.str x)
 | .bytes b _=>some (.byt b)
 | .float b _=>some (.flt b)
 | .ref a=>some (.ref a)
 | .type n=>some (.ty n)
 | _=>none
theorem RelV.abs{x:V}{u:Value}(r:RelV x u):absV u=some x:=by
 cases x with
 | non=>cases r;rfl
 | bl _=>cases r;rfl
 | int _=>obtain⟨t,rfl⟩:=r;rfl
 | str _=>obtain⟨t,rfl⟩:=r;rfl
 | byt _=>obtain⟨t,rfl⟩:=r;rfl
 | flt _=>obtain⟨t,rfl⟩:=r;rfl
 | ref _=>cases r;rfl
 | ty _=>cases r;rfl
theorem RelV.inj{x y:V}{u:Value}(r:RelV x u)(q:RelV y u):x=y:=ζζ8 (r.abs.symm.trans q.abs)
theorem Vals.inj:∀ {xs ys:List V} {us:List Value},Vals xs us->Vals ys us->xs=ys
 | _,_,_,.nil,.nil=>rfl
 | _,_,_,.cons r t,.cons r' t'=>by rw[r.inj r',Vals.inj t t']
section
variable{X:Cx}{pins:List (Addr × Obj)}{σ:St}{H:Hp}{s:Shared}{a:Addr}{xs ys:List V}
theorem SqL.of{K:PySem.W.Frag}(h:H a=some (.lst xs)):SqL K H a xs:=.inl (.inl h)
theorem SqT.of{K:PySem.W.Frag}(h:H a=some (.tup xs)):SqT K H a xs:=.inl (.inl h)
theorem Inv.list(I:Inv X pins σ H s)(h:SqL X.K H a xs):∃ its:List Value,Vals xs its/\PlainL s.heap a its.toArray/\xs.length<=sizeLine:=by
 rcases h with h | ⟨o,its,n,hk,hc,hd,hs,hz,r⟩
 ·obtain⟨z,its,n,r,e⟩:=h.ok I.hok
  exact⟨its,r,⟨_,n,e,rfl,rfl,rfl⟩,z⟩
 ·refine⟨its.toList,r,⟨o,n,I.kIn a o hk,hc,hd,by simpa using hs⟩,?_⟩
  have e:=r.length
  simp only [ζζD]at e
  omega
theorem Inv.tuple(I:Inv X pins σ H s)(h:SqT X.K H a xs):∃ its:List Value,Vals xs its/\IsTup s.heap a its.toArray/\xs.length<=sizeLine:=by
 rcases h with h | ⟨o,its,n,hk,hc,hs,hz,r⟩
 ·obtain⟨z,its,r,p⟩:=h.ok I.hok
  exact⟨its,r,p,z⟩
 ·refine⟨its.toList,r,⟨o,I.kIn a o hk,hc,n,by simpa using hs⟩,?_⟩
  have e:=r.length
  simp only [ζζD]at e
  omega
theorem Inv.list_inj(I:Inv X pins σ H s)(h:SqL X.K H a xs)(h':SqL X.K H a ys):xs=ys:=by
 obtain⟨its,r,⟨o,n,e,_,_,d⟩,_⟩:=I.list h
 obtain⟨its',r',⟨o',n',e',_,_,d'⟩,_⟩:=I.list h'
 rw[e]at e';cases e'
 rw[d]at d'
 injection d' with d1 _
 have:its=its':=by simpa using ζζ0l Array.toList d1
 subst this
 exact r.inj r'
theorem Inv.tuple_inj(I:Inv X pins σ H s)(h:SqT X.K H a xs)(h':SqT X.K H a ys):xs=ys:=by
 obtain⟨its,r,⟨o,e,_,n,d⟩,_⟩:=I.tuple h
 obtain⟨its',r',⟨o',e',_,n',d'⟩,_⟩:=I.tuple h'
 rw[e]at e';cases e'
 rw[d]at d'
 injection d' with d1 _
 have:its=its':=by simpa using ζζ0l Array.toList d1
 subst this
 exact r.inj r'
end
abbrev Cx.wish(X:Cx)(E:Value->Shared->Prop):Cx:={ X with xe:=E }
abbrev Cx.nox(X:Cx):Cx:=X.wish fun _ _=>False
theorem Cx.Ok.wish{X:Cx}(ok:X.Ok)(E:Value->Shared->Prop):(X.wish E).Ok :=
 ⟨ok.mod,ok.kind,ok.glob,ok.blt,ok.above,ok.inj,ok.has,ok.cab,ok.hd,ok.frames,ok.stk,ok.exf,ok.bs,ok.bsz,ok.noex,ok.exfs,ok.funs,ok.frf⟩
theorem Cx.Ok.unwish{X:Cx}{E:Value->Shared->Prop}(ok:(X.wish E).Ok):X.Ok :=
 ⟨ok.mod,ok.kind,ok.glob,ok.blt,ok.above,ok.inj,ok.has,ok.cab,ok.hd,ok.frames,ok.stk,ok.exf,ok.bs,ok.bsz,ok.noex,ok.exfs,ok.funs,ok.frf⟩
section
variable{X:Cx}{pins:List (Addr × Obj)}{σ:St}{H:Hp}{s:Shared}{E:Value->Shared->Prop}
theorem Inv.wish(I:Inv X pins σ H s)(E:Value->Shared->Prop):Inv (X.wish E) pins σ H s:=⟨I.ok.wish E,I.os,I.bare,I.base,I.loc,I.cell,I.free,I.freeC,I.pin,I.hok,I.len⟩
theorem Inv.unwish(I:Inv (X.wish E) pins σ H s):Inv X pins σ H s:=⟨I.ok.unwish,I.os,I.bare,I.base,I.loc,I.cell,I.free,I.freeC,I.pin,I.hok,I.len⟩
theorem SP.unwish{D:Ends}{f:Flow}{s':Shared}(h:SP (X.wish E) pins D f s'):SP X pins D f s':=by
 cases f with
 | next=>obtain⟨σ',H',I,q⟩:=h;exact⟨σ',H',I.unwish,q⟩
 | brk=>obtain⟨σ',H',I,q⟩:=h;exact⟨σ',H',I.unwish,q⟩
 | cont=>obtain⟨σ',H',I,q⟩:=h;exact⟨σ',H',I.unwish,q⟩
 | ret u=>obtain⟨v,σ',H',I,r,q⟩:=h;exact⟨v,σ',H',I.unwish,r,q⟩
theorem PSs.nox{st:List Stmt}{t:TS}(h:PSs X.nox st t):PSs X st t:=fun pins s σ H D I hw =>
 ζζ0I (h pins s σ H D (I.wish _) hw) (fun _ _ q=>q.unwish) fun _ _ z=>False.elim z
end
section
variable{X:Cx}{st:Stmt}{rest:List Stmt}{t u:TS}{e:Expr}{te:TE}{pos:Pos}
def ζy12:TS:=fun D σ H=>D.nx σ H
def tSeq(t u:TS):TS:=fun D σ H=>t { D with nx:=u D } σ H
theorem ζo:PSs X [] ζy12:=fun _ _ σ H _ I h=>ζζ2l ⟨σ,H,I,h⟩
theorem ζ2(h1:PS X st t)(h2:PSs X rest u):PSs X (st :: rest) (tSeq t u):=by
 intro pins s σ H D I h
 refine wpAny_execs_cons (thn (h1 pins s σ H { D with nx:=u D } I h) fun f s1 q=>?_)
 cases f with
 | next =>
  obtain⟨σ',H',I',q⟩:=q
  exact h2 pins s1 σ' H' D I' q
 | ret v=>exact q
 | brk=>exact q
 | cont=>exact q
theorem ζ7(h1:PS X st t):PSs X [st] t:=by
 intro pins s σ H D I h
 refine wpAny_execs_cons (thn (h1 pins s σ H D I h) fun f s1 q=>?_)
 cases f with
 | next=>exact ζζ2l q
 | ret v=>exact q
 | brk=>exact q
 | cont=>exact q
theorem Inv.quiet{pins:List (Addr × Obj)}{σ:St}{H:Hp}{s:Shared}(I:Inv X pins σ H s):interactive X.env=false:=by simp[interactive,I.ok.kind]
def ζm12(te:TE):TS:=fun D σ H=>te σ H fun _ H1=>D.nx σ H1
theorem ζC(he:PE X e te)(hs:swapsWith e none pos.line X.env=pure false:=by rfl):PS X (.Expr e pos) (ζm12 te):=by
 intro pins s σ H D I h
 exact wpAny_Expr_any (thn (he pins s σ H _ I h) fun v s1 ⟨x,H1,I1,r1,q1⟩=>⟨σ,H1,I1,q1⟩) I.quiet hs
def tRet(te:TE):TS:=fun D σ H=>te σ H D.rt
theorem ζl(he:PE X e te):PS X (.Return (some e) pos) (tRet te):=by
 intro pins s σ H D I h
 exact wpAny_Return_some (thn (he pins s σ H _ I h) fun v s1 ⟨x,H1,I1,r1,q1⟩=>⟨x,σ,H1,I1,r1,q1⟩)
def tIfS(c:TT)(t u:TS):TS:=fun D σ H=>c σ H fun b H1=>if b=true then t D σ H1 else u D σ H1
theorem ζh1{c:Expr}{a b:List Stmt}{tc:TT}(hc:PT X c tc)(ha:PSs X a t)(hb:PSs X b u):PS X (.If c a b pos) (tIfS tc t u):=by
 intro pins s σ H D I h
 refine wpAny_If (thn (hc pins s σ H _ I h) fun d s1 ⟨H1,I1,q1⟩=>?_)
 cases d with
 | true=>exact ha pins s1 σ H1 D I1 q1
 | false=>exact hb pins s1 σ H1 D I1 q1
def ζv11:TS:=fun _ _ _=>False
theorem ζ11:PS X st ζv11:=fun _ _ _ _ _ _ h=>h.elim
end
abbrev TG:=V->St->Hp->(St->Hp->Prop)->Prop
abbrev TGs:=List V->St->Hp->(St->Hp->Prop)->Prop
def PG(X:Cx)(target:Expr)(t:TG):Prop :=
 ∀(pins:List (Addr × Obj)) (s:Shared) (σ:St) (H:Hp) (v:V) (u:Value) (Q:St->Hp->Prop),Inv X pins σ H s->RelV v u->t v σ H Q ->
  wpAny (model X.prog X.w) X.A (assign target X.env u) (fun _ s'=>∃ σ' H',Inv X pins σ' H' s'/\Q σ' H') X.xe s
def PGs(X:Cx)(ts:List Expr)(t:TGs):Prop :=
 ∀(pins:List (Addr × Obj)) (s:Shared) (σ:St) (H:Hp) (vs:List V) (us:List Value) (Q:St->Hp->Prop),Inv X pins σ H s->Vals vs us->t vs σ H Q ->
  wpAny (model X.prog X.w) X.A (assignInOrder ((assignEach ts X.env).map (·.2)) us) (fun _ s'=>∃ σ' H',Inv X pins σ' H' s'/\Q σ' H') X.xe s
abbrev TSet:=V->V->V->Hp->(Hp->Prop)->Prop
def PSet(X:Cx)(t:TSet):Prop :=
 ∀(pins:List (Addr × Obj)) (s:Shared) (σ:St) (H:Hp) (o i v:V) (ov iv u:Value) (Q:Hp->Prop),Inv X pins σ H s->RelV o ov->RelV i iv->RelV v u->t o i v H Q ->
  wpAny (model X.prog X.w) X.A (setItem ov iv u) (fun _ s'=>∃ H',Inv X pins σ H' s'/\Q H') X.xe s
section
variable{X:Cx}{pos:Pos}
def ζd8(i:Nat):TG:=fun v σ H Q=>Q (σ.set i (some v)) H
theorem ζe{i:Nat}{x:Str}(hN:X.N.Nodup)(hi:X.N[i]?=some x)(hx:Loc X.env.scope x)(hf:X.fn x=true\/X.env.scope.names.lookup x=some .local:=by first | exact .inl rfl | exact .inr rfl | assumption):PG X (.Name x pos) (ζd8 i):=by
 intro pins s σ H v u Q I r h
 exact wpAny_assign_Name (ζL3 I hN hi hx r (fun s' I'=>⟨_,H,I',h⟩) hf)
def gNil:TGs:=fun vs σ H Q=>vs=[]/\Q σ H
def ζs12(t:TG)(u:TGs):TGs:=fun vs σ H Q=>∃ v r,vs=v :: r/\t v σ H fun σ' H'=>u r σ' H' Q
theorem ζi1:PGs X [] gNil:=by
 intro pins s σ H vs us Q I r h
 obtain⟨e,h⟩:=h
 subst e
 cases r
 exact assignInOrder_nil ⟨σ,H,I,h⟩
theorem ζt{e:Expr}{es:List Expr}{t:TG}{u:TGs}(h1:PG X e t)(h2:PGs X es u)
  (hs:(assignEach (e :: es) X.env).map (·.2)=assign e X.env :: (assignEach es X.env).map (·.2):=by rfl):PGs X (e :: es) (ζs12 t u):=by
 intro pins s σ H vs us Q I r h
 obtain⟨v,vr,e1,h⟩:=h
 subst e1
 cases r with
 | cons r rr =>
  rw[hs]
  refine assignInOrder_cons (thn (h1 pins s σ H _ _ _ I r h) fun _ s1 ⟨σ1,H1,I1,q1⟩=>?_)
  exact h2 pins s1 σ1 H1 _ _ Q I1 rr q1
def gTup(K:PySem.W.Frag)(n:Nat)(t:TGs):TG:=fun v σ H Q=>∃ a xs,v=.ref a/\SqT K H a xs/\xs.length=n/\t xs σ H Q
theorem ζR11{es:List Expr}{k:Nat}{t:TGs}{n:Nat}(hc:X.calm=true)(h:PGs X es t)
  (hn:(assignEach es X.env).length=n:=by rfl) (hst:(assignEach es X.env).findIdx? (·.1)=none:=by rfl):PG X (.Tuple es k pos) (gTup X.K n t):=by
 intro pins s σ H v u Q I r hw
 obtain⟨a,xs,e1,hq,hl,hw⟩:=hw
 subst e1
 cases r
 obtain⟨its,rv,ht,hz⟩:=I.tuple hq
 refine assign_Tuple_tuple (I.ok.hd hc) ht (by simp[hn,<- hl,rv.length]) hst fun h' hx=>?_
 have I1:Inv X pins σ H { s with heap:=h' }:=I.kept (t':=s.toks) fun b o e=>hx b o (ζζr (ζζn e)) e
 exact h pins _ σ H xs _ Q I1 (by simpa using rv) hw
def gSub(to ti:TE)(t:TSet):TG:=fun v σ H Q=>to σ H fun o H1=>ti σ H1 fun i H2=>t o i v H2 fun H3=>Q σ H3
theorem ζ57{o i:Expr}{to ti:TE}{t:TSet}(ho:PE X o to)(hi:PE X i ti)(hs:PSet X t)
  (ha:∀ v,assign (.Subscript o i pos) X.env v=(do
   let ov <- holding [v] (eval o X.env)
   let iv <- holding [v,ov] (eval i X.env)
   standAt pos
   holding [v,ov,iv] (setItem ov iv v)
   release [v,ov,iv] []):=by intro _;rfl):PG X (.Subscript o i pos) (gSub to ti t):=by
 intro pins s σ H v u Q I r h
 rw[ha]
 refine ζζ2 (ζζ0x (thn (ho pins s σ H _ I h) fun ov s1 ⟨x,H1,I1,r1,q1⟩=>?_))
 refine ζζ2 (ζζ0x (thn (hi pins s1 σ H1 _ I1 q1) fun iv s2 ⟨y,H2,I2,r2,q2⟩=>?_))
 refine ζζ2 (wpAny_standAt (ζζ2 (ζζ0x (thn (hs pins s2 σ H2 x y v ov iv u _ I2 r1 r2 r q2) fun _ s3 ⟨H3,I3,q3⟩=>?_))))
 exact wpAny_release ⟨σ,H3,I3,q3⟩
def tAsg(te:TE)(g:TG):TS:=fun D σ H=>te σ H fun x H1=>g x σ H1 D.nx
theorem ζH2{tg e:Expr}{te:TE}{g:TG}(he:PE X e te)(hg:PG X tg g)(hs:swapsWithSole [tg] e pos.line X.env=pure false:=by rfl)(hw:swappedStores [tg] e X.env=pure none:=by rfl)
  (h1:(assignEach [tg] X.env).map (·.2)=[assign tg X.env]:=by rfl):PS X (.Assign [tg] e pos) (tAsg te g):=by
 intro pins s σ H D I h
 refine wpAny_Assign_stores (thn (he pins s σ H _ I h) fun v s1 ⟨x,H1,I1,r1,q1⟩=>?_) hs hw
 rw[h1]
 exact thn (hg pins s1 σ H1 x v _ I1 r1 q1) fun _ s2 q=>q
theorem ζh{i:Nat}{x:Str}{e:Expr}{te:TE}{pos':Pos}(hN:X.N.Nodup)(hi:X.N[i]?=some x)(hx:Loc X.env.scope x)(he:PE X e te)(hs:swapsWith e (some (.Name x pos')) pos.line X.env=pure false:=by rfl)(hf:X.fn x=true\/X.env.scope.names.lookup x=some .local:=by first | exact .inl rfl | exact .inr rfl | assumption) :
  PS X (.Assign [.Name x pos'] e pos) (tAsg te (ζd8 i)):=by
 intro pins s σ H D I h
 refine wpAny_Assign_Name (thn (he pins s σ H _ I h) fun v s1 ⟨y,H1,I1,r1,q1⟩=>?_) hs
 exact ζL3 I1 hN hi hx r1 (fun s2 I2=>⟨_,H1,I2,q1⟩) hf
def ζt11(c:TT)(tb:TS):TS:=fun D σ H=>∃ W:Nat->St->Hp->Prop,(∃ m,W m σ H)/\∀ m σ H,W m σ H ->
 c σ H fun b H1=>if b=true then ∃ N:St->Hp->Prop,(∀ σ' H',N σ' H'->∃ m',m'<m/\W m' σ' H')/\tb { D with nx:=N,ct:=N,bk:=D.nx } σ H1 else D.nx σ H1
theorem ζS8{c:Expr}{body:List Stmt}{tc:TT}{tb:TS}(hp:PassesOwn (model X.prog X.w) X.A X.env X.xe)(hc:PT X c tc)(hb:PSs X body tb):PS X (.While c body [] pos) (ζt11 tc tb):=by
 intro pins s σ H D I h
 obtain⟨W,⟨m0,w0⟩,turn⟩:=h
 refine wpAny_While (codeAny_whileLoop (fun n s'=>∃ σ' H',Inv X pins σ' H' s'/\W n σ' H') ?_ m0 ⟨σ,H,I,w0⟩)
 rintro n s1 ⟨σ1,H1,I1,w1⟩
 refine ζζ1b hp (thn (hc pins s1 σ1 H1 _ I1 (turn n σ1 H1 w1)) fun b s2 ⟨H2,I2,q2⟩=>?_)
 cases b with
 | true =>
  obtain⟨N,hN,q2⟩:=q2
  rw[if_pos rfl]
  refine ζζ1b hp (thn (hb pins s2 σ1 H2 _ I2 q2) fun f s3 q3=>?_)
  cases f with
  | next =>
   obtain⟨σ3,H3,I3,n3⟩:=q3
   obtain⟨m',hm,w3⟩:=hN σ3 H3 n3
   exact⟨m',hm,σ3,H3,I3,w3⟩
  | cont =>
   obtain⟨σ3,H3,I3,n3⟩:=q3
   obtain⟨m',hm,w3⟩:=hN σ3 H3 n3
   exact⟨m',hm,σ3,H3,I3,w3⟩
  | brk=>exact q3
  | ret v=>exact q3
 | false =>
  rw[if_neg ζζu]
  exact ζζ2l ⟨σ1,H2,I2,q2⟩
end
structure It where
 go:Nat->Hp->Prop
 yld:Nat->Hp->V->Hp->Prop
 stop:Nat->Hp->Prop
def FpOk(X:Cx)(pins:List (Addr × Obj))(H:Hp)(b:Addr):Prop :=
 H b=none/\b≠X.env.locals/\b∉X.fs/\(b∈X.ex\/X.s₀.heap.objs.size<=b)/\(∀ x c,X.env.cells.lookup x=some c->c≠b)/\∀ p∈X.pn++pins,p.1≠b
theorem Inv.fpOk{X:Cx}{pins:List (Addr × Obj)}{σ:St}{H H':Hp}{s:Shared}{b:Addr}(I:Inv X pins σ H s)(hb:s.heap.objs.size<=b)(hn:H' b=none):FpOk X pins H' b:=by
 refine⟨hn,ζζ0H (ζζt I.lt hb),I.nofs hb,.inr (ζζO I.sz hb),fun x c e z=>?_,fun p hp z=>?_⟩
 ·obtain⟨v,q⟩:=I.cell x c e
  exact absurd (ζζt q.lt (by rw[z];exact hb)) (ζζ0M _)
 ·exact absurd (ζζt (ζζn (I.pin p hp).1) (by rw[z];exact hb)) (ζζ0M _)
structure Turn (P:Program) (w:World) (K:PySem.W.Frag) (tg:Expr) (J:It) (fp:List Addr) (it:Addr) (tn:Nat->Heap->Prop):Prop where
 mem:it∈fp
 obj:∀ i h,tn i h->∀ b∈fp,∃ o,h.get? b=some o/\∀ v,o.data≠.cell v
 keep:∀ i h h',tn i h->(∀ b∈fp,∀ o,h.get? b=some o->h'.get? b=some o)->tn i h'
 item:∀(X:Cx),X.prog=P->X.w=w->X.K=K->X.calm=true->∀(i:Nat) (pins:List (Addr × Obj)) (s:Shared) (σ:St) (H:Hp) (E:Value->Shared->Prop),Inv X pins σ H s->(∀ b∈fp,FpOk X pins H b)->tn i s.heap->J.go i H ->
  wpAny (model P w) X.A (pyNext (.ref it)) (fun r s1=>∃ u,r=some u /\
   wpAny (model P w) X.A (letOwnedTupleGo tg (.ref it) u) (fun _ s2=>∃ x H',Inv X pins σ H' s2/\RelV x u/\J.yld i H x H'/\tn (i+1) s2.heap/\∀ b∈fp,H' b=none) E s1) E s
 done:∀(X:Cx),X.prog=P->X.w=w->X.K=K->X.calm=true->∀(i:Nat) (pins:List (Addr × Obj)) (s:Shared) (σ:St) (H:Hp) (E:Value->Shared->Prop),Inv X pins σ H s->(∀ b∈fp,FpOk X pins H b)->tn i s.heap->J.stop i H ->
  wpAny (model P w) X.A (pyNext (.ref it)) (fun r s1=>r=none/\Inv X pins σ H s1) E s
 self:∀(A:Around) (i:Nat) (s:Shared) (Q:Value->Shared->Prop) (E:Value->Shared->Prop),tn i s.heap->Q (.ref it) s->wpAny (model P w) A (pyIter (.ref it)) Q E s
abbrev TI:=St->Hp->(It->Hp->Prop)->Prop
def PIE(X:Cx)(pins:List (Addr × Obj))(σ:St)(tg:Expr)(R:It->Hp->Prop)(itv:Value)(s2:Shared):Prop :=
 ∃(it:Addr) (fp:List Addr) (tn:Nat->Heap->Prop) (J:It) (H':Hp),itv=.ref it/\Inv X pins σ H' s2/\Turn X.prog X.w X.K tg J fp it tn/\tn 0 s2.heap/\(∀ b∈fp,FpOk X pins H' b)/\R J H'
def PI(X:Cx)(tg iter:Expr)(wi:TI):Prop :=
 ∀(pins:List (Addr × Obj)) (s:Shared) (σ:St) (H:Hp) (R:It->Hp->Prop),Inv X pins σ H s->wi σ H R ->
  wpAny (model X.prog X.w) X.A (eval iter X.env) (fun v s1=>wpAny (model X.prog X.w) X.A (pyIter v) (PIE X pins σ tg R) X.xe s1) X.xe s
theorem ζj11{M:Model}{A:Around}{E:Value->Shared->Prop}{s:Shared}{tg:Expr}{it:Addr}{u:Value}{o:Obj}{n:String}{vs:Array Value}{Q:Unit->Shared->Prop}(ho:s.heap.get? it=some o)(hc:o.cls=.type n)(hd:o.data=.fields vs)
  (hn:["enumerate","zip","dict_itemiterator","dict_reverseitemiterator","odict_iterator","itertools.zip_longest","itertools.pairwise"].contains n=false) (hQ:Q () s):wpAny M A (letOwnedTupleGo tg (.ref it) u) Q E s:=by
 unfold letOwnedTupleGo
 cases tg <;> first
  | exact ζζl hQ
  | (cases u <;> first
    | exact ζζl hQ
    | (refine ζζ2 (ζζ2X ho ?_)
       rw[hc,hd]
       show wpAny M A (if (["enumerate","zip","dict_itemiterator","dict_reverseitemiterator","odict_iterator","itertools.zip_longest","itertools.pairwise"].contains n && vs[0]? == some (rawInt _))=true then _ else _) Q E s
       rw[if_neg (by intro h;rw[hn,Bool.false_and]at h;cases h)]
       exact ζζl hQ))
def Itl(K:PySem.W.Frag)(a:Addr):It :=
 ⟨fun i H=>∃ xs x,SqL K H a xs/\xs[i]?=some x,fun i H x H'=>H'=H/\∀ xs,SqL K H a xs->xs[i]?=some x,fun i H=>∃ xs,SqL K H a xs/\xs.length<=i⟩
def Itt(K:PySem.W.Frag)(a:Addr):It :=
 ⟨fun i H=>∃ xs x,SqT K H a xs/\xs[i]?=some x,fun i H x H'=>H'=H/\∀ xs,SqT K H a xs->xs[i]?=some x,fun i H=>∃ xs,SqT K H a xs/\xs.length<=i⟩
def Itr(lo:Int)(n:Nat):It:=⟨fun i _=>i<n,fun i H x H'=>H'=H/\x=.int (lo+i),fun i _=>n<=i⟩
theorem ζh4{P:Program}{w:World}{K:PySem.W.Frag}{tg:Expr}(a it:Addr):Turn P w K tg (Itl K a) [it] it (fun i h=>h.IsListIter it a i) where
 mem:=by simp
 obj:=fun i h st b hb=>by
  have e:b=it:=by simpa using hb
  subst e
  obtain⟨o,e,c,d⟩:=st
  exact⟨o,e,fun v z=>by rw[d]at z;cases z⟩
 keep:=fun i h h' st k=>st.at fun o e=>k it (by simp) o e
 item:=by
  intro X hP hw hK hc i pins s σ H E I hf st hg
  subst hP hw hK
  obtain⟨xs,x,hq,hx⟩:=hg
  obtain⟨its,rv,p,hz⟩:=I.list hq
  obtain⟨u,hu,ru⟩:=rv.get hx
  obtain⟨f0,f1,f2,f3,f4,f5⟩:=hf it (by simp)
  refine wpAny_pyNext_list_item st p.isList (x:=u) (by simpa using hu) fun h' st' sb=>?_
  have I1:Inv X pins σ H { s with heap:=h' }:=I.turned (t':=s.toks) (fun b o hb e=>(sb.2 b hb).trans e) f0 f1 f3 f4 f5
  obtain⟨o,e,c,d⟩:=id st'
  exact⟨u,rfl,ζj11 (s:={ s with heap:=h' }) e c d (by decide) ⟨x,H,I1,ru,⟨rfl,fun ys hy=>by rw[I.list_inj hy hq];exact hx⟩,st',fun b hb=>(hf b hb).1⟩⟩
 done:=by
  intro X hP hw hK hc i pins s σ H E I hf st hg
  subst hP hw hK
  obtain⟨xs,hq,hx⟩:=hg
  obtain⟨its,rv,p,hz⟩:=I.list hq
  obtain⟨f0,f1,f2,f3,f4,f5⟩:=hf it (by simp)
  have hl:=rv.length
  exact wpAny_pyNext_list_end (I.ok.hd hc) st p.isList (by simp;omega) fun h' eb=>⟨rfl,I.turned (t':=s.toks) (fun b o hb e=>eb b o hb e) f0 f1 f3 f4 f5⟩
 self:=fun _ _ _ _ _ st h=>wpAny_pyIter_listiter st h
theorem ζ53{P:Program}{w:World}{K:PySem.W.Frag}{tg:Expr}(a it:Addr):Turn P w K tg (Itt K a) [it] it (fun i h=>h.IsTupleIter it a i) where
 mem:=by simp
 obj:=fun i h st b hb=>by
  have e:b=it:=by simpa using hb
  subst e
  obtain⟨o,e,c,d⟩:=st
  exact⟨o,e,fun v z=>by rw[d]at z;cases z⟩
 keep:=fun i h h' st k=>st.at fun o e=>k it (by simp) o e
 item:=by
  intro X hP hw hK hc i pins s σ H E I hf st hg
  subst hP hw hK
  obtain⟨xs,x,hq,hx⟩:=hg
  obtain⟨its,rv,p,hz⟩:=I.tuple hq
  obtain⟨u,hu,ru⟩:=rv.get hx
  obtain⟨f0,f1,f2,f3,f4,f5⟩:=hf it (by simp)
  refine wpAny_pyNext_tuple_item st (show s.heap.IsTuple a its.toArray from p) (x:=u) (by simpa using hu) fun h' st' sb=>?_
  have I1:Inv X pins σ H { s with heap:=h' }:=I.turned (t':=s.toks) (fun b o hb e=>(sb.2 b hb).trans e) f0 f1 f3 f4 f5
  obtain⟨o,e,c,d⟩:=id st'
  exact⟨u,rfl,ζj11 (s:={ s with heap:=h' }) e c d (by decide) ⟨x,H,I1,ru,⟨rfl,fun ys hy=>by rw[I.tuple_inj hy hq];exact hx⟩,st',fun b hb=>(hf b hb).1⟩⟩
 done:=by
  intro X hP hw hK hc i pins s σ H E I hf st hg
  subst hP hw hK
  obtain⟨xs,hq,hx⟩:=hg
  obtain⟨its,rv,p,hz⟩:=I.tuple hq
  obtain⟨f0,f1,f2,f3,f4,f5⟩:=hf it (by simp)
  have hl:=rv.length
  exact wpAny_pyNext_tuple_end (I.ok.hd hc) st (show s.heap.IsTuple a its.toArray from p) (by simp;omega) fun h' eb=>⟨rfl,I.turned (t':=s.toks) (fun b o hb e=>eb b o hb e) f0 f1 f3 f4 f5⟩
 self:=fun _ _ _ _ _ st h=>wpAny_pyIter_tupleiter st h
theorem ζy5{P:Program}{w:World}{K:PySem.W.Frag}{tg:Expr}(it:Addr)(lo:Int)(n:Nat):Turn P w K tg (Itr lo n) [it] it (fun i h=>IsRangeIter h it (lo+(i:Nat) * 1) ((n:Int) - (i:Nat)) 1) where
 mem:=by simp
 obj:=fun i h st b hb=>by
  have e:b=it:=by simpa using hb
  subst e
  exact⟨_,st,fun v z=>by
   have z':Data.fields _=Data.cell v:=z
   cases z'⟩
 keep:=fun i h h' st k=>k it (by simp) _ st
 item:=by
  intro X hP hw hK hc i pins s σ H E I hf st hg
  subst hP hw hK
  obtain⟨f0,f1,f2,f3,f4,f5⟩:=hf it (by simp)
  have W:=Walks.range (prog:=X.prog) (w:=X.w) (I.ok.hd hc) it lo 1 n
  refine W.item i s _ _ hg st fun v h' tk hv st' kk=>?_
  obtain⟨t,rfl⟩:=hv
  have I1:Inv X pins σ H { s with heap:=h',toks:=tk }:=I.turned (fun b o hb e=>kk b o (by simpa using hb) e) f0 f1 f3 f4 f5
  refine⟨_,rfl,ζj11 (s:={ s with heap:=h',toks:=tk }) (n:="range_iterator") st' rfl rfl (by decide) ⟨.int (lo+i),H,I1,⟨t,?_⟩,⟨rfl,rfl⟩,st',fun b hb=>(hf b hb).1⟩⟩
  rw[Int.mul_one]
 done:=by
  intro X hP hw hK hc i pins s σ H E I hf st hg
  subst hP hw hK
  obtain⟨f0,f1,f2,f3,f4,f5⟩:=hf it (by simp)
  exact wpAny_pyNext_range_end (I.ok.hd hc) st (by have:n<=i:=hg;omega) fun h' eb=>⟨rfl,I.turned (t':=s.toks) (fun b o hb e=>eb b o hb e) f0 f1 f3 f4 f5⟩
 self:=fun _ _ _ _ _ st h=>wpAny_pyIter_rangeiter st h
section
variable{X:Cx}{tg:Expr}
def ζq12(K:PySem.W.Frag)(tl:TE):TI:=fun σ H R=>tl σ H fun x H1=>∃ a,x=.ref a/\(∃ xs,SqL K H1 a xs)/\R (Itl K a) H1
def iTup(K:PySem.W.Frag)(tl:TE):TI:=fun σ H R=>tl σ H fun x H1=>∃ a,x=.ref a/\(∃ xs,SqT K H1 a xs)/\R (Itt K a) H1
theorem ζj10{l:Expr}{tl:TE}(hl:PE X l tl):PI X tg l (ζq12 X.K tl):=by
 intro pins s σ H R I h
 refine thn (hl pins s σ H _ I h) fun v s1 ⟨x,H1,I1,r1,q1⟩=>?_
 obtain⟨a,e,⟨xs,hq⟩,q⟩:=q1
 subst e
 cases r1
 obtain⟨its,rv,p,hz⟩:=I1.list hq
 refine ζζ1B p.isList ?_
 refine⟨s1.heap.objs.size,[s1.heap.objs.size],_,_,H1,rfl,I1.kept (t':=s1.toks) fun b o e=>ζζ3 _ e,ζh4 a _,⟨_,ζζf _ rfl,rfl,rfl⟩,fun b hb=>?_,q⟩
 have e:b=s1.heap.objs.size:=by simpa using hb
 subst e
 exact I1.fpOk (ζζ5 _) (I1.hok.fresh (ζζ5 _))
theorem ζQ11{l:Expr}{tl:TE}(hl:PE X l tl):PI X tg l (iTup X.K tl):=by
 intro pins s σ H R I h
 refine thn (hl pins s σ H _ I h) fun v s1 ⟨x,H1,I1,r1,q1⟩=>?_
 obtain⟨a,e,⟨xs,hq⟩,q⟩:=q1
 subst e
 cases r1
 obtain⟨its,rv,p,hz⟩:=I1.tuple hq
 refine ζζ1v (show s1.heap.IsTuple a its.toArray from p) ?_
 refine⟨s1.heap.objs.size,[s1.heap.objs.size],_,_,H1,rfl,I1.kept (t':=s1.toks) fun b o e=>ζζ3 _ e,ζ53 a _,⟨_,ζζf _ rfl,rfl,rfl⟩,fun b hb=>?_,q⟩
 have e:b=s1.heap.objs.size:=by simpa using hb
 subst e
 exact I1.fpOk (ζζ5 _) (I1.hok.fresh (ζζ5 _))
theorem ζM5{pins:List (Addr × Obj)}{σ:St}{H:Hp}{s:Shared}{R:It->Hp->Prop}{E:Value->Shared->Prop}{lo hi:Int}{t u v:Tok}{tk:Nat}(I:Inv X pins σ H s)(h1:-(2 ^ 62)<=lo)(h2:lo<2 ^ 62)(h3:-(2 ^ 62)<=hi)(h4:hi<2 ^ 62)
  (q:R (Itr lo (hi - lo).toNat) H):wpAny (model X.prog X.w) X.A (pyIter (.ref s.heap.objs.size)) (PIE X pins σ tg R) E { s with heap:=s.heap.push { cls:=.type "range",data:=.fields #[.int lo t,.int hi u,.int 1 v] },toks:=tk }:=by
 refine wpAny_pyIter_range (IsRange.new ..) (small_one h1 h2 h3 h4) ?_
 have I1:Inv X pins σ H { s with heap:=s.heap.push { cls:=.type "range",data:=.fields #[.int lo t,.int hi u,.int 1 v] },toks:=tk }:=I.kept fun b o e=>ζζ3 _ e
 refine⟨(s.heap.push { cls:=.type "range",data:=.fields #[.int lo t,.int hi u,.int 1 v] }).objs.size,[(s.heap.push { cls:=.type "range",data:=.fields #[.int lo t,.int hi u,.int 1 v] }).objs.size],_,_,H,rfl,
  I1.kept (t':=tk) fun b o e=>ζζ3 _ e,ζy5 _ lo (hi - lo).toNat,?_,fun b hb=>?_,q⟩
 ·have e1:lo+((0:Nat):Int) * 1=lo:=by simp
  have e2:(((hi - lo).toNat:Nat):Int) - ((0:Nat):Int)=Builtin.Range.rangeSize lo hi 1:=by rw[rangeSize_one];split <;> omega
  show IsRangeIter _ _ (lo+((0:Nat):Int) * 1) ((((hi - lo).toNat:Nat):Int) - ((0:Nat):Int)) 1
  rw[e1,e2]
  exact ζζf _ rfl
 ·have e:b=(s.heap.push { cls:=.type "range",data:=.fields #[.int lo t,.int hi u,.int 1 v] }).objs.size:=by simpa using hb
  subst e
  exact I1.fpOk (ζζ5 _) (I1.hok.fresh (ζζ5 _))
def ζQ12(ta:TA):TI:=fun σ H R=>ta σ H fun vs H1=>∃ j:Int,vs=[.int j]/\-(2 ^ 62)<=j/\j<2 ^ 62/\R (Itr 0 j.toNat) H1
def ζP12(ta:TA):TI:=fun σ H R=>ta σ H fun vs H1=>∃ i j:Int,vs=[.int i,.int j]/\(-(2 ^ 62)<=i/\i<2 ^ 62/\-(2 ^ 62)<=j/\j<2 ^ 62)/\R (Itr i (j - i).toNat) H1
theorem ζH {a:Expr} {ta:TA} {p pos:Pos} (hg:Gl X "range") (hm:X.mg "range"=none) (ha:PA X [a] ta) (hs:starEach [a] X.env=[(false,eval a X.env)]:=by rfl):PI X tg (.Call (.Name "range" p) [a] [] pos) (ζQ12 ta):=by
 intro pins s σ H R I h
 refine Call_ (ζs2 I hg hm boot_range (ζζ0e (thn (ha pos pins s σ H _ I h) fun us s1 ⟨vs,H1,I1,r1,q1⟩=>?_) hs rfl))
 obtain⟨j,e,q1,q2,q⟩:=q1
 subst e
 cases r1 with
 | cons r rr =>
  cases rr
  obtain⟨t,rfl⟩:=r
  exact call_range_1 (ζM5 I1 (by omega) (by omega) q1 q2 (by simpa using q))
theorem ζ47 {a b:Expr} {ta:TA} {p pos:Pos} (hg:Gl X "range") (hm:X.mg "range"=none) (ha:PA X [a,b] ta) (hs:starEach [a,b] X.env=[(false,eval a X.env),(false,eval b X.env)]:=by rfl) (hs2:starEach [b] X.env=[(false,eval b X.env)]:=by rfl) :
  PI X tg (.Call (.Name "range" p) [a,b] [] pos) (ζP12 ta):=by
 intro pins s σ H R I h
 refine Call_ (ζs2 I hg hm boot_range (ζζ0e (thn (ha pos pins s σ H _ I h) fun us s1 ⟨vs,H1,I1,r1,q1⟩=>?_) (by rw[hs,hs2]) (by rw[hs2];rfl)))
 obtain⟨i,j,e,⟨q1,q2,q3,q4⟩,q⟩:=q1
 subst e
 cases r1 with
 | cons r rr =>
  cases rr with
  | cons r' rr =>
   cases rr
   obtain⟨t,rfl⟩:=r
   obtain⟨t',rfl⟩:=r'
   exact call_range_2 (ζM5 I1 q1 q2 q3 q4 q)
def tFor(wi:TI)(g:TG)(tb:TS):TS:=fun D σ H=>wi σ H fun J H1=>∃ W:Nat->Nat->St->Hp->Prop,(∃ m,W 0 m σ H1)/\∀ i m σ H,W i m σ H ->
 (J.stop i H/\D.nx σ H)\/(J.go i H/\∃ N:St->Hp->Prop,(∀ σ' H',N σ' H'->∃ m',m'<m/\W (i+1) m' σ' H')/\∀ x H',J.yld i H x H'->g x σ H' fun σ2 H2=>tb { D with nx:=N,ct:=N,bk:=D.nx } σ2 H2)
def ζK2(fp:List Addr)(h:Heap):List (Addr × Obj):=fp.filterMap fun b=>(h.get? b).map fun o=>(b,o)
theorem ζD1{fp:List Addr}{h:Heap}{b:Addr}{o:Obj}(hb:b∈fp)(e:h.get? b=some o):(b,o)∈ζK2 fp h:=List.mem_filterMap.mpr ⟨b,hb,by rw[e];rfl⟩
theorem ζz4{fp:List Addr}{h:Heap}{p:Addr × Obj}(hp:p∈ζK2 fp h):p.1∈fp/\h.get? p.1=some p.2:=by
 obtain⟨b,hb,e⟩:=List.mem_filterMap.mp hp
 cases q:h.get? b with
 | none=>rw[q]at e;cases e
 | some o =>
  rw[q]at e
  have e':(b,o)=p:=ζζ8 e
  subst e'
  exact⟨hb,q⟩
theorem Inv.pinned{pins:List (Addr × Obj)}{σ:St}{H:Hp}{s:Shared}{fp:List Addr}(I:Inv X pins σ H s)(hf:∀ b∈fp,FpOk X pins H b)(ho:∀ b∈fp,∃ o,s.heap.get? b=some o/\∀ v,o.data≠.cell v):Inv X (pins++ζK2 fp s.heap) σ H s :=
 I.pins_of fun p hp=>(ζζ9.mp hp).elim (fun z=>I.pin p (ζζc _ z)) fun z=>by
  obtain⟨hb,e⟩:=ζz4 z
  obtain⟨f0,f1,f2,_⟩:=hf p.1 hb
  obtain⟨o,e',d⟩:=ho p.1 hb
  rw[e]at e';cases e'
  exact⟨e,f0,f1,f2,d⟩
theorem Inv.unpinned{pins pl:List (Addr × Obj)}{σ:St}{H:Hp}{s:Shared}(I:Inv X (pins++pl) σ H s):Inv X pins σ H s:=I.pins_of fun p hp=>I.pin p (ζζc _ (ζζo _ hp))
theorem ζ41{iter:Expr}{body:List Stmt}{wi:TI}{g:TG}{tb:TS}{pos:Pos}(hp:PassesOwn (model X.prog X.w) X.A X.env X.xe)(hc:X.calm=true)(hi:PI X tg iter wi)(hg:PG X tg g)(hb:PSs X body tb)
  (hs:∀ x,foldedSetIterable iter X.env x=pure x:=by intro _;rfl):PS X (.For tg iter body [] pos) (tFor wi g tb):=by
 intro pins s σ H D I h
 refine wpAny_For (thn (hi pins s σ H _ I h) fun v s1 h1=>thn h1 fun itv s2 h2=>?_) hs
 obtain⟨it,fp,tn,J,H2,e,I2,T,st2,f2,W,⟨m0,w0⟩,turn⟩:=h2
 subst e
 have stat:∀ {H':Hp},(∀ b∈fp,H' b=none)->∀ b∈fp,FpOk X pins H' b:=fun hn b hb=>⟨hn b hb,(f2 b hb).2⟩
 refine codeAny_forLoop_any (fun n s'=>∃ i σ' H',Inv X pins σ' H' s'/\tn i s'.heap/\(∀ b∈fp,H' b=none)/\W i n σ' H') ?_ m0 ⟨0,σ,H2,I2,st2,fun b hb=>(f2 b hb).1,w0⟩
 rintro n s3 ⟨i,σ3,H3,I3,st3,fr3,w3⟩
 rcases turn i n σ3 H3 w3 with ⟨stop,qn⟩ | ⟨go,N,hN,step⟩
 ·refine ζζ1b hp (thn (T.done X rfl rfl rfl hc i pins s3 σ3 H3 X.xe I3 (stat fr3) st3 stop) fun r s4 ⟨hr,I4⟩=>?_)
  subst hr
  exact ζζ2l ⟨σ3,H3,I4,qn⟩
 ·refine ζζ1b hp (thn (T.item X rfl rfl rfl hc i pins s3 σ3 H3 X.xe I3 (stat fr3) st3 go) fun r s4 ⟨u,hr,h4⟩=>?_)
  subst hr
  refine ζζ1b hp (thn h4 fun _ s5 ⟨x,H5,I5,r5,y5,st5,fr5⟩=>?_)
  have I5':=I5.pinned (stat fr5) (T.obj _ _ st5)
  refine ζζ1b hp (thn (hg _ s5 σ3 H5 x u _ I5' r5 (step x H5 y5)) fun _ s6 ⟨σ6,H6,I6,q6⟩=>?_)
  refine ζζ1b hp (thn (hb _ s6 σ6 H6 _ I6 q6) fun f s7 q7=>?_)
  have again:∀ {σ7:St} {H7:Hp},Inv X (pins++ζK2 fp s5.heap) σ7 H7 s7->N σ7 H7->∃ m,m<n/\∃ i σ' H',Inv X pins σ' H' s7/\tn i s7.heap/\(∀ b∈fp,H' b=none)/\W i m σ' H':=fun {σ7 H7} I7 n7=>by
   obtain⟨m',hm,w7⟩:=hN σ7 H7 n7
   refine⟨m',hm,i+1,σ7,H7,I7.unpinned,T.keep _ _ _ st5 fun b hb o e=>(I7.pin (b,o) (ζζc _ (ζζc _ (ζD1 hb e)))).1,fun b hb=>?_,w7⟩
   obtain⟨o,e,d⟩:=T.obj _ _ st5 b hb
   exact(I7.pin (b,o) (ζζc _ (ζζc _ (ζD1 hb e)))).2.1
  cases f with
  | next=>obtain⟨σ7,H7,I7,n7⟩:=q7;exact again I7 n7
  | cont=>obtain⟨σ7,H7,I7,n7⟩:=q7;exact again I7 n7
  | brk=>obtain⟨σ7,H7,I7,q7⟩:=q7;exact⟨σ7,H7,I7.unpinned,q7⟩
  | ret v=>obtain⟨x7,σ7,H7,I7,r7,q7⟩:=q7;exact⟨x7,σ7,H7,I7.unpinned,r7,q7⟩
end
theorem ζW2{K:PySem.W.Frag}{a:Addr}{xs:List V}{g:TG}{tb:TS}{D:Ends}{σ:St}{H:Hp}(Pv:Nat->St->Hp->Prop)(h0:Pv 0 σ H)(hl:∀ i σ H,i<=xs.length->Pv i σ H->SqL K H a xs)
  (hs:∀ i x σ H,xs[i]?=some x->Pv i σ H->g x σ H fun σ2 H2=>tb { D with nx:=Pv (i+1),ct:=Pv (i+1),bk:=D.nx } σ2 H2) (hd:∀ σ H,Pv xs.length σ H->D.nx σ H) :
  ∃ W:Nat->Nat->St->Hp->Prop,(∃ m,W 0 m σ H)/\∀ i m σ H,W i m σ H ->
   ((Itl K a).stop i H/\D.nx σ H)\/((Itl K a).go i H/\∃ N:St->Hp->Prop,(∀ σ' H',N σ' H'->∃ m',m'<m/\W (i+1) m' σ' H')/\∀ x H',(Itl K a).yld i H x H'->g x σ H' fun σ2 H2=>tb { D with nx:=N,ct:=N,bk:=D.nx } σ2 H2):=by
 refine⟨fun i m σ H=>m=xs.length - i/\i<=xs.length/\Pv i σ H,⟨xs.length,by simp,ζζj _,h0⟩,?_⟩
 rintro i m σ H ⟨rfl,hi,p⟩
 have q:=hl i σ H hi p
 by_cases hlt:i<xs.length
 ·refine .inr ⟨⟨xs,xs[i],q,by simp[hlt]⟩,Pv (i+1),fun σ' H' p'=>⟨xs.length - (i+1),by omega,rfl,hlt,p'⟩,fun x H' y=>?_⟩
  obtain⟨e,y⟩:=y
  subst e
  exact hs i x σ _ (y xs q) p
 ·have e:i=xs.length:=by omega
  subst e
  exact .inl ⟨⟨xs,q,ζζ5 _⟩,hd σ H p⟩
theorem ζu6{K:PySem.W.Frag}{a:Addr}{xs:List V}{g:TG}{tb:TS}{D:Ends}{σ:St}{H:Hp}(Pv:Nat->St->Hp->Prop)(h0:Pv 0 σ H)(hl:∀ i σ H,i<=xs.length->Pv i σ H->SqT K H a xs)
  (hs:∀ i x σ H,xs[i]?=some x->Pv i σ H->g x σ H fun σ2 H2=>tb { D with nx:=Pv (i+1),ct:=Pv (i+1),bk:=D.nx } σ2 H2) (hd:∀ σ H,Pv xs.length σ H->D.nx σ H) :
  ∃ W:Nat->Nat->St->Hp->Prop,(∃ m,W 0 m σ H)/\∀ i m σ H,W i m σ H ->
   ((Itt K a).stop i H/\D.nx σ H)\/((Itt K a).go i H/\∃ N:St->Hp->Prop,(∀ σ' H',N σ' H'->∃ m',m'<m/\W (i+1) m' σ' H')/\∀ x H',(Itt K a).yld i H x H'->g x σ H' fun σ2 H2=>tb { D with nx:=N,ct:=N,bk:=D.nx } σ2 H2):=by
 refine⟨fun i m σ H=>m=xs.length - i/\i<=xs.length/\Pv i σ H,⟨xs.length,by simp,ζζj _,h0⟩,?_⟩
 rintro i m σ H ⟨rfl,hi,p⟩
 have q:=hl i σ H hi p
 by_cases hlt:i<xs.length
 ·refine .inr ⟨⟨xs,xs[i],q,by simp[hlt]⟩,Pv (i+1),fun σ' H' p'=>⟨xs.length - (i+1),by omega,rfl,hlt,p'⟩,fun x H' y=>?_⟩
  obtain⟨e,y⟩:=y
  subst e
  exact hs i x σ _ (y xs q) p
 ·have e:i=xs.length:=by omega
  subst e
  exact .inl ⟨⟨xs,q,ζζ5 _⟩,hd σ H p⟩
theorem ζS{lo:Int}{n:Nat}{g:TG}{tb:TS}{D:Ends}{σ:St}{H:Hp}(Pv:Nat->St->Hp->Prop)(h0:Pv 0 σ H)
  (hs:∀ i σ H,i<n->Pv i σ H->g (.int (lo+i)) σ H fun σ2 H2=>tb { D with nx:=Pv (i+1),ct:=Pv (i+1),bk:=D.nx } σ2 H2) (hd:∀ σ H,Pv n σ H->D.nx σ H) :
  ∃ W:Nat->Nat->St->Hp->Prop,(∃ m,W 0 m σ H)/\∀ i m σ H,W i m σ H ->
   ((Itr lo n).stop i H/\D.nx σ H)\/((Itr lo n).go i H/\∃ N:St->Hp->Prop,(∀ σ' H',N σ' H'->∃ m',m'<m/\W (i+1) m' σ' H')/\∀ x H',(Itr lo n).yld i H x H'->g x σ H' fun σ2 H2=>tb { D with nx:=N,ct:=N,bk:=D.nx } σ2 H2):=by
 refine⟨fun i m σ H=>m=n - i/\i<=n/\Pv i σ H,⟨n,by simp,ζζj _,h0⟩,?_⟩
 rintro i m σ H ⟨rfl,hi,p⟩
 by_cases hlt:i<n
 ·refine .inr ⟨hlt,Pv (i+1),fun σ' H' p'=>⟨n - (i+1),by omega,rfl,hlt,p'⟩,fun x H' y=>?_⟩
  obtain⟨e,y⟩:=y
  subst e y
  exact hs i σ _ hlt p
 ·have e:i=n:=by omega
  subst e
  exact .inl ⟨ζζ5 _,hd σ H p⟩
abbrev R2:=V->V->Hp->VK->Prop
def OpR(X:Cx)(f:Value->Value->Sem Value)(r:R2):Prop :=
 ∀(pins:List (Addr × Obj)) (s:Shared) (σ:St) (H:Hp) (x y:V) (v u:Value) (Q:VK),Inv X pins σ H s->RelV x v->RelV y u->r x y H Q ->
  wpAny (model X.prog X.w) X.A (f v u) (EP X pins σ Q) X.xe s
def UnR(X:Cx)(f:Value->Sem Value)(r:V->Hp->VK->Prop):Prop :=
 ∀(pins:List (Addr × Obj)) (s:Shared) (σ:St) (H:Hp) (x:V) (v:Value) (Q:VK),Inv X pins σ H s->RelV x v->r x H Q ->
  wpAny (model X.prog X.w) X.A (f v) (EP X pins σ Q) X.xe s
def ζI1(X:Cx)(f:Value)(r:List V->Hp->VK->Prop):Prop :=
 ∀(pins:List (Addr × Obj)) (s:Shared) (σ:St) (H:Hp) (xs:List V) (us:List Value) (Q:VK),Inv X pins σ H s->Vals xs us->r xs H Q ->
  wpAny (model X.prog X.w) X.A (call f us) (EP X pins σ Q) X.xe s
def tOp(r:R2)(ta tb:TE):TE:=fun σ H Q=>ta σ H fun x H1=>tb σ H1 fun y H2=>r x y H2 Q
def tUn(r:V->Hp->VK->Prop)(ta:TE):TE:=fun σ H Q=>ta σ H fun x H1=>r x H1 Q
def rI(C:Int->Int->Prop)(g:Int->Int->V):R2:=fun x y H Q=>∃ i j,x=.int i/\y=.int j/\C i j/\Q (g i j) H
def rI0(g:Int->Int->V):R2:=fun x y H Q=>∃ i j,x=.int i/\y=.int j/\Q (g i j) H
def rU(g:Int->V):V->Hp->VK->Prop:=fun x H Q=>∃ i,x=.int i/\Q (g i) H
section
variable{X:Cx}{a b:Expr}{ta tb:TE}{pos:Pos}
theorem binT(ha:PE X a ta)(hb:PE X b tb){pins:List (Addr × Obj)}{s:Shared}{σ:St}{H:Hp}{R:V->V->Hp->Prop}(I:Inv X pins σ H s)
  (h:ta σ H fun x H1=>tb σ H1 fun y H2=>R x y H2) {Q:Value->Shared->Prop} {f:Value->Value->Sem Value}
  (hf:∀ v u s2 x y H2,Inv X pins σ H2 s2->RelV x v->RelV y u->R x y H2->wpAny (model X.prog X.w) X.A (f v u) Q X.xe s2) :
  wpAny (model X.prog X.w) X.A (eval a X.env) (fun v s₁=>wpAny (model X.prog X.w) X.A (eval b X.env) (fun u s₂=>wpAny (model X.prog X.w) X.A (f v u) Q X.xe s₂) X.xe s₁) X.xe s:=by
 refine thn (ha pins s σ H _ I h) fun v s1 ⟨x,H1,I1,r1,q1⟩=>?_
 refine thn (hb pins s1 σ H1 _ I1 q1) fun u s2 ⟨y,H2,I2,r2,q2⟩=>?_
 exact hf v u s2 x y H2 I2 r1 r2 q2
theorem ζp{op:Operator}{r:R2}(ho:OpR X (binaryOp op) r)(ha:PE X a ta)(hb:PE X b tb):PE X (.BinOp a op b pos) (tOp r ta tb):=by
 intro pins s σ H Q I h
 exact wpAny_BinOp (binT ha hb I h fun v u s2 x y H2 I2 rx ry q=>ho pins s2 σ H2 x y v u Q I2 rx ry q)
theorem ζI12{op:UnaryOp}{r:V->Hp->VK->Prop}(ho:UnR X (unaryOp op) r)(ha:PE X a ta):PE X (.UnaryOp op a pos) (tUn r ta):=by
 intro pins s σ H Q I h
 exact UnaryOp_ (thn (ha pins s σ H _ I h) fun v s1 ⟨x,H1,I1,r1,q1⟩=>ho pins s1 σ H1 x v Q I1 r1 q1)
theorem opI{f:Value->Value->Sem Value}{C:Int->Int->Prop}{g:Int->Int->Int}
  (rule:∀(i j:Int) (t u:Tok) (s:Shared) (Q:Value->Shared->Prop) (E:Value->Shared->Prop),C i j->Q (.int (g i j) s.toks) { s with toks:=s.toks+1 }->wpAny (model X.prog X.w) X.A (f (.int i t) (.int j u)) Q E s) :
  OpR X f (rI C fun i j=>.int (g i j)):=by
 intro pins s σ H x y v u Q I rx ry h
 obtain⟨i,j,rfl,rfl,hc,q⟩:=h
 obtain⟨t,rfl⟩:=rx
 obtain⟨t',rfl⟩:=ry
 exact rule i j t t' s _ _ hc ⟨.int (g i j),H,I.tok _,⟨_,rfl⟩,q⟩
theorem opI0{f:Value->Value->Sem Value}{g:Int->Int->Int}
  (rule:∀(i j:Int) (t u:Tok) (s:Shared) (Q:Value->Shared->Prop) (E:Value->Shared->Prop),Q (.int (g i j) s.toks) { s with toks:=s.toks+1 }->wpAny (model X.prog X.w) X.A (f (.int i t) (.int j u)) Q E s) :
  OpR X f (rI0 fun i j=>.int (g i j)):=by
 intro pins s σ H x y v u Q I rx ry h
 obtain⟨i,j,rfl,rfl,q⟩:=h
 obtain⟨t,rfl⟩:=rx
 obtain⟨t',rfl⟩:=ry
 exact rule i j t t' s _ _ ⟨.int (g i j),H,I.tok _,⟨_,rfl⟩,q⟩
theorem opB0{f:Value->Value->Sem Value}{g:Int->Int->Bool}
  (rule:∀(i j:Int) (t u:Tok) (s:Shared) (Q:Value->Shared->Prop) (E:Value->Shared->Prop),Q (.bool (g i j)) s->wpAny (model X.prog X.w) X.A (f (.int i t) (.int j u)) Q E s) :
  OpR X f (rI0 fun i j=>.bl (g i j)):=by
 intro pins s σ H x y v u Q I rx ry h
 obtain⟨i,j,rfl,rfl,q⟩:=h
 obtain⟨t,rfl⟩:=rx
 obtain⟨t',rfl⟩:=ry
 exact rule i j t t' s _ _ ⟨.bl (g i j),H,I,rfl,q⟩
def CDiv(i j:Int):Prop:=0<j/\j<1073741824
def CPow(i j:Int):Prop:=0<=j/\j<=1000000/\i.natAbs<2 ^ 64
def CMul(i j:Int):Prop:=(-(2 ^ 64)<i/\i<2 ^ 64)\/(-(2 ^ 64)<j/\j<2 ^ 64)
theorem CMul.ok{i j:Int}(h:CMul i j):IntMulOk i j:=by
 rcases h with ⟨h1,h2⟩ | ⟨h1,h2⟩
 ·exact .of_left (intBits_le_64 h1 h2)
 ·exact .of_right (intBits_le_64 h1 h2)
theorem ζf1:OpR X (binaryOp .Add) (rI0 fun i j=>.int (i+j)):=opI0 fun _ _ _ _ _ _ _ q=>add_int q
theorem ζf2:OpR X (binaryOp .Sub) (rI0 fun i j=>.int (i - j)):=opI0 fun _ _ _ _ _ _ _ q=>sub_int q
theorem ζS1:OpR X (binaryOp .Mult) (rI CMul fun i j=>.int (i * j)):=opI fun _ _ _ _ _ _ _ hc q=>mul_int q hc.ok
theorem ζl1:OpR X (binaryOp .FloorDiv) (rI CDiv fun i j=>.int (i / j)):=opI fun i j _ _ _ _ _ hc q=>by
 have h1:(0:Int)<j:=hc.1
 have h2:j<1073741824:=hc.2
 exact floordiv_int (by omega) (by rw[Int.fdiv_eq_ediv_of_nonneg i (by omega)];exact q) (.inl (PyProof.noPylong_small (by omega)))
theorem ζK:OpR X (binaryOp .Mod) (rI (fun _ j=>0<j) fun i j=>.int (i % j)):=opI fun i j _ _ _ _ _ hc q=>by
 have h1:(0:Int)<j:=hc
 exact mod_int' (by omega) (by rw[Int.fmod_eq_emod_of_nonneg i (by omega)];exact q)
theorem ζl3:OpR X (binaryOp .Pow) (rI CPow fun i j=>.int (i ^ j.toNat)):=opI fun _ _ _ _ _ _ _ hc q=>pow_int_small hc.1 hc.2.1 hc.2.2 q
theorem unI{f:Value->Sem Value}{g:Int->Int}
  (rule:∀(i:Int) (t:Tok) (s:Shared) (Q:Value->Shared->Prop) (E:Value->Shared->Prop),Q (.int (g i) s.toks) { s with toks:=s.toks+1 }->wpAny (model X.prog X.w) X.A (f (.int i t)) Q E s) :
  UnR X f (rU fun i=>.int (g i)):=by
 intro pins s σ H x v Q I rx h
 obtain⟨i,rfl,q⟩:=h
 obtain⟨t,rfl⟩:=rx
 exact rule i t s _ _ ⟨.int (g i),H,I.tok _,⟨_,rfl⟩,q⟩
theorem ζs11:UnR X (unaryOp .USub) (rU fun i=>.int (-i)):=unI fun _ _ _ _ _ q=>neg_int q
end
def scal:V->V->Bool
 | .non,.non=>true | .non,.int _=>true | .int _,.non=>true | .non,.bl _=>true | .bl _,.non=>true | .non,.str _=>true | .str _,.non=>true
 | .int _,.int _=>true | .bl _,.bl _=>true | .str _,.str _=>true | .byt _,.byt _=>true
 | .int _,.str _=>true | .str _,.int _=>true | .bl _,.str _=>true | .str _,.bl _=>true
 | _,_=>false
def rEq:R2:=fun x y H Q=>scal x y=true/\Q (.bl (decide (x=y))) H
def rNe:R2:=fun x y H Q=>scal x y=true/\Q (.bl (!decide (x=y))) H
theorem ζI{i j:Int}:decide (V.int i=V.int j)=(i == j):=by
 rw[ζζ0j]
 simp
theorem ζ811{i j:Bool}:decide (V.bl i=V.bl j)=(i == j):=by
 rw[ζζ0j]
 simp
theorem ζf8{i j:Str}:decide (V.str i=V.str j)=(i == j):=by
 rw[ζζ0j]
 simp
theorem ζg8{i j:Array UInt8}:decide (V.byt i=V.byt j)=(i.toList == j.toList):=by
 rw[ζζ0j]
 cases i
 cases j
 simp
section
variable{X:Cx}{a b c:Expr}{ta tb tc:TE}{pos:Pos}
theorem ζG{pins:List (Addr × Obj)}{σ:St}{H:Hp}{s:Shared}{Q:VK}{k k':Bool}(I:Inv X pins σ H s)(q:Q (.bl k) H)(e:k=k'):EP X pins σ Q (.bool k') s:=by
 subst e
 exact⟨.bl k,H,I,rfl,q⟩
theorem ζS5:OpR X (compareOp .Eq) rEq:=by
 intro pins s σ H x y v u Q I rx ry h
 obtain⟨hs,q⟩:=h
 cases x with
 | non =>
  cases rx
  cases y with
  | non=>cases ry;exact PySem.EqNone.eq_none_none (ζG I q (by simp))
  | bl j=>cases ry;exact PySem.EqNone.eq_none_bool (ζG I q (by simp))
  | int j=>obtain⟨t',rfl⟩:=ry;exact PySem.EqNone.eq_none_int (ζG I q (by simp))
  | str j=>obtain⟨t',rfl⟩:=ry;exact PySem.EqNone.eq_none_str (ζG I q (by simp))
  | _=>exact absurd (show false=true from hs) ζζu
 | bl i =>
  cases rx
  cases y with
  | non=>cases ry;exact PySem.EqNone.eq_bool_none (ζG I q (by simp))
  | bl j=>cases ry;exact eq_bool (ζG I q ζ811)
  | str j=>obtain⟨t',rfl⟩:=ry;exact PySem.EqMixed.eq_bool_str (ζG I q (by simp))
  | _=>exact absurd (show false=true from hs) ζζu
 | int i =>
  obtain⟨t,rfl⟩:=rx
  cases y with
  | non=>cases ry;exact PySem.EqNone.eq_int_none (ζG I q (by simp))
  | int j=>obtain⟨t',rfl⟩:=ry;exact eq_int (ζG I q ζI)
  | str j=>obtain⟨t',rfl⟩:=ry;exact PySem.EqMixed.eq_int_str (ζG I q (by simp))
  | _=>exact absurd (show false=true from hs) ζζu
 | str i =>
  obtain⟨t,rfl⟩:=rx
  cases y with
  | non=>cases ry;exact PySem.EqNone.eq_str_none (ζG I q (by simp))
  | bl j=>cases ry;exact PySem.EqMixed.eq_str_bool (ζG I q (by simp))
  | int j=>obtain⟨t',rfl⟩:=ry;exact PySem.EqMixed.eq_str_int (ζG I q (by simp))
  | str j=>obtain⟨t',rfl⟩:=ry;exact eq_str (ζG I q ζf8)
  | _=>exact absurd (show false=true from hs) ζζu
 | byt i =>
  obtain⟨t,rfl⟩:=rx
  cases y with
  | byt j=>obtain⟨t',rfl⟩:=ry;exact PySem.W.eq_bytes (ζG I q ζg8)
  | _=>exact absurd (show false=true from hs) ζζu
 | _=>cases y <;> exact absurd (show false=true from hs) ζζu
theorem ζ95:OpR X (compareOp .NotEq) rNe:=by
 intro pins s σ H x y v u Q I rx ry h
 obtain⟨hs,q⟩:=h
 cases x with
 | non =>
  cases rx
  cases y with
  | non=>cases ry;exact PySem.EqNone.ne_none_none (ζG I q (by simp))
  | bl j=>cases ry;exact PySem.EqNone.ne_none_bool (ζG I q (by simp))
  | int j=>obtain⟨t',rfl⟩:=ry;exact PySem.EqNone.ne_none_int (ζG I q (by simp))
  | str j=>obtain⟨t',rfl⟩:=ry;exact PySem.EqNone.ne_none_str (ζG I q (by simp))
  | _=>exact absurd (show false=true from hs) ζζu
 | bl i =>
  cases rx
  cases y with
  | non=>cases ry;exact PySem.EqNone.ne_bool_none (ζG I q (by simp))
  | bl j=>cases ry;exact ne_bool (ζG I q (ζζ0l not ζ811))
  | str j=>obtain⟨t',rfl⟩:=ry;exact PySem.EqMixed.ne_bool_str (ζG I q (by simp))
  | _=>exact absurd (show false=true from hs) ζζu
 | int i =>
  obtain⟨t,rfl⟩:=rx
  cases y with
  | non=>cases ry;exact PySem.EqNone.ne_int_none (ζG I q (by simp))
  | int j=>obtain⟨t',rfl⟩:=ry;exact ne_int (ζG I q (ζζ0l not ζI))
  | str j=>obtain⟨t',rfl⟩:=ry;exact PySem.EqMixed.ne_int_str (ζG I q (by simp))
  | _=>exact absurd (show false=true from hs) ζζu
 | str i =>
  obtain⟨t,rfl⟩:=rx
  cases y with
  | non=>cases ry;exact PySem.EqNone.ne_str_none (ζG I q (by simp))
  | bl j=>cases ry;exact PySem.EqMixed.ne_str_bool (ζG I q (by simp))
  | int j=>obtain⟨t',rfl⟩:=ry;exact PySem.EqMixed.ne_str_int (ζG I q (by simp))
  | str j=>obtain⟨t',rfl⟩:=ry;exact ne_str (ζG I q (ζζ0l not ζf8))
  | _=>exact absurd (show false=true from hs) ζζu
 | byt i =>
  obtain⟨t,rfl⟩:=rx
  cases y with
  | byt j=>obtain⟨t',rfl⟩:=ry;exact PySem.W.ne_bytes (ζG I q (ζζ0l not ζg8))
  | _=>exact absurd (show false=true from hs) ζζu
 | _=>cases y <;> exact absurd (show false=true from hs) ζζu
theorem ζQ7:OpR X (compareOp .Lt) (rI0 fun i j=>.bl (decide (i<j))):=opB0 fun _ _ _ _ _ _ _ q=>lt_int q
theorem ζR7:OpR X (compareOp .LtE) (rI0 fun i j=>.bl (decide (i<=j))):=opB0 fun _ _ _ _ _ _ _ q=>le_int q
theorem ζX8:OpR X (compareOp .Gt) (rI0 fun i j=>.bl (decide (j<i))):=opB0 fun _ _ _ _ _ _ _ q=>gt_int q
theorem ζp10:OpR X (compareOp .Is) (fun x y H Q=>y=.non/\Q (.bl (decide (x=.non))) H):=by
 intro pins s σ H x y v u Q I rx ry h
 obtain⟨rfl,q⟩:=h
 cases ry
 refine is_none_gen (ζG I q ?_)
 cases x <;> first
  | (cases rx;rfl)
  | (obtain⟨t,rfl⟩:=rx;rfl)
theorem ζT3:OpR X (compareOp .NotIn) (fun x y H Q=>∃ i j,x=.str i/\y=.str j/\Q (.bl (!(!(Builtin.Str.occurrences j i 0 j.length 1).isEmpty))) H):=by
 intro pins s σ H x y v u Q I rx ry h
 obtain⟨i,j,rfl,rfl,q⟩:=h
 obtain⟨t,rfl⟩:=rx
 obtain⟨t',rfl⟩:=ry
 exact notIn_str (ζG I q rfl)
theorem ζq(b:Expr){op:CmpOp}(h:op≠.In:=by decide)(h2:op≠.NotIn:=by decide):behindInMarks op b=false:=by
 have e1:(op == CmpOp.In)=false:=by cases op <;> first | rfl | exact absurd rfl h
 have e2:(op == CmpOp.NotIn)=false:=by cases op <;> first | rfl | exact absurd rfl h2
 cases b <;> simp[behindInMarks,e1,e2]
theorem ζk1{op:CmpOp}{r:R2}(ho:OpR X (compareOp op) r)(ha:PE X a ta)(hb:PE X b tb)(hm:behindInMarks op b=false):PE X (.Compare a [op] [b] pos) (tOp r ta tb):=by
 intro pins s σ H Q I h
 exact wpAny_Compare1 (binT ha hb I h fun v u s2 x y H2 I2 rx ry q=>ho pins s2 σ H2 x y v u Q I2 rx ry q) hm
def ζl12(t:TE):TT:=fun σ H Q=>t σ H fun x H'=>∃ k,x=.bl k/\Q k H'
theorem ζj{op:CmpOp}{r:R2}(ho:OpR X (compareOp op) r)(ha:PE X a ta)(hb:PE X b tb)(hm:behindInMarks op b=false):PT X (.Compare a [op] [b] pos) (ζl12 (tOp r ta tb)):=by
 intro pins s σ H Q I h
 refine wpAny_isTrue_Compare1 (thn (ha pins s σ H _ I h) fun v s1 ⟨x,H1,I1,r1,q1⟩=>thn (hb pins s1 σ H1 _ I1 q1) fun u s2 ⟨y,H2,I2,r2,q2⟩ =>
  thn (ho pins s2 σ H2 x y v u _ I2 r1 r2 q2) fun c s3 ⟨z,H3,I3,r3,k,e,q3⟩=>?_) hm
 subst e
 cases r3
 exact ζζ0y ⟨H3,I3,q3⟩
def ζY9(r r':R2)(ta tb tc:TE):TE:=fun σ H Q=>ta σ H fun x H1=>tb σ H1 fun y H2=>r x y H2 fun z H3=>∃ k,z=.bl k /\
 (if k=true then tc σ H3 fun w' H4=>r' y w' H4 Q else Q (.bl false) H3)
theorem ζW8{op op':CmpOp}{r r':R2}(ho:OpR X (compareOp op) r)(ho':OpR X (compareOp op') r')(ha:PE X a ta)(hb:PE X b tb)(hc:PE X c tc)
  (hm:lastMarks [op,op'] [b,c]=false:=by with_unfolding_all rfl):PE X (.Compare a [op,op'] [b,c] pos) (ζY9 r r' ta tb tc):=by
 intro pins s σ H Q I h
 refine Compare_chain (thn (ha pins s σ H _ I h) fun v s1 ⟨x,H1,I1,r1,q1⟩=>chain_link (thn (hb pins s1 σ H1 _ I1 q1) fun u s2 ⟨y,H2,I2,r2,q2⟩ =>
  thn (ho pins s2 σ H2 x y v u _ I2 r1 r2 q2) fun d s3 ⟨z,H3,I3,r3,k,e,q3⟩=>?_)) hm
 subst e
 cases r3
 refine ζζ0y ?_
 cases k with
 | false=>exact ite_ff ⟨.bl false,H3,I3,rfl,q3⟩
 | true=>exact ite_tt (chain_last (thn (hc pins s3 σ H3 _ I3 q3) fun w' s4 ⟨z',H4,I4,r4,q4⟩=>ho' pins s4 σ H4 y z' u w' Q I4 r2 r4 q4))
theorem ζP3{op op':CmpOp}{r r':R2}(ho:OpR X (compareOp op) r)(ho':OpR X (compareOp op') r')(ha:PE X a ta)(hb:PE X b tb)(hc:PE X c tc)
  (hm:lastMarks [op,op'] [b,c]=false:=by with_unfolding_all rfl):PT X (.Compare a [op,op'] [b,c] pos) (ζl12 (ζY9 r r' ta tb tc)):=by
 intro pins s σ H Q I h
 refine isTrue_chain (thn (ha pins s σ H _ I h) fun v s1 ⟨x,H1,I1,r1,q1⟩=>test_link (thn (hb pins s1 σ H1 _ I1 q1) fun u s2 ⟨y,H2,I2,r2,q2⟩ =>
  thn (ho pins s2 σ H2 x y v u _ I2 r1 r2 q2) fun d s3 ⟨z,H3,I3,r3,k,e,q3⟩=>?_)) hm
 subst e
 cases r3
 refine ζζ0y ?_
 cases k with
 | false =>
  obtain⟨k',e',q'⟩:=q3
  cases e'
  exact ite_ff ⟨H3,I3,q'⟩
 | true =>
  refine ite_tt (test_last (thn (hc pins s3 σ H3 _ I3 q3) fun w' s4 ⟨z',H4,I4,r4,q4⟩=>thn (ho' pins s4 σ H4 y z' u w' _ I4 r2 r4 q4) fun d' s5 ⟨z2,H5,I5,r5,k2,e2,q5⟩=>?_))
  subst e2
  cases r5
  exact ζζ0y ⟨H5,I5,q5⟩
theorem ζe5:(sizeLine:Nat)<2 ^ 63:=by rw[ζζ0C];decide
theorem ζT5:OpR X (binaryOp .Add) (fun x y H Q=>∃ i j,x=.str i/\y=.str j/\i.length+j.length<=sizeLine/\Q (.str (i++j)) H):=by
 intro pins s σ H x y v u Q I rx ry h
 obtain⟨i,j,rfl,rfl,hz,q⟩:=h
 obtain⟨t,rfl⟩:=rx
 obtain⟨t',rfl⟩:=ry
 exact add_str (fun t' tk=>⟨.str (i++j),H,I.tok _,⟨_,rfl⟩,q⟩) hz
theorem ζ42{x:V}{us:List Value}(r:Vals [x] us):∃ u,us=[u]/\RelV x u:=by
 cases r with
 | cons r1 r2=>cases r2;exact⟨_,rfl,r1⟩
theorem ζr11{x y:V}{us:List Value}(r:Vals [x,y] us):∃ u w',us=[u,w']/\RelV x u/\RelV y w':=by
 cases r with
 | cons r1 r2 =>
  cases r2 with
  | cons r3 r4=>cases r4;exact⟨_,_,rfl,r1,r3⟩
theorem ζ13 (hc:X.calm=true):ζI1 X (.builtin "max") (fun xs H Q=>∃ i j,xs=[.int i,.int j]/\Q (.int (if j > i then j else i)) H):=by
 intro pins s σ H xs us Q I r h
 obtain⟨i,j,rfl,q⟩:=h
 obtain⟨u,w',rfl,⟨t,rfl⟩,⟨t',rfl⟩⟩:=ζr11 r
 refine max_two_ints (I.ok.hd hc) fun h' tk k=>⟨_,H,I.kept k,?_,q⟩
 by_cases hj:j > i
 ·rw[if_pos hj,if_pos hj];exact⟨_,rfl⟩
 ·rw[if_neg hj,if_neg hj];exact⟨_,rfl⟩
theorem ζW4 (hc:X.calm=true):ζI1 X (.builtin "min") (fun xs H Q=>∃ i j,xs=[.int i,.int j]/\Q (.int (if j<i then j else i)) H):=by
 intro pins s σ H xs us Q I r h
 obtain⟨i,j,rfl,q⟩:=h
 obtain⟨u,w',rfl,⟨t,rfl⟩,⟨t',rfl⟩⟩:=ζr11 r
 refine min_two_ints (I.ok.hd hc) fun h' tk k=>⟨_,H,I.kept k,?_,q⟩
 by_cases hj:j<i
 ·rw[if_pos hj,if_pos hj];exact⟨_,rfl⟩
 ·rw[if_neg hj,if_neg hj];exact⟨_,rfl⟩
theorem ζA7:ζI1 X (.type "int") (fun xs H Q=>(∃ i,xs=[.int i]/\Q (.int i) H)\/∃ k,xs=[.bl k]/\Q (.int (if k then 1 else 0)) H):=by
 intro pins s σ H xs us Q I r h
 rcases h with ⟨i,rfl,q⟩ | ⟨k,rfl,q⟩
 ·obtain⟨u,rfl,t,rfl⟩:=ζ42 r
  exact call_int_int ⟨.int i,H,I,⟨_,rfl⟩,q⟩
 ·obtain⟨u,rfl,r1⟩:=ζ42 r
  cases r1
  exact call_int_bool ⟨.int (if k then 1 else 0),H,I.tok _,⟨_,rfl⟩,q⟩
theorem ζ74:ζI1 X (.type "str") (fun xs H Q=>∃ i,xs=[.int i]/\i.natAbs.log2<1920/\Q (.str (toString i)) H):=by
 intro pins s σ H xs us Q I r h
 obtain⟨i,rfl,hz,q⟩:=h
 obtain⟨u,rfl,t,rfl⟩:=ζ42 r
 exact PySem.P.str_of_int hz ⟨.str _,H,I.tok _,⟨_,rfl⟩,q⟩
end
structure ObjM (h:Heap) (x dx C:Addr) (mA:Str->Option Value):Prop where
 obj:h.get? x=some (PySem.W.instObj C dx)
 ns:h.Ns1 dx mA
 ne:dx≠x
theorem ζd7{h:Heap}{dx:Addr}{mA:Str->Option Value}(n:h.Ns1 dx mA):∃ od,h.get? dx=some od/\∀ name,PySem.W.lookIn name od=some (mA name):=by
 obtain⟨o,es,ep,ho,hd,hk,_,hm⟩:=n
 refine⟨o,ho,fun name=>?_⟩
 have e:=hm name
 unfold nsFind findBy at e
 rw[<- Array.find?_toList]at e
 unfold PySem.W.lookIn
 rw[hd]
 dsimp only
 split
 ·rename_i y q
  rw[q]at e
  exact ζζ0l some e
 ·rename_i q
  rw[q]at e
  have a:es.toList.any (·.refKey)=false:=by
   rw[List.any_eq_false]
   intro y hy
   obtain⟨z,t,hkey⟩:=hk y (Array.mem_toList_iff.mp hy)
   simp[DictEntry.refKey,hkey]
  have a':¬ es.toList.any (·.refKey)=true:=by rw[a];exact ζζu
  rw[if_neg a']
  exact ζζ0l some e
theorem ObjM.look{h:Heap}{x dx C:Addr}{mA:Str->Option Value}(I:ObjM h x dx C mA):∃ od,PySem.W.InstAt h x (PySem.W.instObj C dx) C (some od)/\∀ name,PySem.W.lookIn name od=some (mA name) :=
 let ⟨od,ho,hl⟩:=ζd7 I.ns
 ⟨od,⟨I.obj,rfl,rfl,ho⟩,hl⟩
section
variable{prog:Program}{w:World}{A:Around}{E:Value->Shared->Prop}{s:Shared}{K:PySem.W.Frag}{x dx C f:Addr}{mA:Str->Option Value}{name:Str}{v:Value}
theorem ζS10{expr:Bool}{Q:Value->Shared->Prop}(X:K.In s.heap)(I:ObjM s.heap x dx C mA)(hg:PySem.W.plainGet K C name=true)(hh:PySem.W.hasDictIn K C=true)
  (ha:PySem.W.findIn K (.ref C) name=some none) (hv:mA name=some v) (hv':PySem.W.handedIn v=true) (h:Q v { s with toks:=s.toks+1 }) :
  wpAny (model prog w) A (getAttr (.ref x) name expr) Q E s:=by
 obtain⟨od,J,hl⟩:=I.look
 exact PySem.W.get_value X J (PySem.W.plainGet_of hg).1 (PySem.W.findObj_own hh ha rfl (by rw[hl,hv])) hv' h
theorem ζ410{ns:List Str}{Q:Unit->Shared->Prop}(X:K.In s.heap)(I:ObjM s.heap x dx C mA)
  (hs:PySem.W.findIn K (.ref C) "__setattr__"=some (some (.builtin "object.__setattr__"))) (hp:PySem.W.plainOver K C=true) (ht:PySem.W.takerIn K C name=some none) (hh:PySem.W.hasDictIn K C=true)
  (hw:PySem.Within mA ns) (hsz:ns.length<=sizeLine)
  (h:∀ h',ObjM h' x dx C (fun y=>if y=name then some v else mA y)->Heap.SameBut dx s.heap h'->Q () { s with heap:=h',toks:=s.toks+2 }) :
  wpAny (model prog w) A (setAttr (.ref x) name v) Q E s:=by
 obtain⟨od,J,hl⟩:=I.look
 refine PySem.W.set_plain X J hs (PySem.W.osa_open (s:={ s with toks:=s.toks+1 }) (r:=none) X J hp ht fun b=>?_)
 obtain⟨cd,hc,hd'⟩:=PySem.W.any_some hh
 have hx:s.heap.get? x=some ⟨.ref C,some dx,.plain,#[]⟩:=I.obj
 refine ζζ2 (ζζl (ζζ2 (ζζ2 (wpAny_loadPart hx (ζζ2 (PySem.W.Looks.here (s:={ s with toks:=s.toks+1 }) (PySem.W.looks_clsIn X hc) ?_))))))
 rw[hd']
 refine ζζl (a:=some dx) (ζζ2 (ζζl (ζζ2 ?_)))
 refine wpAny_nsSet1 (s:={ s with toks:=s.toks+1 }) I.ns fun h' hn2 hs2=>?_
 obtain⟨oD,esD,epD,hoD,hdD,hcD⟩:=hn2.count (PySem.Within.cons name v hw)
 refine ζζ2 (wpAny_lookBehind hoD (by rw[hdD];exact pastItsLine_dict (ζζO hcD (by rw[ζζq];omega))) ?_)
 exact ζζl (h _ ⟨(hs2.2 _ (ζζY I.ne)).trans I.obj,hn2,I.ne⟩ hs2)
theorem ζa9{R:Result->Shared->Prop}{vs:List Value}{kw:List (Str × Value)}(X:K.In s.heap)(hm:PySem.W.makesIn K C=true)
  (hi:PySem.W.findIn K (.ref C) "__init__"=some (some (.ref f))) (hf:PySem.W.typeIn K (.ref f)=some (.type "function"))
  (h:codeAny (model prog w) (A.under (.builtin "type.__call__" ⟨.ref C :: vs,kw⟩)) (.call (.ref f) ⟨.ref (s.heap.objs.size+1) :: vs,kw⟩) (PySem.W.InitBack (s.heap.objs.size+1) R)
   { s with heap:=(s.heap.push PySem.W.emptyDict).push (PySem.W.instObj C s.heap.objs.size) }) :
  codeAny (model prog w) A (.call (.ref C) ⟨vs,kw⟩) R s:=by
 obtain⟨hh,g,d,t,os⟩:=s
 exact PySem.W.make_core (PySem.W.makes_of X hm) (PySem.W.looks_findIn X hi) (fun self=>PySem.W.bind_fn X self hf) (.inl rfl) h
end
def putF(f:Str)(v:V):List (Str × V)->List (Str × V)
 | []=>[(f,v)]
 | (g,x) :: r=>if g=f then (g,v) :: r else (g,x) :: putF f v r
theorem ζ91(f g:Str)(v:V):∀ fs:List (Str × V),(putF f v fs).lookup g=if g=f then some v else fs.lookup g
 | []=>by
  show List.lookup g [(f,v)]=_
  by_cases h:g=f
  ·have hb:(g == f)=true:=ζζ11.mpr h
   simp only [List.lookup,hb,if_pos h]
  ·have hb:(g == f)=false:=ζζ1d.mpr h
   simp only [List.lookup,hb,if_neg h]
 | (k,x) :: r=>by
  have ih:=ζ91 f g v r
  rw[show putF f v ((k,x) :: r)=(if k=f then (k,v) :: r else (k,x) :: putF f v r) from rfl]
  by_cases hk:k=f
  ·rw[if_pos hk]
   by_cases h:g=k
   ·have hb:(g == k)=true:=ζζ11.mpr h
    simp only [List.lookup,hb,if_pos (h.trans hk)]
   ·have hb:(g == k)=false:=ζζ1d.mpr h
    simp only [List.lookup,hb,if_neg (fun e:g=f=>h (e.trans hk.symm))]
  ·rw[if_neg hk]
   by_cases h:g=k
   ·have hb:(g == k)=true:=ζζ11.mpr h
    simp only [List.lookup,hb,if_neg (fun e:g=f=>hk (h.symm.trans e))]
   ·have hb:(g == k)=false:=ζζ1d.mpr h
    simp only [List.lookup,hb]
    exact ih
theorem ζS2(f:Str)(v:V):∀ fs:List (Str × V),f∈(putF f v fs).map (·.1)/\∀ g,g∈fs.map (·.1)->g∈(putF f v fs).map (·.1)
 | []=>⟨by simp[putF],fun g h=>by simp at h⟩
 | (k,x) :: r=>by
  obtain⟨i1,i2⟩:=ζS2 f v r
  rw[show putF f v ((k,x) :: r)=(if k=f then (k,v) :: r else (k,x) :: putF f v r) from rfl]
  by_cases hk:k=f
  ·rw[if_pos hk]
   subst hk
   exact⟨by simp,fun g h=>by simpa using h⟩
  ·rw[if_neg hk]
   refine⟨?_,fun g h=>?_⟩
   ·rw[ζζF]
    exact ζζk _ i1
   ·rw[ζζF]at h ⊢
    rcases ζζb.mp h with e | e
    ·exact ζζb.mpr (.inl e)
    ·exact ζζk _ (i2 g e)
theorem ζw2(f:Str)(v:V):∀ fs:List (Str × V),(putF f v fs).length<=fs.length+1
 | []=>by simp[putF]
 | (k,x) :: r=>by
  have ih:=ζw2 f v r
  rw[show putF f v ((k,x) :: r)=(if k=f then (k,v) :: r else (k,x) :: putF f v r) from rfl]
  by_cases hk:k=f
  ·rw[if_pos hk,ζζq,ζζq];omega
  ·rw[if_neg hk,ζζq,ζζq];omega
theorem RelO.some_of{v:V}{o:Option Value}(r:RelO (some v) o):∃ u,o=some u/\RelV v u:=by
 cases o with
 | none=>exact(show False from r).elim
 | some u=>exact⟨u,rfl,r⟩
theorem ζn7{v:V}{u:Value}(r:RelV v u):PySem.W.handedIn u=true:=by
 cases v with
 | non=>cases (show u=Value.none from r);rfl
 | bl b=>cases (show u=Value.bool b from r);rfl
 | int i=>obtain⟨t,e⟩:=(show ∃ t,u=Value.int i t from r);cases e;rfl
 | str x=>obtain⟨t,e⟩:=(show ∃ t,u=Value.str x t from r);cases e;rfl
 | byt b=>obtain⟨t,e⟩:=(show ∃ t,u=Value.bytes b t from r);cases e;rfl
 | flt b=>obtain⟨t,e⟩:=(show ∃ t,u=Value.float b t from r);cases e;rfl
 | ref a=>cases (show u=Value.ref a from r);rfl
 | ty n=>cases (show u=Value.type n from r);rfl
section
variable{P:Program}{w:World}{H:Hp}{h:Heap}{a C dx:Addr}{fs:List (Str × V)}
theorem ζ48(hok:HOk P w H h)(e:H a=some (.ins C dx fs)):∃ mA,ObjM h a dx C mA/\(∀ f,RelO (fs.lookup f) (mA f))/\PySem.Within mA (fs.map (·.1))/\fs.length<=1000/\H dx=some (.own a):=by
 obtain⟨d,z,ne,ob,mA,n,r,q⟩:=(show ObjOk P w H h a (.ins C dx fs) from hok a _ e)
 exact⟨mA,⟨ob,n,ne⟩,r,q,z,d⟩
end
structure Cls (K:PySem.W.Frag) (C:Addr):Prop where
 pg:PySem.W.plainGet K C Str.empty=true
 hd:PySem.W.hasDictIn K C=true
 po:PySem.W.plainOver K C=true
 sa:PySem.W.findIn K (.ref C) "__setattr__"=some (some (.builtin "object.__setattr__"))
theorem Cls.get{K:PySem.W.Frag}{C:Addr}(c:Cls K C)(f:Str):PySem.W.plainGet K C f=true:=c.pg
def NoAttr(K:PySem.W.Frag)(C:Addr)(f:Str):Prop:=PySem.W.findIn K (.ref C) f=some none
theorem NoAttr.taker{K:PySem.W.Frag}{C:Addr}{f:Str}(n:NoAttr K C f):PySem.W.takerIn K C f=some none:=by
 unfold PySem.W.takerIn
 rw[show PySem.W.findIn K (.ref C) f=some none from n]
 rfl
structure Con (K:PySem.W.Frag) (C:Addr) (f:Str) (v:V) (u:Value):Prop where
 at_:PySem.W.findIn K (.ref C) f=some (some u)
 rel:RelV v u
 get:PySem.W.specialIn K u "__get__"=some none
 cp:PySem.W.copiedNames.contains f=false
structure Meth (K:PySem.W.Frag) (C:Addr) (m:Str) (f:Addr):Prop where
 at_:PySem.W.findIn K (.ref C) m=some (some (.ref f))
 fn:PySem.W.isFn K (.ref f)=true
 kp:PySem.W.keepIn K (.ref f)=true
section
variable{X:Cx}{pins:List (Addr × Obj)}{σ:St}{H:Hp}{s:Shared}{a C dx:Addr}{fs:List (Str × V)}{f:Str}{v:V}{A:Around}{E:Value->Shared->Prop}
theorem ζt6{b:Bool}{Q:Value->Shared->Prop}(I:Inv X pins σ H s)(e:H a=some (.ins C dx fs))(c:Cls X.K C)(n:NoAttr X.K C f)(l:fs.lookup f=some v)
  (h:∀ u s',Inv X pins σ H s'->RelV v u->Q u s'):wpAny (model X.prog X.w) A (getAttr (.ref a) f b) Q E s:=by
 obtain⟨mA,O,r,_,_,_⟩:=ζ48 I.hok e
 obtain⟨u,hu,ru⟩:=RelO.some_of (v:=v) (o:=mA f) (by rw[<- l];exact r f)
 exact ζS10 I.kIn O (c.get f) c.hd n hu (ζn7 ru) (h u _ (I.tok _) ru)
theorem ζJ5{y:V}{u:Value}{Q:Unit->Shared->Prop}(I:Inv X pins σ H s)(e:H a=some (.ins C dx fs))(c:Cls X.K C)(n:NoAttr X.K C f)(hl:fs.length<1000)(ry:RelV y u)
  (h:∀ s',Inv X pins σ (upd H a (.ins C dx (putF f y fs))) s'->Q () s'):wpAny (model X.prog X.w) A (setAttr (.ref a) f u) Q E s:=by
 obtain⟨mA,O,r,wi,_,ho⟩:=ζ48 I.hok e
 have hz:(fs.map (·.1)).length<=sizeLine:=by rw[ζζa,ζζ0C];omega
 refine ζ410 I.kIn O c.sa c.po n.taker c.hd wi hz fun h' O' sb=>h _ ?_
 have hd:∃ o,h'.get? dx=some o:=let ⟨o,_,_,e',_⟩:=O'.ns;⟨o,e'⟩
 refine I.write (x:=a) (e:=dx) (by rw[e];exact True.intro) (.inr ho) (fun b q hb z=>(sb.2 b hb).trans z) hd ?_
 refine⟨by rw[ζ9 O.ne];exact ho,?_,O.ne,O'.obj,_,O'.ns,fun g=>?_,fun g hg=>?_⟩
 ·have:=ζw2 f y fs;omega
 ·show RelO ((putF f y fs).lookup g) (if g=f then some u else mA g)
  rw[ζ91]
  by_cases q:g=f
  ·rw[if_pos q,if_pos q];exact ry
  ·rw[if_neg q,if_neg q];exact r g
 ·by_cases q:g=f
  ·rw[q];exact(ζS2 f y fs).1
  ·refine(ζS2 f y fs).2 g (wi g fun z=>hg ?_)
   show(if g=f then some u else mA g)=none
   rw[if_neg q];exact z
theorem Inv.made(I:Inv X pins σ H s):Inv X pins σ (upd (upd H s.heap.objs.size (.own (s.heap.objs.size+1))) (s.heap.objs.size+1) (.ins C s.heap.objs.size []))
  { s with heap:=(s.heap.push PySem.W.emptyDict).push (PySem.W.instObj C s.heap.objs.size) }:=by
 have e1:(s.heap.push PySem.W.emptyDict).get? s.heap.objs.size=some PySem.W.emptyDict:=ζζf s.heap rfl
 have e2:((s.heap.push PySem.W.emptyDict).push (PySem.W.instObj C s.heap.objs.size)).get? (s.heap.objs.size+1)=some (PySem.W.instObj C s.heap.objs.size):=by
  have:=ζζf (s.heap.push PySem.W.emptyDict) (o:=PySem.W.instObj C s.heap.objs.size) rfl
  rwa [ζζ0B]at this
 have e3:(s.heap.push PySem.W.emptyDict).Ns s.heap.objs.size (fun _=>none):=⟨PySem.W.emptyDict,#[],_,e1,rfl,(fun e he=>absurd he (by simp)),fun _=>rfl⟩
 have I1:=I.laid (a:=s.heap.objs.size) (o:=.own (s.heap.objs.size+1)) (h':=s.heap.push PySem.W.emptyDict) (t':=s.toks) (fun b u q=>ζζ3 _ q) (ζζ5 _) ⟨_,e1⟩
 refine I1.laid (a:=s.heap.objs.size+1) (o:=.ins C s.heap.objs.size []) (t':=s.toks) (fun b u q=>ζζ3 _ q) (Nat.le_of_eq (ζζ0B _ _)) ?_
 have ne:s.heap.objs.size≠s.heap.objs.size+1:=ζζr (ζζ0z _)
 refine⟨by rw[ζ9 ne,ζ1],ζζj _,ne,e2,fun _=>none,(Heap.Ns1.of_empty e3).at fun o q=>ζζ3 _ q,fun _=>True.intro,fun y hy=>absurd rfl hy⟩
theorem ζe11{prog:Program}{w:World}{env:Env}{e:Expr}{f:Str}{pos:Pos}{s:Shared}{Q:Value->Shared->Prop}(hb:attributeBase e f env (eval e env)=eval e env)
  (h:wpAny (model prog w) A (eval e env) (fun o s₁=>wpAny (model prog w) A (getAttr o f true) Q E s₁) E s):wpAny (model prog w) A (eval (.Attribute e f pos) env) Q E s :=
 Attribute_any_ h (by rw[arm_eval_Attribute,hb])
end
def tFld(K:PySem.W.Frag)(ta:TE)(f:Str):TE:=fun σ H Q=>ta σ H fun x H1=>∃ a C dx fs v,x=.ref a/\H1 a=some (.ins C dx fs)/\Cls K C/\NoAttr K C f/\fs.lookup f=some v/\Q v H1
def sFld(K:PySem.W.Frag)(ta tv:TE)(f:Str):TS:=fun D σ H=>tv σ H fun y H1=>ta σ H1 fun x H2=>∃ a C dx fs,x=.ref a/\H2 a=some (.ins C dx fs)/\Cls K C/\NoAttr K C f/\fs.length<1000 /\
 D.nx σ (upd H2 a (.ins C dx (putF f y fs)))
section
variable{X:Cx}{o e value:Expr}{f:Str}{pos pos':Pos}{ta tv:TE}
theorem ζT11(he:PE X e ta)(hb:attributeBase e f X.env (eval e X.env)=eval e X.env):PE X (.Attribute e f pos) (tFld X.K ta f):=by
 intro pins s σ H Q I h
 refine ζe11 hb (thn (he pins s σ H _ I h) fun u s1 ⟨x,H1,I1,rx,a,C,dx,fs,v,ex,ea,c,n,l,q⟩=>?_)
 subst ex
 obtain rfl:u=Value.ref a:=rx
 exact ζt6 I1 ea c n l fun u' s2 I2 ru=>⟨v,H1,I2,ru,q⟩
theorem ζg10(ha:PE X o ta)(hv:PE X value tv)(hs:swapsWith value (some (.Attribute o f pos')) pos.line X.env=pure false):PS X (.Assign [.Attribute o f pos'] value pos) (sFld X.K ta tv f):=by
 intro pins s σ H D I h
 refine plainObj_wpAny_Assign_Attribute (thn (hv pins s σ H _ I h) fun u s1 ⟨y,H1,I1,ry,q⟩=>thn (ha pins s1 σ H1 _ I1 q) fun ov s2 ⟨x,H2,I2,rx,a,C,dx,fs,ex,ea,c,n,l,q2⟩=>?_) hs
 subst ex
 obtain rfl:ov=Value.ref a:=rx
 exact ζJ5 I2 ea c n l ry fun s3 I3=>⟨σ,_,I3,q2⟩
end
section
variable{H:Hp}
inductive TyOf (K:PySem.W.Frag) (H:Hp):V->Value->Prop where
 | non:TyOf K H .non (.type "NoneType")
 | bl (x:Bool):TyOf K H (.bl x) (.type "bool")
 | int (i:Int):TyOf K H (.int i) (.type "int")
 | str (x:Str):TyOf K H (.str x) (.type "str")
 | flt (x:UInt64):TyOf K H (.flt x) (.type "float")
 | lst {a:Addr} {xs:List V} (e:H a=some (.lst xs)):TyOf K H (.ref a) (.type "list")
 | frz {a:Addr} {o:Obj} {xs:List V} (e:H a=some (.frz o (.lst xs))):TyOf K H (.ref a) (.type "list")
 | tup {a:Addr} {xs:List V} (e:H a=some (.tup xs)):TyOf K H (.ref a) (.type "tuple")
 | dK {a:Addr} {kvs:List (Key × V)} (e:H a=some (.dK kvs)):TyOf K H (.ref a) (.type "dict")
 | dT {a:Addr} {kvs:List (List Key × V)} (e:H a=some (.dT kvs)):TyOf K H (.ref a) (.type "dict")
 | ins {a C dx:Addr} {fs:List (Str × V)} (e:H a=some (.ins C dx fs)) (cl:Cls K C) (ha:PySem.W.findIn K (.ref C) "__class__"=some (some (.builtin "object.__class__")))
   (hn:PySem.W.specialIn K (.builtin "object.__class__") "__get__"=some (some (.builtin "getset_descriptor.__get__"))) (htk:PySem.W.takesIn K (.builtin "object.__class__")=some true)
   (hm:PySem.W.mroIn K C (.type "object")=some true):TyOf K H (.ref a) (.ref C)
end
structure Room (k:Nat) (A:Around):Prop where
 hd:A.handled=none
 dp:A.depth+3 * k+5<recursionLimit
 un:A.units+16 * k+200<cLine
theorem Room.mono{j k:Nat}{A:Around}(r:Room k A)(h:j<=k):Room j A:=⟨r.hd,by have:=r.dp;omega,by have:=r.un;omega⟩
theorem Room.deeper{k:Nat}{A:Around}(r:Room (k+1) A)(env:Env):Room k (A.deeper env) :=
 ⟨r.hd,by have:=r.dp;show A.depth+1+3 * k+5<_;omega,by have:=r.un;show A.units+3+16 * k+200<_;omega⟩
theorem Room.in1{k:Nat}{A:Around}(r:Room (k+1) A):Room k A.in1 :=
 ⟨r.hd,by have:=r.dp;show A.depth+3 * k+5<_;omega,by have:=r.un;show A.units+1+16 * k+200<_;omega⟩
theorem ζ66 {A:Around} {C:Addr} {us:List Value} {kw:List (Str × Value)}:(A.under (.builtin "type.__call__" ⟨.ref C :: us,kw⟩)).depth=A.depth+1:=by
 first | rfl | simp[Around.under,Code.weight,Code.isCreation,Code.isGuard,Code.isCaller,Code.frames,Code.isFrame,guardIds]
theorem ζ56 {A:Around} {C:Addr} {us:List Value} {kw:List (Str × Value)}:(A.under (.builtin "type.__call__" ⟨.ref C :: us,kw⟩)).units=A.units+1:=by
 first | rfl | simp[Around.under,Code.cUnits,Code.frames,Code.isFrame]
theorem Room.make {k:Nat} {A:Around} (r:Room (k+1) A) (C:Addr) (us:List Value) (kw:List (Str × Value)):Room k (A.under (.builtin "type.__call__" ⟨.ref C :: us,kw⟩)) :=
 ⟨r.hd,by have:=r.dp;rw[ζ66];omega,by have:=r.un;rw[ζ56];omega⟩
theorem Room.depth{k:Nat}{A:Around}(r:Room k A):A.depth<recursionLimit:=by have:=r.dp;omega
theorem Room.units{k:Nat}{A:Around}(r:Room k A):A.units+64<cLine:=by have:=r.un;omega
def tNil:TA:=fun _ H Q=>Q [] H
def ζx11(ta:TE)(tr:TA):TA:=fun σ H Q=>ta σ H fun x H1=>tr σ H1 fun xs H2=>Q (x :: xs) H2
section
variable{X:Cx}{e:Expr}{es:List Expr}{te:TE}{t:TA}{pos:Pos}
theorem ζ3:PA X [] tNil:=fun _ _ _ _ H Q I h=>Calls.spliced_nil ⟨[],H,I,.nil,h⟩
theorem ζ0(ha:PE X e te)(hr:PA X es t)(hs:starEach (e :: es) X.env=(false,eval e X.env) :: starEach es X.env:=by rfl):PA X (e :: es) (ζx11 te t):=by
 intro pos pins s σ H Q I h
 rw[hs]
 show wpAny _ _ (spliced ((false,eval e X.env) :: backTo pos (starEach es X.env))) _ _ s
 refine Calls.spliced_cons (thn (ha pins s σ H _ I h) fun u s1 ⟨x,H1,I1,r1,q1⟩=>?_)
 exact thn (hr pos pins s1 σ H1 _ I1 q1) fun us s2 ⟨xs,H2,I2,r2,q2⟩=>⟨x :: xs,H2,I2,.cons r1 r2,q2⟩
def tTup(t:TA):TE:=fun σ H Q=>t σ H fun xs H1=>xs.length<=sizeLine/\∀ p,H1 p=none->Q (.ref p) (upd H1 p (.tup xs))
def tLst(t:TA):TE:=fun σ H Q=>t σ H fun xs H1=>xs.length<=sizeLine/\∀ p,H1 p=none->Q (.ref p) (upd H1 p (.lst xs))
theorem ζV{x1}(h:PA X es t):PE X (.Tuple es x1 pos) (tTup t):=by
 intro pins s σ H Q I hq
 refine wpAny_Tuple_spliced (thn (h pos pins s σ H _ I hq) fun us s1 ⟨xs,H1,I1,r,z,q⟩=>⟨by rw[<- r.length];exact z,?_⟩)
 have hf:H1 s1.heap.objs.size=none:=I1.hok.fresh (ζζ5 _)
 refine⟨.ref s1.heap.objs.size,upd H1 s1.heap.objs.size (.tup xs),I1.laid (t':=s1.toks) (fun b u e=>ζζ3 _ e) (ζζ5 _) ?_,rfl,q _ hf⟩
 exact⟨z,us,r,⟨_,ζζf _ rfl,rfl,_,rfl⟩⟩
theorem ζe1(h:PA X es t):PE X (.List es pos) (tLst t):=by
 intro pins s σ H Q I hq
 refine wpAny_List_spliced (thn (h pos pins s σ H _ I hq) fun us s1 ⟨xs,H1,I1,r,z,q⟩=>⟨by rw[<- r.length];exact z,?_⟩)
 have hf:H1 s1.heap.objs.size=none:=I1.hok.fresh (ζζ5 _)
 refine⟨.ref s1.heap.objs.size,upd H1 s1.heap.objs.size (.lst xs),I1.laid (t':=s1.toks) (fun b u e=>ζζ3 _ e) (ζζ5 _) ?_,rfl,q _ hf⟩
 exact⟨z,us,0,r,ζζf _ rfl⟩
end
abbrev Sp:=List V->Hp->VK->XK->Prop
abbrev CXT:=List Env->Hp->Shared->XK->Value->Shared->Prop
structure Env0 (P:Program) (w:World) (K:PySem.W.Frag) (mg:Str->Option Value) (base:Heap) (A:Around) (outer:List Env) (s:Shared) (H:Hp):Prop where
 frames:A.frames=some outer
 mod:Mod K mg base
 bs:∀ b o,base.get? b=some o->s.heap.get? b=some o/\H b=none
 bsz:base.objs.size<=s.heap.objs.size
 funs:s.heap.FunFrames base outer
 frf:∀ b∈frs outer,H b=none
 hok:HOk P w H s.heap
 bare:AllBare s.gens
def CE(outer:List Env)(P:Program)(w:World)(H:Hp)(s:Shared)(Q:VK)(u:Value)(s':Shared):Prop :=
 ∃ v H',s'.os=s.os/\AllBare s'.gens/\Un (frs outer) [] H H' s.heap s'.heap/\HOk P w H' s'.heap/\RelV v u/\Q v H'
def CR(CX:CXT)(outer:List Env)(P:Program)(w:World)(H:Hp)(s:Shared)(Q:VK)(E:XK)(r:Result)(s':Shared):Prop :=
 match r with
 | .ok (.ret u)=>CE outer P w H s Q u s'
 | .ok _=>False
 | .error e=>CX outer H s E e s'
structure FnOk (P:Program) (w:World) (K:PySem.W.Frag) (mg:Str->Option Value) (base:Heap) (CX:CXT) (k:Nat) (f:Addr) (fd:FuncData) (ps:List Str) (sp:Sp):Prop where
 len:∀ vs H Q E,sp vs H Q E->vs.length=ps.length
 run:∀(A:Around) (outer:List Env) (s:Shared) (H:Hp) (args:Args) (us:List Value) (vs:List V) (Q:VK) (E:XK),Room k A->Env0 P w K mg base A outer s H->BindsTo s fd args (ps.zip us)->Vals vs us->sp vs H Q E ->
  codeAny (model P w) A (.call (.ref f) args) (CR CX outer P w H s Q E) s
theorem Env0.make{P:Program}{w:World}{K:PySem.W.Frag}{mg:Str->Option Value}{base:Heap}{A:Around}{outer:List Env}{s:Shared}{H:Hp}(e:Env0 P w K mg base A outer s H)(C:Addr)(us:List Value)(kw:List (Str × Value)) :
  Env0 P w K mg base (A.under (.builtin "type.__call__" ⟨.ref C :: us,kw⟩)) outer s H:=⟨by first | exact e.frames | (simpa [Around.under,Code.envs,Code.isFrame,pushEnvs] using e.frames),e.mod,e.bs,e.bsz,e.funs,e.frf,e.hok,e.bare⟩
theorem Env0.in1{P:Program}{w:World}{K:PySem.W.Frag}{mg:Str->Option Value}{base:Heap}{A:Around}{outer:List Env}{s:Shared}{H:Hp}(e:Env0 P w K mg base A outer s H) :
  Env0 P w K mg base A.in1 outer s H:=⟨e.frames,e.mod,e.bs,e.bsz,e.funs,e.frf,e.hok,e.bare⟩
section
variable{X:Cx}{pins:List (Addr × Obj)}{σ:St}{H:Hp}{s s':Shared}
theorem Inv.env0(I:Inv X pins σ H s):Env0 X.prog X.w X.K X.mg X.base X.A X.stack s H :=
 ⟨I.ok.frames,I.ok.mod,I.bs,ζζO I.ok.bsz I.sz,I.stack,I.stkFree,I.hok,I.bare⟩
theorem Inv.after{Q:VK}{u:Value}(I:Inv X pins σ H s)(h:CE X.stack X.prog X.w H s Q u s'):EP X pins σ Q u s':=by
 obtain⟨v,H',os,bare,un,hok,r,q⟩:=h
 obtain⟨hh,g,d,t,os'⟩:=s'
 obtain rfl:os'=s.os:=os
 exact⟨v,H',I.call (h':=hh) (g':=g) (d':=d) (t':=t) (ch:=[]) un hok bare (fun b z=>absurd z (by simp)),r,q⟩
end
def ζA12(sp:Sp)(dvs:List V)(E:XK)(t:TA):TE:=fun σ H Q=>t σ H fun vs H1=>sp (vs++dvs) H1 Q E
def ζz12(C:Addr)(sp:Sp)(dvs:List V)(E:XK)(t:TA):TE:=fun σ H Q=>t σ H fun vs H1=>∀ x dx,H1 x=none->H1 dx=none->dx≠x ->
 sp (.ref x :: (vs++dvs)) (upd (upd H1 dx (.own x)) x (.ins C dx [])) (fun v H2=>v=.non/\Q (.ref x) H2) E
def Binds(K:PySem.W.Frag)(fd:FuncData)(ps:List Str)(ds:List Value):Prop :=
 ∀(s:Shared) (us:List Value),K.In s.heap->(us++ds).length=ps.length->BindsTo s fd ⟨us,[]⟩ (ps.zip (us++ds))
theorem Binds.all{K:PySem.W.Frag}{fd:FuncData}{ps:List Str}(h:∀ us:List Value,us.length=ps.length->bindArgs fd ⟨us,[]⟩=pure (ps.zip us)):Binds K fd ps []:=fun s us _ hl=>by
 rw[ζζ04]at hl ⊢
 exact .of_eq (h us hl)
def ζO6(CX:CXT)(X:Cx)(E:XK):Prop:=∀(pins:List (Addr × Obj)) (σ:St) (H:Hp) (s:Shared) (e:Value) (s':Shared),Inv X pins σ H s->CX X.stack H s E e s'->X.xe e s'
section
variable{X:Cx}{CX:CXT}{k:Nat}{f C:Addr}{fd:FuncData}{ps:List Str}{sp:Sp}{dvs:List V}{ds:List Value}{E:XK}{x:Str}{p pos:Pos}{e:Expr}{es:List Expr}{t:TA}
theorem ζG11{pins:List (Addr × Obj)}{σ:St}{H:Hp}{s:Shared}{Q:VK}{us:List Value}{vs:List V}(F:FnOk X.prog X.w X.K X.mg X.base CX k f fd ps sp)(hr:Room k X.A)(hb:Binds X.K fd ps ds)(hd:Vals dvs ds)(hx:ζO6 CX X E)
  (I:Inv X pins σ H s) (r:Vals vs us) (h:sp (vs++dvs) H Q E):wpAny (model X.prog X.w) X.A (call (.ref f) us) (EP X pins σ Q) X.xe s:=by
 have r2:Vals (vs++dvs) (us++ds):=r.append hd
 have hl:(us++ds).length=ps.length:=by rw[<- r2.length];exact F.len _ _ _ _ h
 refine ζζ2Y (ζζ10 (F.run X.A X.stack s H ⟨us,[]⟩ (us++ds) (vs++dvs) Q E hr I.env0 (hb s us I.kIn hl) r2 h) fun r s' hq=>?_)
 cases r with
 | error e=>exact hx pins σ H s e s' I hq
 | ok fl =>
  cases fl with
  | ret u=>exact I.after hq
  | next=>exact False.elim hq
  | brk=>exact False.elim hq
  | cont=>exact False.elim hq
theorem ζa(F:FnOk X.prog X.w X.K X.mg X.base CX k f fd ps sp)(hr:Room k X.A)(hg:Gl X x)(hm:X.mg x=some (.ref f))(hk:PySem.W.keepIn X.K (.ref f)=true)(hb:Binds X.K fd ps ds)(hd:Vals dvs ds)(hx:ζO6 CX X E)
  (ha:PA X (e :: es) t) (hdb:(x == ("__debug__":Str))=false:=by decide) (he:starEach (e :: es) X.env=(false,eval e X.env) :: starEach es X.env:=by rfl) (hpl:(backTo pos (starEach es X.env)).any (·.1)=false:=by rfl) :
  PE X (.Call (.Name x p) (e :: es) [] pos) (ζA12 sp dvs E t):=by
 intro pins s σ H Q I h
 refine ζζ0N (ζc6 I hg hm ?_ hdb)
 refine PySem.W.callWith_K (h₀:=X.base) I.ok.mod.kin hk (thn (ha pos pins s σ H _ I h) fun us s1 ⟨vs,H1,I1,r,q⟩=>⟨I1.kIn,?_⟩) he hpl
 exact ζG11 F hr hb hd hx I1 r q
structure Mk (K:PySem.W.Frag) (C f:Addr):Prop where
 makes:PySem.W.makesIn K C=true
 init:PySem.W.findIn K (.ref C) "__init__"=some (some (.ref f))
 fn:PySem.W.isFn K (.ref f)=true
 kp:PySem.W.keepIn K (.ref C)=true
theorem ζH8{pins:List (Addr × Obj)}{σ:St}{H:Hp}{s:Shared}{Q:VK}{us:List Value}{vs:List V}(M:Mk X.K C f)(F:FnOk X.prog X.w X.K X.mg X.base CX k f fd ps sp)(hr:Room (k+1) X.A)(hb:Binds X.K fd ps ds)(hd:Vals dvs ds)
  (hx:ζO6 CX X E) (I:Inv X pins σ H s) (r:Vals vs us)
  (h:∀ x dx,H x=none->H dx=none->dx≠x->sp (.ref x :: (vs++dvs)) (upd (upd H dx (.own x)) x (.ins C dx [])) (fun v H2=>v=.non/\Q (.ref x) H2) E) :
  wpAny (model X.prog X.w) X.A (call (.ref C) us) (EP X pins σ Q) X.xe s:=by
 have hq:=h (s.heap.objs.size+1) s.heap.objs.size (I.hok.fresh (ζζ0w _)) (I.hok.fresh (ζζ5 _)) (ζζr (ζζ0z _))
 have I2:=Inv.made (C:=C) I
 have r2:Vals (V.ref (s.heap.objs.size+1) :: (vs++dvs)) (Value.ref (s.heap.objs.size+1) :: (us++ds)):=.cons rfl (r.append hd)
 have hl:(Value.ref (s.heap.objs.size+1) :: us++ds).length=ps.length:=by
  have e:=r2.length
  rw[F.len _ _ _ _ hq]at e
  exact e.symm
 refine ζζ2Y (ζa9 (f:=f) I.kIn M.makes M.init (ζζ11.mp M.fn) (ζζ10 (F.run _ X.stack _ _ ⟨Value.ref (s.heap.objs.size+1) :: us,[]⟩ (Value.ref (s.heap.objs.size+1) :: (us++ds)) _ _ E (hr.make C us [])
  (I2.env0.make C us []) (hb _ (Value.ref (s.heap.objs.size+1) :: us) I2.kIn hl) r2 hq) fun r s' hq'=>?_))
 cases r with
 | error e=>exact hx pins σ _ _ e s' I2 hq'
 | ok fl =>
  cases fl with
  | ret u =>
   obtain⟨v,H',I3,rv,ev,q3⟩:=I2.after hq'
   subst ev
   exact⟨rv,⟨V.ref (s.heap.objs.size+1),H',I3,rfl,q3⟩⟩
  | next=>exact False.elim hq'
  | brk=>exact False.elim hq'
  | cont=>exact False.elim hq'
theorem ζN7(M:Mk X.K C f)(F:FnOk X.prog X.w X.K X.mg X.base CX k f fd ps sp)(hr:Room (k+1) X.A)(hg:Gl X x)(hm:X.mg x=some (.ref C))(hb:Binds X.K fd ps ds)(hd:Vals dvs ds)(hx:ζO6 CX X E)
  (ha:PA X (e :: es) t) (hdb:(x == ("__debug__":Str))=false:=by decide) (he:starEach (e :: es) X.env=(false,eval e X.env) :: starEach es X.env:=by rfl) (hpl:(backTo pos (starEach es X.env)).any (·.1)=false:=by rfl) :
  PE X (.Call (.Name x p) (e :: es) [] pos) (ζz12 C sp dvs E t):=by
 intro pins s σ H Q I h
 refine ζζ0N (ζc6 I hg hm ?_ hdb)
 refine PySem.W.callWith_K (h₀:=X.base) I.ok.mod.kin M.kp (thn (ha pos pins s σ H _ I h) fun us s1 ⟨vs,H1,I1,r,q⟩=>⟨I1.kIn,?_⟩) he hpl
 exact ζH8 M F hr hb hd hx I1 r q
end
section
variable{fd:FuncData}{ps ks:List Str}
structure KBinds (K:PySem.W.Frag) (fd:FuncData) (ps ks:List Str) (g:List Value->List Value->List Value) (gV:List V->List V->List V):Prop where
 to:∀(s:Shared) (us ws:List Value),K.In s.heap->(g us ws).length=ps.length->BindsTo s fd ⟨us,ks.zip ws⟩ (ps.zip (g us ws))
 rel:∀ {vs:List V} {us:List Value} {zs:List V} {ws:List Value},Vals vs us->Vals zs ws->Vals (gV vs zs) (g us ws)
end
structure FnScope (N P:List Str) (sc:Scope):Prop where
 kind:sc.kind=.function
 co:sc.isCoroutine=false
 gen:sc.isGenerator=false
 nd:N.Nodup
 pre:N.take P.length=P
 par:∀ x∈P,sc.names.lookup x=some .local\/sc.names.lookup x=some .cell
 nofree:∀ y∈sc.names,y.2≠.free
theorem ζX4{kindOf:Str->Option NameKind}{x:Str}:∀ {binds:List (Str × Value)} {m:Str->Option Value},(∀ v,(x,v)∉binds)->bindL kindOf binds m x=m x
 | [],_,_=>rfl
 | (n,v) :: r,m,h=>by
  unfold bindL
  rw[ζX4 fun w hw=>h w (ζζk _ hw)]
  split
  ·have:x≠n:=by rintro rfl;exact h v ζζg
   simp[this]
  ·rfl
theorem ζZ4{kindOf:Str->Option NameKind}{x:Str}:∀ {binds:List (Str × Value)} {m:Str->Option Value},(∀ v,(x,v)∉binds)->bindC kindOf binds m x=m x
 | [],_,_=>rfl
 | (n,v) :: r,m,h=>by
  unfold bindC
  rw[ζZ4 fun w hw=>h w (ζζk _ hw)]
  split
  ·rfl
  ·have:x≠n:=by rintro rfl;exact h v ζζg
   simp[this]
theorem ζY4{kindOf:Str->Option NameKind}{x:Str}{v:Value}:∀ {P:List Str} {vs:List Value} {i:Nat} {m:Str->Option Value},P.Nodup->P[i]?=some x->vs[i]?=some v->kindOf x=some .local ->
  bindL kindOf (P.zip vs) m x=some v
 | [],_,_,_,_,h,_,_=>by simp at h
 | _ :: _,[],_,_,_,_,h,_=>by simp at h
 | p :: P,w :: vs,0,m,nd,h1,h2,hk=>by
  simp at h1 h2;subst h1;subst h2
  show bindL kindOf ((p,w) :: P.zip vs) m p=_
  unfold bindL
  rw[ζX4 fun v hv=>(ζζ0h.mp nd).1 (ζζ2J hv).1,if_pos hk]
  simp
 | p :: P,w :: vs,i+1,m,nd,h1,h2,hk=>by
  show bindL kindOf ((p,w) :: P.zip vs) m x=_
  unfold bindL
  exact ζY4 (i:=i) (ζζ0h.mp nd).2 (by simpa using h1) (by simpa using h2) hk
theorem ζ05{kindOf:Str->Option NameKind}{x:Str}{v:Value}:∀ {P:List Str} {vs:List Value} {i:Nat} {m:Str->Option Value},P.Nodup->P[i]?=some x->vs[i]?=some v->kindOf x≠some .local ->
  bindC kindOf (P.zip vs) m x=some v
 | [],_,_,_,_,h,_,_=>by simp at h
 | _ :: _,[],_,_,_,_,h,_=>by simp at h
 | p :: P,w :: vs,0,m,nd,h1,h2,hk=>by
  simp at h1 h2;subst h1;subst h2
  show bindC kindOf ((p,w) :: P.zip vs) m p=_
  unfold bindC
  rw[ζZ4 fun v hv=>(ζζ0h.mp nd).1 (ζζ2J hv).1,if_neg hk]
  simp
 | p :: P,w :: vs,i+1,m,nd,h1,h2,hk=>by
  show bindC kindOf ((p,w) :: P.zip vs) m x=_
  unfold bindC
  exact ζ05 (i:=i) (ζζ0h.mp nd).2 (by simpa using h1) (by simpa using h2) hk
def start(N:List Str)(vs:List V):St:=vs.map some++List.replicate (N.length - vs.length) none
def cxOf(CX:CXT)(P:Program)(w:World)(K:PySem.W.Frag)(mg:Str->Option Value)(base:Heap)(N:List Str)(qual:Str)(scope:Scope)(f:Addr)(cd:Value)(A:Around)(outer:List Env)(s:Shared)(H:Hp)(E:XK):Cx where
 prog:=P
 w:=w
 K:=K
 mg:=mg
 base:=base
 A:=A.deeper (envOfC qual scope s.heap.objs.size f cd)
 N:=N
 s₀:=s
 H₀:=H
 env:=envOfC qual scope s.heap.objs.size f cd
 outer:=outer
 stack:=envOfC qual scope s.heap.objs.size f cd :: outer
 ex:=[]
 calm:=true
 fn:=fun _=>true
 pn:=[]
 xe:=fun e s'=>wpAny (model P w) (A.deeper (envOfC qual scope s.heap.objs.size f cd)) (leaving (envOfC qual scope s.heap.objs.size f cd) e) (fun _ s''=>CX outer H s E e s'') (fun e' s''=>CX outer H s E e' s'') s'
theorem ζH6{sc:Scope}{n:Nat}{x:Str}(h:sc.names.lookup x=some .cell):∃ c,(cellsFrom n sc.names []).lookup x=some c:=by
 have q:=ζζ30 sc.names n [] (.inl h)
 exact ζζ1P.mp q
theorem ζj7{CX:CXT}{P:Program}{w:World}{K:PySem.W.Frag}{mg:Str->Option Value}{base:Heap}{N ps:List Str}{qual:Str}{scope:Scope}{f:Addr}{cd:Value}{A:Around}{outer:List Env}{s s1:Shared}{H:Hp}{E:XK}{us:List Value}{vs:List V}
  (S:FnScope N ps scope) (hd:A.handled=none) (e0:Env0 P w K mg base A outer s H) (hl:vs.length=ps.length) (r:Vals vs us)
  (x:InCallC s s.heap.objs.size (bindL (envOfC qual scope s.heap.objs.size f cd).kindOf (ps.zip us) fun _=>none) (cellsFrom (s.heap.objs.size+1) scope.names []) (bindC (envOfC qual scope s.heap.objs.size f cd).kindOf (ps.zip us) fun _=>none) s1) :
  Inv (cxOf CX P w K mg base N qual scope f cd A outer s H E) [] (start N vs) H s1:=by
 have hpl:ps.length<=N.length:=by have:=ζζ0l List.length S.pre;rw[ζζv]at this;omega
 obtain⟨h1,tk,rfl,hk⟩:=x.done
 have noA:∀ b:Addr,b∉(cxOf CX P w K mg base N qual scope f cd A outer s H E).ex:=fun b z=>absurd (show b∈([]:List Addr) from z) (by simp)
 refine⟨⟨e0.mod,S.kind,rfl,rfl,ζζ5 _,fun y z c h1 h2=>?_,fun y hy=>?_,fun y c _ h=>?_,fun _=>hd,Around.frames_deeper e0.frames,.inr ⟨rfl,rfl⟩,fun b z=>absurd z (noA b),e0.bs,e0.bsz,fun b _ _=>noA b,fun b z=>absurd z (noA b),e0.funs,e0.frf⟩,
  rfl,e0.bare,Un.kept hk,⟨_,x.toInCall.ns,fun i y v h1 h2 h3=>?_⟩,fun y c h=>⟨_,x.cell y c h⟩,e0.hok.fresh (ζζ5 _),fun y c h=>?_,fun p hp=>absurd (show p∈([]:List (Addr × Obj)) from hp) (by simp),e0.hok.kept hk,?_⟩
 ·exact name_of_addr x.apart (ζζ0E h1) (ζζ0E h2)
 ·have hy:scope.names.lookup y=some .cell\/scope.names.lookup y=some .free:=hy
  rcases hy with hy | hy
  ·exact ζH6 hy
  ·exact absurd rfl (S.nofree _ (ζζ0E hy))
 ·exact ζζ1z (x.above y c (ζζ0E h))
 ·have hi:i<vs.length:=by
   unfold start at h2
   by_cases hi:i<vs.length
   ·exact hi
   ·rw[ζζz (by simpa using hi)]at h2
    rw[ζζ1j]at h2
    split at h2 <;> cases h2
  have ha:vs[i]?=some v:=by
   unfold start at h2
   rw[ζζI (by simpa using hi),ζζh]at h2
   cases e:vs[i]? with
   | none=>rw[e]at h2;cases h2
   | some a=>rw[e]at h2;cases h2;rfl
  obtain⟨u,hu,rv⟩:=r.get ha
  have hp:ps[i]?=some y:=by
   rw[<- S.pre,ζζ2R (by omega)];exact h1
  have ndP:ps.Nodup:=by rw[<- S.pre];exact S.nd.sublist (ζζ1s _ _)
  refine⟨u,rv,?_⟩
  rcases S.par y (ζζe hp) with k | k
  ·exact .inl ⟨k,ζY4 ndP hp hu k⟩
  ·obtain⟨c,e⟩:=ζH6 (n:=s.heap.objs.size+1) k
   refine .inr ⟨.inl k,c,e,?_⟩
   have q:=x.cell y c e
   rw[ζ05 ndP hp hu (by show scope.names.lookup y≠_;rw[k];decide)]at q
   exact q
 ·exact e0.hok.fresh (ζζ1z (x.above y c (ζζ0E h)))
 ·unfold start
  show _=N.length
  rw[ζζ6,ζζa,ζζ01]
  omega
theorem ζt12{CX:CXT}{P:Program}{w:World}{K:PySem.W.Frag}{mg:Str->Option Value}{base:Heap}{k:Nat}{f:Addr}{name qual:Str}{params:Arguments}{body:List Stmt}{scope:Scope}{dV kV doc pm cdv ct oc:Value}{an od:Option Addr}
  {osl:Array (Option Value)} {N ps:List Str} {sp:Sp} (lk:K.lookup f=some ⟨oc,od,.func (PySem.W.fnOf name qual params body scope dV kV doc pm an cdv ct),osl⟩) (hcd:PySem.W.codeIn K cdv qual=true) (S:FnScope N ps scope)
  (len:∀ vs H Q E,sp vs H Q E->vs.length=ps.length)
  (hbody:∀(A:Around) (outer:List Env) (s:Shared) (H:Hp) (vs:List V) (Q:VK) (E:XK),Room k (A.deeper (envOfC qual scope s.heap.objs.size f cdv))->sp vs H Q E ->
   ∃ t,PSs (cxOf CX P w K mg base N qual scope f cdv A outer s H E) body t/\t { nx:=fun _ H'=>Q .non H',rt:=Q } (start N vs) H) :
  FnOk P w K mg base CX (k+1) f (PySem.W.fnOf name qual params body scope dV kV doc pm an cdv ct) ps sp:=by
 refine⟨len,fun A outer s H args us vs Q E hr e0 hb r hsp=>?_⟩
 have hl:=len _ _ _ _ hsp
 have KX:K.In s.heap:=e0.mod.kin.keeps fun b o e=>(e0.bs b o e).1
 have lim:s.heap.NoLimit:=e0.mod.nolimit.keeps fun b o e=>(e0.bs b o e).1
 have hkind:∀ y∈ps.zip us,scope.names.lookup y.1=some .local\/(scope.names.lookup y.1=some .cell/\((cellsFrom (s.heap.objs.size+1) scope.names []).lookup y.1).isSome=true):=fun⟨n,v⟩ hy=>by
  rcases S.par n (ζζ2J hy).1 with q | q
  ·exact .inl q
  ·exact .inr ⟨q,ζζ30 _ _ _ (.inl q)⟩
 refine codeAny_call_function hr.depth (KX _ _ lk) rfl S.co S.gen rfl (PySem.W.codeRec_of KX hcd) (hb _ _ _ _ ?_)
 refine wpAny_newFunctionEnv_cells S.kind hkind fun env he s1 x=>?_
 subst he
 refine⟨lim.keeps x.toInCall.keep,codeAny_func ?_⟩
 obtain⟨t,ht,hq⟩:=hbody A outer s H vs Q E (hr.deeper _) hsp
 have I:Inv (cxOf CX P w K mg base N qual scope f cdv A outer s H E) [] (start N vs) H s1:=ζj7 S hr.hd e0 hl r x
 refine ζζ0I (ht [] s1 (start N vs) H _ I hq) (fun fl s' hs=>?_) fun e s' hs=>hs
 have fin:∀ {σ':St} {H':Hp} {v:V} {u:Value},Inv (cxOf CX P w K mg base N qual scope f cdv A outer s H E) [] σ' H' s'->RelV v u->Q v H'->CE outer P w H s Q u s' :=
  fun {σ' H' v u} J rv q=>⟨v,H',J.os,J.bare,J.base,J.hok,rv,q⟩
 cases fl with
 | ret u =>
  obtain⟨v,σ',H',J,rv,q⟩:=hs
  exact fin J rv q
 | next =>
  obtain⟨σ',H',J,q⟩:=hs
  exact fin (v:=V.non) (u:=Value.none) J rfl q
 | brk =>
  obtain⟨_,_,_,q⟩:=hs
  exact False.elim q
 | cont =>
  obtain⟨_,_,_,q⟩:=hs
  exact False.elim q
section
variable{X:Cx}{x:Str}{p pos:Pos}{e:Expr}{es:List Expr}{t:TA}{id T:String}{r:List V->Hp->VK->Prop}
def tCB(r:List V->Hp->VK->Prop)(t:TA):TE:=fun σ H Q=>t σ H fun vs H1=>r vs H1 Q
theorem ζf (hc:ζI1 X (.builtin id) r) (hg:Gl X x) (hm:X.mg x=none) (hv:bootBuiltins x=some (.builtin id)) (ha:PA X (e :: es) t) (hn:x≠"__name__":=by decide) (hdb:(x == ("__debug__":Str))=false:=by decide)
  (he:starEach (e :: es) X.env=(false,eval e X.env) :: starEach es X.env:=by rfl) (hpl:(backTo pos (starEach es X.env)).any (·.1)=false:=by rfl):PE X (.Call (.Name x p) (e :: es) [] pos) (tCB r t):=by
 intro pins s σ H Q I h
 refine ζζ0N (ζs2 I hg hm hv ?_ hn hdb)
 exact ζζ2q (thn (ha pos pins s σ H _ I h) fun us s1 ⟨vs,H1,I1,r1,q1⟩=>hc pins s1 σ H1 vs us Q I1 r1 q1) he hpl
theorem ζg (hc:ζI1 X (.type T) r) (hg:Gl X x) (hm:X.mg x=none) (hv:bootBuiltins x=some (.type T)) (ha:PA X (e :: es) t) (hn:x≠"__name__":=by decide) (hdb:(x == ("__debug__":Str))=false:=by decide)
  (he:starEach (e :: es) X.env=(false,eval e X.env) :: starEach es X.env:=by rfl) (hpl:(backTo pos (starEach es X.env)).any (·.1)=false:=by rfl):PE X (.Call (.Name x p) (e :: es) [] pos) (tCB r t):=by
 intro pins s σ H Q I h
 refine ζζ0N (ζs2 I hg hm hv ?_ hn hdb)
 exact ζζ0e (thn (ha pos pins s σ H _ I h) fun us s1 ⟨vs,H1,I1,r1,q1⟩=>hc pins s1 σ H1 vs us Q I1 r1 q1) he hpl
end
end L2
namespace HT
open PySem PyProof.Rows
def lexLt:List Int->List Int->Bool
 | [],[]=>false
 | [],_ :: _=>true
 | _ :: _,[]=>false
 | x :: xs,y :: ys=>if x=y then lexLt xs ys else decide (x<y)
theorem lexLt_cons(x y:Int)(xs ys:List Int):lexLt (x :: xs) (y :: ys)=if x=y then lexLt xs ys else decide (x<y):=rfl
theorem ζq3:lexLt [] []=false:=rfl
theorem ζO2(y:Int)(ys:List Int):lexLt [] (y :: ys)=true:=rfl
theorem ζP2(x:Int)(xs:List Int):lexLt (x :: xs) []=false:=rfl
theorem ζB9(A:Around)(s:Shared)(a:Int)(t:Tok)(c:Int)(u:Tok):∃ e,SeqAt.EqAt A s (.int a t) (.int c u) e/\(e=true↔a=c) :=
 ⟨(a == c),ζζ16 a t c u,by simp⟩
theorem ζL5(A:Around)(s:Shared)(a:Int)(t:Tok)(c:Int)(u:Tok)(prog:Program)(w:World)(E:Value->Shared->Prop)(Q:Value->Shared->Prop)(h:Q (.bool (decide (a<c))) s) :
  wpAny (model prog w) A (richCompare .Lt (.int a t) (.int c u)) Q E s :=
 (PyProof.Rows.lt_int h:wpAny (model prog w) A (compareOp .Lt (.int a t) (.int c u)) Q E s)
section
open PySem.SeqAt
open PySem.AutoSeq1 (wpAny_loadPart')
open PySem.MeetsSeq PySem.MeetsSeq2 PySem.MeetsSeq3
theorem ζ63(l b:Addr)(items items2:Array Value)(n n2:Nat)(dd dd2:Option Addr)(sl sl2:Array (Option Value))(ns ms:List Int)(hi:IntsAre items.toList ns)(hj:IntsAre items2.toList ms) :
  Meets (Builtin.«tuple.__lt__» ⟨[.ref l,.ref b],[]⟩)
   (fun _ R s=>s.heap.get? l=some { cls:=.type "tuple",dict:=dd,data:=.seq items n,slots:=sl }/\s.heap.get? b=some { cls:=.type "tuple",dict:=dd2,data:=.seq items2 n2,slots:=sl2 } /\
    R (.ok (.ret (.bool (lexLt ns ms)))) s) :=
 .of_wp fun prog w A R s h=>by
  obtain⟨hp,g,d,tk,os⟩:=s;obtain⟨hl,hb,h⟩:=h
  have f2:=AutoSeq1.sub_tuple_tuple
  have z1:items.size=ns.length:=by rw[<- hi.length];simp
  have z2:items2.size=ms.length:=by rw[<- hj.length];simp
  wp_walk using ζζ0Y hl,ζζ0Y hb,wpAny_forIn_list _ (fun rest b s'=>b.1=none/\s'=⟨hp,g,d,tk,os⟩/\∃(vs ws:List Value) (ns' ms':List Int),rest=vs.zip ws /\
   IntsAre vs ns'/\IntsAre ws ms'/\ns'.length+items2.size=ms'.length+items.size/\R (.ok (.ret (.bool (lexLt ns' ms')))) ⟨hp,g,d,tk,os⟩) _
  case turn =>
   rintro⟨y,x⟩ rest b s' ⟨hb',rfl,vs,ws,ns',ms',hz,hvi,hwi,hlen,hR⟩
   cases hvi with
   | nil=>rw[List.zip_nil_left]at hz;cases hz
   | cons a t hvi' =>
    cases hwi with
    | nil=>rw[List.zip_nil_right]at hz;cases hz
    | cons c u hwi' =>
     rw[List.zip_cons_cons]at hz
     injection hz with hyx hrest
     injection hyx with hy hx
     subst hy hx
     rw[lexLt_cons]at hR
     simp only [ζζq]at hlen
     obtain⟨e,he,hiff⟩:=ζB9 A.in1 ⟨hp,g,d,tk,os⟩ a t c u
     refine ζζ2 (he prog w _ _ ?_)
     cases e with
     | true =>
      rw[if_pos (hiff.mp rfl)]at hR
      wp_walk
      exact⟨rfl,rfl,_,_,_,_,hrest,hvi',hwi',by omega,hR⟩
     | false =>
      rw[if_neg (fun q=>absurd (hiff.mpr q) ζζu)]at hR
      have hri:=ζL5 A.in1 ⟨hp,g,d,tk,os⟩ a t c u prog w
      wp_walk using hri
      exact⟨_,rfl,by simpa using hR⟩
  case fin =>
   rintro⟨b1,b2⟩ s' ⟨hb',rfl,vs,ws,ns',ms',hz,hvi,hwi,hlen,hR⟩
   simp only at hb'
   subst hb'
   have hv:lexLt ns' ms'=decide (items.size<items2.size):=by
    cases hvi with
    | nil =>
     cases hwi with
     | nil =>
      simp only [ζζ0Q]at hlen
      rw[ζq3]
      exact(ζζE (by omega)).symm
     | cons c u hw =>
      simp only [ζζ0Q,ζζq]at hlen
      rw[ζO2]
      exact(ζζd (by omega)).symm
    | cons a t hv =>
     cases hwi with
     | nil =>
      simp only [ζζ0Q,ζζq]at hlen
      rw[ζP2]
      exact(ζζE (by omega)).symm
     | cons c u hw =>
      rw[List.zip_cons_cons]at hz
      cases hz
   rw[hv]at hR
   wp_walk
   exact⟨_,rfl,by simpa [Builtin.Tuple.tupleCompareSizes] using hR⟩
  case h =>
   exact⟨rfl,rfl,items.toList,items2.toList,ns,ms,rfl,hi,hj,by omega,h⟩
end
section
variable{prog:Program}{w:World}{A:Around}{E:Value->Shared->Prop}{s:Shared}
theorem ζ86{l b:Addr}{items items2:Array Value}{ns ms:List Int}{Q:Value->Shared->Prop}(hl:IsTup s.heap l items)(hb:IsTup s.heap b items2)(hi:IntsAre items.toList ns)(hj:IntsAre items2.toList ms)
  (hu:A.units<cLine) (h:Q (.bool (lexLt ns ms)) s):wpAny (model prog w) A (compareOp .Lt (.ref l) (.ref b)) Q E s:=by
 obtain⟨⟨cls,dd,data,sl⟩,ho,hc,n,hd⟩:=id hl
 obtain⟨⟨cls2,dd2,data2,sl2⟩,ho2,hc2,n2,hd2⟩:=id hb
 simp only at hc hd hc2 hd2
 subst hc hd hc2 hd2
 exact richCompare_meets_room (op:=.Lt) ⟨_,ho,rfl⟩ ⟨_,ho2,rfl⟩ ζζ38 ζζ32 (ζζ2U _ _) (ζ63 l b items items2 n n2 dd dd2 sl sl2 ns ms hi hj)
  ⟨ho,ho2,show Value.bool (lexLt ns ms)≠Value.notImplemented/\Q (.bool (lexLt ns ms)) s from⟨(fun x=>nomatch x),h⟩⟩ hu
theorem cat_tup{t b:Addr}{vs ws:List Value}{Q:Value->Shared->Prop}(ht:IsTup s.heap t vs.toArray)(hb:IsTup s.heap b ws.toArray)(hv:vs≠[])
  (h1:ws=[]->Q (.ref t) s) (h2:ws≠[]->Q (.ref s.heap.objs.size) { s with heap:=s.heap.push { cls:=.type "tuple",data:=.seq (vs++ws).toArray } })
  (hsz:vs.length+ws.length<=sizeLine):wpAny (model prog w) A (binaryOp .Add (.ref t) (.ref b)) Q E s:=by
 obtain⟨⟨cls,dd,data,sl⟩,ho,hc,n,hd⟩:=id ht
 obtain⟨⟨cls2,dd2,data2,sl2⟩,ho2,hc2,n2,hd2⟩:=id hb
 simp only at hc hd hc2 hd2
 subst hc hd hc2 hd2
 have e:vs.toArray++ws.toArray=(vs++ws).toArray:=by simp
 by_cases hw:ws=[]
 ·exact concat_meets ⟨_,ho,rfl⟩ ⟨_,ho2,rfl⟩ ζζ2Z seq_tuple_add ζζ1Z ζζ1V (ζζ1N _ _)
   (tuple_addW1 t b vs.toArray ws.toArray n n2 dd dd2 sl sl2 (by simpa using hv) (by simp[hw])) ⟨ho,ho2,h1 hw⟩
 ·refine concat_meets ⟨_,ho,rfl⟩ ⟨_,ho2,rfl⟩ ζζ2Z seq_tuple_add ζζ1Z ζζ1V (ζζ1N _ _)
   (tuple_addW2 t b vs.toArray ws.toArray n n2 dd dd2 sl sl2 (by simpa using hv) (by simpa using hw) (by rw[ζζ7,ζζ7];exact hsz)) ⟨ho,ho2,?_⟩
  rw[e]
  exact h2 hw
def sIx(n d:Nat):Option Int->Nat
 | none=>d
 | some v=>if v<0 then (v+(n:Int)).toNat else min v.toNat n
theorem sIx_none(n d:Nat):sIx n d none=d:=rfl
end
end HT
namespace L2
open PySem PySem.Spec PyProof.Rows
abbrev TO:=St->Hp->(Option Int->Hp->Prop)->Prop
def PO(X:Cx)(e:Option Expr)(t:TO):Prop :=
 ∀(pins:List (Addr × Obj)) (s:Shared) (σ:St) (H:Hp) (Q:Option Int->Hp->Prop),Inv X pins σ H s->t σ H Q ->
  wpAny (model X.prog X.w) X.A (evalPart e X.env) (fun u s'=>∃ o H',Inv X pins σ H' s'/\IsPart u o/\Q o H') X.xe s
def ζX9:TO:=fun _ H Q=>Q none H
def ζx12(t:TE):TO:=fun σ H Q=>t σ H fun x H1=>∃ i,x=.int i/\Q (some i) H1
section
variable{X:Cx}{e:Expr}{te:TE}{lo hi:Option Expr}{tl th:TO}{pos p2:Pos}
theorem ζb2:PO X none ζX9:=by
 intro pins s σ H Q I h
 rw[evalPart_none]
 exact ζζl ⟨none,H,I,.none,h⟩
theorem ζa2(h:PE X e te):PO X (some e) (ζx12 te):=by
 intro pins s σ H Q I hw
 rw[evalPart_some]
 refine thn (h pins s σ H _ I hw) fun u s1 ⟨x,H1,I1,r1,q1⟩=>?_
 obtain⟨i,rfl,q⟩:=q1
 obtain⟨t,rfl⟩:=r1
 exact⟨some i,H1,I1,.int i t,q⟩
def SlR(X:Cx)(r:V->Option Int->Option Int->Hp->VK->Prop):Prop :=
 ∀(pins:List (Addr × Obj)) (s:Shared) (σ:St) (H:Hp) (x:V) (v vl vu:Value) (lo hi:Option Int) (sl:Addr) (Q:VK),Inv X pins σ H s->RelV x v->s.heap.IsSliceOf sl vl vu .none->IsPart vl lo->IsPart vu hi->r x lo hi H Q ->
  ∃ T id,typeLookup (.type T) "__getitem__"=pure (some (.builtin id))/\s.TypeIs v T/\wpAny (model X.prog X.w) X.A (getItem v (.ref sl)) (EP X pins σ Q) X.xe s
def tSl(r:V->Option Int->Option Int->Hp->VK->Prop)(te:TE)(tl th:TO):TE:=fun σ H Q=>te σ H fun x H1=>tl σ H1 fun l H2=>th σ H2 fun u H3=>r x l u H3 Q
theorem ζw1{r:V->Option Int->Option Int->Hp->VK->Prop}(hr:SlR X r)(he:PE X e te)(hl:PO X lo tl)(hu:PO X hi th):PE X (.Subscript e (.Slice lo hi none p2) pos) (tSl r te tl th):=by
 intro pins s σ H Q I h
 refine Subscript_ (thn (he pins s σ H _ I h) fun v s1 ⟨x,H1,I1,r1,q1⟩=>?_)
 refine wpAny_Slice (thn (hl pins s1 σ H1 _ I1 q1) fun vl s2 ⟨l,H2,I2,pl,q2⟩=>thn (hu pins s2 σ H2 _ I2 q2) fun vu s3 ⟨u,H3,I3,pu,q3⟩=>?_)
 rw[evalPart_none]
 refine ζζl ?_
 have I4:Inv X pins σ H3 { s3 with heap:=s3.heap.push { cls:=.type "slice",data:=.fields #[vl,vu,.none] } }:=I3.kept (t':=s3.toks) fun b ob q=>ζζ3 _ q
 obtain⟨T,id,hT,ht,hg⟩:=hr pins { s3 with heap:=s3.heap.push { cls:=.type "slice",data:=.fields #[vl,vu,.none] } } σ H3 x v vl vu l u s3.heap.objs.size Q I4 r1 (Heap.IsSliceOf.new ..) pl pu q3
 show wpAny (model X.prog X.w) X.A (subscriptTail e (.Slice lo hi none p2) v (.ref s3.heap.objs.size)) (EP X pins σ Q) X.xe { s3 with heap:=s3.heap.push { cls:=.type "slice",data:=.fields #[vl,vu,.none] } }
 exact tail_any (ops:=[.ref s3.heap.objs.size,v]) ht hT hg (by with_unfolding_all rfl)
def cutV(xs:List V)(lo hi:Option Int):List V:=(xs.drop (HT.sIx xs.length 0 lo)).take (HT.sIx xs.length xs.length hi - HT.sIx xs.length 0 lo)
theorem ζl5(xs:List V)(lo hi:Option Int):(cutV xs lo hi).length<=xs.length:=by
 unfold cutV
 rw[ζζv,ζζ0A]
 omega
def ζn12(K:PySem.W.Frag):R2:=fun x y H Q=>∃ a b xs ys,x=.ref a/\y=.ref b/\SqT K H a xs/\SqT K H b ys/\xs≠[]/\xs.length+ys.length<=sizeLine /\
 (ys=[]->Q (.ref a) H)/\(ys≠[]->∀ p,H p=none->Q (.ref p) (upd H p (.tup (xs++ys))))
theorem Vals.nil_iff{xs:List V}{us:List Value}(r:Vals xs us):us=[]↔xs=[]:=by
 cases r with
 | nil=>simp
 | cons _ _=>simp
theorem ζq10:OpR X (binaryOp .Add) (ζn12 X.K):=by
 intro pins s σ H x y v u Q I rx ry h
 obtain⟨a,b,xs,ys,rfl,rfl,ha,hb,hx,hz,q1,q2⟩:=h
 cases rx
 cases ry
 obtain⟨its,r1,p1,_⟩:=I.tuple ha
 obtain⟨its2,r2,p2,_⟩:=I.tuple hb
 refine HT.cat_tup p1 p2 (fun z=>hx (r1.nil_iff.mp z)) (fun z=>⟨.ref a,H,I,rfl,q1 (r2.nil_iff.mp z)⟩) (fun z=>?_) (by rw[<- r1.length,<- r2.length];exact hz)
 refine⟨.ref s.heap.objs.size,_,I.laid (t':=s.toks) (o:=.tup (xs++ys)) (fun b ob q=>ζζ3 _ q) (ζζ5 _) ?_,rfl,q2 (fun w=>z (r2.nil_iff.mpr w)) _ (I.hok.fresh (ζζ5 _))⟩
 exact⟨by rw[ζζ6];exact hz,_,r1.append r2,IsTup.new _ _⟩
end
def ixN(n:Nat)(i:Int):Option Nat:=if 0<=i then (if i<n then some i.toNat else none) else if -(n:Int)<=i then some (i+n).toNat else none
def atI{α:Type}(xs:List α)(i:Int):Option α:=(ixN xs.length i).bind fun j=>xs[j]?
theorem ζ38{n:Nat}{i:Int}{j:Nat}(h:ixN n i=some j):seqIndex? i n=some j/\j<n/\-(n:Int)<=i/\i<n:=by
 unfold ixN at h
 by_cases h0:0<=i
 ·rw[if_pos h0]at h
  by_cases h1:i<n
  ·rw[if_pos h1]at h
   have e:i.toNat=j:=ζζ8 h
   exact⟨by rw[seqIndex_of h0 h1,e],by omega,by omega,h1⟩
  ·rw[if_neg h1]at h;cases h
 ·rw[if_neg h0]at h
  by_cases h1:-(n:Int)<=i
  ·rw[if_pos h1]at h
   have e:(i+n).toNat=j:=ζζ8 h
   exact⟨by rw[seqIndex_neg (by omega) h1,e],by omega,h1,by omega⟩
  ·rw[if_neg h1]at h;cases h
theorem ζN6{α:Type}{xs:List α}{i:Int}{v:α}(h:atI xs i=some v):∃ j,seqIndex? i xs.length=some j/\xs[j]?=some v/\j<xs.length/\-(xs.length:Int)<=i/\i<xs.length:=by
 unfold atI at h
 cases e:ixN xs.length i with
 | none=>rw[e]at h;cases h
 | some j =>
  rw[e]at h
  obtain⟨h1,h2,h3,h4⟩:=ζ38 e
  exact⟨j,h1,h,h2,h3,h4⟩
def ζi11(b:Expr):Prop:=∀ o i,subscripted b false o i=operate [o,i] (getItem o i)
def IxR(X:Cx)(r:R2):Prop :=
 ∀(value slice:Expr) (pins:List (Addr × Obj)) (s:Shared) (σ:St) (H:Hp) (x y:V) (v u:Value) (Q:VK),Inv X pins σ H s->RelV x v->RelV y u->r x y H Q ->
  subscripted slice false v u=operate [v,u] (getItem v u)->wpAny (model X.prog X.w) X.A (subscriptTail value slice v u) (EP X pins σ Q) X.xe s
def MtR(X:Cx)(id:String)(r:V->List V->Hp->VK->Prop):Prop :=
 ∀(pins:List (Addr × Obj)) (s:Shared) (σ:St) (H:Hp) (x:V) (xs:List V) (v:Value) (us:List Value) (Q:VK),Inv X pins σ H s->RelV x v->Vals xs us->r x xs H Q ->
  wpAny (model X.prog X.w) X.A (call (.builtin id) (v :: us)) (EP X pins σ Q) X.xe s
section
variable{X:Cx}{a b:Expr}{ta tb:TE}{pos:Pos}
theorem ζA{r:R2}(hr:IxR X r)(ha:PE X a ta)(hb:PE X b tb)(hs:ζi11 b):PE X (.Subscript a b pos) (tOp r ta tb):=by
 intro pins s σ H Q I h
 exact Subscript_ (binT ha hb I h fun v u s2 x y H2 I2 rx ry q=>hr a b pins s2 σ H2 x y v u Q I2 rx ry q (hs _ _))
def rIxL(K:PySem.W.Frag):R2:=fun x y H Q=>∃ p xs i v,x=.ref p/\y=.int i/\SqL K H p xs/\atI xs i=some v/\Q v H
def rIxT(K:PySem.W.Frag):R2:=fun x y H Q=>∃ p xs i v,x=.ref p/\y=.int i/\SqT K H p xs/\atI xs i=some v/\Q v H
def rIxS:R2:=fun x y H Q=>∃ z i c,x=.str z/\y=.int i/\z.length<=sizeLine/\atI z.cps.toList i=some c/\Q (.str ⟨#[c]⟩) H
theorem ζM10:IxR X (rIxL X.K):=by
 intro value slice pins s σ H x y v u Q I rx ry h hs
 obtain⟨p,xs,i,z,rfl,rfl,hq,he,q⟩:=h
 cases rx
 obtain⟨t,rfl⟩:=ry
 obtain⟨its,r,pl,hz⟩:=I.list hq
 obtain⟨j,h1,h2,h3,h4,h5⟩:=ζN6 he
 obtain⟨w,ew,rw'⟩:=r.get h2
 have hl:=r.length
 have hn:=ζe5
 have fin:EP X pins σ Q w s:=⟨z,H,I,rw',q⟩
 by_cases h0:0<=i
 ·have hj:i.toNat=j:=by
   rw[seqIndex_of h0 h5]at h1
   exact ζζ8 h1
  exact item_listR pl.isList h0 (by omega) (by rw[hj];simpa using ew) fin hs
 ·have hj:(i+(its.toArray.size:Int)).toNat=j:=by
   rw[seqIndex_neg (by omega) h4]at h1
   rw[ζζ7,<- hl]
   exact ζζ8 h1
  exact subscriptTail_builtinR (x:=w) pl.isList.typeIs slot_list_getitem.lookup
   (wpAny_getItem_list_neg (Q:=fun r s'=>r=w/\EP X pins σ Q r s') pl.isList (by omega) (by rw[ζζ7] <;> omega) (by omega) (by rw[hj];simpa using ew) ⟨rfl,fin⟩) hs
theorem ζ712:IxR X (rIxT X.K):=by
 intro value slice pins s σ H x y v u Q I rx ry h hs
 obtain⟨p,xs,i,z,rfl,rfl,hq,he,q⟩:=h
 cases rx
 obtain⟨t,rfl⟩:=ry
 obtain⟨its,r,pl,hz⟩:=I.tuple hq
 obtain⟨j,h1,h2,h3,h4,h5⟩:=ζN6 he
 obtain⟨w,ew,rw'⟩:=r.get h2
 have hl:=r.length
 have hn:=ζe5
 have fin:EP X pins σ Q w s:=⟨z,H,I,rw',q⟩
 exact subscriptTail_builtinR (x:=w) pl.typeIs slot_tuple_getitem.lookup
  (getItem_tuple (j:=j) (Q:=fun r s'=>r=w/\EP X pins σ Q r s') pl (by omega) (by omega) (by rw[ζζ7,<- hl];exact h1) (by simpa using ew) ⟨rfl,fin⟩) hs
theorem ζ812:IxR X rIxS:=by
 intro value slice pins s σ H x y v u Q I rx ry h hs
 obtain⟨z,i,c,rfl,rfl,hz,he,q⟩:=h
 obtain⟨t,rfl⟩:=rx
 obtain⟨t',rfl⟩:=ry
 obtain⟨j,h1,h2,h3,h4,h5⟩:=ζN6 he
 have hl:z.cps.toList.length=z.length:=by simp[Str.length]
 rw[hl]at h1 h4 h5
 have hn:=ζe5
 exact tail_any (ζζ2x s z t) slot_str_getitem.lookup (getItem_str (c:=c) (by
  have e1:decide (i < -(2 ^ 63:Int))=false:=ζζE (by omega)
  have e2:decide (i >= 2 ^ 63)=false:=ζζE (by omega)
  rw[e1,e2,Bool.or_false]) (by rw[h1];simpa using h2) ⟨.str ⟨#[c]⟩,H,I.tok _,⟨_,rfl⟩,q⟩) hs
theorem ζ46 (its:List Value) (n j:Nat) (u:Value):Obj.mapSeq (·.setIfInBounds j u) { cls:=.type "list",data:=.seq its.toArray n }={ cls:=.type "list",data:=.seq (its.set j u).toArray n }:=by
 simp[Obj.mapSeq]
theorem Inv.lst{pins:List (Addr × Obj)}{σ:St}{H:Hp}{s:Shared}{p:Addr}{xs:List V}(I:Inv X pins σ H s)(h:H p=some (.lst xs)) :
  ∃(its:List Value) (n:Nat),Vals xs its/\s.heap.get? p=some { cls:=.type "list",data:=.seq its.toArray n }/\xs.length<=sizeLine:=by
 obtain⟨z,its,n,r,e⟩:=I.hok p _ h
 exact⟨its,n,r,e,z⟩
theorem Inv.lstUpd{pins:List (Addr × Obj)}{σ:St}{H:Hp}{s:Shared}{p:Addr}{xs ys:List V}{its its':List Value}{n n':Nat}{f:Obj->Obj}(I:Inv X pins σ H s)(h:H p=some (.lst xs))
  (ho:s.heap.get? p=some { cls:=.type "list",data:=.seq its.toArray n }) (hf:f { cls:=.type "list",data:=.seq its.toArray n }={ cls:=.type "list",data:=.seq its'.toArray n' }) (r:Vals ys its') (hz:ys.length<=sizeLine) (t:Nat) :
  Inv X pins σ (upd H p (.lst ys)) { s with heap:=s.heap.update p f,toks:=t }:=by
 have e:(s.heap.update p f).get? p=some { cls:=.type "list",data:=.seq its'.toArray n' }:=by
  rw[ζζ05 f ho (by rw[hf] <;> rfl),hf]
 refine I.write (x:=p) (e:=p) (by rw[h];trivial) (.inl rfl) (fun b u hb q=>(ζζQ _ _ (ζζY hb)).trans q) ⟨_,e⟩ ?_
 exact⟨hz,its',n',r,e⟩
def ζD12:V->V->V->Hp->(Hp->Prop)->Prop:=fun o i v H Q=>∃ p xs k j,o=.ref p/\i=.int k/\H p=some (.lst xs)/\ixN xs.length k=some j/\Q (upd H p (.lst (xs.set j v)))
theorem ζF2:PSet X ζD12:=by
 intro pins s σ H o i v ov iv u Q I ro ri rv h
 obtain⟨p,xs,k,j,rfl,rfl,hp,hj,q⟩:=h
 cases ro
 obtain⟨t,rfl⟩:=ri
 obtain⟨its,n,r,ho,hz⟩:=I.lst hp
 obtain⟨h1,h2,h3,h4⟩:=ζ38 hj
 have hl:=r.length
 have hn:=ζe5
 have I':Inv X pins σ (upd H p (.lst (xs.set j v))) { s with heap:=s.heap.update p (Obj.mapSeq (·.setIfInBounds j u)) } :=
  I.lstUpd hp ho (ζ46 its n j u) (r.set rv j) (by rw[ζζ0P];exact hz) s.toks
 by_cases h0:0<=k
 ·have hk:k.toNat=j:=by
   rw[seqIndex_of h0 h4]at h1
   exact ζζ8 h1
  exact PySem.W.ki_setAt ho h0 (by omega) (by rw[ζζ7,<- hl];exact h4) (by rw[hk];exact⟨_,I',q⟩)
 ·have hk:(k+(its.toArray.size:Int)).toNat=j:=by
   rw[seqIndex_neg (by omega) h3]at h1
   rw[ζζ7,<- hl]
   exact ζζ8 h1
  exact PySem.W.ki_setBack ho (by omega) (by rw[ζζ7,<- hl];exact h3) (by omega) (by rw[hk];exact⟨_,I',q⟩)
theorem ζM3(lo hi:Option Int)(n:Nat):(sliceBounds lo hi none n).1=((HT.sIx n 0 lo:Nat):Int)/\(sliceBounds lo hi none n).2.1=((HT.sIx n n hi:Nat):Int)/\(sliceBounds lo hi none n).2.2=1:=by
 refine⟨?_,?_,rfl⟩
 ·cases lo with
  | none=>simp[sliceBounds,HT.sIx]
  | some i =>
   simp only [sliceBounds,HT.sIx,Option.getD_none,show(1:Int) > 0 by decide,if_true]
   by_cases h:i<0
   ·simp only [h,if_true] <;> omega
   ·simp only [h,if_false] <;> omega
 ·cases hi with
  | none=>simp[sliceBounds,HT.sIx]
  | some i =>
   simp only [sliceBounds,HT.sIx,Option.getD_none,show(1:Int) > 0 by decide,if_true]
   by_cases h:i<0
   ·simp only [h,if_true] <;> omega
   ·simp only [h,if_false] <;> omega
theorem ζc3(its:List Value)(lo hi:Option Int):slicePick its.toArray lo hi none=((its.drop (HT.sIx its.length 0 lo)).take (HT.sIx its.length its.length hi - HT.sIx its.length 0 lo)).toArray:=by
 obtain⟨h1,h2,h3⟩:=ζM3 lo hi its.toArray.size
 unfold slicePick
 rw[h1,h2,h3]
 simp only [sliceRange_one,pick_run,ζζ7] <;> rfl
def rSlL(K:PySem.W.Frag):V->Option Int->Option Int->Hp->VK->Prop:=fun x lo hi H Q=>∃ a xs,x=.ref a/\SqL K H a xs/\∀ p,H p=none->Q (.ref p) (upd H p (.lst (cutV xs lo hi)))
theorem ζ110:SlR X (rSlL X.K):=by
 intro pins s σ H x v vl vu lo hi sl Q I rx hs pl pu h
 obtain⟨a,xs,rfl,hx,q⟩:=h
 cases rx
 obtain⟨its,r,ht,hz⟩:=I.list hx
 have hlen:=r.length
 refine⟨"list",_,slot_list_getitem.lookup,ht.isList.typeIs,?_⟩
 refine wpAny_getItem_list_slice ht.isList hs pl pu .none (by simp) ?_ (by rw[ζζ7] <;> omega)
 rw[ζc3,<- hlen]
 refine⟨.ref s.heap.objs.size,_,I.laid (t':=s.toks) (o:=.lst (cutV xs lo hi)) (fun b ob q=>ζζ3 _ q) (ζζ5 _) ?_,rfl,q _ (I.hok.fresh (ζζ5 _))⟩
 exact⟨ζζO (ζl5 xs lo hi) hz,_,0,(r.drop (HT.sIx xs.length 0 lo)).take (HT.sIx xs.length xs.length hi - HT.sIx xs.length 0 lo),ζζf _ rfl⟩
def ζG3:V->Bool
 | .non=>true
 | .bl _=>true
 | .int _=>true
 | .str _=>true
 | _=>false
def eqV:V->V->Bool
 | .non,.non=>true
 | .bl a,.bl b=>a == b
 | .bl a,.int b=>(if a then 1 else 0) == b
 | .int a,.bl b=>a == (if b then 1 else 0)
 | .int a,.int b=>a == b
 | .str a,.str b=>a == b
 | _,_=>false
theorem ζ311{A:Around}{s:Shared}{y x:V}{u v:Value}(ry:RelV y u)(rx:RelV x v)(fy:ζG3 y=true)(fx:ζG3 x=true):SeqAt.EqAt A s u v (eqV y x):=by
 cases y with
 | non =>
  cases ry
  cases x with
  | non=>cases rx;exact ζζ2n _
  | bl b=>cases rx;exact SeqAt.EqAt.none_bool b
  | int b=>obtain⟨t,rfl⟩:=rx;exact SeqAt.EqAt.none_int b t
  | str b=>obtain⟨t,rfl⟩:=rx;exact SeqAt.EqAt.none_str b t
  | _=>exact absurd (show false=true from fx) ζζu
 | bl a =>
  cases ry
  cases x with
  | non=>cases rx;exact SeqAt.EqAt.bool_none a
  | bl b=>cases rx;exact SeqAt.EqAt.bool_bool a b
  | int b=>obtain⟨t,rfl⟩:=rx;exact SeqAt.EqAt.bool_int a b t
  | str b=>obtain⟨t,rfl⟩:=rx;exact SeqAt.EqAt.bool_str a b t
  | _=>exact absurd (show false=true from fx) ζζu
 | int a =>
  obtain⟨t',rfl⟩:=ry
  cases x with
  | non=>cases rx;exact SeqAt.EqAt.int_none a t'
  | bl b=>cases rx;exact SeqAt.EqAt.int_bool a t' b
  | int b=>obtain⟨t,rfl⟩:=rx;exact ζζ16 a t' b t
  | str b=>obtain⟨t,rfl⟩:=rx;exact SeqAt.EqAt.int_str a t' b t
  | _=>exact absurd (show false=true from fx) ζζu
 | str a =>
  obtain⟨t',rfl⟩:=ry
  cases x with
  | non=>cases rx;exact SeqAt.EqAt.str_none a t'
  | bl b=>cases rx;exact SeqAt.EqAt.str_bool a t' b
  | int b=>obtain⟨t,rfl⟩:=rx;exact SeqAt.EqAt.str_int a t' b t
  | str b=>obtain⟨t,rfl⟩:=rx;exact SeqAt.EqAt.str_str a t' b t
  | _=>exact absurd (show false=true from fx) ζζu
 | _=>exact absurd (show false=true from fy) ζζu
def eqU(x:V)(u:Value):Bool:=match u with
 | .none=>eqV .non x
 | .bool b=>eqV (.bl b) x
 | .int i _=>eqV (.int i) x
 | .str z _=>eqV (.str z) x
 | _=>false
theorem ζ211{x y:V}{u:Value}(r:RelV y u)(f:ζG3 y=true):eqU x u=eqV y x:=by
 cases y with
 | non=>cases r;rfl
 | bl b=>cases r;rfl
 | int i=>obtain⟨t,rfl⟩:=r;rfl
 | str z=>obtain⟨t,rfl⟩:=r;rfl
 | _=>exact absurd (show false=true from f) ζζu
theorem ζE3{x:V}:∀ {xs:List V} {us:List Value},Vals xs us->xs.all ζG3=true->us.any (eqU x)=xs.any fun y=>eqV y x
 | _,_,.nil,_=>rfl
 | y :: xs,u :: us,.cons r t,f=>by
  rw[List.all_cons,ζζ0u]at f
  rw[ζζ27,ζζ27,ζ211 r f.1,ζE3 t f.2]
theorem ζg2{A:Around}{s:Shared}{x:V}{v:Value}(rx:RelV x v)(fx:ζG3 x=true):∀ {xs:List V} {us:List Value},Vals xs us->xs.all ζG3=true->∀ u∈us,SeqAt.EqAt A s u v (eqU x u)
 | _,_,.nil,_=>fun u hu=>by cases hu
 | y :: xs,u :: us,.cons r t,f=>fun u' hu=>by
  rw[List.all_cons,ζζ0u]at f
  rcases ζζb.mp hu with rfl | hu
  ·rw[ζ211 r f.1];exact ζ311 r rx f.1 fx
  ·exact ζg2 rx fx t f.2 u' hu
def inV(x:V)(xs:List V):Bool:=xs.any fun y=>eqV y x
def rIn(K:PySem.W.Frag)(neg:Bool):R2:=fun x y H Q=>∃ p xs,y=.ref p/\(SqL K H p xs\/SqT K H p xs)/\ζG3 x=true/\xs.all ζG3=true/\Q (.bl (if neg then !inV x xs else inV x xs)) H
theorem ζ77:OpR X (compareOp .In) (rIn X.K false):=by
 intro pins s σ H x y v u Q I rx ry h
 obtain⟨p,xs,rfl,hq,fx,fs,q⟩:=h
 cases ry
 rcases hq with hq | hq
 ·obtain⟨its,r,pl,hz⟩:=I.list hq
  refine SeqAt.in_listAt (eqU x) pl.isList (fun w hw=>ζg2 rx fx r fs w (by simpa using hw)) ⟨.bl _,H,I,rfl,?_⟩
  rw[show its.toArray.any (eqU x)=its.any (eqU x) by simp,ζE3 r fs]
  exact q
 ·obtain⟨its,r,pl,hz⟩:=I.tuple hq
  refine SeqAt.in_tupleAt (eqU x) pl (fun w hw=>ζg2 rx fx r fs w (by simpa using hw)) ⟨.bl _,H,I,rfl,?_⟩
  rw[show its.toArray.any (eqU x)=its.any (eqU x) by simp,ζE3 r fs]
  exact q
theorem ζU3:OpR X (compareOp .NotIn) (rIn X.K true):=by
 intro pins s σ H x y v u Q I rx ry h
 obtain⟨p,xs,rfl,hq,fx,fs,q⟩:=h
 cases ry
 rcases hq with hq | hq
 ·obtain⟨its,r,pl,hz⟩:=I.list hq
  refine SeqAt.notIn_listAt (eqU x) pl.isList (fun w hw=>ζg2 rx fx r fs w (by simpa using hw)) ⟨.bl _,H,I,rfl,?_⟩
  rw[show its.toArray.any (eqU x)=its.any (eqU x) by simp,ζE3 r fs]
  exact q
 ·obtain⟨its,r,pl,hz⟩:=I.tuple hq
  refine SeqAt.notIn_tupleAt (eqU x) pl (fun w hw=>ζg2 rx fx r fs w (by simpa using hw)) ⟨.bl _,H,I,rfl,?_⟩
  rw[show its.toArray.any (eqU x)=its.any (eqU x) by simp,ζE3 r fs]
  exact q
theorem ζb4:ζI1 X (.builtin "len") (fun xs H Q=>∃ p ys,xs=[.ref p]/\(SqL X.K H p ys\/SqT X.K H p ys)/\Q (.int ys.length) H):=by
 intro pins s σ H xs us Q I r h
 obtain⟨p,ys,rfl,hq,q⟩:=h
 obtain⟨u,rfl,rx⟩:=ζ42 r
 cases rx
 have hn:=ζe5
 rcases hq with hq | hq
 ·obtain⟨its,r',pl,hz⟩:=I.list hq
  have hlen:=r'.length
  exact Calls.call_len_list pl.isList (by simp only [ζζ7] <;> omega) ⟨.int ys.length,H,I.tok _,⟨s.toks+1,by rw[ζζ7,hlen]⟩,q⟩
 ·obtain⟨its,r',pl,hz⟩:=I.tuple hq
  have hlen:=r'.length
  exact len_tuple pl (by simp only [ζζ7] <;> omega) ⟨.int ys.length,H,I.tok _,⟨s.toks+1,by rw[ζζ7,hlen]⟩,q⟩
theorem ζa4:ζI1 X (.builtin "len") (fun xs H Q=>∃ z,xs=[.str z]/\z.length<=sizeLine/\Q (.int z.length) H):=by
 intro pins s σ H xs us Q I r h
 obtain⟨z,rfl,hz,q⟩:=h
 obtain⟨u,rfl,t,rfl⟩:=ζ42 r
 have hn:=ζe5
 exact len_str (by omega) ⟨.int z.length,H,I.tok _,⟨_,rfl⟩,q⟩
theorem ζ94:ζI1 X (.type "list") (fun xs H Q=>∃ p ys,xs=[.ref p]/\(SqL X.K H p ys\/SqT X.K H p ys)/\∀ l,H l=none->Q (.ref l) (upd H l (.lst ys))):=by
 intro pins s σ H xs us Q I r h
 obtain⟨p,ys,rfl,hq,q⟩:=h
 obtain⟨u,rfl,rx⟩:=ζ42 r
 cases rx
 have fin:∀(its:List Value),Vals ys its->ys.length<=sizeLine->∀(h':Heap) (c':Nat),(∀ b o',s.heap.get? b=some o'->h'.get? b=some o') ->
   h'.get? s.heap.objs.size=some { cls:=.type "list",dict:=none,data:=.seq its.toArray c',slots:=#[] }->EP X pins σ Q (.ref s.heap.objs.size) { s with heap:=h' }:=fun its r' hz h' c' kp e =>
  ⟨.ref s.heap.objs.size,_,I.laid (t':=s.toks) kp (ζζ5 _) (show ObjOk X.prog X.w _ h' _ (.lst ys) from⟨hz,its,c',r',e⟩),rfl,q _ (I.hok.fresh (ζζ5 _))⟩
 rcases hq with hq | hq
 ·obtain⟨its,r',pl,hz⟩:=I.list hq
  have hlen:=r'.length
  obtain⟨o,ho,hc,n,hd⟩:=pl.isList
  exact call_list_seq p (.inl rfl) ho hc hd (fun h' c' kp e=>fin its r' hz h' c' kp e) (by simp only [ζζ7] <;> omega)
 ·obtain⟨its,r',pl,hz⟩:=I.tuple hq
  have hlen:=r'.length
  obtain⟨o,ho,hc,n,hd⟩:=pl
  exact call_list_seq p (.inr rfl) ho hc hd (fun h' c' kp e=>fin its r' hz h' c' kp e) (by simp only [ζζ7] <;> omega)
theorem ζA3:ζI1 X (.type "tuple") (fun xs H Q=>∃ p ys,xs=[.ref p]/\((SqL X.K H p ys/\∀ l,H l=none->Q (.ref l) (upd H l (.tup ys)))\/(SqT X.K H p ys/\Q (.ref p) H))):=by
 intro pins s σ H xs us Q I r h
 obtain⟨p,ys,rfl,h⟩:=h
 obtain⟨u,rfl,rx⟩:=ζ42 r
 cases rx
 rcases h with ⟨hq,q⟩ | ⟨hq,q⟩
 ·obtain⟨its,r',pl,hz⟩:=I.list hq
  have hlen:=r'.length
  refine call_tuple_list pl.isList (fun h' kp=>?_) (by simp only [ζζ7] <;> omega)
  have I1:Inv X pins σ H { s with heap:=h' }:=I.kept (t':=s.toks) kp
  have I2:Inv X pins σ (upd H h'.objs.size (.tup ys)) { s with heap:=h'.push { cls:=.type "tuple",data:=.seq its.toArray } } :=
   I1.laid (t':=s.toks) (fun b o e=>ζζ3 _ e) (ζζ5 _) (show ObjOk X.prog X.w _ _ _ (.tup ys) from⟨hz,its,r',IsTup.new _ _⟩)
  exact⟨.ref h'.objs.size,_,I2,rfl,q _ (I1.hok.fresh (ζζ5 _))⟩
 ·obtain⟨its,r',pl,hz⟩:=I.tuple hq
  exact call_tuple_same pl ⟨.ref p,H,I,rfl,q⟩
def tyV(K:PySem.W.Frag)(T:String)(x:V)(H:Hp):Prop:=match x with
 | .str _=>T="str"
 | .int _=>T="int"
 | .ref p=>(T="list"/\∃ xs,SqL K H p xs)\/(T="tuple"/\∃ o,K.lookup p=some o/\o.cls=.type "tuple"/\o.dict=none) \/
   (T="dict"/\((∃ kvs,H p=some (.dK kvs))\/∃ kvs,H p=some (.dT kvs)))\/(T="set"/\∃ S n,H p=some (.set S n))
 | _=>False
theorem ζU9{pins:List (Addr × Obj)}{σ:St}{H:Hp}{s:Shared}{T:String}{x:V}{v:Value}(I:Inv X pins σ H s)(r:RelV x v)(ty:tyV X.K T x H) :
  s.TypeIs v T/\∀ a,v=.ref a->∃ ob,s.heap.get? a=some ob/\ob.dict=none:=by
 cases x with
 | str z =>
  obtain⟨t,rfl⟩:=r
  cases (show T="str" from ty)
  exact⟨ζζ2x s z t,fun _ e=>nomatch e⟩
 | int i =>
  obtain⟨t,rfl⟩:=r
  cases (show T="int" from ty)
  exact⟨typeIs_int s i t,fun _ e=>nomatch e⟩
 | ref p =>
  cases r
  rcases ty with ⟨rfl,xs,hq⟩ | ⟨rfl,o,hk,hc,hd⟩ | ⟨rfl,hk⟩ | ⟨rfl,S,n,hk⟩
  ·obtain⟨its,_,pl,_⟩:=I.list hq
   refine⟨pl.isList.typeIs,fun a e=>?_⟩
   cases e
   obtain⟨o,n,e,c,hd,_⟩:=pl
   exact⟨o,e,hd⟩
  ·refine⟨⟨o,I.kIn p o hk,hc⟩,fun a e=>?_⟩
   cases e
   exact⟨o,I.kIn _ o hk,hd⟩
  ·have z:∃ o,s.heap.get? p=some o/\o.ExactDict:=by
    rcases hk with ⟨kvs,hk⟩ | ⟨kvs,hk⟩
    ·obtain⟨_,_,_,_,o,_,_,e,ex,_⟩:=I.hok p _ hk
     exact⟨o,e,ex⟩
    ·obtain⟨_,_,_,_,o,_,_,e,ex,_⟩:=I.hok p _ hk
     exact⟨o,e,ex⟩
   obtain⟨o,e,ex⟩:=z
   refine⟨⟨o,e,ex.1⟩,fun a e2=>?_⟩
   cases e2
   exact⟨o,e,ex.2.1⟩
  ·obtain⟨o,_,_,_,e,ex,_⟩:=I.hok p _ hk
   refine⟨⟨o,e,ex.1⟩,fun a e2=>?_⟩
   cases e2
   exact⟨o,e,ex.2.1⟩
 | _=>exact False.elim ty
def tBM0(K:PySem.W.Frag)(T:String)(r:V->List V->Hp->VK->Prop)(to:TE):TE:=fun σ H Q=>to σ H fun x H1=>tyV K T x H1/\r x [] H1 Q
def tBM(K:PySem.W.Frag)(T:String)(r:V->List V->Hp->VK->Prop)(to:TE)(t:TA):TE:=fun σ H Q=>to σ H fun x H1=>tyV K T x H1/\t σ H1 fun xs H2=>r x xs H2 Q
variable{o e:Expr}{es:List Expr}{to:TE}{t:TA}{name:Str}{apos cpos:Pos}{T id:String}{r:V->List V->Hp->VK->Prop}
theorem ζU11 (pa:PlainAttrs T) (slot:Slot T name id) (hty:typeOf (.builtin id)=pure (.type "method_descriptor")) (hm:MtR X id r) (ho:PE X o to)
  (hbase:attributeBase o name X.env (eval o X.env)=eval o X.env:=by rfl) (hline:(apos.endLine == cpos.line)=true:=by rfl):PE X (.Call (.Attribute o name apos) [] [] cpos) (tBM0 X.K T r to):=by
 intro pins s σ H Q I h
 refine wpAny_Call_method0_late hbase hline (thn (ho pins s σ H _ I h) fun v s1 ⟨x,H1,I1,r1,ty,q1⟩=>?_)
 obtain⟨h1,h2⟩:=ζU9 I1 r1 ty
 exact⟨T,id,pa,slot,hty,h1,h2,Calls.callWith_builtin rfl (PySem.evalArgs_none (hm pins s1 σ H1 x [] v [] Q I1 r1 .nil q1))⟩
theorem ζK12 (pa:PlainAttrs T) (slot:Slot T name id) (hty:typeOf (.builtin id)=pure (.type "method_descriptor")) (hm:MtR X id r) (ho:PE X o to) (ha:PA X (e :: es) t)
  (hbase:attributeBase o name X.env (eval o X.env)=eval o X.env:=by rfl)
  (hfew:((backTo cpos (starEach (e :: es) X.env)).all (fun x=>!x.1) && (backToKw cpos (keywordEach [] X.env)).all (fun x=>x.1.isSome)
   && decide ((e :: es).length+([]:List Keyword).length+(if ([]:List Keyword).isEmpty then 0 else 1)<30))=true:=by rfl)
  (hline:(apos.endLine == cpos.line)=true:=by rfl) (hs:starEach (e :: es) X.env=(false,eval e X.env) :: starEach es X.env:=by rfl) (hplain:(backTo cpos (starEach es X.env)).any (·.1)=false:=by rfl) :
  PE X (.Call (.Attribute o name apos) (e :: es) [] cpos) (tBM X.K T r to t):=by
 intro pins s σ H Q I h
 refine wpAny_Call_method_late hbase hfew hline rfl (thn (ho pins s σ H _ I h) fun v s1 ⟨x,H1,I1,r1,ty,q1⟩=>?_)
 obtain⟨h1,h2⟩:=ζU9 I1 r1 ty
 refine⟨T,id,pa,slot,hty,h1,h2,?_⟩
 have hA:=ha cpos pins s1 σ H1 _ I1 q1
 rw[hs]at hA ⊢
 refine Calls.callWith_builtin (by show(false || (backTo cpos (starEach es X.env)).any (·.1))=false;rw[hplain] <;> rfl) (Calls.evalArgs_plain ?_)
 exact thn hA fun us s2 ⟨vs,H2,I2,r2,q2⟩=>hm pins s2 σ H2 x vs v us Q I2 r1 r2 q2
end
def MtM(X:Cx)(id:String)(r:V->List V->Hp->VK->Prop):Prop :=
 ∀(pins:List (Addr × Obj)) (s:Shared) (σ:St) (H:Hp) (x:V) (xs:List V) (v:Value) (us:List Value) (Q:VK),Inv X pins σ H s->RelV x v->Vals xs us->r x xs H Q ->
  wpAny (model X.prog X.w) X.A (call (.builtin id) (v :: us)) (EP X pins σ Q) X.xe s
theorem Vals.one:∀ {x:V} {us:List Value},Vals [x] us->∃ u,us=[u]/\RelV x u
 | _,_,.cons r .nil=>⟨_,rfl,r⟩
theorem Vals.eraseIdx:∀ {xs:List V} {us:List Value} (i:Nat),Vals xs us->Vals (xs.eraseIdx i) (us.eraseIdx i)
 | _,_,_,.nil=>.nil
 | _,_,0,.cons _ t=>t
 | _,_,i+1,.cons r t=>.cons r (Vals.eraseIdx i t)
theorem Vals.rep{xs:List V}{us:List Value}(h:Vals xs us):∀ k:Nat,Vals (List.replicate k xs).flatten (List.replicate k us).flatten
 | 0=>.nil
 | k+1=>by
  rw[ζζ0F,ζζ0F,ζζ1u,ζζ1u]
  exact Vals.append h (Vals.rep h k)
theorem ζD4{α:Type}:∀(l:List α) (i:Nat),(l.eraseIdx i).length<=l.length
 | [],_=>ζζ5 _
 | _ :: _,0=>ζζ0w _
 | _ :: r,i+1=>Nat.succ_le_succ (ζD4 r i)
theorem ζM4(its:List Value):∀(k:Nat) (acc:List Value),
  List.foldl (fun x1 x2=>x1++x2) acc.toArray (List.replicate k its.toArray)=(acc++(List.replicate k its).flatten).toArray
 | 0,acc=>by simp
 | k+1,acc=>by
  have e:acc.toArray++its.toArray=(acc++its).toArray:=by simp
  have e2:(acc++its)++(List.replicate k its).flatten=acc++(List.replicate (k+1) its).flatten:=by
   rw[ζζ0F,ζζ1u,ζζ02]
  rw[<- e2,<- ζM4 its k (acc++its),<- e,ζζ0F,ζζ2b]
section
variable{X:Cx}{pins:List (Addr × Obj)}{σ:St}{H:Hp}{s:Shared}{l:Addr}{xs ys:List V}
theorem Inv.lset{its its':List Value}{n:Nat}{f:Array Value->Array Value}{t':Nat}(I:Inv X pins σ H s)(hH:H l=some (.lst xs))
  (e:s.heap.get? l=some { cls:=.type "list",data:=.seq its.toArray n }) (hf:f its.toArray=its'.toArray) (hv:Vals ys its') (hz:ys.length<=sizeLine) :
  Inv X pins σ (upd H l (.lst ys)) { s with heap:=s.heap.update l (Obj.mapSeq f),toks:=t' }:=by
 have q:=PySem.IsL.update e f
 rw[hf]at q
 refine I.write (x:=l) (e:=l) (by rw[hH];exact trivial) (.inl rfl) (fun b' u hb hu=>(ζζQ s.heap (Obj.mapSeq f) (ζζY hb)).trans hu) ⟨_,q⟩ ?_
 exact⟨hz,its',_,hv,q⟩
theorem Inv.lnew{its:List Value}{t':Nat}(I:Inv X pins σ H s)(hv:Vals ys its)(hz:ys.length<=sizeLine) :
  Inv X pins σ (upd H s.heap.objs.size (.lst ys)) { s with heap:=s.heap.push { cls:=.type "list",data:=.seq its.toArray },toks:=t' } :=
 I.laid (fun _ _ q=>ζζ3 _ q) (ζζ5 _) ⟨hz,its,0,hv,ζζf _ rfl⟩
theorem Inv.fresh(I:Inv X pins σ H s):H s.heap.objs.size=none:=I.hok.fresh (ζζ5 _)
theorem Inv.lstM (I:Inv X pins σ H s) (hH:H l=some (.lst xs)):xs.length<=sizeLine/\∃(its:List Value) (n:Nat),Vals xs its/\xs.length=its.length/\s.heap.get? l=some { cls:=.type "list",data:=.seq its.toArray n }:=by
 obtain⟨z,its,n,r,e⟩:=I.hok l _ hH
 exact⟨z,its,n,r,r.length,e⟩
theorem ζU5{n:Nat}(h:n<=sizeLine):Builtin.List.listTooLong n=false:=by
 unfold Builtin.List.listTooLong
 exact ζζE (by omega)
end
section
variable{X:Cx}
def ζf10:V->List V->Hp->VK->Prop:=fun x vs H Q=>∃ l xs y,x=.ref l/\vs=[y]/\H l=some (.lst xs)/\xs.length<sizeLine/\Q .non (upd H l (.lst (xs++[y])))
theorem ζQ:MtM X "list.append" ζf10:=by
 intro pins s σ H x vs v us Q I rx rv h
 obtain⟨l,xs,y,rfl,rfl,hH,hz,q⟩:=h
 cases rx
 obtain⟨u,rfl,ru⟩:=rv.one
 obtain⟨z,its,n,r,hl,e⟩:=I.lstM hH
 refine ζζ1I F.slot_list_append ⟨_,e,rfl⟩ F.entry_list_append (F.args_list_append_2 _ _) (PySem.list_append l its.toArray n u (by rw[ζζ7];omega)) ⟨e,?_⟩
 refine⟨.non,_,I.lset (its':=its++[u]) hH e (by simp) (r.append (.cons ru .nil)) ?_,rfl,q⟩
 rw[ζζ6,ζζR]
 omega
def ζM7:V->List V->Hp->VK->Prop:=fun x vs H Q=>∃ l b xs zs,x=.ref l/\vs=[.ref b]/\H l=some (.lst xs)/\H b=some (.lst zs)/\xs.length+zs.length<=sizeLine/\Q .non (upd H l (.lst (xs++zs)))
theorem ζM2:MtM X "list.extend" ζM7:=by
 intro pins s σ H x vs v us Q I rx rv h
 obtain⟨l,b,xs,zs,rfl,rfl,hH,hB,hz,q⟩:=h
 cases rx
 obtain⟨u,rfl,ru⟩:=rv.one
 cases ru
 obtain⟨z,its,n,r,hl,e⟩:=I.lstM hH
 obtain⟨z2,its2,n2,r2,hl2,e2⟩:=I.lstM hB
 have hsz:its.toArray.size+its2.toArray.size<=sizeLine:=by rw[ζζ7,ζζ7];omega
 have hlong:¬ (!its.toArray.isEmpty && Builtin.List.listTooLong (its.toArray.size+its2.toArray.size))=true:=by
  rw[ζU5 hsz,Bool.and_false]
  exact ζζu
 refine ζζ1I F.slot_list_extend ⟨_,e,rfl⟩ F.entry_list_extend (F.args_list_extend_2 _ _)
  (AutoSeq1.list_extend_list_list_0 l its.toArray n b its2.toArray n2 hlong (by rw[ζζ7];omega) (by omega)) ⟨e,e2,?_⟩
 refine⟨.non,_,I.lset (its':=its++its2) hH e (by simp) (r.append r2) ?_,rfl,q⟩
 rw[ζζ6]
 omega
def ζL11:V->List V->Hp->VK->Prop:=fun x vs H Q=>∃ l xs i k y,x=.ref l/\vs=[.int i]/\H l=some (.lst xs)/\-(2 ^ 63)<=i/\i<2 ^ 63/\seqIndex? i xs.length=some k/\xs[k]?=some y/\Q y (upd H l (.lst (xs.eraseIdx k)))
theorem ζ59:MtM X "list.pop" ζL11:=by
 intro pins s σ H x vs v us Q I rx rv h
 obtain⟨l,xs,i,k,y,rfl,rfl,hH,h1,h2,hk,hy,q⟩:=h
 cases rx
 obtain⟨u,rfl,ru⟩:=rv.one
 obtain⟨t,rfl⟩:=ru
 obtain⟨z,its,n,r,hl,e⟩:=I.lstM hH
 obtain⟨w,hw,rw'⟩:=r.get hy
 refine ζζ1I F.slot_list_pop ⟨_,e,rfl⟩ F.entry_list_pop (F.args_list_pop_2 _ _)
  (MeetsSeq.list_pop_at l its.toArray n i t k w (fitsIndex_both h1 h2) (by rw[ζζ7,<- hl];exact hk) (by rw[<- ζζN];exact hw) (by rw[ζζ7];omega)) ⟨e,?_⟩
 refine⟨y,_,I.lset (its':=its.eraseIdx k) hH e ?_ (r.eraseIdx k) ?_,rw',q⟩
 ·show its.toArray.eraseIdxIfInBounds k=(its.eraseIdx k).toArray
  rw[List.eraseIdxIfInBounds_toArray]
 ·have:=ζD4 xs k
  omega
def rCat:R2:=fun x y H Q=>∃ l b xs zs,x=.ref l/\y=.ref b/\H l=some (.lst xs)/\H b=some (.lst zs)/\xs.length+zs.length<=sizeLine/\∀ p,H p=none->Q (.ref p) (upd H p (.lst (xs++zs)))
theorem ζZ8:OpR X (binaryOp .Add) rCat:=by
 intro pins s σ H x y v u Q I rx ry h
 obtain⟨l,b,xs,zs,rfl,rfl,hH,hB,hz,q⟩:=h
 cases rx
 cases ry
 obtain⟨z,its,n,r,hl,e⟩:=I.lstM hH
 obtain⟨z2,its2,n2,r2,hl2,e2⟩:=I.lstM hB
 refine PySem.P.add_list e e2 ?_ (by rw[ζζ7,ζζ7];omega)
 have ea:its.toArray++its2.toArray=(its++its2).toArray:=by simp
 rw[ea]
 exact⟨.ref _,_,I.lnew (t':=s.toks) (r.append r2) (by rw[ζζ6];omega),rfl,q _ I.fresh⟩
def rRep:R2:=fun x y H Q=>∃ l k xs,x=.ref l/\y=.int k/\H l=some (.lst xs)/\-(2 ^ 63)<=k/\k<2 ^ 63/\xs.length * k.toNat<=sizeLine /\
 ∀ p,H p=none->Q (.ref p) (upd H p (.lst (List.replicate k.toNat xs).flatten))
theorem ζD10{α:Type}(xs:List α)(k:Nat):(List.replicate k xs).flatten.length=k * xs.length:=by
 induction k with
 | zero=>simp
 | succ k ih=>rw[ζζ0F,ζζ1u,ζζ6,ih,Nat.succ_mul,Nat.add_comm]
theorem ζV11:OpR X (binaryOp .Mult) rRep:=by
 intro pins s σ H x y v u Q I rx ry h
 obtain⟨l,k,xs,rfl,rfl,hH,h1,h2,hz,q⟩:=h
 cases rx
 obtain⟨t,rfl⟩:=ry
 obtain⟨z,its,n,r,hl,e⟩:=I.lstM hH
 have hlen:its.toArray.size * k.toNat<=sizeLine:=by rw[ζζ7,<- hl];exact hz
 have hcap:¬ its.toArray.size * k.toNat > (2 ^ 63 - 1) / 8:=by
  have:(sizeLine:Nat)<=(2 ^ 63 - 1) / 8:=by decide
  omega
 have hfit:¬ (!Builtin.List.listFitsIndex k)=true:=by
  rw[fitsIndex_both h1 h2]
  exact ζζu
 have hlong:¬ Builtin.List.listTooLong (its.toArray.size * k.toNat)=true:=by
  rw[ζU5 hlen]
  exact ζζu
 have hnew:List.foldl (fun x1 x2=>x1++x2) #[] (List.replicate (if its.toArray.isEmpty=true then 0 else k.toNat) its.toArray)=(List.replicate k.toNat its).flatten.toArray:=by
  have f0:∀ m:Nat,List.foldl (fun x1 x2=>x1++x2) #[] (List.replicate m its.toArray)=(List.replicate m its).flatten.toArray:=fun m=>by
   have:=ζM4 its m []
   rw[ζζ1G]at this
   exact this
  rw[f0]
  cases its with
  | nil=>simp
  | cons a r'=>rw[if_neg (by simp)]
 refine wpAny_binaryOp_repeat_ref (T:="list") (U:="int") (by decide) ⟨_,e,rfl⟩ (fun s'=>typeIs_int s' k t) noFill_list_mul F.fills_int_mul F.slot_int_rmul repeat_list F.slot_int_index.lookup
  (ζζ1I F.slot_int_rmul (typeIs_int s k t) F.entry_int_rmul (F.args_int_rmul_2 _ _) (int___rmul___int_list k t l its.toArray n)
   ⟨e,rfl,⟨_,e,rfl⟩,ζζ1I F.slot_list_mul ⟨_,e,rfl⟩ F.entry_list_mul (F.args_list_mul_2 _ _) (AutoListH.list___mul___list_int_3 l its.toArray n k t hfit hcap hlong) ⟨e,?_⟩⟩)
 rw[hnew]
 exact⟨.ref _,_,I.lnew (t':=s.toks) (r.rep k.toNat) (by rw[ζD10,Nat.mul_comm];exact hz),rfl,q _ I.fresh⟩
end
section
variable{κ:Type}[DecidableEq κ]
def valV(kvs:List (κ × V))(k:κ):Option V:=(kvs.find? fun kv=>decide (kv.1=k)).map (·.2)
def putK(kvs:List (κ × V))(k:κ)(v:V):List (κ × V) :=
 if (kvs.any fun kv=>decide (kv.1=k))=true then kvs.map (fun kv=>if kv.1=k then (kv.1,v) else kv) else kvs++[(k,v)]
theorem ζI3{p:κ × V}{r:List (κ × V)}{k:κ}(e:p.1=k):valV (p :: r) k=some p.2:=by simp[valV,ζζ2c,e]
theorem ζJ3{p:κ × V}{r:List (κ × V)}{k:κ}(e:¬ p.1=k):valV (p :: r) k=valV r k:=by simp[valV,ζζ2c,e]
theorem ζw5(k:κ):∀ kvs:List (κ × V),(kvs.any fun kv=>decide (kv.1=k))=(valV kvs k).isSome
 | []=>rfl
 | p :: r=>by
  rw[ζζ27]
  by_cases e:p.1=k
  ·simp only [ζI3 e,ζζd e,Bool.true_or,Option.isSome_some]
  ·rw[ζJ3 e,ζζE e,Bool.false_or];exact ζw5 k r
theorem ζf5(kvs:List (κ × V))(k:κ)(v:V):(putK kvs k v).length<=kvs.length+1:=by
 unfold putK
 split
 ·rw[ζζa];omega
 ·rw[ζζ6,ζζq,ζζ0Q];omega
theorem ζR8{kvs:List (κ × V)}{k:κ}(v:V)(h:valV kvs k=none):putK kvs k v=kvs++[(k,v)]:=by
 unfold putK
 rw[ζw5,h]
 exact if_neg (by decide)
theorem KV.val{kvs:List (κ × V)}{vs:List (κ × Value)}(r:KV kvs vs)(k:κ):RelO (valV kvs k) (valueAt vs k):=by
 unfold KV at r
 induction r with
 | nil=>exact True.intro
 | @cons p q ps qs h t ih =>
  obtain⟨h1,h2⟩:=h
  by_cases e:p.1=k
  ·have e':q.1=k:=h1.symm.trans e
   have b:valueAt (q :: qs) k=some q.2:=by simp[valueAt,ζζ2c,e']
   rw[ζI3 e,b];exact h2
  ·have e':¬ q.1=k:=fun z=>e (h1.trans z)
   have b:valueAt (q :: qs) k=valueAt qs k:=by simp[valueAt,ζζ2c,e']
   rw[ζJ3 e,b];exact ih
theorem KV.any{kvs:List (κ × V)}{vs:List (κ × Value)}(r:KV kvs vs)(k:κ):(kvs.any fun kv=>decide (kv.1=k))=vs.any fun kv=>decide (kv.1=k):=by
 unfold KV at r
 induction r with
 | nil=>rfl
 | cons h t ih=>rw[ζζ27,ζζ27,ih,h.1]
theorem KV.repl{kvs:List (κ × V)}{vs:List (κ × Value)}(r:KV kvs vs)(k:κ){y:V}{u:Value}(ry:RelV y u) :
  KV (kvs.map fun kv=>if kv.1=k then (kv.1,y) else kv) (vs.map fun kv=>if kv.1=k then (kv.1,u) else kv):=by
 unfold KV at r ⊢
 induction r with
 | nil=>exact .nil
 | @cons p q ps qs h t ih =>
  rw[ζζF,ζζF]
  refine .cons ?_ ih
  obtain⟨h1,h2⟩:=h
  by_cases e:p.1=k
  ·rw[if_pos e,if_pos (h1.symm.trans e)];exact⟨h1,ry⟩
  ·rw[if_neg e,if_neg (fun z=>e (h1.trans z))];exact⟨h1,h2⟩
theorem KV.put{kvs:List (κ × V)}{vs:List (κ × Value)}(r:KV kvs vs)(k:κ){y:V}{u:Value}(ry:RelV y u):KV (putK kvs k y) (stored vs k u):=by
 unfold putK stored
 rw[r.any k]
 by_cases e:(vs.any fun kv=>decide (kv.1=k))=true
 ·rw[if_pos e,if_pos e];exact r.repl k ry
 ·rw[if_neg e,if_neg e];exact Paired.snoc r ⟨rfl,ry⟩
theorem KV.length{kvs:List (κ × V)}{vs:List (κ × Value)}(r:KV kvs vs):kvs.length=vs.length:=Paired.length r
end
theorem ζN12{P:Program}{w:World}{k:Key}{u:Value}(r:RelV (kV k) u):(ζ81 P w).is k u=true:=by
 cases k with
 | inl i=>obtain⟨t,e⟩:=(show ∃ t,u=Value.int i t from r);subst e;exact ζc5 P w i t
 | inr x=>obtain⟨t,e⟩:=(show ∃ t,u=Value.str x t from r);subst e;exact ζb5 P w x t
section
variable{P:Program}{w:World}{H:Hp}{h:Heap}{a:Addr}
theorem ζC12{u:HO}(ok:HOk P w H h)(e:Rd H a u):ObjOk P w H h a u:=e.ok ok
theorem ζR12{kvs:List (Key × V)}(ok:HOk P w H h)(e:Rd H a (.dK kvs)):kvs.length<=sizeLine/\(a == sysModules)=false/\∃ vs,KV kvs vs/\h.DictOf (ζ81 P w) a vs :=
 show ObjOk P w H h a (.dK kvs) from ζC12 ok e
theorem ζc12{kvs:List (Key × V)}(ok:HOk P w H h)(e:H a=some (.dK kvs)):kvs.length<=sizeLine/\(a == sysModules)=false/\∃ vs,KV kvs vs/\h.DictOf (ζ81 P w) a vs:=ζR12 ok (.inl e)
end
section
variable{X:Cx}{pins:List (Addr × Obj)}{σ:St}{H:Hp}{s:Shared}{a:Addr}
theorem Inv.big(I:Inv X pins σ H s):sysModules<s.heap.objs.size:=by
 have h:mainGlobals<s.heap.objs.size:=(I.mod.glob.keeps I.bk).lt
 exact Nat.lt_trans (by decide) h
theorem ζ911{h':Heap}{t':Nat}{ob:HO}(I:Inv X pins σ H s)(mu:Mut (H a))(hs:Heap.SameBut a s.heap h')(he:∃ q,h'.get? a=some q)(new:ObjOk X.prog X.w (upd H a ob) h' a ob) :
  Inv X pins σ (upd H a ob) { s with heap:=h',toks:=t' } :=
 I.write (x:=a) (e:=a) mu (.inl rfl) (fun b q hb z=>(hs.2 b hb).trans z) he new
theorem ζd12{P:Program}{w:World}{H':Hp}{h':Heap}{kvs:List (Key × V)}{vs:List (Key × Value)}(z:kvs.length<=sizeLine)(hd:(a == sysModules)=false)(rel:KV kvs vs)(dd:h'.DictOf (ζ81 P w) a vs) :
  ObjOk P w H' h' a (.dK kvs):=⟨z,hd,vs,rel,dd⟩
end
theorem ζC9 {P:Program} {w:World} {H:Hp} (h:Heap) (hb:sysModules<h.objs.size):ObjOk P w H (h.push { cls:=.type "dict",data:=.dict #[] }) h.objs.size (.dK []) :=
 ⟨ζζj _,ζζ1d.mpr (ζζY (ζζr hb)),[],.nil,Heap.DictOf.new h⟩
def ζw11:TE:=fun _ H Q=>∀ p,H p=none->Q (.ref p) (upd H p (.dK []))
section
variable{X:Cx}{pos:Pos}
theorem ζV8:PE X (.Dict [] [] pos) ζw11:=fun pins s σ H Q I h =>
 wpAny_Dict_empty ⟨.ref s.heap.objs.size,_,I.laid (a:=s.heap.objs.size) (o:=.dK []) (t':=s.toks) (fun _ _ q=>ζζ3 _ q) (ζζ5 _) (ζC9 s.heap I.big),rfl,h _ (I.hok.fresh (ζζ5 _))⟩
end
structure M1 (X:Cx) (o:Expr) (m:Str) (apos:Pos) (e:Expr) (cpos:Pos):Prop where
 base:attributeBase o m X.env (eval o X.env)=eval o X.env
 few:((backTo cpos (starEach [e] X.env)).all (fun x=>!x.1) && (backToKw cpos (keywordEach [] X.env)).all (fun x=>x.1.isSome)
  && decide (([e]:List Expr).length+([]:List Keyword).length+(if ([]:List Keyword).isEmpty then 0 else 1)<30))=true
 line:(apos.endLine == cpos.line)=true
 trees:backTo cpos (starEach [e] X.env)=[(false,eval e X.env)]
structure M2 (X:Cx) (o:Expr) (m:Str) (apos:Pos) (e f:Expr) (cpos:Pos):Prop where
 base:attributeBase o m X.env (eval o X.env)=eval o X.env
 few:((backTo cpos (starEach [e,f] X.env)).all (fun x=>!x.1) && (backToKw cpos (keywordEach [] X.env)).all (fun x=>x.1.isSome)
  && decide (([e,f]:List Expr).length+([]:List Keyword).length+(if ([]:List Keyword).isEmpty then 0 else 1)<30))=true
 line:(apos.endLine == cpos.line)=true
 trees:backTo cpos (starEach [e,f] X.env)=[(false,eval e X.env),(false,eval f X.env)]
end L2
namespace Att
open PySem PySem.W PySem.Calls PyProof.Rows
theorem ζt2{P:Params}{h:Heap}:∀(ns:List Int) (vs:List Value),WellAll P h vs (ns.map WData.int)->IntsAre vs ns:=by
 intro ns
 induction ns with
 | nil =>
  intro vs w
  rw[List.map_nil]at w
  cases w
  exact .nil
 | cons n ns ih =>
  intro vs w
  rw[ζζF]at w
  cases w with
  | cons a b =>
   cases a
   exact .cons _ _ (ih _ b)
theorem ζX6{l:OpenLaw}{n:Nat}(hn:l.most=some n){P:Params}{h:Heap}{args:List WData}{vals:List Value}
  (hpre:l.row.toRowW.claim.pre args=true) (hwl:WellAll P h vals args) :
  ∃ a vs ns,vals=[Value.ref a]/\args=[WData.list (ns.map WData.int)]/\h.get? a=some { cls:=.type "list",data:=.seq vs.toArray }/\IntsAre vs ns/\ns.length<=n:=by
 have hsh:WShape.hasAll [] args [.list .int]=true:=(pre_splitW hpre).1
 have hc:l.pre.holds [] { args:=args }=true:=(pre_splitW hpre).2
 obtain⟨d,r,rfl,h1,h2⟩:=hasAllW_cons hsh
 obtain rfl:=hasAllW_nil h2
 obtain⟨xs,rfl,h3⟩:=hasW_list h1
 obtain⟨ns,rfl⟩:=items_int h3
 have hlen:ns.length<=n:=by
  unfold OpenLaw.pre at hc
  have h4:(WTm.not (.lt (.lit (.int (n:Int))) (.len (.arg 0)))).holds [] { args:=[.list (ns.map .int)] }=true:=by
   have h4:=(holds_andW hc).1
   rw[hn]at h4
   exact h4
  have h5:=condW_of h4 (w_not (w_lt w_lit (w_len_list (w_arg rfl))))
  rw[ζζa]at h5
  refine ζζ1y fun q=>?_
  have q':(n:Int)<((ns.length:Nat):Int):=by omega
  first
   | (rw[ζζd q']at h5;exact absurd h5 (by decide))
   | (simp at h5;omega)
 cases hwl with
 | cons w1 w2 =>
  cases w2
  cases w1 with
  | list ho hall=>exact⟨_,_,ns,rfl,rfl,ho,ζt2 ns _ hall,hlen⟩
theorem ζ37(l:OpenLaw)(args:List WData):l.row.toRowW.claim.post args (.bool true) args=true :=
 postW_of (r:=l.row.toRowW) (X:=(true == true))
  (show WShape.has [] (.bool true) .bool=true by first | rfl | decide | simp[WShape.has,WShape.arms,WShape.armsAll])
  (show(WTm.eq .res (.lit (.bool true))).value [] { args:=args,res:=some (.bool true),after:=args }=some (.bool (true == true)) from w_eq_bool (w_res rfl) w_lit) rfl
theorem attach_call{l:OpenLaw}{n:Nat}{q:Program}{loose:List Str}{XP:(Str->Option Value)->Heap->Prop}{YP:World->Heap->Prop}{d:DefRec}
  (hn:l.most=some n) (hdf:d.params.defaults=[])
  (call:∀(w:World) (s₀ s₁:Shared) (mg mb:Str->Option Value) (fa:Addr) (o:Obj) (pm cd doc:Value) (a:Addr) (vs:List Value) (ns:List Int),
   Ground q loose [] XP w s₀ mg mb s₁.heap->YP w s₁.heap ->
   s₁.heap.get? fa=some o->o.data=.func (docDef d.name d.params d.body d.scope pm cd doc)->s₁.heap.CodeRec cd d.name->mg d.name=some (.ref fa) ->
   s₁.heap.get? a=some { cls:=.type "list",data:=.seq vs.toArray }->IntsAre vs ns->ns.length<=n->s₁.gens=#[] ->
   codeAny (model l.prog w) callerA (.call (.ref fa) ⟨[.ref a],[]⟩) (fun r s'=>r=.ok (.ret (.bool true))/\OldK s₁.heap s'.heap/\s'.os=s₁.os/\AllBare s'.gens) s₁) :
  WalkO q loose XP YP l.row.toRowW d [] (fun f vs=>PySem.call f vs):=by
 intro w s₀ s₁ mg mb G Y fa o pm cd doc dV kV ho hd hcd hD hmg hg args vals as hpre hlay hrd hwl hlo
 obtain rfl:dV=.none:=Dflts.none hD hdf
 obtain rfl:kV=.none:=Dflts.noKw hD
 obtain⟨a,vs,ns,rfl,rfl,hobj,hints,hlen⟩:=ζX6 hn hpre hwl
 refine enter_call (ζζ10 (call w s₀ s₁ mg mb fa o pm cd doc a vs ns G Y ho (fd_plain hd) hcd hmg hobj hints hlen hg) fun r s' hq=>?_)
 obtain⟨rfl,h2,h3,h4⟩:=hq
 exact⟨.inl ⟨.bool true,.bool true,[],rfl,fun _=>rfl,.bool true,ζ37 l _,fun _=>⟨List.Pairwise.nil,fun _ hm=>(nomatch hm)⟩⟩,h2,h3,h4⟩
section
def ζM12(h:Heap)(L d:Addr):List (Addr × Obj):=(List.range h.objs.size).filterMap fun a=>if a=L\/a=d then none else (h.get? a).map fun o=>(a,o)
end
end Att
namespace L2
open PySem PySem.Spec PyProof.Rows
theorem ζg4:∀ {vs:List Value} {ns:List Int},IntsAre vs ns->Vals (ns.map V.int) vs
 | _,_,.nil=>.nil
 | _,_,.cons n t h=>.cons ⟨t,rfl⟩ (ζg4 h)
abbrev KOf{K:PySem.W.Frag}{h:Heap}(_:K.In h):PySem.W.Frag:=K
def ζO10(s:Stmt)(j:Nat):Stmt:=match s with
 | .ClassDef _ _ _ body _ _ _ _ _ _ _=>body.getD j (.Pass ⟨0,0,0,0⟩)
 | _=>.Pass ⟨0,0,0,0⟩
def ζk2(s:Stmt):Arguments:=match s with
 | .FunctionDef _ a _ _ _ _ _ _ _ _=>a
 | _=>{ posonlyargs:=[],args:=[],vararg:=none,kwonlyargs:=[],kw_defaults:=[],kwarg:=none,defaults:=[] }
def ζu1(s:Stmt):List Stmt:=match s with
 | .FunctionDef _ _ b _ _ _ _ _ _ _=>b
 | _=>[]
def ζ5(s:Stmt):Scope:=match s with
 | .FunctionDef _ _ _ _ _ _ sc _ _ _=>sc
 | _=>{ kind:=.function,names:=[],isGenerator:=false,isCoroutine:=false }
abbrev CX0:CXT:=fun _ _ _ _ _ _=>False
abbrev E0:XK:=fun _ _ _=>False
theorem ζw{X:Cx}:ζO6 CX0 X E0:=fun _ _ _ _ _ _ _ h=>h.elim
structure Fun (K:PySem.W.Frag) (x qual:Str) (st:Stmt) (f:Addr) (fd:FuncData):Prop where
 ex:∃(oc:Value) (od:Option Addr) (kV doc pm:Value) (an:Option Addr) (cdv ct:Value) (osl:Array (Option Value)),
  fd=PySem.W.fnOf x qual (ζk2 st) (ζu1 st) (ζ5 st) .none kV doc pm an cdv ct/\K.lookup f=some ⟨oc,od,.func fd,osl⟩/\PySem.W.codeIn K cdv qual=true
 kp:PySem.W.keepIn K (.ref f)=true
section
variable{P:Program}{w:World}{K:PySem.W.Frag}{mg:Str->Option Value}{base:Heap}
theorem Fun.ok{x qual:Str}{st:Stmt}{f:Addr}{fd:FuncData}{N ps:List Str}{k:Nat}{sp:Sp}(F:Fun K x qual st f fd)(S:FnScope N ps (ζ5 st))(len:∀ vs H Q E,sp vs H Q E->vs.length=ps.length)
  (hbody:∀(cdv:Value) (A:Around) (outer:List Env) (s:Shared) (H:Hp) (vs:List V) (Q:VK) (E:XK),Room k (A.deeper (envOfC qual (ζ5 st) s.heap.objs.size f cdv))->sp vs H Q E ->
   ∃ t,PSs (cxOf CX0 P w K mg base N qual (ζ5 st) f cdv A outer s H E).nox (ζu1 st) t/\t { nx:=fun _ H'=>Q .non H',rt:=Q } (start N vs) H):FnOk P w K mg base CX0 (k+1) f fd ps sp:=by
 obtain⟨oc,od,kV,doc,pm,an,cdv,ct,osl,rfl,lk,hcd⟩:=F.ex
 refine ζt12 lk hcd S len fun A outer s H vs Q E hr hsp=>?_
 obtain⟨t,h,q⟩:=hbody cdv A outer s H vs Q E hr hsp
 exact⟨t,h.nox,q⟩
theorem Fun.binds{x qual:Str}{st:Stmt}{f:Addr}{fd:FuncData}{ps:List Str}(F:Fun K x qual st f fd)
  (h:∀(kV doc pm:Value) (an:Option Addr) (cdv ct:Value) (us:List Value),us.length=ps.length->bindArgs (PySem.W.fnOf x qual (ζk2 st) (ζu1 st) (ζ5 st) .none kV doc pm an cdv ct) ⟨us,[]⟩=pure (ps.zip us)):Binds K fd ps []:=by
 obtain⟨oc,od,kV,doc,pm,an,cdv,ct,osl,rfl,lk,hcd⟩:=F.ex
 exact .all (h kV doc pm an cdv ct)
theorem ζs9{x qual:Str}{st:Stmt}{f:Addr}{oc:Value}{od an:Option Addr}{osl:Array (Option Value)}{kV doc pm cdv ct:Value}(l:K.lookup f=some ⟨oc,od,.func (PySem.W.fnOf x qual (ζk2 st) (ζu1 st) (ζ5 st) .none kV doc pm an cdv ct),osl⟩)
  (c:PySem.W.codeIn K cdv qual=true) (k:PySem.W.keepIn K (.ref f)=true):Fun K x qual st f (PySem.W.fnOf x qual (ζk2 st) (ζu1 st) (ζ5 st) .none kV doc pm an cdv ct):=⟨⟨oc,od,kV,doc,pm,an,cdv,ct,osl,rfl,l,c⟩,k⟩
end
section
variable{X:Cx}
theorem pv (i:Nat) {x:Str} {pos:Pos} (hN:X.N[i]?=some x:=by rfl) (hv:Vis X.env.scope x:=by first | exact Or.inl rfl | exact Or.inr (Or.inl rfl) | exact Or.inr (Or.inr rfl)) (hd:(x == ("__debug__":Str))=false:=by decide)
  (hcd:(x == ("__classdict__":Str))=false:=by decide):PE X (.Name x pos) (tVar i):=ζS11 hN hv hd hcd
end
theorem iteF{A B:Prop}(h:B):if false=true then A else B:=by
 rw[if_neg ζζu]
 exact h
theorem iteT{A B:Prop}(h:A):if true=true then A else B:=by
 rw[if_pos rfl]
 exact h
theorem ite2{c A B:Prop}[Decidable c](h1:c->A)(h2:¬ c->B):if c then A else B:=by
 by_cases h:c
 ·rw[if_pos h]
  exact h1 h
 ·rw[if_neg h]
  exact h2 h
def Same(H H':Hp):Prop:=∀ b o,H b=some o->H' b=some o
theorem Same.refl(H:Hp):Same H H:=fun _ _ h=>h
theorem Same.trans{H H1 H2:Hp}(a:Same H H1)(b:Same H1 H2):Same H H2:=fun c o h=>b c o (a c o h)
theorem Same.free{H H':Hp}(e:Same H H'){l:Addr}(h:H' l=Option.none):H l=Option.none:=by
 cases q:H l with
 | none=>rfl
 | some o =>
  rw[e l o q]at h
  cases h
theorem Same.seq{K:PySem.W.Frag}{H H':Hp}{a:Addr}{xs:List V}(e:Same H H')(h:SqL K H a xs):SqL K H' a xs:=by
 rcases h with (h | ⟨o,h⟩) | h
 ·exact .inl (.inl (e _ _ h))
 ·exact .inl (.inr ⟨o,e _ _ h⟩)
 ·exact .inr h
def PTs(X:Cx)(ifs:List Expr)(t:TT):Prop :=
 ∀(pins:List (Addr × Obj)) (s:Shared) (σ:St) (H:Hp) (Q:Bool->Hp->Prop),Inv X pins σ H s->t σ H Q ->
  wpAny (model X.prog X.w) X.A (forIn ifs true fun c r=>if r=true then do let ok <- isTrue c X.env (eval c X.env);pure (ForInStep.yield ok) else pure (ForInStep.yield r)) (TP X pins σ Q) X.xe s
def tYes:TT:=fun _ H Q=>Q true H
theorem ζP{X:Cx}:PTs X [] tYes:=fun _ _ _ H _ I h=>wpAny_tests_nil ⟨H,I,h⟩
theorem ζ72{X:Cx}{c:Expr}{t:TT}(hc:PT X c t):PTs X [c] t:=fun pins s σ H Q I h=>wpAny_tests_one (hc pins s σ H Q I h)
theorem ζ54{prog:Program}{w:World}{A:Around}{s:Shared}{R:Result->Shared->Prop}{elt target iter:Expr}{ifs:List Expr}{scope:Scope}{pos:Pos}{it acc:Value}{env:Env}(J:Nat->Shared->Prop)
  (turn:∀ n s,J n s->wpAny (model prog w) A (pyNext it) (fun r s1=>match r with
   | none=>R (.ok .next) s1
   | some v=>wpAny (model prog w) A (letOwnedTupleGo target it v) (fun _ s2=>wpAny (model prog w) A (assign target env v) (fun _ s3 =>
     wpAny (model prog w) A (forIn ifs true fun c r=>if r=true then do let ok <- isTrue c env (eval c env);pure (ForInStep.yield ok) else pure (ForInStep.yield r)) (fun ok s4 =>
      if ok=true then wpAny (model prog w) A (eval elt env) (fun x s5 =>
       wpAny (model prog w) A (call (.builtin "list.append") [acc,x]) (fun _ s6=>∃ m,m<n/\J m s6) (fun _ _=>False) s5) (fun _ _=>False) s4
      else ∃ m,m<n/\J m s4) (fun _ _=>False) s3) (fun _ _=>False) s2) (fun _ _=>False) s1) (fun _ _=>False) s)
  (n:Nat) (h:J n s):codeAny (model prog w) A (.compLoop (.ListComp elt [⟨target,iter,ifs,0⟩] scope pos) 0 it acc env) R s:=by
 refine codeAny_loop rfl J (fun n s hI=>?_) n h
 show wpAny _ A ((compTurn (.ListComp elt [⟨target,iter,ifs,0⟩] scope pos) 0 it acc env).onRaise (fun x=>do noteFrame x env;theTreesLotGoes x)) _ _ s
 refine wpAny_noted ?_
 rw[compTurn_list]
 refine ζζ2 (wpAny_standAt (ζζ2 (ζζ0I (turn n s hI) (fun r s1 h1=>?_) fun _ _ z=>z.elim)))
 cases r with
 | none=>exact ζζl h1
 | some v =>
  refine ζζ2 (ζζ0I h1 (fun _ s2 h2=>?_) fun _ _ z=>z.elim)
  refine ζζ2 (ζζ0I h2 (fun _ s3 h3=>ζζ2 (ζζ0I h3 (fun ok s4 h4=>?_) fun _ _ z=>z.elim)) fun _ _ z=>z.elim)
  cases ok with
  | false=>exact ζζl ⟨rfl,h4⟩
  | true =>
   exact ζζ2 (ζζ2 (ζζ0I h4 (fun x s5 h5=>ζζ2 (ζζ0I h5 (fun _ s6 h6=>ζζl (ζζl ⟨rfl,h6⟩)) fun _ _ z=>z.elim)) fun _ _ z=>z.elim))
def ζV4(cells:List (Str × Addr)):List (Str × NameKind)->List (Str × Addr)->List (Str × Addr)
 | [],acc=>acc
 | (n,k) :: r,acc=>if k == .free then ζV4 cells r ((n,(cells.lookup n).getD 0) :: acc) else ζV4 cells r acc
theorem ζz3{env:Env}:∀(names:List (Str × NameKind)) (acc:List (Str × Addr)),(∀ y∈names,y.2=.free->∃ c,env.cells.lookup y.1=some c) ->
  (forIn names acc fun(x:Str × NameKind) (cs:List (Str × Addr))=>(if (x.2 == .free)=true then do let a <- cellOf env x.1;pure (ForInStep.yield ((x.1,a) :: cs)) else pure (ForInStep.yield cs):Sem (ForInStep (List (Str × Addr)))))=pure (ζV4 env.cells names acc)
 | [],acc,_=>rfl
 | (n,k) :: r,acc,h=>by
  have ih:=fun acc=>ζz3 r acc fun y hy=>h y (ζζk _ hy)
  rw[List.forIn_cons]
  unfold ζV4
  by_cases hk:(k == NameKind.free)=true
  ·obtain⟨c,hc⟩:=h (n,k) ζζg (by simpa using hk)
   have e:cellOf env n=pure c:=by
    unfold cellOf
    rw[show env.cells.lookup n=some c from hc]
   simp only [hk,if_true,e,pure_bind]
   rw[ih,show env.cells.lookup n=some c from hc]
   rfl
  ·simp only [hk,ζζ2j,if_false,pure_bind]
   exact ih acc
theorem ζF6{env:Env}{scope:Scope}(h:∀ y∈scope.names,y.2=.free->∃ c,env.cells.lookup y.1=some c):closureFor scope env=pure (ζV4 env.cells scope.names []):=by
 have e:=ζz3 scope.names [] h
 unfold closureFor
 simp only [bind_pure]at e ⊢
 exact e
theorem ζY2{env:Env}:∀(names:List (Str × NameKind)) (acc:List (Str × Addr)),(∀ y∈names,y.2=.free->∃ c,env.cells.lookup y.1=some c)->(∀ x c,acc.lookup x=some c->env.cells.lookup x=some c) ->
  ∀ x c,(ζV4 env.cells names acc).lookup x=some c->env.cells.lookup x=some c
 | [],acc,_,ha,x,c,e=>ha x c e
 | (n,k) :: r,acc,h,ha,x,c,e=>by
  unfold ζV4 at e
  by_cases hk:(k == NameKind.free)=true
  ·rw[if_pos hk]at e
   obtain⟨d,hd⟩:=h (n,k) ζζg (by simpa using hk)
   refine ζY2 r _ (fun y hy=>h y (ζζk _ hy)) (fun y b q=>?_) x c e
   rw[ζζ0J]at q
   by_cases hy:(y == n)=true
   ·rw[hy]at q
    have hy':y=n:=by simpa using hy
    have hd':env.cells.lookup n=some d:=hd
    rw[hd']at q
    have q':d=b:=ζζ8 q
    rw[hy',hd',q']
   ·have hy':(y == n)=false:=by simpa using hy
    rw[hy']at q
    exact ha y b q
  ·rw[if_neg hk]at e
   exact ζY2 r acc (fun y hy=>h y (ζζk _ hy)) ha x c e
theorem ζZ2{cells:List (Str × Addr)}:∀(names:List (Str × NameKind)) (acc:List (Str × Addr)) (x:Str),(acc.lookup x).isSome=true->((ζV4 cells names acc).lookup x).isSome=true
 | [],_,_,h=>h
 | (n,k) :: r,acc,x,h=>by
  unfold ζV4
  by_cases hk:(k == NameKind.free)=true
  ·rw[if_pos hk]
   refine ζZ2 r _ x ?_
   rw[ζζ0J]
   by_cases hx:(x == n)=true
   ·rw[hx];rfl
   ·have hx':(x == n)=false:=by simpa using hx
    rw[hx'];exact h
  ·rw[if_neg hk]
   exact ζZ2 r acc x h
theorem ζ02{cells:List (Str × Addr)}:∀(names:List (Str × NameKind)) (acc:List (Str × Addr)) (x:Str),(x,NameKind.free)∈names->((ζV4 cells names acc).lookup x).isSome=true
 | [],_,_,h=>nomatch h
 | (n,k) :: r,acc,x,h=>by
  unfold ζV4
  rcases ζζb.mp h with e | h
  ·cases e
   rw[if_pos (by rfl)]
   refine ζZ2 r _ _ ?_
   rw[ζζ0J]
   simp
  ·by_cases hk:(k == NameKind.free)=true
   ·rw[if_pos hk];exact ζ02 r _ x h
   ·rw[if_neg hk];exact ζ02 r _ x h
theorem ζR{env:Env}:∀ {names:List (Str × NameKind)} {x:Str} {k:NameKind},(names.map fun(n,k)=>if (k == NameKind.free && env.scope.kind == .function && env.kindOf n == some .cell) then (n,NameKind.cell) else (n,k)).lookup x=some k ->
  (k=.cell\/k=.free)->(x,NameKind.free)∈names\/(x,NameKind.cell)∈names
 | [],_,_,h,_=>by simp at h
 | (n,q) :: r,x,k,h,hk=>by
  have h':List.lookup x ((if (q == NameKind.free && env.scope.kind == .function && env.kindOf n == some .cell)=true then (n,NameKind.cell) else (n,q)) :: r.map fun(n,k)=>if (k == NameKind.free && env.scope.kind == .function && env.kindOf n == some .cell) then (n,NameKind.cell) else (n,k))=some k:=h
  by_cases hc:(q == NameKind.free && env.scope.kind == .function && env.kindOf n == some .cell)=true
  ·rw[if_pos hc,ζζ0J]at h'
   have hq:q=.free:=by
    simp only [ζζ0u,ζζ11]at hc
    exact hc.1.1
   by_cases hx:(x == n)=true
   ·have hx':x=n:=by simpa using hx
    subst hx';subst hq
    exact .inl ζζg
   ·have hx':(x == n)=false:=by simpa using hx
    rw[hx']at h'
    rcases ζR (env:=env) h' hk with z | z
    ·exact .inl (ζζk _ z)
    ·exact .inr (ζζk _ z)
  ·rw[if_neg hc,ζζ0J]at h'
   by_cases hx:(x == n)=true
   ·rw[hx]at h'
    have hx':x=n:=by simpa using hx
    subst hx'
    have e:q=k:=ζζ8 h'
    subst e
    rcases hk with rfl | rfl
    ·exact .inr ζζg
    ·exact .inl ζζg
   ·have hx':(x == n)=false:=by simpa using hx
    rw[hx']at h'
    rcases ζR (env:=env) h' hk with z | z
    ·exact .inl (ζζk _ z)
    ·exact .inr (ζζk _ z)
theorem ζv1{env:Env}:∀ {names:List (Str × NameKind)} {x:Str},names.lookup x=some .free ->
  (names.map fun(n,k)=>if (k == NameKind.free && env.scope.kind == .function && env.kindOf n == some .cell) then (n,NameKind.cell) else (n,k)).lookup x=some .cell \/
  (names.map fun(n,k)=>if (k == NameKind.free && env.scope.kind == .function && env.kindOf n == some .cell) then (n,NameKind.cell) else (n,k)).lookup x=some .free
 | [],_,h=>by simp at h
 | (n,q) :: r,x,h=>by
  show List.lookup x ((if (q == NameKind.free && env.scope.kind == .function && env.kindOf n == some .cell)=true then (n,NameKind.cell) else (n,q)) :: _)=_\/List.lookup x ((if (q == NameKind.free && env.scope.kind == .function && env.kindOf n == some .cell)=true then (n,NameKind.cell) else (n,q)) :: _)=_
  rw[ζζ0J]at h
  by_cases hc:(q == NameKind.free && env.scope.kind == .function && env.kindOf n == some .cell)=true
  ·rw[if_pos hc,ζζ0J]
   by_cases hx:(x == n)=true
   ·rw[hx];exact .inl rfl
   ·have hx':(x == n)=false:=by simpa using hx
    rw[hx']at h ⊢
    exact ζv1 h
  ·rw[if_neg hc,ζζ0J]
   by_cases hx:(x == n)=true
   ·rw[hx]at h ⊢;exact .inr h
   ·have hx':(x == n)=false:=by simpa using hx
    rw[hx']at h ⊢
    exact ζv1 h
def cxC(X:Cx)(N':List Str)(scope:Scope)(C:Addr)(s:Shared)(H:Hp)(fp:List Addr):Cx where
 prog:=X.prog
 w:=X.w
 K:=X.K
 mg:=X.mg
 base:=X.base
 A:=X.A
 N:=N'
 s₀:=s
 H₀:=H
 env:=compEnvC scope (ζV4 X.env.cells scope.names []) C X.env
 outer:=X.stack
 stack:=X.stack
 ex:=fp
 fn:=fun _=>false
 calm:=X.calm
 pn:=[]
 xe:=fun _ _=>False
def σC(o:Nat)(fr:List Nat)(σ:St):St:=List.replicate o none++fr.map fun j=>(σ[j]?).join
structure CompScope (sc0:Scope) (N N':List Str) (o:Nat) (fr:List Nat) (scope:Scope):Prop where
 kind:scope.kind=.function
 nocell:(scope.names.all fun y=>y.2 != .cell)=true
 loc:(scope.names.all fun y=>y.2 != .local || scope.names.lookup y.1 == some .local)=true
 free:(scope.names.all fun y=>y.2 != .free || sc0.names.lookup y.1 == some .cell || sc0.names.lookup y.1 == some .free)=true
 len:N'.length=o+fr.length
 sees:((List.range fr.length).all fun j=>match fr[j]? with
  | none=>false
  | some y=>match N[y]? with
   | none=>false
   | some x=>N'[o+j]? == some x && scope.names.lookup x == some .free)=true
def LcR(J:It)(g:TG)(tt:TT)(te:TE)(o:Nat)(fr:List Nat)(σ:St)(H1:Hp)(Q:VK):Prop:=∃ W:Nat->Nat->List V->Hp->Prop,(∃ m,W 0 m [] H1)/\∀ i m ys H,W i m ys H ->
 (J.stop i H/\ys.length<=sizeLine/\∀ p,H p=none->Q (.ref p) (upd H p (.lst ys))) \/
 (J.go i H/\ys.length<sizeLine/\∀ x H',J.yld i H x H'->g x (σC o fr σ) H' fun σ2 H2=>tt σ2 H2 fun b H3=>if b=true then te σ2 H3 fun y H4=>∃ m',m'<m/\W (i+1) m' (ys++[y]) H4 else ∃ m',m'<m/\W (i+1) m' ys H3)
def tLc(wi:TI)(g:TG)(tt:TT)(te:TE)(o:Nat)(fr:List Nat):TE:=fun σ H Q=>wi σ H fun J H1=>LcR J g tt te o fr σ H1 Q
def OwnG(o:Nat)(g:TG):Prop:=∀(x:V) (ow fr:St) (H:Hp) (Q:St->Hp->Prop),ow.length=o->g x (ow++fr) H Q->g x (ow++fr) H fun σ2 H2=>(∃ ow',ow'.length=o/\σ2=ow'++fr)/\Q σ2 H2
theorem ζB{o i:Nat}(h:i<o):OwnG o (ζd8 i):=fun x ow fr H Q hl q=>⟨⟨ow.set i (some x),by rw[ζζ0P];exact hl,by rw[List.set_append_left _ _ (by omega)]⟩,q⟩
def ζp11(o:Nat)(g:TGs):Prop:=∀(xs:List V) (ow fr:St) (H:Hp) (Q:St->Hp->Prop),ow.length=o->g xs (ow++fr) H Q->g xs (ow++fr) H fun σ2 H2=>(∃ ow',ow'.length=o/\σ2=ow'++fr)/\Q σ2 H2
theorem ζj3{o:Nat}:ζp11 o gNil:=fun _ ow _ _ _ hl ⟨e,q⟩=>⟨e,⟨ow,hl,rfl⟩,q⟩
theorem ζ21{o i:Nat}{u:TGs}(h:i<o)(h2:ζp11 o u):ζp11 o (ζs12 (ζd8 i) u):=by
 rintro xs ow fr H Q hl ⟨v,r,rfl,q⟩
 refine⟨v,r,rfl,?_⟩
 have q':u r ((ow++fr).set i (some v)) H Q:=q
 show u r ((ow++fr).set i (some v)) H _
 rw[List.set_append_left _ _ (by omega)]at q' ⊢
 exact h2 r (ow.set i (some v)) fr H Q (by rw[ζζ0P];exact hl) q'
theorem ζi3{K:PySem.W.Frag}{o n:Nat}{u:TGs}(h:ζp11 o u):OwnG o (gTup K n u):=by
 rintro x ow fr H Q hl ⟨a,xs,rfl,hs,hn,q⟩
 exact⟨a,xs,rfl,hs,hn,h xs ow fr H Q hl q⟩
section
variable{X:Cx}{pins:List (Addr × Obj)}{σ:St}{H:Hp}{s:Shared}{N':List Str}{o:Nat}{fr:List Nat}{scope:Scope}{fp:List Addr}
abbrev ζb1 (us:List Value):Obj:={ cls:=.type "list",data:=.seq us.toArray us.length }
theorem CompScope.nocell'{sc0:Scope}{N:List Str}(S:CompScope sc0 N N' o fr scope):∀ y∈scope.names,y.2≠.cell:=fun y hy e=>by
 have q:=ζζ0i.mp S.nocell y hy
 rw[e]at q
 exact absurd q (by decide)
theorem CompScope.loc'{sc0:Scope}{N:List Str}(S:CompScope sc0 N N' o fr scope):∀ y∈scope.names,y.2=.local->scope.names.lookup y.1=some .local:=fun y hy e=>by
 have q:=ζζ0i.mp S.loc y hy
 rw[e]at q
 simpa using q
theorem CompScope.free'{sc0:Scope}{N:List Str}(S:CompScope sc0 N N' o fr scope)(hs:X.env.scope=sc0):∀ y∈scope.names,y.2=.free->X.env.kindOf y.1=some .cell\/X.env.kindOf y.1=some .free:=fun y hy e=>by
 have q:=ζζ0i.mp S.free y hy
 rw[e]at q
 show X.env.scope.names.lookup y.1=_\/X.env.scope.names.lookup y.1=_
 rw[hs]
 simpa using q
theorem CompScope.sees'{sc0:Scope}{N:List Str}(S:CompScope sc0 N N' o fr scope):∀ j y,fr[j]?=some y->∃ x,N[y]?=some x/\N'[o+j]?=some x/\scope.names.lookup x=some .free:=fun j y e=>by
 have hj:j<fr.length:=(ζζ4.mp e).1
 have q:=ζζ0i.mp S.sees j (ζζy.mpr hj)
 rw[e]at q
 dsimp only at q
 cases ex:N[y]? with
 | none=>rw[ex]at q;cases q
 | some x =>
  rw[ex]at q
  dsimp only at q
  rw[ζζ0u,ζζ11,ζζ11]at q
  exact⟨x,rfl,q.1,q.2⟩
theorem CompScope.cells{sc0:Scope}{N0:List Str}(S:CompScope sc0 N0 N' o fr scope)(hs:X.env.scope=sc0)(I:Inv X pins σ H s):∀ y∈scope.names,y.2=.free->∃ c,X.env.cells.lookup y.1=some c:=fun y hy e=>I.ok.has y.1 (S.free' hs y hy e)
theorem CompScope.sub{sc0:Scope}{N0:List Str}(S:CompScope sc0 N0 N' o fr scope)(hs:X.env.scope=sc0)(I:Inv X pins σ H s):∀ x c,(ζV4 X.env.cells scope.names []).lookup x=some c->X.env.cells.lookup x=some c :=
 ζY2 (env:=X.env) scope.names [] (S.cells hs I) (fun _ _ z=>nomatch z)
theorem Inv.block{sc0:Scope}{N0:List Str}(S:CompScope sc0 N0 N' o fr scope)(hs:X.env.scope=sc0)(hN:X.N=N0)(I:Inv X pins σ H s)(hf:∀ b∈fp,FpOk X pins H b)(hfl:∀ b∈fp,b<s.heap.objs.size){h1:Heap}{C D:Addr}{m:Str->Option Value}{us:List Value}{t:Nat}
  (hC:s.heap.objs.size<=C) (hD:s.heap.objs.size<=D) (hDC:D≠C)
  (old:∀ b ob,s.heap.get? b=some ob->h1.get? b=some ob) (hn:h1.Ns C m) (ha:h1.get? D=some (ζb1 us)):Inv (cxC X N' scope C s H fp) [(D,ζb1 us)] (σC o fr σ) H { s with heap:=h1,toks:=t }:=by
 have sub:=S.sub hs I
 have frC:∀ b∈frs X.stack,b<s.heap.objs.size:=fun b hb=>by
  obtain⟨_,ob,ho,_⟩:=I.stack.mem hb
  exact ζζn ho
 refine⟨⟨I.ok.mod,S.kind,I.ok.glob,I.ok.blt,hC,fun x y c h1 h2=>I.ok.inj x y c (sub x c h1) (sub y c h2),fun x hx=>?_,fun x c hfx _=>(nomatch hfx),I.ok.hd,I.ok.frames,.inl rfl,fun b hb=>?_,I.bs,ζζO I.ok.bsz I.sz,fun b ob e hb=>?_,fun b hb hb'=>?_,I.stack,I.stkFree⟩,
  rfl,I.bare,Un.kept old,⟨m,hn,fun i x v e1 e2 e3=>?_⟩,fun x c e=>?_,I.hok.fresh hC,fun x c e=>I.freeC x c (sub x c e),fun p hp=>?_,I.hok.kept old,?_⟩
 ·have hx':(relabel scope X.env).names.lookup x=some .cell\/(relabel scope X.env).names.lookup x=some .free:=hx
  have key:(x,NameKind.free)∈scope.names:=by
   rcases hx' with z | z
   ·rcases ζR (env:=X.env) z (.inl rfl) with q | q
    ·exact q
    ·exact absurd rfl (S.nocell' _ q)
   ·rcases ζR (env:=X.env) z (.inr rfl) with q | q
    ·exact q
    ·exact absurd rfl (S.nocell' _ q)
  exact ζζ1P.mp (ζ02 (cells:=X.env.cells) scope.names [] x key)
 ·obtain⟨f0,f1,f2,f3,f4,f5⟩:=hf b hb
  exact⟨ζζr (ζζt (hfl b hb) hC),fun x c e=>f4 x c (sub x c e)⟩
 ·obtain⟨f0,f1,f2,f3,f4,f5⟩:=hf b hb
  rcases f3 with z | z
  ·exact I.ok.noex b ob e z
  ·exact absurd (ζζt (ζζn e) (ζζO I.ok.bsz z)) (ζζ0M _)
 ·obtain⟨f0,f1,f2,f3,f4,f5⟩:=hf b hb
  rcases ζζb.mp (I.stkSub b hb') with z | z
  ·exact f1 z
  ·exact f2 z
 ·unfold σC at e2
  by_cases hi:i<o
  ·rw[ζζI (by rw[ζζ01];exact hi),ζζ1j,if_pos hi]at e2
   cases e2
  ·rw[ζζz (by rw[ζζ01];exact Nat.not_lt.mp hi),ζζ01,ζζh]at e2
   cases hy:fr[i - o]? with
   | none=>rw[hy]at e2;cases e2
   | some y =>
    rw[hy]at e2
    have e2':(σ[y]?).join=some v:=ζζ8 e2
    have e3':σ[y]?=some (some v):=by
     cases q:σ[y]? with
     | none=>rw[q]at e2';cases e2'
     | some z=>rw[q]at e2';exact ζζ0l some e2'
    obtain⟨x',s2,s1,s3⟩:=S.sees' (i - o) y hy
    rw[<- hN]at s2
    rw[show o+(i - o)=i by omega]at s1
    have ex:x=x':=by
     have e1':N'[i]?=some x:=e1
     rw[e1']at s1
     exact ζζ8 s1
    subst ex
    have hmem:=ζζ0E s3
    obtain⟨m0,_,hl⟩:=I.loc
    have hk:=S.free' hs (x,.free) hmem rfl
    obtain⟨u,ru,lk⟩:=hl y x v s2 e3' (by rcases hk with z | z;exact .inr (.inl z);exact .inr (.inr z))
    refine⟨u,ru,.inr ⟨ζv1 (env:=X.env) s3,?_⟩⟩
    obtain⟨c',hc'⟩:=ζζ1P.mp (ζ02 (cells:=X.env.cells) scope.names [] x hmem)
    refine⟨c',hc',?_⟩
    rcases lk with ⟨z,_⟩ | ⟨_,c,e,ob,ho,hd⟩
    ·rcases hk with z' | z'
     ·rw[z]at z';cases z'
     ·rw[z]at z';cases z'
    ·have ec:c=c':=by
      have:=sub x c' hc'
      rw[e]at this
      exact ζζ8 this
     subst ec
     exact⟨ob,old _ _ ho,hd⟩
 ·obtain⟨v,ob,ho,hd⟩:=I.cell x c (sub x c e)
  exact⟨v,ob,old _ _ ho,hd⟩
 ·have e:p=(D,ζb1 us):=by simpa using (show p∈([]:List (Addr × Obj))++[(D,ζb1 us)] from hp)
  subst e
  refine⟨ha,I.hok.fresh hD,hDC,fun z=>absurd (ζζt (frC D z) hD) (ζζ0M _),fun v z=>nomatch z⟩
 ·show(σC o fr σ).length=N'.length
  unfold σC
  rw[ζζ6,ζζ01,ζζa,S.len]
theorem Inv.unblock(I:Inv X pins σ H s)(hf:∀ b∈fp,FpOk X pins H b){C D:Addr}{us:List Value}{ys:List V}{σ':St}{H':Hp}{s':Shared}(hC:s.heap.objs.size<=C)(hD:s.heap.objs.size<=D)(hDC:D≠C)
  (I':Inv (cxC X N' scope C s H fp) [(D,ζb1 us)] σ' H' s') (r:Vals ys us) (hz:ys.length<=sizeLine):∃ oC m,s'.heap.get? C=some oC/\s'.heap.Ns C m/\Inv X (pins++[(C,oC)]) σ (upd H' D (.lst ys)) s':=by
 obtain⟨aD,nD,_,_,_⟩:=I'.pin (D,ζb1 us) (by simp)
 have aD:s'.heap.get? D=some (ζb1 us):=aD
 have nD:H' D=none:=nD
 have un:Un (frs X.stack) fp H H' s.heap s'.heap:=I'.base
 have lt:∀ b u,H b=some u->b≠D:=fun b u e=>ζζr (ζζt (I.hok.lt e) hD)
 have un2:Un (frs X.stack) fp H (upd H' D (.lst ys)) s.heap s'.heap:=by
  refine⟨un.keep,un.slot,fun b ob e n hx=>?_,un.there,fun b xs e=>?_,fun b ob u e=>?_,fun b ps e=>?_⟩
  ·rw[ζ9 (ζζr (ζζt (ζζn e) hD))]
   exact un.free b ob e n hx
  ·rw[ζ9 (lt b _ e)];exact un.tups b xs e
  ·rw[ζ9 (lt b _ e)];exact un.frzs b ob u e
  ·obtain⟨more,q⟩:=un.tbls b ps e
   exact⟨more,by rw[ζ9 (lt b _ e)];exact q⟩
 have hok:HOk X.prog X.w (upd H' D (.lst ys)) s'.heap:=fun b u e=>by
  by_cases hb:b=D
  ·subst hb
   rw[ζ1]at e
   cases e
   exact⟨hz,us,us.length,r,aD⟩
  ·rw[ζ9 hb]at e
   exact(I'.hok b u e).stay (fun c v _ q=>q) (fun c q=>by rw[ζ9 (ζb q nD)];exact q) fun c xs q=>by rw[ζ9 (ζb q nD)];exact q
 have os:s'.os=s.os:=I'.os
 have J:Inv X pins σ (upd H' D (.lst ys)) s':=I.call' (ch:=fp) os un2 hok I'.bare fun b hb=>by
  obtain⟨f0,f1,f2,f3,f4,f5⟩:=hf b hb
  exact⟨f3,f1,f4,f5⟩
 obtain⟨m,hn,_⟩:=I'.loc
 have hn:s'.heap.Ns C m:=hn
 obtain⟨oC,es,ep,hoC,hdC,_⟩:=id hn
 refine⟨oC,m,hoC,hn,J.pins_of fun p hp=>?_⟩
 rcases ζζ9.mp hp with z | z
 ·exact J.pin p (ζζc _ z)
 ·have e:p=(C,oC):=by simpa using z
  subst e
  have nC:H' C=none:=I'.free
  refine⟨hoC,by rw[ζ9 (ζζY hDC)];exact nC,ζζ0H (ζζt I.lt hC),I.nofs hC,fun v z=>?_⟩
  have z':oC.data=.cell v:=z
  rw[hdC]at z'
  cases z'
end
section
variable{X:Cx}{N':List Str}{o:Nat}{fr:List Nat}{scope:Scope}{elt tg iter:Expr}{ifs:List Expr}{pos:Pos}{wi:TI}{g:TG}{tt:TT}{te:TE}
theorem ζF10(hc:X.calm=true){sc0:Scope}{N0:List Str}(S:CompScope sc0 N0 N' o fr scope)(hi:PI X tg iter wi)(ho:OwnG o g)
  (hg:∀(C:Addr) (s:Shared) (H:Hp) (fp:List Addr),PG (cxC X N' scope C s H fp) tg g)
  (ht:∀(C:Addr) (s:Shared) (H:Hp) (fp:List Addr),PTs (cxC X N' scope C s H fp) ifs tt)
  (he:∀(C:Addr) (s:Shared) (H:Hp) (fp:List Addr),PE (cxC X N' scope C s H fp) elt te)
  (hs:∀ x,foldedSetIterable iter X.env x=pure x) (hsc:X.env.scope=sc0) (hN0:X.N=N0) {pins:List (Addr × Obj)} {s:Shared} {σ:St} {H:Hp} {Qv:VK} (I:Inv X pins σ H s) (h:tLc wi g tt te o fr σ H Qv)
  {use:Option (Value->Sem Unit)} {Q:Value->Shared->Prop} {E:Value->Shared->Prop}
  (hE:∀ e s',X.xe e s'->E e s')
  (fin:∀(C oC D:_) (m:Str->Option Value) (H':Hp) (ys:List V) (s':Shared),Inv X (pins++[(C,oC)]) σ (upd H' D (.lst ys)) s'->Qv (.ref D) (upd H' D (.lst ys))->s'.heap.Ns C m->H' C=none->C≠D ->
   C≠X.env.locals->X.s₀.heap.objs.size<=C->(∀ x c,X.env.cells.lookup x=some c->c≠C)->(∀ p∈X.pn++pins,p.1≠C)->compPost (model X.prog X.w) X.A E use Q (.ref D) C (.ok .next) s') :
  wpAny (model X.prog X.w) X.A (comprehension (.ListComp elt [⟨tg,iter,ifs,0⟩] scope pos) scope X.env (firstIterPos [⟨tg,iter,ifs,0⟩] pos) (newList []) false (eval iter X.env) use) Q E s:=by
 refine wpAny_comprehension_free (use:=use) rfl hs (ζF6 (S.cells hsc I)) S.kind S.loc' (ζζ0I (hi pins s σ H _ I h) (fun xv s1 h1=>ζζ0I h1 (fun itv s2 h2=>?_) hE) hE)
 obtain⟨it,fp,tn,J,H2,rfl,I2,T,st2,f2,W,⟨m0,w0⟩,turn⟩:=h2
 have hfl:∀ b∈fp,b<s2.heap.objs.size:=fun b hb=>by
  obtain⟨ob,e,_⟩:=T.obj 0 _ st2 b hb
  exact ζζn e
 refine ζζ0m (wpAny_newFunctionEnv S.nocell' (by intro y hy;simp at hy) (fun h1 hns1 hsb1=>?_) S.kind)
 dsimp only at hns1 hsb1 ⊢
 generalize hH2:s2.heap.push { cls:=.type "list",dict:=none,data:=.seq ([]:List Value).toArray }=G at hns1 hsb1 ⊢
 have hCe:G.objs.size=s2.heap.objs.size+1:=by rw[<- hH2,ζζ0B]
 have hC:s2.heap.objs.size<=G.objs.size:=by rw[hCe];exact ζζ0w _
 have hDC:s2.heap.objs.size≠G.objs.size:=by rw[hCe];exact ζζr (ζζ0z _)
 have old:∀ b ob,s2.heap.get? b=some ob->h1.get? b=some ob:=fun b ob e =>
  hsb1.extBut b ob (ζζr (ζζt (ζζn e) hC)) (ζζ3 _ (hH2 ▸ ζζ3 _ e))
 have hacc:h1.get? s2.heap.objs.size=some (ζb1 []):=hsb1.extBut _ _ hDC (ζζ3 _ (hH2 ▸ ζζf _ rfl))
 have st1:tn 0 h1:=T.keep _ _ _ st2 fun b _ ob e=>old b ob e
 have fpC:∀ {us:List Value} {H':Hp},(∀ b∈fp,H' b=none)->∀ b∈fp,FpOk (cxC X N' scope G.objs.size s2 H2 fp) [(s2.heap.objs.size,ζb1 us)] H' b:=fun {us H'} hn b hb=>by
  obtain⟨f0,f1,f3,f4,f5,f6⟩:=f2 b hb
  refine⟨hn b hb,ζζr (ζζt (hfl b hb) hC),fun z=>?_,.inl hb,fun x c e=>f5 x c (S.sub hsc I2 x c e),fun p hp=>?_⟩
  ·rcases ζζb.mp (I2.stkSub b z) with q | q
   ·exact f1 q
   ·exact f3 q
  ·have e:p=(s2.heap.objs.size,ζb1 us):=by simpa using (show p∈([]:List (Addr × Obj))++[(s2.heap.objs.size,ζb1 us)] from hp)
   subst e
   exact ζζ0H (hfl b hb)
 have loop:∀ s3:Shared,s3={ s2 with heap:=h1,toks:=s2.toks+([]:List (Str × Value)).length } ->
   codeAny (model X.prog X.w) X.A (.compLoop (.ListComp elt [⟨tg,iter,ifs,0⟩] scope pos) 0 (.ref it) (.ref s2.heap.objs.size) (compEnvC scope (ζV4 X.env.cells scope.names []) G.objs.size X.env))
    (compPost (model X.prog X.w) X.A E use Q (.ref s2.heap.objs.size) G.objs.size) s3:=by
  rintro s3 rfl
  refine ζ54 (fun n s'=>∃ i σ' H' ys us,Inv (cxC X N' scope G.objs.size s2 H2 fp) [(s2.heap.objs.size,ζb1 us)] σ' H' s'/\σ'=σC o fr σ/\Vals ys us/\tn i s'.heap/\(∀ b∈fp,H' b=none)/\W i n ys H') ?_ m0
   ⟨0,_,H2,[],[],I2.block S hsc hN0 f2 hfl hC (ζζ5 _) hDC old hns1 hacc,rfl,.nil,st1,fun b hb=>(f2 b hb).1,w0⟩
  rintro n s' ⟨i,σ',H',ys,us,I',rfl,rv,st',fr',w'⟩
  rcases turn i n ys H' w' with ⟨stop,hz,q⟩ | ⟨go,hz,step⟩
  ·refine thn (T.done (cxC X N' scope G.objs.size s2 H2 fp) rfl rfl rfl hc i _ s' _ H' _ I' (fpC fr') st' stop) fun r s4 ⟨hr,I4⟩=>?_
   subst hr
   obtain⟨oC,m,hoC,hn,J4⟩:=I2.unblock f2 hC (ζζ5 _) hDC I4 rv hz
   exact fin _ oC _ m H' ys s4 J4 (q _ (I4.pin (s2.heap.objs.size,ζb1 us) (by simp)).2.1) hn I4.free (ζζY hDC) (ζζ0H (ζζt I2.lt hC)) (ζζO I2.sz hC)
    (fun x c e=>by obtain⟨v,z⟩:=I2.cell x c e;exact ζζr (ζζt z.lt hC)) fun p hp=>ζζr (ζζt (ζζn (I2.pin p hp).1) hC)
  ·refine thn (T.item (cxC X N' scope G.objs.size s2 H2 fp) rfl rfl rfl hc i _ s' _ H' _ I' (fpC fr') st' go) fun r s4 ⟨u,hr,h4⟩=>?_
   subst hr
   refine thn h4 fun _ s5 ⟨x,H5,I5,r5,y5,st5,fr5⟩=>?_
   have hst:=step x H5 y5
   have hst':=ho x (List.replicate o none) (fr.map fun j=>(σ[j]?).join) H5 _ (ζζ01 ..) hst
   have I5':=I5.pinned (fpC (us:=us) fr5) (T.obj _ _ st5)
   refine thn (hg _ _ _ _ _ s5 _ H5 x u _ I5' r5 hst') fun _ s6 ⟨σ6,H6,I6,⟨ow,hol,e6⟩,q6⟩=>?_
   subst e6
   refine thn (ht _ _ _ _ _ s6 _ H6 _ I6 q6) fun b s7 ⟨H7,I7,q7⟩=>?_
   have back:∀ {us':List Value} {σ8:St} {H8:Hp} {s8:Shared},Inv (cxC X N' scope G.objs.size s2 H2 fp) ([(s2.heap.objs.size,ζb1 us')]++ζK2 fp s5.heap) (ow++fr.map fun j=>(σ[j]?).join) H8 s8 ->
     Inv (cxC X N' scope G.objs.size s2 H2 fp) [(s2.heap.objs.size,ζb1 us')] (σC o fr σ) H8 s8/\tn (i+1) s8.heap/\∀ b∈fp,H8 b=none:=fun {us' σ8 H8 s8} I8=>by
    refine⟨I8.unpinned.weak ?_ fun j v e=>?_,T.keep _ _ _ st5 fun b hb ob e=>(I8.pin (b,ob) (ζζc _ (ζζc _ (ζD1 hb e)))).1,fun b hb=>?_⟩
    ·unfold σC
     rw[ζζ6,ζζ6,ζζ01,hol]
    ·unfold σC at e
     by_cases hj:j<o
     ·rw[ζζI (by rw[ζζ01];exact hj),ζζ1j,if_pos hj]at e
      cases e
     ·rw[ζζz (by rw[ζζ01];exact Nat.not_lt.mp hj),ζζ01]at e
      rw[ζζz (by rw[hol];exact Nat.not_lt.mp hj),hol]
      exact e
    ·obtain⟨ob,e,_⟩:=T.obj _ _ st5 b hb
     exact(I8.pin (b,ob) (ζζc _ (ζζc _ (ζD1 hb e)))).2.1
   cases b with
   | false =>
    rw[if_neg ζζu]at q7 ⊢
    obtain⟨m',hm,w7⟩:=q7
    obtain⟨I8,st8,fr8⟩:=back (us':=us) (σ8:=[]) I7
    exact⟨m',hm,i+1,_,H7,ys,us,I8,rfl,rv,st8,fr8,w7⟩
   | true =>
    rw[if_pos rfl]at q7 ⊢
    refine thn (he _ _ _ _ _ s7 _ H7 _ I7 q7) fun y s8 ⟨yv,H8,I8,r8,m',hm,w8⟩=>?_
    obtain⟨aD,nD,_,_,_⟩:=I8.pin (s2.heap.objs.size,ζb1 us) (by simp)
    have aD:s8.heap.get? s2.heap.objs.size=some (ζb1 us):=aD
    have nD:H8 s2.heap.objs.size=none:=nD
    have hul:us.length<=sizeLine:=by rw[<- rv.length];exact ζζ1z hz
    refine append_at (hsz:=by show us.toArray.size<=sizeLine;rw[ζζ7];exact hul) aD fun h9 hs9 hD9=>?_
    have hD9':h9.get? s2.heap.objs.size=some (ζb1 (us++[y])):=by
     rw[hD9]
     show some ({ cls:=.type "list",data:=.seq (us.toArray.push y) (us.length+1) }:Obj)=some { cls:=.type "list",data:=.seq (us++[y]).toArray (us++[y]).length }
     rw[ζζ6,ζζR,List.push_toArray]
    have I9:Inv (cxC X N' scope G.objs.size s2 H2 fp) (ζK2 fp s5.heap) (ow++fr.map fun j=>(σ[j]?).join) H8 { s8 with heap:=h9 } :=
     (I8.pins_of (pins':=ζK2 fp s5.heap) fun p hp=>I8.pin p (ζζc _ (ζζc _ hp))).turned (t':=s8.toks) (it:=s2.heap.objs.size) (fun b ob hb e=>hs9.extBut b ob hb e) nD hDC (.inr (ζζ5 _))
      (fun x c e=>by
       obtain⟨v,z⟩:=I2.cell x c (S.sub hsc I2 x c e)
       exact ζζr z.lt)
      fun p hp=>by
       obtain⟨hb,_⟩:=ζz4 (show p∈ζK2 fp s5.heap from by simpa [cxC] using hp)
       exact ζζr (hfl p.1 hb)
    have I9':Inv (cxC X N' scope G.objs.size s2 H2 fp) ([(s2.heap.objs.size,ζb1 (us++[y]))]++ζK2 fp s5.heap) (ow++fr.map fun j=>(σ[j]?).join) H8 { s8 with heap:=h9 } :=
     I9.pins_of fun p hp=>by
      rcases ζζ9.mp hp with z | z
      ·have e:p=(s2.heap.objs.size,ζb1 (us++[y])):=by simpa using z
       subst e
       refine⟨hD9',nD,hDC,fun z=>?_,fun v z=>nomatch z⟩
       obtain⟨_,ob,hob,_⟩:=I2.stack.mem z
       exact ζζ0M _ (ζζn hob)
      ·exact I9.pin p (ζζc _ z)
    obtain⟨I10,st10,fr10⟩:=back (us':=us++[y]) (σ8:=[]) I9'
    exact⟨m',hm,i+1,_,H8,ys++[yv],us++[y],I10,rfl,Vals.append rv (.cons r8 .nil),st10,fr10,w8⟩
 exact codeAny_compStart_list (loop _ rfl) (T.self _ 0 _ _ _ st1 (loop _ rfl))
theorem ζu4(hc:X.calm=true){sc0:Scope}{N0:List Str}(S:CompScope sc0 N0 N' o fr scope)(hi:PI X tg iter wi)(ho:OwnG o g)
  (hg:∀(C:Addr) (s:Shared) (H:Hp) (fp:List Addr),PG (cxC X N' scope C s H fp) tg g)
  (ht:∀(C:Addr) (s:Shared) (H:Hp) (fp:List Addr),PTs (cxC X N' scope C s H fp) ifs tt)
  (he:∀(C:Addr) (s:Shared) (H:Hp) (fp:List Addr),PE (cxC X N' scope C s H fp) elt te)
  (hs:∀ x,foldedSetIterable iter X.env x=pure x:=by intro _;rfl) (hsc:X.env.scope=sc0:=by rfl) (hN0:X.N=N0:=by rfl):PE X (.ListComp elt [⟨tg,iter,ifs,0⟩] scope pos) (tLc wi g tt te o fr):=by
 intro pins s σ H Q I h
 rw[eval_ListComp]
 refine ζF10 hc S hi ho hg ht he hs hsc hN0 I h (use:=none) (fun _ _ z=>z) fun C oC D m H' ys s' J q hn nC hCD hCL hCs hCc hCp=>?_
 refine⟨m,hn,fun h' hs'=>⟨.ref D,upd H' D (.lst ys),?_,rfl,q⟩⟩
 refine J.unpinned.turned (t':=s'.toks) (it:=C) (fun b ob hb e=>hs'.extBut b ob hb e) (by rw[ζ9 hCD];exact nC) hCL (.inr hCs) hCc hCp
theorem ζ27{i:Nat}{x:Str}{px:Pos}{spos:Pos}(hc:X.calm=true)(hN:X.N.Nodup)(hx:X.N[i]?=some x)(hl:X.env.kindOf x=some .local){sc0:Scope}{N0:List Str}(S:CompScope sc0 N0 N' o fr scope)(hi:PI X tg iter wi)(ho:OwnG o g)
  (hg:∀(C:Addr) (s:Shared) (H:Hp) (fp:List Addr),PG (cxC X N' scope C s H fp) tg g)
  (ht:∀(C:Addr) (s:Shared) (H:Hp) (fp:List Addr),PTs (cxC X N' scope C s H fp) ifs tt)
  (he:∀(C:Addr) (s:Shared) (H:Hp) (fp:List Addr),PE (cxC X N' scope C s H fp) elt te)
  (hs:∀ x,foldedSetIterable iter X.env x=pure x:=by intro _;rfl) (hsc:X.env.scope=sc0:=by rfl) (hN0:X.N=N0:=by rfl)
  (hsw:swapsWith (.ListComp elt [⟨tg,iter,ifs,0⟩] scope pos) (some (.Name x px)) spos.line X.env=pure true:=by rfl) :
  PS X (.Assign [.Name x px] (.ListComp elt [⟨tg,iter,ifs,0⟩] scope pos) spos) (tAsg (tLc wi g tt te o fr) (ζd8 i)):=by
 intro pins s σ H D I h
 rw[exec_Assign_Name_used _ _ _ _ hsw]
 refine ζζ2 (wpAny_standAt (ζζ2 ?_))
 show wpAny _ X.A (do let _ <- comprehension (.ListComp elt [⟨tg,iter,ifs,0⟩] scope pos) scope X.env (firstIterPos [⟨tg,iter,ifs,0⟩] pos) (newList []) false (eval iter X.env) (some (assign (.Name x px) X.env))) _ _ s
 refine ζζ2 (ζζ0I (ζF10 (Q:=fun _ s'=>SP X pins D .next s') hc S hi ho hg ht he hs hsc hN0 I h (use:=some (assign (.Name x px) X.env)) (fun _ _ z=>z) fun C oC Dd m H' ys s' J q hn nC hCD hCL hCs hCc hCp=>?_) (fun _ s' hq=>ζζl (ζζl hq)) fun _ _ e=>e)
 show wpAny _ X.A (assign (.Name x px) X.env (.ref Dd)) _ _ _
 refine wpAny_assign_Name (ζL3 J hN hx (.inl hl) (v:=.ref Dd) rfl (fun s2 I2=>?_) (.inr hl))
 have g1:=(I2.pin (C,oC) (by simp)).1
 have g1:s2.heap.get? C=some oC:=g1
 have n2:s2.heap.Ns C m:=by
  obtain⟨oc,es,ep,e,r⟩:=hn
  have e0:=(J.pin (C,oC) (by simp)).1
  have e0:s'.heap.get? C=some oC:=e0
  rw[e]at e0
  cases e0
  exact⟨_,es,ep,g1,r⟩
 refine⟨m,n2,fun h' hs'=>⟨_,upd H' Dd (.lst ys),?_,q⟩⟩
 exact I2.unpinned.turned (t':=s2.toks) (it:=C) (fun b ob hb e=>hs'.extBut b ob hb e) (by rw[ζ9 hCD];exact nC) hCL (.inr hCs) hCc hCp
end
section
variable{X:Cx}
theorem ζo8:∀ {x y:V} {us:List Value},Vals [x,y] us->∃ u v,us=[u,v]/\RelV x u/\RelV y v
 | _,_,_,.cons r (.cons r' .nil)=>⟨_,_,rfl,r,r'⟩
theorem ζx:∀ {ns:List Int} {us:List Value},Vals (ns.map V.int) us->IntsAre us ns
 | [],_,.nil=>.nil
 | n :: ns,_,.cons r t=>by
  obtain⟨tk,rfl⟩:=r
  exact .cons n tk (ζx t)
theorem ζG1:ζI1 X (.type "range") (fun xs H Q=>∃ j:Int,xs=[.int j]/\∀ p,H p=none->Q (.ref p) (upd H p (.rng 0 j))):=by
 intro pins s σ H xs us Q I r h
 obtain⟨j,rfl,q⟩:=h
 obtain⟨u,rfl,t,rfl⟩:=ζ42 r
 refine call_range_1 ?_
 exact⟨.ref s.heap.objs.size,_,I.laid (o:=.rng 0 j) (fun b u e=>ζζ3 _ e) (ζζ5 _) ⟨_,_,_,ζζf _ rfl⟩,rfl,q _ (I.hok.fresh (ζζ5 _))⟩
def rngI(lo hi:Int):List Int:=(List.range (hi - lo).toNat).map fun(i:Nat)=>lo+(i:Int)
theorem ζL1(lo hi:Int):(rngI lo hi).length=(hi - lo).toNat:=by unfold rngI;rw[ζζa,ζζS]
theorem ζv5{lo:Int}{n:Nat}:∀ {us:List Value},us.length=n->(∀(j:Nat) (v:Value),us[j]?=some v->∃ t,v=Value.int (lo+(j:Int)) t)->Vals (((List.range n).map fun(i:Nat)=>lo+(i:Int)).map V.int) us:=by
 induction n generalizing lo with
 | zero =>
  intro us h _
  rw[ζζ00.mp h]
  exact .nil
 | succ n ih =>
  intro us h hv
  cases us with
  | nil=>cases h
  | cons u us =>
   rw[List.range_succ_eq_map,ζζF,ζζF]
   refine .cons ?_ ?_
   ·obtain⟨t,e⟩:=hv 0 u rfl
    exact⟨t,e⟩
   ·have q:=ih (lo:=lo+1) (us:=us) (ζζ1k h) fun j v e=>by
     obtain⟨t,e'⟩:=hv (j+1) v (by simpa using e)
     refine⟨t,?_⟩
     rw[e']
     congr 1
     omega
    have e:(List.range n).map (fun(i:Nat)=>lo+1+(i:Int))=((List.range n).map Nat.succ).map (fun(i:Nat)=>lo+(i:Int)):=by
     rw[List.map_map]
     refine ζζ0g fun i _=>?_
     show lo+1+(i:Int)=lo+((i+1:Nat):Int)
     omega
    rw[e]at q
    exact q
theorem ζZ (hc:X.calm=true):ζI1 X (.type "list") (fun xs H Q=>∃ p lo hi,xs=[.ref p]/\H p=some (.rng lo hi)/\(-(2 ^ 62)<=lo/\lo<2 ^ 62/\-(2 ^ 62)<=hi/\hi<2 ^ 62)/\(hi - lo).toNat<=16777216 /\
  ∀ l,H l=none->Q (.ref l) (upd H l (.lst ((rngI lo hi).map V.int)))):=by
 intro pins s σ H xs us Q I r h
 obtain⟨p,lo,hi,rfl,hp,⟨b1,b2,b3,b4⟩,hz,q⟩:=h
 obtain⟨u,rfl,ru⟩:=ζ42 r
 obtain rfl:u=Value.ref p:=ru
 obtain⟨t,u,v,e⟩:=(show ObjOk X.prog X.w H s.heap p (.rng lo hi) from I.hok p _ hp)
 have hn:Builtin.Range.rangeSize lo hi 1=(((hi - lo).toNat:Nat):Int):=by rw[rangeSize_one];split <;> omega
 refine call_list_range (I.ok.hd hc) (t:=t) (u:=u) (v:=v) e (small_one b1 b2 b3 b4) hn hz fun h' tk acc c' hk hS ha=>?_
 have hl:acc.toList.length=(hi - lo).toNat:=by rw[ζζD];exact ha.1
 have rv:Vals ((rngI lo hi).map V.int) acc.toList:=ζv5 (lo:=lo) hl fun j w ew=>by
  obtain⟨t,e⟩:=ha.2 j w (by simpa using ew)
  exact⟨t,by rw[e,Int.mul_one]⟩
 refine⟨.ref s.heap.objs.size,_,I.laid (o:=.lst ((rngI lo hi).map V.int)) hk (ζζ5 _) ⟨?_,acc.toList,c',rv,?_⟩,rfl,q _ (I.hok.fresh (ζζ5 _))⟩
 ·rw[ζζa,ζL1]
  have:sizeLine=16777216:=ζζ0C
  omega
 ·rw[hS]
theorem ζB3 (hc:X.calm=true):ζI1 X (.builtin "sum") (fun xs H Q=>∃(p:Addr) (ns:List Int),xs=[.ref p]/\SqL X.K H p (ns.map V.int)/\Q (.int ns.sum) H):=by
 intro pins s σ H xs us Q I r h
 obtain⟨p,ns,rfl,hq,q⟩:=h
 obtain⟨u,rfl,ru⟩:=ζ42 r
 obtain rfl:u=Value.ref p:=ru
 obtain⟨its,rv,pl,hz⟩:=I.list hq
 have hi:=ζx rv
 have hall:=hi.allInts
 obtain⟨xs,ex⟩:=hall.items
 have hl:=pl.isList
 rw[ex]at hl
 refine sum_intListG (I.ok.hd hc) hl fun h' tk t' hk=>?_
 have e1:preSum (numAt xs) xs.size=ns.sum:=by
  have e2:=hi.numsOf
  rw[show its=its.toArray.toList from rfl,ex,nums_intItems]at e2
  rw[preSum_eq,ζζ06 (by simp),<- e2]
 exact⟨.int ns.sum,H,I.kept hk,⟨t',by rw[e1]⟩,q⟩
def seen(ns:List Int):List Int:=firstMet (fun i=>ns.getD i 0) ns.length
theorem ζC3 (hc:X.calm=true):ζI1 X (.type "set") (fun xs H Q=>∃(p:Addr) (ns:List Int),xs=[.ref p]/\SqL X.K H p (ns.map V.int)/\ns.length+1<scanBound /\
  ∀ l,H l=none->Q (.ref l) (upd H l (.set (fun k=>(seen ns).any (· == k)) (seen ns).length))):=by
 intro pins s σ H xs us Q I r h
 obtain⟨p,ns,rfl,hq,hb,q⟩:=h
 obtain⟨u,rfl,ru⟩:=ζ42 r
 obtain rfl:u=Value.ref p:=ru
 obtain⟨its,rv,pl,hz⟩:=I.list hq
 have hi:=ζx rv
 have hl:its.toArray.size=ns.length:=by rw[ζζ7,<- rv.length,ζζa]
 refine call_set_list (I.ok.hd hc) pl.isList (ns:=ns) (by simpa using hi) (by omega) fun h' tk hs hk=>?_
 refine⟨.ref s.heap.objs.size,_,I.laid (o:=.set (fun k=>(seen ns).any (· == k)) (seen ns).length) (fun b ob e=>hk b ob (ζζn e) e) (ζζ5 _) ?_,rfl,q _ (I.hok.fresh (ζζ5 _))⟩
 unfold seen
 rw[<- hl]
 exact hs
theorem ζD3:ζI1 X (.builtin "len") (fun xs H Q=>∃ p S n,xs=[.ref p]/\H p=some (.set S n)/\(n:Int)<2 ^ 63/\Q (.int n) H):=by
 intro pins s σ H xs us Q I r h
 obtain⟨p,S,n,rfl,hp,hn,q⟩:=h
 obtain⟨u,rfl,ru⟩:=ζ42 r
 obtain rfl:u=Value.ref p:=ru
 obtain⟨o,es,ep,t,e,hx,hd,_,_,_,hf,hz⟩:=(show ObjOk X.prog X.w H s.heap p (.set S n) from I.hok p _ hp)
 subst hz
 exact call_len_set e hx hd hf hn ⟨.int es.size,H,I.tok _,⟨_,rfl⟩,q⟩
def Ite(K:PySem.W.Frag)(a:Addr):It :=
 ⟨fun i H=>∃ xs x,SqL K H a xs/\xs[i]?=some x,fun i H v H'=>∃ T x,H T=none/\v=.ref T/\H'=upd H T (.tup [.int i,x])/\∀ xs,SqL K H a xs->xs[i]?=some x,fun i H=>∃ xs,SqL K H a xs/\xs.length<=i⟩
def ζr12(K:PySem.W.Frag)(ta:TA):TI:=fun σ H R=>ta σ H fun vs H1=>∃ a,vs=[.ref a]/\(∃ xs,SqL K H1 a xs)/\R (Ite K a) H1
theorem ζi4{P:Program}{w:World}{K:PySem.W.Frag}{elts:List Expr}{x1:Nat}{pos:Pos}(a e it:Addr)(hne:e≠it):Turn P w K (.Tuple elts x1 pos) (Ite K a) [e,it] e (fun i h=>(∃ old,IsEnum h e it i old)/\h.IsListIter it a i) where
 mem:=by simp
 obj:=fun i h st b hb=>by
  obtain⟨⟨old,he⟩,o,eo,c,d⟩:=st
  rcases ζζb.mp hb with z | hb
  ·subst z
   exact⟨_,he,fun v z=>by
    have z':Data.fields _=Data.cell v:=z
    cases z'⟩
  ·have z:b=it:=by simpa using hb
   subst z
   exact⟨o,eo,fun v z=>by rw[d]at z;cases z⟩
 keep:=fun i h h' st k=>by
  obtain⟨⟨old,he⟩,hit⟩:=st
  exact⟨⟨old,k e (by simp) _ he⟩,hit.at fun o x=>k it (by simp) o x⟩
 item:=by
  intro X hP hw hK hc i pins s σ H E I hf st hg
  subst hP hw hK
  obtain⟨xs,x,hq,hx⟩:=hg
  obtain⟨⟨old,he⟩,hit⟩:=st
  obtain⟨its,rv,p,hz⟩:=I.list hq
  obtain⟨u,hu,ru⟩:=rv.get hx
  obtain⟨f0,f1,f2,f3,f4,f5⟩:=hf e (by simp)
  obtain⟨g0,g1,g2,g3,g4,g5⟩:=hf it (by simp)
  have hT0:H s.heap.objs.size=none:=I.hok.fresh (ζζ5 _)
  refine wpAny_pyNext_enum_item he hit p.isList (x:=u) (by simpa using hu) hne fun h' ho hit' hT hsz hk=>?_
  have ltT:∀ b ob,s.heap.get? b=some ob->b≠s.heap.objs.size:=fun b ob z=>ζζr (ζζn z)
  have ltH:∀ b ob,H b=some ob->b≠s.heap.objs.size:=fun b ob z=>ζζr (I.hok.lt z)
  have nof:∀ b ob,H b=some ob->b≠e/\b≠it:=fun b ob z=>⟨fun q=>(by rw[q,f0]at z;cases z),fun q=>(by rw[q,g0]at z;cases z)⟩
  have I1:Inv X pins σ (upd H s.heap.objs.size (.tup [.int i,x])) { s with heap:=h',toks:=s.toks+1 }:=by
   refine I.step (g':=s.gens) (d':=s.drawn) (ch:=[e,it]) (fun b hb=>?_) (fun b o _ _ hcx z _=>hk b o (fun q=>hcx (by simp[q])) (fun q=>hcx (by simp[q])) z) (fun b o _ _ hcx z _=>⟨o.slots,hk b o (fun q=>hcx (by simp[q])) (fun q=>hcx (by simp[q])) z⟩)
    (fun b o _ z n=>by rw[ζ9 (ltT b o z)];exact n) (fun b o hcx z=>⟨o,hk b o (fun q=>hcx (by simp[q])) (fun q=>hcx (by simp[q])) z⟩) (fun b ys z=>by rw[ζ9 (ltH b _ z)];exact z) (fun b o v z=>by rw[ζ9 (ltH b _ z)];exact z)
    (fun b ps z=>⟨#[],by rw[ζ9 (ltH b _ z),z];simp⟩) (fun m hm=>?_) (fun b v z=>?_) I.bare
   ·rcases ζζb.mp hb with q | hb
    ·rw[q];exact⟨f3,f1,f4,f5⟩
    ·have q:b=it:=by simpa using hb
     rw[q];exact⟨g3,g1,g4,g5⟩
   ·obtain⟨o,es,ep,ho',r⟩:=hm
    exact⟨o,es,ep,hk _ o (ζζY f1) (ζζY g1) ho',r⟩
   ·by_cases hb:b=s.heap.objs.size
    ·subst hb
     rw[ζ1]at z
     cases z
     exact⟨by show 2<=sizeLine;decide,[.int i s.toks,u],.cons ⟨_,rfl⟩ (.cons ru .nil),⟨_,hT,rfl,_,rfl⟩⟩
    ·rw[ζ9 hb]at z
     refine(I.hok b v z).stay (fun c w' hc' q=>?_) (fun c q=>by rw[ζ9 (ltH c _ q)];exact q) fun c ys q=>by rw[ζ9 (ltH c _ q)];exact q
     rcases hc' with rfl | hc'
     ·exact hk c w' (nof c _ z).1 (nof c _ z).2 q
     ·exact hk c w' (nof c _ hc').1 (nof c _ hc').2 q
  refine⟨_,rfl,wpAny_letOwnedTupleGo_enum ho fun h2 he2 hs2=>?_⟩
  have fT:e≠s.heap.objs.size:=ltT e _ he
  have I2:Inv X pins σ (upd H s.heap.objs.size (.tup [.int i,x])) { s with heap:=h2,toks:=s.toks+1 }:=Inv.turned (s:={ s with heap:=h',toks:=s.toks+1 }) (h':=h2) (t':=s.toks+1) (it:=e) I1 (fun b o hb z=>hs2.extBut b o hb z) (by rw[ζ9 fT];exact f0) f1 f3 f4 f5
  refine⟨.ref s.heap.objs.size,_,I2,rfl,⟨_,x,hT0,rfl,rfl,fun ys hy=>by rw[I.list_inj hy hq];exact hx⟩,⟨⟨u,by simpa using he2⟩,hit'.at fun o z=>hs2.extBut it o (ζζY hne) z⟩,fun b hb=>?_⟩
  rcases ζζb.mp hb with q | hb
  ·rw[q,ζ9 fT];exact f0
  ·have q:b=it:=by simpa using hb
   obtain⟨o,eo,_⟩:=hit
   rw[q,ζ9 (ltT it o eo)];exact g0
 done:=by
  intro X hP hw hK hc i pins s σ H E I hf st hg
  subst hP hw hK
  obtain⟨xs,hq,hx⟩:=hg
  obtain⟨⟨old,he⟩,hit⟩:=st
  obtain⟨its,rv,p,hz⟩:=I.list hq
  obtain⟨g0,g1,g2,g3,g4,g5⟩:=hf it (by simp)
  have hl:=rv.length
  exact wpAny_pyNext_enum_end (I.ok.hd hc) he hit p.isList (by simp;omega) fun h' eb=>⟨rfl,I.turned (t':=s.toks) (it:=it) (fun b o hb z=>eb b o hb z) g0 g1 g3 g4 g5⟩
 self:=fun _ _ _ _ _ st h=>let ⟨⟨_,he⟩,_⟩:=st;ζζ1C he h
theorem ζk10 {elts:List Expr} {x1:Nat} {tpos:Pos} {a:Expr} {ta:TA} {p pos:Pos} (hg:Gl X "enumerate") (hm:X.mg "enumerate"=none) (ha:PA X [a] ta) (hs:starEach [a] X.env=[(false,eval a X.env)]:=by rfl) :
  PI X (.Tuple elts x1 tpos) (.Call (.Name "enumerate" p) [a] [] pos) (ζr12 X.K ta):=by
 intro pins s σ H R I h
 refine Call_ (ζs2 I hg hm Boot.«enumerate» (ζζ0e (thn (ha pos pins s σ H _ I h) fun us s1 ⟨vs,H1,I1,r1,q1⟩=>?_) hs rfl))
 obtain⟨b,e,⟨xs,hq⟩,q⟩:=q1
 subst e
 obtain⟨u,rfl,ru⟩:=ζ42 r1
 obtain rfl:u=Value.ref b:=ru
 obtain⟨its,rv,pl,hz⟩:=I1.list hq
 refine call_enumerate_list pl.isList fun h' he hit hsz hk=>?_
 have I2:Inv X pins σ H1 { s1 with heap:=h' }:=I1.kept (t':=s1.toks) hk
 refine ζζ1C he ?_
 have nn:∀ k,s1.heap.objs.size<=k->H1 k=none:=fun k hk=>I1.hok.fresh hk
 refine⟨s1.heap.objs.size+1,[s1.heap.objs.size+1,s1.heap.objs.size],_,_,H1,rfl,I2,ζi4 b _ _ (ζζ20 _),⟨⟨_,he⟩,hit⟩,fun c hc=>?_,q⟩
 have hle:s1.heap.objs.size<=c:=by
  rcases ζζb.mp hc with q | hc
  ·rw[q];exact ζζ0w _
  ·have q:c=s1.heap.objs.size:=by simpa using hc
   rw[q];exact ζζ5 _
 exact I1.fpOk hle (nn c hle)
theorem ζI10{k:Key}{y:V}{us:List Value}(r:Vals [kV k,y] us):∃ u v,us=[u,v]/\RelV (kV k) u/\RelV y v:=ζo8 r
def ζd10:V->List V->Hp->VK->Prop:=fun x vs H Q=>∃ d kvs k y,x=.ref d/\vs=[kV k,y]/\H d=some (.dK kvs)/\kvs.length<sizeLine/\(∀ v,valV kvs k=some v->Q v H)/\(valV kvs k=none->Q y (upd H d (.dK (kvs++[(k,y)]))))
theorem ζp3:MtM X "dict.setdefault" ζd10:=by
 intro pins s σ H x vs v us Q I rx rv h
 obtain⟨d,kvs,k,y,rfl,rfl,hH,hz,h1,h2⟩:=h
 cases rx
 obtain⟨uk,uy,rfl,rk,ry⟩:=ζI10 rv
 obtain⟨z,hd,ws,rel,dd⟩:=ζc12 I.hok hH
 refine call_meetsIn ζζ2z dd.typeIs PySem.F.entry_dict_setdefault (PySem.F.args_dict_setdefault_3 _ _ _) (kt_meets_setdefault (ζ81 X.prog X.w) d (ζN12 rk) hd uy)
  ⟨ws,dd,by rw[<- rel.length];exact z,fun v' hv'=>?_,fun hn h' dd' hs=>?_⟩
 ·cases e:valV kvs k with
  | none =>
   have q:=rel.val k
   rw[e,hv']at q
   exact False.elim q
  | some w' =>
   have q:=rel.val k
   rw[e,hv']at q
   exact⟨w',H,I.tok _,q,h1 w' e⟩
 ·have e:valV kvs k=none:=by
   cases e:valV kvs k with
   | none=>rfl
   | some w' =>
    have q:=rel.val k
    rw[e,hn]at q
    exact False.elim q
  have he:∃ q,h'.get? d=some q:=let ⟨q,_,_,hq,_⟩:=dd';⟨q,hq⟩
  refine⟨y,_,ζ911 (ob:=.dK (putK kvs k y)) I (by rw[hH];exact True.intro) hs he (ζd12 ?_ hd (rel.put k ry) dd'),ry,?_⟩
  ·have:=ζf5 kvs k y;omega
  ·rw[ζR8 y e];exact h2 e
def ζR9(p d:Addr):HO:=.ext fun h=>h.IsValuesView p d
def ζb10:V->List V->Hp->VK->Prop:=fun x vs H Q=>∃ d kvs,x=.ref d/\vs=[]/\H d=some (.dK kvs)/\∀ p,H p=none->Q (.ref p) (upd H p (ζR9 p d))
theorem ζ97:MtM X "dict.values" ζb10:=by
 intro pins s σ H x vs v us Q I rx rv h
 obtain⟨d,kvs,rfl,rfl,hH,q⟩:=h
 cases rx
 cases rv
 obtain⟨z,hd,ws,rel,dd⟩:=ζc12 I.hok hH
 refine call_meetsIn ζζ2N dd.typeIs PySem.F.entry_dict_values (PySem.F.args_dict_values_1 _) (meets_dict_values (ζ81 X.prog X.w) d hd) ⟨⟨ws,dd⟩,?_⟩
 refine⟨.ref s.heap.objs.size,_,I.laid (o:=ζR9 s.heap.objs.size d) (fun b u e=>ζζ3 _ e) (ζζ5 _) ?_,rfl,q _ (I.hok.fresh (ζζ5 _))⟩
 have e:=ζζf s.heap (o:={ cls:=.type "dict_values",data:=.fields #[.ref d] }) rfl
 exact⟨⟨_,e,rfl,rfl⟩,⟨_,e⟩,fun h1 h2 ⟨o,ho,r⟩ k=>⟨o,k o ho,r⟩⟩
theorem ζx7{P:Program}{w:World}{h:Heap}{d:Addr}{ws:List (Key × Value)}(dd:h.DictOf (ζ81 P w) d ws):∃ ep,h.DictAt (ζ81 P w) d ws ep:=by
 obtain⟨o,es,ep,r⟩:=dd
 exact⟨ep,o,es,r⟩
theorem ζu5{κ:Type}:∀ {kvs:List (κ × V)} {ws:List (κ × Value)},KV kvs ws->Vals (kvs.map (·.2)) (ws.map (·.2))
 | _,_,.nil=>.nil
 | _,_,.cons r t=>.cons r.2 (ζu5 t)
theorem ζ23 (hc:X.calm=true):ζI1 X (.type "list") (fun xs H Q=>∃ p d kvs,xs=[.ref p]/\H p=some (ζR9 p d)/\H d=some (.dK kvs)/\∀ l,H l=none->Q (.ref l) (upd H l (.lst (kvs.map (·.2))))):=by
 intro pins s σ H xs us Q I r h
 obtain⟨p,d,kvs,rfl,hp,hd,q⟩:=h
 obtain⟨u,rfl,ru⟩:=ζ42 r
 obtain rfl:u=Value.ref p:=ru
 obtain⟨hv,_,_⟩:=(show ObjOk X.prog X.w H s.heap p (ζR9 p d) from I.hok p _ hp)
 obtain⟨z,hds,ws,rel,dd⟩:=ζc12 I.hok hd
 obtain⟨ep,da⟩:=ζx7 dd
 have hl:ws.length=kvs.length:=rel.length.symm
 refine PySem.W.kdl_call (PySem.W.kdl_values (knd:=ζ81 X.prog X.w) (kvs:=ws) (ep:=ep) (r:=p) (d:=d)) (I.ok.hd hc) ⟨hv,da⟩ (by omega) fun h' tk acc c' hk hS ha=>?_
 have ea:acc.toList=ws.map (·.2):=by
  refine ζζ0D fun i=>?_
  cases e:acc.toList[i]? with
  | none =>
   have:ws.length<=i:=by
    have:=ζζ2L.mp e
    rw[ζζD,ha.1]at this
    exact this
   rw[ζζ2L.mpr (by rw[ζζa];exact this)]
  | some v =>
   obtain⟨k,ek⟩:=ha.2 i v (by simpa using e)
   rw[ζζh,ek]
   rfl
 refine⟨.ref s.heap.objs.size,_,I.laid (o:=.lst (kvs.map (·.2))) hk (ζζ5 _) ⟨by rw[ζζa];exact z,acc.toList,c',?_,by rw[hS]⟩,rfl,q _ (I.hok.fresh (ζζ5 _))⟩
 rw[ea]
 exact ζu5 rel
end
inductive EqD (K:PySem.W.Frag) (H:Hp):Nat->V->V->Bool->Prop
 | flat {n:Nat} {x y:V} (fx:ζG3 x=true) (fy:ζG3 y=true):EqD K H n x y (eqV x y)
 | lsts {n:Nat} {a b:Addr} {xs ys:List V} {e:Nat->Bool} (ha:SqL K H a xs) (hb:SqL K H b ys) (hl:xs.length=ys.length) (h:∀ i x y,xs[i]?=some x->ys[i]?=some y->EqD K H n x y (e i)):EqD K H (n+1) (.ref a) (.ref b) ((List.range xs.length).all e)
 | lens {n:Nat} {a b:Addr} {xs ys:List V} (ha:SqL K H a xs) (hb:SqL K H b ys) (hl:xs.length≠ys.length):EqD K H (n+1) (.ref a) (.ref b) false
 | tups {n:Nat} {a b:Addr} {xs ys:List V} {e:Nat->Bool} (ha:SqT K H a xs) (hb:SqT K H b ys) (h:∀ i x y,xs[i]?=some x->ys[i]?=some y->EqD K H n x y (e i)) :
   EqD K H (n+1) (.ref a) (.ref b) ((List.range (min xs.length ys.length)).all e && xs.length == ys.length)
theorem ζA9{x:V}(h:ζG3 x=true):eqV x x=true:=by
 cases x <;> first | rfl | (simp[eqV];done) | exact absurd (show false=true from h) ζζu
section
variable{X:Cx}{pins:List (Addr × Obj)}{σ:St}{H:Hp}{s:Shared}
theorem Vals.at{xs:List V}{us:List Value}{j:Nat}(r:Vals xs us)(h:j<us.length):∃ x,xs[j]?=some x/\RelV x us[j]:=by
 have hl:=r.length
 have hx:xs[j]?=some (xs[j]'(by omega)):=ζζ0 (by omega)
 obtain⟨u,e,ru⟩:=r.get hx
 rw[ζζ0 h]at e
 cases e
 exact⟨_,hx,ru⟩
theorem EqD.self{n:Nat}{x y:V}{b:Bool}(q:EqD X.K H n x y b)(I:Inv X pins σ H s):x=y->b=true:=by
 induction q with
 | flat fx fy=>intro e;subst e;exact ζA9 fx
 | @lsts n a b xs ys e ha hb hl h ih =>
  intro z
  cases z
  have e1:xs=ys:=I.list_inj ha hb
  subst e1
  rw[ζζ0i]
  intro i hi
  have hx:xs[i]?=some (xs[i]'(ζζy.mp hi)):=ζζ0 _
  exact ih i _ _ hx hx rfl
 | @lens n a b xs ys ha hb hl =>
  intro z
  cases z
  exact absurd (ζζ0l List.length (I.list_inj ha hb)) hl
 | @tups n a b xs ys e ha hb h ih =>
  intro z
  cases z
  have e1:xs=ys:=I.tuple_inj ha hb
  subst e1
  rw[Nat.min_self,ζζ0u,ζζ0i]
  refine⟨fun i hi=>?_,by simp⟩
  have hx:xs[i]?=some (xs[i]'(ζζy.mp hi)):=ζζ0 _
  exact ih i _ _ hx hx rfl
theorem EqD.at{n:Nat}{x y:V}{b:Bool}(q:EqD X.K H n x y b)(I:Inv X pins σ H s):∀ {A:Around} {u v:Value},A.units+n<cLine->RelV x u->RelV y v->SeqAt.EqAt A s u v b:=by
 induction q with
 | flat fx fy=>intro A u v _ ru rv;exact ζ311 ru rv fx fy
 | @lsts n a b xs ys e ha hb hl h ih =>
  intro A u v hu ru rv
  obtain rfl:u=Value.ref a:=ru
  obtain rfl:v=Value.ref b:=rv
  by_cases hab:a=b
  ·have z:=EqD.self (EqD.lsts ha hb hl h) I (ζζ0l V.ref hab)
   rw[z,hab]
   exact ζζ2n _
  obtain⟨us,rx,px,_⟩:=I.list ha
  obtain⟨vs,ry,py,_⟩:=I.list hb
  have l1:=rx.length
  have l2:=ry.length
  have z:=SeqAt.RcAt.lists (A:=A) (s:=s) (e:=e) px.isList py.isList (by rw[ζζ7,ζζ7];omega) (by omega) fun j h1 h2=>by
   obtain⟨x,ex,rx'⟩:=rx.at (j:=j) (by simpa using h1)
   obtain⟨y,ey,ry'⟩:=ry.at (j:=j) (by simpa using h2)
   exact ih j x y ex ey (A:=A.in1) (by show A.units+1+n<cLine;omega) (by simpa using rx') (by simpa using ry')
  rw[ζζ7,<- l1]at z
  exact ζζ1X hab z
 | @lens n a b xs ys ha hb hl =>
  intro A u v hu ru rv
  obtain rfl:u=Value.ref a:=ru
  obtain rfl:v=Value.ref b:=rv
  obtain⟨us,rx,px,_⟩:=I.list ha
  obtain⟨vs,ry,py,_⟩:=I.list hb
  have l1:=rx.length
  have l2:=ry.length
  have hab:a≠b:=fun z=>by
   subst z
   exact hl (ζζ0l List.length (I.list_inj ha hb))
  exact ζζ1X hab (SeqAt.RcAt.lists_lengths px.isList py.isList (by rw[ζζ7,ζζ7];simp;omega) (by omega))
 | @tups n a b xs ys e ha hb h ih =>
  intro A u v hu ru rv
  obtain rfl:u=Value.ref a:=ru
  obtain rfl:v=Value.ref b:=rv
  by_cases hab:a=b
  ·have z:=EqD.self (EqD.tups ha hb h) I (ζζ0l V.ref hab)
   rw[z,hab]
   exact ζζ2n _
  obtain⟨us,rx,px,_⟩:=I.tuple ha
  obtain⟨vs,ry,py,_⟩:=I.tuple hb
  have l1:=rx.length
  have l2:=ry.length
  have z:=SeqAt.RcAt.tuples (A:=A) (s:=s) (e:=e) (show s.heap.IsTuple a us.toArray from px) (show s.heap.IsTuple b vs.toArray from py) (by omega) fun j h1 h2=>by
   obtain⟨x,ex,rx'⟩:=rx.at (j:=j) (by simpa using h1)
   obtain⟨y,ey,ry'⟩:=ry.at (j:=j) (by simpa using h2)
   exact ih j x y ex ey (A:=A.in1) (by show A.units+1+n<cLine;omega) (by simpa using rx') (by simpa using ry')
  rw[ζζ7,ζζ7,<- l1,<- l2]at z
  exact ζζ1X hab z
end
section
variable{X:Cx}
def rEqD(K:PySem.W.Frag)(neg:Bool):R2:=fun x y H Q=>∃ n b p q,x=.ref p/\y=.ref q/\n<=6/\EqD K H n x y b/\Q (.bl (if neg then !b else b)) H
theorem ζY11(hu:X.A.units+8<cLine):OpR X (compareOp .Eq) (rEqD X.K false):=by
 intro pins s σ H x y u v Q I ru rv h
 obtain⟨n,b,p,q,rfl,rfl,hn,d,hq⟩:=h
 obtain rfl:u=Value.ref p:=ru
 obtain rfl:v=Value.ref q:=rv
 have fin:EP X pins σ Q (.bool b) s:=⟨.bl b,H,I,rfl,hq⟩
 cases d with
 | flat fx fy=>exact absurd (show false=true from fx) ζζu
 | @lsts n _ _ xs ys e ha hb hl h =>
  obtain⟨us,rx,px,_⟩:=I.list ha
  obtain⟨vs,ry,py,_⟩:=I.list hb
  have l1:=rx.length
  have l2:=ry.length
  refine SeqAt.eq_listAt (e:=e) px.isList py.isList (by rw[ζζ7,ζζ7];omega) (by omega) (fun j h1 h2=>?_) (by rw[ζζ7,<- l1];exact fin)
  obtain⟨x,ex,rx'⟩:=rx.at (j:=j) (by simpa using h1)
  obtain⟨y,ey,ry'⟩:=ry.at (j:=j) (by simpa using h2)
  exact(h j x y ex ey).at I (A:=X.A.in1) (by show X.A.units+1+n<cLine;omega) (by simpa using rx') (by simpa using ry')
 | @lens n _ _ xs ys ha hb hl =>
  obtain⟨us,rx,px,_⟩:=I.list ha
  obtain⟨vs,ry,py,_⟩:=I.list hb
  have l1:=rx.length
  have l2:=ry.length
  exact SeqAt.eq_list_lengthsAt px.isList py.isList (by rw[ζζ7,ζζ7];simp;omega) (by omega) fin
 | @tups n _ _ xs ys e ha hb h =>
  obtain⟨us,rx,px,_⟩:=I.tuple ha
  obtain⟨vs,ry,py,_⟩:=I.tuple hb
  have l1:=rx.length
  have l2:=ry.length
  refine SeqAt.eq_tupleAt (e:=e) (show s.heap.IsTuple p us.toArray from px) (show s.heap.IsTuple q vs.toArray from py) (by omega) (fun j h1 h2=>?_) (by rw[ζζ7,ζζ7,<- l1,<- l2];exact fin)
  obtain⟨x,ex,rx'⟩:=rx.at (j:=j) (by simpa using h1)
  obtain⟨y,ey,ry'⟩:=ry.at (j:=j) (by simpa using h2)
  exact(h j x y ex ey).at I (A:=X.A.in1) (by show X.A.units+1+n<cLine;omega) (by simpa using rx') (by simpa using ry')
theorem ζW11(hu:X.A.units+8<cLine):OpR X (compareOp .NotEq) (rEqD X.K true):=by
 intro pins s σ H x y u v Q I ru rv h
 obtain⟨n,b,p,q,rfl,rfl,hn,d,hq⟩:=h
 obtain rfl:u=Value.ref p:=ru
 obtain rfl:v=Value.ref q:=rv
 have fin:EP X pins σ Q (.bool (!b)) s:=⟨.bl (!b),H,I,rfl,hq⟩
 cases d with
 | flat fx fy=>exact absurd (show false=true from fx) ζζu
 | @lsts n _ _ xs ys e ha hb hl h =>
  obtain⟨us,rx,px,_⟩:=I.list ha
  obtain⟨vs,ry,py,_⟩:=I.list hb
  have l1:=rx.length
  have l2:=ry.length
  refine SeqAt.RcNeAt.lists (e:=e) px.isList py.isList (by rw[ζζ7,ζζ7];omega) (by omega) (fun j h1 h2=>?_) _ _ _ _ (by rw[ζζ7,<- l1];exact fin)
  obtain⟨x,ex,rx'⟩:=rx.at (j:=j) (by simpa using h1)
  obtain⟨y,ey,ry'⟩:=ry.at (j:=j) (by simpa using h2)
  exact(h j x y ex ey).at I (A:=X.A.in1) (by show X.A.units+1+n<cLine;omega) (by simpa using rx') (by simpa using ry')
 | @lens n _ _ xs ys ha hb hl =>
  obtain⟨us,rx,px,_⟩:=I.list ha
  obtain⟨vs,ry,py,_⟩:=I.list hb
  have l1:=rx.length
  have l2:=ry.length
  exact SeqAt.RcNeAt.lists_lengths px.isList py.isList (by rw[ζζ7,ζζ7];simp;omega) (by omega) _ _ _ _ fin
 | @tups n _ _ xs ys e ha hb h =>
  obtain⟨us,rx,px,_⟩:=I.tuple ha
  obtain⟨vs,ry,py,_⟩:=I.tuple hb
  have l1:=rx.length
  have l2:=ry.length
  refine SeqAt.RcNeAt.tuples (e:=e) (show s.heap.IsTuple p us.toArray from px) (show s.heap.IsTuple q vs.toArray from py) (by omega) (fun j h1 h2=>?_) _ _ _ _ (by rw[ζζ7,ζζ7,<- l1,<- l2];exact fin)
  obtain⟨x,ex,rx'⟩:=rx.at (j:=j) (by simpa using h1)
  obtain⟨y,ey,ry'⟩:=ry.at (j:=j) (by simpa using h2)
  exact(h j x y ex ey).at I (A:=X.A.in1) (by show X.A.units+1+n<cLine;omega) (by simpa using rx') (by simpa using ry')
end
end L2
namespace My
open PySem L2
abbrev IL(ns:List Int):List V:=ns.map V.int
theorem ζ4(ns:List Int):(IL ns).length=ns.length:=ζζa ..
theorem ζl7(a b:List Int):IL (a++b)=IL a++IL b:=ζζA ..
theorem ζF(a:List Int)(r:Int):IL (a++[r])=IL a++[.int r]:=ζζA ..
theorem ζ58(a:List Int)(n:Nat):IL (a.take n)=(IL a).take n:=List.map_take ..
theorem ζP10(a:List Int)(n:Nat):IL (a.drop n)=(IL a).drop n:=List.map_drop ..
theorem ζo9(a:List Int)(n:Nat)(z:Int):IL (a.set n z)=(IL a).set n (.int z):=List.map_set ..
theorem ζT2{ns:List Int}{i:Nat}{z:Int}(h:ns[i]?=some z):(IL ns)[i]?=some (.int z):=by rw[ζζh,h];rfl
theorem ζa1{ns:List Int}{i:Nat}{x:V}(h:(IL ns)[i]?=some x):∃ z,x=.int z/\ns[i]?=some z:=by
 rw[ζζh]at h
 cases e:ns[i]? with
 | none=>rw[e]at h;cases h
 | some z=>rw[e]at h;exact⟨z,(ζζ8 h).symm,rfl⟩
theorem ζr{H H2:Hp}{a:Addr}{o:HO}(hn:H a=none)(s:Same H H2):Same H (upd H2 a o):=fun b u e=>by rw[ζ9 (ζb e hn)];exact s b u e
theorem ζn{H H2:Hp}{p:Addr}{o:HO}(s:Same H H2)(hp:H2 p=none):Same H (upd H2 p o):=ζr (s.free hp) s
theorem same_at{H:Hp}{p:Addr}{o:HO}(hp:H p=none):Same H (upd H p o):=ζn (Same.refl H) hp
theorem ζD5{K:PySem.W.Frag}{H H':Hp}{a:Addr}{xs:List V}(e:Same H H')(h:SqT K H a xs):SqT K H' a xs:=by
 rcases h with (h | ⟨o,h⟩) | h
 ·exact .inl (.inl (e _ _ h))
 ·exact .inl (.inr ⟨o,e _ _ h⟩)
 ·exact .inr h
theorem ζa3{n:Nat}(h:n<=1000000):n<=sizeLine:=ζζO h (by decide)
theorem ζk{n:Nat}(h:n<=1000000):n<sizeLine:=Nat.lt_of_le_of_lt h (by decide)
theorem hu8{A:Around}{k:Nat}(hr:Room k A):A.units+8<cLine:=Nat.lt_of_le_of_lt (Nat.add_le_add_left (by decide:8<=64) _) hr.units
theorem ζv{α:Type}{xs:List α}{i:Int}{n:Nat}{x:α}(hi:i=(n:Int))(h:xs[n]?=some x):atI xs i=some x:=by
 subst hi
 have hn:n<xs.length:=(ζζ4.mp h).1
 unfold atI ixN
 rw[if_pos (Int.natCast_nonneg n),if_pos (by omega)]
 simpa using h
theorem itd{c A B:Prop}[Decidable c](hc:c)(h:A):if decide c=true then A else B:=by rw[if_pos (ζζd hc)];exact h
theorem itdn{c A B:Prop}[Decidable c](hc:¬ c)(h:B):if decide c=true then A else B:=by rw[if_neg (by simp[hc])];exact h
theorem itn{c A B:Prop}[Decidable c](hc:c)(h:B):if (!decide c)=true then A else B:=by rw[if_neg (by simp[hc])];exact h
theorem itnn{c A B:Prop}[Decidable c](hc:¬ c)(h:A):if (!decide c)=true then A else B:=by rw[if_pos (by simp[hc])];exact h
theorem itd2{c A B:Prop}[Decidable c](h1:c->A)(h2:¬ c->B):if decide c=true then A else B:=by
 by_cases h:c
 ·exact itd h (h1 h)
 ·exact itdn h (h2 h)
theorem itn2{c A B:Prop}[Decidable c](h1:c->B)(h2:¬ c->A):if (!decide c)=true then A else B:=by
 by_cases h:c
 ·exact itn h (h1 h)
 ·exact itnn h (h2 h)
theorem itb{b:Bool}{A B:Prop}(h1:b=true->A)(h2:b=false->B):if b=true then A else B:=by
 cases b with
 | true=>exact iteT (h1 rfl)
 | false=>exact iteF (h2 rfl)
theorem itnb{b:Bool}{A B:Prop}(h1:b=true->B)(h2:b=false->A):if (!b)=true then A else B:=by
 cases b with
 | true=>exact iteF (h1 rfl)
 | false=>exact iteT (h2 rfl)
def SqK(k:Bool)(K:PySem.W.Frag)(H:Hp)(a:Addr)(xs:List V):Prop:=match k with
 | false=>SqL K H a xs
 | true=>SqT K H a xs
theorem SqK.same{k:Bool}{K:PySem.W.Frag}{H H':Hp}{a:Addr}{xs:List V}(e:Same H H')(h:SqK k K H a xs):SqK k K H' a xs:=by
 cases k with
 | false=>exact e.seq h
 | true=>exact ζD5 e h
theorem SqK.or{k:Bool}{K:PySem.W.Frag}{H:Hp}{a:Addr}{xs:List V}(h:SqK k K H a xs):SqL K H a xs\/SqT K H a xs:=by
 cases k with
 | false=>exact .inl h
 | true=>exact .inr h
def iSeq(K:PySem.W.Frag)(tl:TE):TI:=fun σ H R=>tl σ H fun x H1=>∃ a,x=.ref a/\(((∃ xs,SqL K H1 a xs)/\R (Itl K a) H1)\/((∃ xs,SqT K H1 a xs)/\R (Itt K a) H1))
theorem pi_seq{X:Cx}{tg:Expr}{l:Expr}{tl:TE}(hl:PE X l tl):PI X tg l (iSeq X.K tl):=by
 intro pins s σ H R I h
 refine thn (hl pins s σ H _ I h) fun v s1 ⟨x,H1,I1,r1,q1⟩=>?_
 obtain⟨a,e,q⟩:=q1
 subst e
 cases r1
 rcases q with ⟨⟨xs,hq⟩,q⟩ | ⟨⟨xs,hq⟩,q⟩
 ·obtain⟨its,rv,p,hz⟩:=I1.list hq
  refine ζζ1B p.isList ?_
  refine⟨s1.heap.objs.size,[s1.heap.objs.size],_,_,H1,rfl,I1.kept (t':=s1.toks) fun b o e=>ζζ3 _ e,ζh4 a _,⟨_,ζζf _ rfl,rfl,rfl⟩,fun b hb=>?_,q⟩
  have e:b=s1.heap.objs.size:=by simpa using hb
  subst e
  exact I1.fpOk (ζζ5 _) (I1.hok.fresh (ζζ5 _))
 ·obtain⟨its,rv,p,hz⟩:=I1.tuple hq
  refine ζζ1v (show s1.heap.IsTuple a its.toArray from p) ?_
  refine⟨s1.heap.objs.size,[s1.heap.objs.size],_,_,H1,rfl,I1.kept (t':=s1.toks) fun b o e=>ζζ3 _ e,ζ53 a _,⟨_,ζζf _ rfl,rfl,rfl⟩,fun b hb=>?_,q⟩
  have e:b=s1.heap.objs.size:=by simpa using hb
  subst e
  exact I1.fpOk (ζζ5 _) (I1.hok.fresh (ζζ5 _))
theorem ζw3{K:PySem.W.Frag}{k:Bool}{a:Addr}{xs:List V}{g:TG}{tb:TS}{D:Ends}{σ:St}{H:Hp}(Pv:Nat->St->Hp->Prop)(h0:Pv 0 σ H)(hl:∀ i σ H,i<=xs.length->Pv i σ H->SqK k K H a xs)
  (hs:∀ i x σ H,xs[i]?=some x->Pv i σ H->g x σ H fun σ2 H2=>tb { D with nx:=Pv (i+1),ct:=Pv (i+1),bk:=D.nx } σ2 H2) (hd:∀ σ H,Pv xs.length σ H->D.nx σ H) :
  (((∃ xs,SqL K H a xs)/\∃ W:Nat->Nat->St->Hp->Prop,(∃ m,W 0 m σ H)/\∀ i m σ H,W i m σ H ->
   ((Itl K a).stop i H/\D.nx σ H)\/((Itl K a).go i H/\∃ N:St->Hp->Prop,(∀ σ' H',N σ' H'->∃ m',m'<m/\W (i+1) m' σ' H')/\∀ x H',(Itl K a).yld i H x H'->g x σ H' fun σ2 H2=>tb { D with nx:=N,ct:=N,bk:=D.nx } σ2 H2)) \/
  ((∃ xs,SqT K H a xs)/\∃ W:Nat->Nat->St->Hp->Prop,(∃ m,W 0 m σ H)/\∀ i m σ H,W i m σ H ->
   ((Itt K a).stop i H/\D.nx σ H)\/((Itt K a).go i H/\∃ N:St->Hp->Prop,(∀ σ' H',N σ' H'->∃ m',m'<m/\W (i+1) m' σ' H')/\∀ x H',(Itt K a).yld i H x H'->g x σ H' fun σ2 H2=>tb { D with nx:=N,ct:=N,bk:=D.nx } σ2 H2))):=by
 cases k with
 | false=>exact .inl ⟨⟨xs,hl 0 σ H (ζζj _) h0⟩,ζW2 (K:=K) (a:=a) (xs:=xs) Pv h0 hl hs hd⟩
 | true=>exact .inr ⟨⟨xs,hl 0 σ H (ζζj _) h0⟩,ζu6 (K:=K) (a:=a) (xs:=xs) Pv h0 hl hs hd⟩
def PairV(H:Hp)(v:V)(p:Int × Int):Prop:=∃ t,v=.ref t/\H t=some (.tup [.int p.1,.int p.2])
def PairsV(H:Hp)(xs:List V)(ps:List (Int × Int)):Prop:=xs.length=ps.length/\∀(i:Nat) (p:Int × Int),ps[i]?=some p->∃ v,xs[i]?=some v/\PairV H v p
theorem PairV.same{H H':Hp}{v:V}{p:Int × Int}(s:Same H H')(h:PairV H v p):PairV H' v p:=let ⟨t,e,q⟩:=h;⟨t,e,s _ _ q⟩
theorem PairsV.same{H H':Hp}{xs:List V}{ps:List (Int × Int)}(s:Same H H')(h:PairsV H xs ps):PairsV H' xs ps:=⟨h.1,fun i p e=>let ⟨v,e1,q⟩:=h.2 i p e;⟨v,e1,q.same s⟩⟩
theorem PairsV.at{H:Hp}{xs:List V}{ps:List (Int × Int)}(h:PairsV H xs ps){i:Nat}{v:V}(e:xs[i]?=some v):∃ p,ps[i]?=some p/\PairV H v p:=by
 have hi:i<xs.length:=(ζζ4.mp e).1
 have hp:i<ps.length:=by rw[<- h.1];exact hi
 obtain⟨v',e1,q⟩:=h.2 i ps[i] (ζζ0 hp)
 rw[e]at e1
 cases e1
 exact⟨_,ζζ0 hp,q⟩
theorem PairsV.nil{H:Hp}:PairsV H [] []:=⟨rfl,fun i p e=>by simp at e⟩
theorem PairsV.snoc{H:Hp}{xs:List V}{ps:List (Int × Int)}{v:V}{p:Int × Int}(h:PairsV H xs ps)(q:PairV H v p):PairsV H (xs++[v]) (ps++[p]):=by
 refine⟨by rw[ζζ6,ζζ6,h.1];rfl,fun i p' e=>?_⟩
 by_cases hi:i<ps.length
 ·rw[ζζI hi]at e
  rw[ζζI (by rw[h.1];exact hi)]
  exact h.2 i p' e
 ·have hl:i=ps.length:=by
   have:=(ζζ4.mp e).1
   rw[ζζ6,ζζR]at this
   omega
  subst hl
  rw[ζζz (ζζ5 _),ζζ1l]at e
  rw[ζζz (by rw[h.1];exact ζζ5 _),h.1,ζζ1l]
  have e':p=p':=ζζ8 e
  subst e'
  exact⟨v,rfl,q⟩
theorem PairsV.drop{H:Hp}{xs:List V}{ps:List (Int × Int)}(h:PairsV H xs ps)(n:Nat):PairsV H (xs.drop n) (ps.drop n):=by
 refine⟨by rw[ζζ0A,ζζ0A,h.1],fun i p e=>?_⟩
 rw[ζζ2i]at e ⊢
 exact h.2 _ p e
theorem PairsV.take{H:Hp}{xs:List V}{ps:List (Int × Int)}(h:PairsV H xs ps)(n:Nat):PairsV H (xs.take n) (ps.take n):=by
 refine⟨by rw[ζζv,ζζv,h.1],fun i p e=>?_⟩
 by_cases hi:i<n
 ·rw[ζζ2R hi]at e ⊢
  exact h.2 _ p e
 ·rw[List.getElem?_take_eq_none (by omega)]at e
  cases e
theorem PairsV.app{H:Hp}{xs ys:List V}{ps qs:List (Int × Int)}(h:PairsV H xs ps)(h2:PairsV H ys qs):PairsV H (xs++ys) (ps++qs):=by
 refine⟨by rw[ζζ6,ζζ6,h.1,h2.1],fun i p e=>?_⟩
 by_cases hi:i<ps.length
 ·rw[ζζI hi]at e
  rw[ζζI (by rw[h.1];exact hi)]
  exact h.2 i p e
 ·rw[ζζz (by omega)]at e
  rw[ζζz (by rw[h.1];omega),h.1]
  exact h2.2 _ p e
theorem ζH12:¬ (("places":Str)="ties"):=by decide +kernel
def wf (n:Int) (tl:Addr):List (Str × V):=putF "ties" (.ref tl) (putF "places" (.int n) [])
theorem ζU1 (n:Int) (tl:Addr):(wf n tl).lookup ("places":Str)=some (.int n):=by
 unfold wf
 rw[ζ91,if_neg ζH12,ζ91,if_pos rfl]
theorem ζy1 (n:Int) (tl:Addr):(wf n tl).lookup ("ties":Str)=some (.ref tl):=by
 unfold wf
 rw[ζ91,if_pos rfl]
def WebAt(C:Addr)(H:Hp)(w:Addr)(n:Int)(ps:List (Int × Int)):Prop:=∃ dx tl xs,H w=some (.ins C dx (wf n tl))/\H tl=some (.lst xs)/\PairsV H xs ps
theorem WebAt.same{C:Addr}{H H':Hp}{w:Addr}{n:Int}{ps:List (Int × Int)}(s:Same H H')(h:WebAt C H w n ps):WebAt C H' w n ps:=let ⟨dx,tl,xs,a,b,c⟩:=h;⟨dx,tl,xs,s _ _ a,s _ _ b,c.same s⟩
def ζy(n:Int)(ps:List (Int × Int)):Prop:=1<=n/\n<=14/\ps.length<=30/\∀ p∈ps,0<=p.1/\p.1<n/\0<=p.2/\p.2<n
def FX(K:PySem.W.Frag)(mg:Str->Option Value)(x qual:Str)(st:Stmt):Prop:=∃(f:Addr) (fd:FuncData),mg x=some (.ref f)/\Fun K x qual st f fd
theorem fx_mk{K:PySem.W.Frag}{h:Heap}{mg:Str->Option Value}{x:Str}{st:Stmt}{f:Addr}{oc:Value}{od an:Option Addr}{osl:Array (Option Value)}{kV doc pm cdv ct:Value}(X:K.In h)(G:h.Ns mainGlobals mg)
  (a:PySem.W.nsIn K mainGlobals x=some (some (.ref f))) (l:K.lookup f=some ⟨oc,od,.func (PySem.W.fnOf x x (ζk2 st) (ζu1 st) (ζ5 st) .none kV doc pm an cdv ct),osl⟩) (c:PySem.W.codeIn K cdv x=true) (k:PySem.W.keepIn K (.ref f)=true):FX K mg x x st :=
 ⟨f,_,ζζ1Y X G a,ζs9 l c k⟩
def CXF (K:PySem.W.Frag) (mg:Str->Option Value) (x qual:Str) (st:Stmt) (fs:List Str):Prop:=∃(C f:Addr) (fd:FuncData),mg x=some (.ref C)/\Fun K "__init__" qual st f fd/\Cls K C/\Mk K C f/\∀ a∈fs,NoAttr K C a
theorem cx_mk{K:PySem.W.Frag}{h:Heap}{mg:Str->Option Value}{x qual:Str}{fs:List Str}{st:Stmt}{C f:Addr}{oc:Value}{od an:Option Addr}{osl:Array (Option Value)}{kV doc pm cdv ct:Value}(X:K.In h)(G:h.Ns mainGlobals mg)
  (aC:PySem.W.nsIn K mainGlobals x=some (some (.ref C))) (a:PySem.W.findIn K (.ref C) "__init__"=some (some (.ref f))) (i:PySem.W.isFn K (.ref f)=true)
  (l:K.lookup f=some ⟨oc,od,.func (PySem.W.fnOf "__init__" qual (ζk2 st) (ζu1 st) (ζ5 st) .none kV doc pm an cdv ct),osl⟩) (c:PySem.W.codeIn K cdv qual=true) (k:PySem.W.keepIn K (.ref f)=true)
  (pg:PySem.W.plainGet K C Str.empty=true) (hd:PySem.W.hasDictIn K C=true) (po:PySem.W.plainOver K C=true) (sa:PySem.W.findIn K (.ref C) "__setattr__"=some (some (.builtin "object.__setattr__"))) (mk:PySem.W.makesIn K C=true) (kc:PySem.W.keepIn K (.ref C)=true)
  (na:∀ a∈fs,PySem.W.findIn K (.ref C) a=some none):CXF K mg x qual st fs :=
 ⟨C,f,_,ζζ1Y X G aC,ζs9 l c k,⟨pg,hd,po,sa⟩,⟨mk,a,i,kc⟩,na⟩
theorem const_mk{K:PySem.W.Frag}{h:Heap}{mg:Str->Option Value}{x:Str}{z:Int}{v:Value}(X:K.In h)(G:h.Ns mainGlobals mg)(a:PySem.W.nsIn K mainGlobals x=some (some v))(e:∃ tk,v=.int z tk):∃ tk,mg x=some (.int z tk):=by
 obtain⟨tk,rfl⟩:=e
 exact⟨tk,ζζ1Y X G a⟩
theorem nmY{i:Nat}{x:V}{σ:St}{H:Hp}{A B:St->Hp->Prop}(h:A (σ.set i (some x)) H):ζd8 i x σ H fun σ2 H2=>tYes σ2 H2 fun b H3=>if b=true then A σ2 H3 else B σ2 H3 :=
 (show if true=true then A (σ.set i (some x)) H else B (σ.set i (some x)) H from iteT h)
theorem nm{i:Nat}{x:V}{σ:St}{H:Hp}{Q:St->Hp->Prop}(h:Q (σ.set i (some x)) H):ζd8 i x σ H Q:=h
section
variable{K:PySem.W.Frag}{a:Addr}{xs:List V}{g:TG}{tt:TT}{te:TE}{o:Nat}{fr:List Nat}{σ:St}{H:Hp}{Q:VK}
abbrev ζF3(Pv:Nat->List V->Hp->Prop)(g:TG)(tt:TT)(te:TE)(o:Nat)(fr:List Nat)(σ:St)(i:Nat)(x:V)(ys:List V)(H:Hp):Prop :=
 ∀ S:Nat->List V->Hp->Prop,(∀ ys H,Pv (i+1) ys H->S (i+1) ys H)->g x (σC o fr σ) H fun σ2 H2=>tt σ2 H2 fun b H3=>if b=true then te σ2 H3 fun y H4=>S (i+1) (ys++[y]) H4 else S (i+1) ys H3
theorem ζm1(Pv:Nat->List V->Hp->Prop)(h0:Pv 0 [] H)(hz:xs.length<sizeLine)(hl:∀ i ys H,i<=xs.length->Pv i ys H->SqL K H a xs/\ys.length<=i)
  (hs:∀ i x ys H,xs[i]?=some x->Pv i ys H->ζF3 Pv g tt te o fr σ i x ys H) (hd:∀ ys H,Pv xs.length ys H->∀ p,H p=none->Q (.ref p) (upd H p (.lst ys))):LcR (Itl K a) g tt te o fr σ H Q:=by
 refine⟨fun i m ys H=>m=xs.length - i/\i<=xs.length/\Pv i ys H,⟨xs.length,by simp,ζζj _,h0⟩,?_⟩
 rintro i m ys H ⟨rfl,hi,p⟩
 obtain⟨q,hy⟩:=hl i ys H hi p
 by_cases hlt:i<xs.length
 ·refine .inr ⟨⟨xs,xs[i],q,by simp[hlt]⟩,by omega,fun x H' ⟨e,y⟩=>?_⟩
  subst e
  have hx:=y xs q
  exact hs i x ys _ hx p (fun j ys H=>∃ m',m'<xs.length - i/\m'=xs.length - j/\j<=xs.length/\Pv j ys H) fun ys H p'=>⟨xs.length - (i+1),by omega,rfl,hlt,p'⟩
 ·have e:i=xs.length:=by omega
  subst e
  exact .inl ⟨⟨xs,q,ζζ5 _⟩,by omega,hd ys H p⟩
theorem ζh9(Pv:Nat->List V->Hp->Prop)(h0:Pv 0 [] H)(hz:xs.length<sizeLine)(hl:∀ i ys H,i<=xs.length->Pv i ys H->SqT K H a xs/\ys.length<=i)
  (hs:∀ i x ys H,xs[i]?=some x->Pv i ys H->ζF3 Pv g tt te o fr σ i x ys H) (hd:∀ ys H,Pv xs.length ys H->∀ p,H p=none->Q (.ref p) (upd H p (.lst ys))):LcR (Itt K a) g tt te o fr σ H Q:=by
 refine⟨fun i m ys H=>m=xs.length - i/\i<=xs.length/\Pv i ys H,⟨xs.length,by simp,ζζj _,h0⟩,?_⟩
 rintro i m ys H ⟨rfl,hi,p⟩
 obtain⟨q,hy⟩:=hl i ys H hi p
 by_cases hlt:i<xs.length
 ·refine .inr ⟨⟨xs,xs[i],q,by simp[hlt]⟩,by omega,fun x H' ⟨e,y⟩=>?_⟩
  subst e
  have hx:=y xs q
  exact hs i x ys _ hx p (fun j ys H=>∃ m',m'<xs.length - i/\m'=xs.length - j/\j<=xs.length/\Pv j ys H) fun ys H p'=>⟨xs.length - (i+1),by omega,rfl,hlt,p'⟩
 ·have e:i=xs.length:=by omega
  subst e
  exact .inl ⟨⟨xs,q,ζζ5 _⟩,by omega,hd ys H p⟩
theorem ζi9{k:Bool}(Pv:Nat->List V->Hp->Prop)(h0:Pv 0 [] H)(hz:xs.length<sizeLine)(hl:∀ i ys H,i<=xs.length->Pv i ys H->SqK k K H a xs/\ys.length<=i)
  (hs:∀ i x ys H,xs[i]?=some x->Pv i ys H->ζF3 Pv g tt te o fr σ i x ys H) (hd:∀ ys H,Pv xs.length ys H->∀ p,H p=none->Q (.ref p) (upd H p (.lst ys))) :
  ((∃ xs,SqL K H a xs)/\LcR (Itl K a) g tt te o fr σ H Q)\/((∃ xs,SqT K H a xs)/\LcR (Itt K a) g tt te o fr σ H Q):=by
 cases k with
 | false=>exact .inl ⟨⟨xs,(hl 0 [] H (ζζj _) h0).1⟩,ζm1 Pv h0 hz hl hs hd⟩
 | true=>exact .inr ⟨⟨xs,(hl 0 [] H (ζζj _) h0).1⟩,ζh9 Pv h0 hz hl hs hd⟩
theorem ζQ2{lo:Int}{n:Nat}(Pv:Nat->List V->Hp->Prop)(h0:Pv 0 [] H)(hz:n<sizeLine)(hl:∀ i ys H,i<=n->Pv i ys H->ys.length<=i)
  (hs:∀ i ys H,i<n->Pv i ys H->ζF3 Pv g tt te o fr σ i (.int (lo+i)) ys H) (hd:∀ ys H,Pv n ys H->∀ p,H p=none->Q (.ref p) (upd H p (.lst ys))):LcR (Itr lo n) g tt te o fr σ H Q:=by
 refine⟨fun i m ys H=>m=n - i/\i<=n/\Pv i ys H,⟨n,by simp,ζζj _,h0⟩,?_⟩
 rintro i m ys H ⟨rfl,hi,p⟩
 have hy:=hl i ys H hi p
 by_cases hlt:i<n
 ·refine .inr ⟨hlt,by omega,fun x H' ⟨e,y⟩=>?_⟩
  subst e
  subst y
  exact hs i ys _ hlt p (fun j ys H=>∃ m',m'<n - i/\m'=n - j/\j<=n/\Pv j ys H) fun ys H p'=>⟨n - (i+1),by omega,rfl,hlt,p'⟩
 ·have e:i=n:=by omega
  subst e
  exact .inl ⟨ζζ5 _,by omega,hd ys H p⟩
end
theorem nodup_get{α:Type}{l:List α}(h:l.Nodup){i j:Nat}{x:α}(a:l[i]?=some x)(b:l[j]?=some x):i=j:=by
 obtain⟨h1,e1⟩:=ζζ4.mp a
 obtain⟨h2,e2⟩:=ζζ4.mp b
 exact(List.getElem_inj h).mp (e1.trans e2.symm)
theorem getD_of{α:Type}{l:List α}{i:Nat}{x d:α}(h:l[i]?=some x):l.getD i d=x:=by rw[ζζi,h];rfl
theorem ζW5{α:Type}{l:List α}{x:α}(h:l.Nodup)(hx:x∉l):(l++[x]).Nodup:=by
 rw[ζζ0c]
 refine⟨h,by simp,fun a ha b hb=>?_⟩
 rw[ζζ1]at hb
 subst hb
 rintro rfl
 exact hx ha
theorem ζu9{K:PySem.W.Frag}{a:Addr}{xs:List V}{g:TG}{tb:TS}{D:Ends}{σ:St}{H:Hp}(Pv:Nat->St->Hp->Prop)(h0:Pv 0 σ H)(hl:∀ i σ H,i<=xs.length->Pv i σ H->SqL K H a xs)
  (hs:∀(i:Nat) x σ H (p:Addr),H p=none->xs[i]?=some x->Pv i σ H->g (.ref p) σ (upd H p (.tup [.int i,x])) fun σ2 H2=>tb { D with nx:=Pv (i+1),ct:=Pv (i+1),bk:=D.nx } σ2 H2) (hd:∀ σ H,Pv xs.length σ H->D.nx σ H) :
  ∃ W:Nat->Nat->St->Hp->Prop,(∃ m,W 0 m σ H)/\∀ i m σ H,W i m σ H ->
   ((Ite K a).stop i H/\D.nx σ H)\/((Ite K a).go i H/\∃ N:St->Hp->Prop,(∀ σ' H',N σ' H'->∃ m',m'<m/\W (i+1) m' σ' H')/\∀ x H',(Ite K a).yld i H x H'->g x σ H' fun σ2 H2=>tb { D with nx:=N,ct:=N,bk:=D.nx } σ2 H2):=by
 refine⟨fun i m σ H=>m=xs.length - i/\i<=xs.length/\Pv i σ H,⟨xs.length,by simp,ζζj _,h0⟩,?_⟩
 rintro i m σ H ⟨rfl,hi,p⟩
 have q:=hl i σ H hi p
 by_cases hlt:i<xs.length
 ·refine .inr ⟨⟨xs,xs[i],q,by simp[hlt]⟩,Pv (i+1),fun σ' H' p'=>⟨xs.length - (i+1),by omega,rfl,hlt,p'⟩,fun x H' ⟨T,y,hT,ex,eH,hy⟩=>?_⟩
  subst ex eH
  exact hs i y σ H T hT (hy xs q) p
 ·have e:i=xs.length:=by omega
  subst e
  exact .inl ⟨⟨xs,q,ζζ5 _⟩,hd σ H p⟩
theorem ζG9{xs:List V}{i:Int}(h0:0<=i)(h1:i.toNat<=xs.length):cutV xs (some i) none=xs.drop i.toNat:=by
 have e:HT.sIx xs.length 0 (some i)=i.toNat:=by
  show(if i<0 then (i+(xs.length:Int)).toNat else min i.toNat xs.length)=i.toNat
  rw[if_neg (by omega)]
  omega
 unfold cutV
 rw[e,HT.sIx_none]
 exact ζζ06 (by rw[ζζ0A];exact ζζ5 _)
theorem ζe12{xs:List V}{i:Int}(h0:0<=i)(h1:i.toNat<=xs.length):cutV xs none (some i)=xs.take i.toNat:=by
 have e:HT.sIx xs.length xs.length (some i)=i.toNat:=by
  show(if i<0 then (i+(xs.length:Int)).toNat else min i.toNat xs.length)=i.toNat
  rw[if_neg (by omega)]
  omega
 unfold cutV
 rw[e,HT.sIx_none,List.drop_zero,Nat.sub_zero]
end My
namespace L2
open PySem PySem.Spec PyProof.Rows
section
variable{X:Cx}{a o e:Expr}{es:List Expr}{ta to:TE}{t:TA}{pos:Pos}
theorem ζc(K:PySem.W.Frag)(h:X.K=K:=by rfl):IxR X (rIxL K):=h ▸ ζM10
theorem ζE(K:PySem.W.Frag)(h:X.K=K:=by rfl):IxR X (rIxT K):=h ▸ ζ712
theorem ζK1(K:PySem.W.Frag)(h:X.K=K:=by rfl):SlR X (rSlL K):=h ▸ ζ110
theorem ζX11(K:PySem.W.Frag)(h:X.K=K:=by rfl):OpR X (compareOp .In) (fun x y H Q=>∃ p xs,y=.ref p/\(SqL K H p xs\/SqT K H p xs)/\ζG3 x=true/\xs.all ζG3=true/\Q (.bl (inV x xs)) H):=h ▸ ζ77
theorem ζq1(K:PySem.W.Frag)(h:X.K=K:=by rfl):OpR X (compareOp .NotIn) (fun x y H Q=>∃ p xs,y=.ref p/\(SqL K H p xs\/SqT K H p xs)/\ζG3 x=true/\xs.all ζG3=true/\Q (.bl (!inV x xs)) H):=h ▸ ζU3
theorem ζS7(K:PySem.W.Frag)(hu:X.A.units+8<cLine)(h:X.K=K:=by rfl):OpR X (compareOp .Eq) (rEqD K false):=h ▸ ζY11 hu
theorem ζm3(K:PySem.W.Frag)(hu:X.A.units+8<cLine)(h:X.K=K:=by rfl):OpR X (compareOp .NotEq) (rEqD K true):=h ▸ ζW11 hu
theorem ζY8(K:PySem.W.Frag)(h:X.K=K:=by rfl):OpR X (binaryOp .Add) (ζn12 K):=h ▸ ζq10
theorem ζ51(K:PySem.W.Frag){f:Str}(he:PE X e ta)(hb:attributeBase e f X.env (eval e X.env)=eval e X.env)(h:X.K=K:=by rfl):PE X (.Attribute e f pos) (tFld K ta f):=h ▸ ζT11 he hb
theorem ζi (K:PySem.W.Frag) (h:X.K=K:=by rfl):ζI1 X (.builtin "len") (fun xs H Q=>∃ p ys,xs=[.ref p]/\(SqL K H p ys\/SqT K H p ys)/\Q (.int ys.length) H):=h ▸ ζb4
theorem ζH1 (K:PySem.W.Frag) (h:X.K=K:=by rfl):ζI1 X (.type "list") (fun xs H Q=>∃ p ys,xs=[.ref p]/\(SqL K H p ys\/SqT K H p ys)/\∀ l,H l=none->Q (.ref l) (upd H l (.lst ys))):=h ▸ ζ94
theorem ζJ (K:PySem.W.Frag) (h:X.K=K:=by rfl):ζI1 X (.type "tuple") (fun xs H Q=>∃ p ys,xs=[.ref p]/\((SqL K H p ys/\∀ l,H l=none->Q (.ref l) (upd H l (.tup ys)))\/(SqT K H p ys/\Q (.ref p) H))):=h ▸ ζA3
theorem ζ12 (K:PySem.W.Frag) (hc:X.calm=true) (h:X.K=K:=by rfl):ζI1 X (.builtin "sum") (fun xs H Q=>∃(p:Addr) (ns:List Int),xs=[.ref p]/\SqL K H p (ns.map V.int)/\Q (.int ns.sum) H):=h ▸ ζB3 hc
theorem ζy7 (K:PySem.W.Frag) (hc:X.calm=true) (h:X.K=K:=by rfl):ζI1 X (.type "set") (fun xs H Q=>∃(p:Addr) (ns:List Int),xs=[.ref p]/\SqL K H p (ns.map V.int)/\ns.length+1<scanBound /\
  ∀ l,H l=none->Q (.ref l) (upd H l (.set (fun k=>(seen ns).any (· == k)) (seen ns).length))):=h ▸ ζC3 hc
theorem ζL(K:PySem.W.Frag){tg:Expr}{l:Expr}{tl:TE}(hl:PE X l tl)(h:X.K=K:=by rfl):PI X tg l (ζq12 K tl):=h ▸ ζj10 hl
theorem ζt4(K:PySem.W.Frag){tg:Expr}{l:Expr}{tl:TE}(hl:PE X l tl)(h:X.K=K:=by rfl):PI X tg l (iTup K tl):=h ▸ ζQ11 hl
theorem ζR1(K:PySem.W.Frag){tg:Expr}{l:Expr}{tl:TE}(hl:PE X l tl)(h:X.K=K:=by rfl):PI X tg l (My.iSeq K tl):=h ▸ My.pi_seq hl
theorem ζQ5 (K:PySem.W.Frag) {elts:List Expr} {x1:Nat} {tpos:Pos} {a:Expr} {ta:TA} {p pos:Pos} (hg:Gl X "enumerate") (hm:X.mg "enumerate"=none) (ha:PA X [a] ta) (hs:starEach [a] X.env=[(false,eval a X.env)]:=by rfl) (h:X.K=K:=by rfl) :
  PI X (.Tuple elts x1 tpos) (.Call (.Name "enumerate" p) [a] [] pos) (ζr12 K ta):=h ▸ ζk10 hg hm ha hs
theorem ζj1(K:PySem.W.Frag){es:List Expr}{k:Nat}{t:TGs}{n:Nat}(hc:X.calm=true)(ht:PGs X es t)
  (hn:(assignEach es X.env).length=n:=by rfl) (hst:(assignEach es X.env).findIdx? (·.1)=none:=by rfl) (h:X.K=K:=by rfl):PG X (.Tuple es k pos) (gTup K n t):=h ▸ ζR11 hc ht hn hst
theorem ζ61 (K:PySem.W.Frag) {name:Str} {apos cpos:Pos} {T id:String} {r:V->List V->Hp->VK->Prop} (pa:PlainAttrs T) (slot:Slot T name id) (hty:typeOf (.builtin id)=pure (.type "method_descriptor")) (hm:MtR X id r) (ho:PE X o to) (ha:PA X (e :: es) t)
  (hbase:attributeBase o name X.env (eval o X.env)=eval o X.env:=by rfl)
  (hfew:((backTo cpos (starEach (e :: es) X.env)).all (fun x=>!x.1) && (backToKw cpos (keywordEach [] X.env)).all (fun x=>x.1.isSome)
   && decide ((e :: es).length+([]:List Keyword).length+(if ([]:List Keyword).isEmpty then 0 else 1)<30))=true:=by rfl)
  (hline:(apos.endLine == cpos.line)=true:=by rfl) (hs:starEach (e :: es) X.env=(false,eval e X.env) :: starEach es X.env:=by rfl) (hplain:(backTo cpos (starEach es X.env)).any (·.1)=false:=by rfl) (h:X.K=K:=by rfl) :
  PE X (.Call (.Attribute o name apos) (e :: es) [] cpos) (tBM K T r to t):=h ▸ ζK12 pa slot hty hm ho ha hbase hfew hline hs hplain
theorem ζm10 (K:PySem.W.Frag) {name:Str} {apos cpos:Pos} {T id:String} {r:V->List V->Hp->VK->Prop} (pa:PlainAttrs T) (slot:Slot T name id) (hty:typeOf (.builtin id)=pure (.type "method_descriptor")) (hm:MtR X id r) (ho:PE X o to)
  (hbase:attributeBase o name X.env (eval o X.env)=eval o X.env:=by rfl) (hline:(apos.endLine == cpos.line)=true:=by rfl) (h:X.K=K:=by rfl):PE X (.Call (.Attribute o name apos) [] [] cpos) (tBM0 K T r to):=h ▸ ζU11 pa slot hty hm ho hbase hline
end
end L2
namespace My
abbrev mk(m:List Int)(i:Nat):Int:=m.getD i 0
def pm(m:List Int)(a b:Nat):List Int :=
 if min (mk m a) (mk m b)<max (mk m a) (mk m b) then m.map (fun k=>if k=max (mk m a) (mk m b) then min (mk m a) (mk m b) else k) else m
def lm(m:List Int)(a b:Nat):List Int :=
 if mk m a≠mk m b then m.map (fun k=>if k=mk m b then mk m a else k) else m
def SameP(m l:List Int):Prop:=m.length=l.length/\∀ i j,i<m.length->j<m.length->(mk m i=mk m j↔mk l i=mk l j)
theorem ζV3(m:List Int)(f:Int->Int){i:Nat}(h:i<m.length):mk (m.map f) i=f (mk m i):=by
 simp[mk,ζζi,ζζh,ζζ0 h]
theorem ζC1(m:List Int)(a b:Nat):(pm m a b).length=m.length:=by unfold pm;split <;> simp
theorem ζX1(m:List Int)(a b:Nat):(lm m a b).length=m.length:=by unfold lm;split <;> simp
def Mrg(m:List Int)(a b i j:Nat):Prop:=mk m i=mk m j\/((mk m i=mk m a\/mk m i=mk m b)/\(mk m j=mk m a\/mk m j=mk m b))
theorem ζN11{m:List Int}{a b i j:Nat}(hi:i<m.length)(hj:j<m.length):mk (pm m a b) i=mk (pm m a b) j↔Mrg m a b i j:=by
 unfold pm Mrg
 split
 ·rename_i h
  rw[ζV3 _ _ hi,ζV3 _ _ hj]
  generalize mk m i=x at *
  generalize mk m j=y at *
  generalize mk m a=p at *
  generalize mk m b=q at *
  by_cases hpq:p<q
  ·rw[ζζ2K (by omega),Int.max_eq_right (by omega)]
   split <;> split <;> omega
  ·rw[ζζ2C (by omega),Int.max_eq_left (by omega)]at *
   split <;> split <;> omega
 ·rename_i h
  generalize mk m i=x at *
  generalize mk m j=y at *
  generalize mk m a=p at *
  generalize mk m b=q at *
  omega
theorem ζa6{m:List Int}{a b i j:Nat}(hi:i<m.length)(hj:j<m.length):mk (lm m a b) i=mk (lm m a b) j↔Mrg m a b i j:=by
 unfold lm Mrg
 split
 ·rename_i h
  rw[ζV3 _ _ hi,ζV3 _ _ hj]
  generalize mk m i=x at *
  generalize mk m j=y at *
  generalize mk m a=p at *
  generalize mk m b=q at *
  split <;> split <;> omega
 ·rename_i h
  generalize mk m i=x at *
  generalize mk m j=y at *
  generalize mk m a=p at *
  generalize mk m b=q at *
  omega
theorem SameP.step{m l:List Int}(s:SameP m l){a b:Nat}(ha:a<m.length)(hb:b<m.length):SameP (pm m a b) (lm l a b):=by
 obtain⟨hl,h⟩:=s
 refine⟨by rw[ζC1,ζX1,hl],fun i j hi hj=>?_⟩
 rw[ζC1]at hi hj
 rw[ζN11 hi hj,ζa6 (by omega) (by omega)]
 unfold Mrg
 rw[h i j hi hj,h i a hi ha,h i b hi hb,h j a hj ha,h j b hj hb]
def pms(n:Nat)(es:List (Nat × Nat)):List Int:=es.foldl (fun m e=>pm m e.1 e.2) ((List.range n).map fun(i:Nat)=>(i:Int))
def lms(n:Nat)(es:List (Nat × Nat)):List Int:=es.foldl (fun m e=>lm m e.1 e.2) ((List.range n).map fun(i:Nat)=>(i:Int))
theorem ζm(n:Nat)(es:List (Nat × Nat)):(pms n es).length=n:=by
 have:∀(es:List (Nat × Nat)) (m:List Int),(es.foldl (fun m e=>pm m e.1 e.2) m).length=m.length:=by
  intro es
  induction es with
  | nil=>intro m;rfl
  | cons e es ih=>intro m;rw[ζζ2b,ih,ζC1]
 unfold pms;rw[this];simp
theorem ζs(n:Nat)(es:List (Nat × Nat)):(lms n es).length=n:=by
 have:∀(es:List (Nat × Nat)) (m:List Int),(es.foldl (fun m e=>lm m e.1 e.2) m).length=m.length:=by
  intro es
  induction es with
  | nil=>intro m;rfl
  | cons e es ih=>intro m;rw[ζζ2b,ih,ζX1]
 unfold lms;rw[this];simp
theorem ζO5(n:Nat)(es:List (Nat × Nat))(e:Nat × Nat):pms n (es++[e])=pm (pms n es) e.1 e.2:=by unfold pms;rw[ζζ1t];rfl
theorem ζW(n:Nat)(es:List (Nat × Nat))(e:Nat × Nat):lms n (es++[e])=lm (lms n es) e.1 e.2:=by unfold lms;rw[ζζ1t];rfl
theorem ζN3{n:Nat}:∀ {es:List (Nat × Nat)},(∀ e∈es,e.1<n/\e.2<n)->SameP (pms n es) (lms n es):=by
 intro es
 have key:∀(es:List (Nat × Nat)) (m l:List Int),SameP m l->m.length=n->(∀ e∈es,e.1<n/\e.2<n)->SameP (es.foldl (fun m e=>pm m e.1 e.2) m) (es.foldl (fun m e=>lm m e.1 e.2) l):=by
  intro es
  induction es with
  | nil=>intro m l s _ _;exact s
  | cons e es ih =>
   intro m l s hm he
   have h1:=he e ζζg
   exact ih _ _ (s.step (by omega) (by omega)) (by rw[ζC1];exact hm) fun x hx=>he x (ζζk _ hx)
 exact key es _ _ ⟨rfl,fun i j _ _=>Iff.rfl⟩ (by simp)
def ζ04(g:List (Int × List Int))(place k:Int):List (Int × List Int) :=
 if k∈g.map (·.1) then g.map (fun kv=>if kv.1=k then (kv.1,kv.2++[place]) else kv) else g++[(k,[place])]
def grpA(M:List Int):Nat->List (Int × List Int)
 | 0=>[]
 | i+1=>ζ04 (grpA M i) (i:Int) (mk M i)
def grp(M:List Int):List (Int × List Int):=grpA M M.length
theorem ζE1(g:List (Int × List Int))(p k:Int):(ζ04 g p k).map (·.1)=if k∈g.map (·.1) then g.map (·.1) else g.map (·.1)++[k]:=by
 unfold ζ04
 split
 ·rw[List.map_map]
  refine ζζ0g fun kv _=>?_
  show(if kv.1=k then (kv.1,kv.2++[p]) else kv).1=kv.1
  split <;> rfl
 ·simp
theorem ζg5{g:List (Int × List Int)}{p k:Int}(h:(g.map (·.1)).Nodup):((ζ04 g p k).map (·.1)).Nodup:=by
 rw[ζE1]
 split
 ·exact h
 ·rename_i hk
  rw[ζζ0c]
  refine⟨h,by simp,fun a ha b hb=>?_⟩
  rw[ζζ1]at hb
  subst hb
  rintro rfl
  exact hk ha
theorem ζi2(M:List Int):∀ i,((grpA M i).map (·.1)).Nodup
 | 0=>by simp[grpA]
 | i+1=>ζg5 (ζi2 M i)
theorem grpA_mem(M:List Int):∀ i kv,kv∈grpA M i->∀ z:Int,z∈kv.2↔(0<=z/\z<(i:Int)/\mk M z.toNat=kv.1)
 | 0,kv,h,z=>by simp[grpA]at h
 | i+1,kv,h,z=>by
  unfold grpA ζ04 at h
  split at h
  ·rename_i hk
   obtain⟨kv0,h0,e⟩:=ζζx.mp h
   have ih:=grpA_mem M i kv0 h0 z
   by_cases hc:kv0.1=mk M i
   ·rw[if_pos hc]at e
    subst e
    rw[ζζ9,ih,ζζ1]
    constructor
    ·rintro(⟨a,b,c⟩ | rfl)
     ·exact⟨a,by omega,c⟩
     ·exact⟨by omega,by omega,by simpa using hc.symm⟩
    ·rintro⟨a,b,c⟩
     by_cases hz:z<(i:Int)
     ·exact .inl ⟨a,hz,c⟩
     ·exact .inr (by omega)
   ·rw[if_neg hc]at e
    subst e
    rw[ih]
    constructor
    ·rintro⟨a,b,c⟩;exact⟨a,by omega,c⟩
    ·rintro⟨a,b,c⟩
     refine⟨a,?_,c⟩
     by_cases hz:z<(i:Int)
     ·exact hz
     ·have e:z.toNat=i:=by omega
      rw[e]at c
      exact absurd c.symm hc
  ·rename_i hk
   rcases ζζ9.mp h with h0 | h0
   ·have ih:=grpA_mem M i kv h0 z
    rw[ih]
    constructor
    ·rintro⟨a,b,c⟩;exact⟨a,by omega,c⟩
    ·rintro⟨a,b,c⟩
     refine⟨a,?_,c⟩
     by_cases hz:z<(i:Int)
     ·exact hz
     ·have e:z.toNat=i:=by omega
      rw[e]at c
      exact absurd (ζζx.mpr ⟨kv,h0,c.symm⟩) hk
   ·rw[ζζ1]at h0
    subst h0
    simp only [ζζ1]
    constructor
    ·rintro rfl;exact⟨by omega,by omega,by simp⟩
    ·rintro⟨a,b,c⟩
     by_cases hz:z<(i:Int)
     ·exfalso
      have key:=grpA_key M i z.toNat (by omega)
      rw[c]at key
      exact hk key
     ·omega
where
 grpA_key (M:List Int):∀ i j,j<i->mk M j∈(grpA M i).map (·.1)
  | 0,j,h=>absurd h (ζζ0G j)
  | i+1,j,h=>by
   show mk M j∈(ζ04 (grpA M i) (i:Int) (mk M i)).map (·.1)
   rw[ζE1]
   by_cases hj:j<i
   ·have:=grpA_key M i j hj
    split
    ·exact this
    ·exact ζζo _ this
   ·have e:j=i:=by omega
    subst e
    split
    ·assumption
    ·simp
theorem grpA_key{M:List Int}{i j:Nat}(h:j<i):mk M j∈(grpA M i).map (·.1):=grpA_mem.grpA_key M i j h
theorem ζr1(M:List Int):∀ i k,k∈(grpA M i).map (·.1)->∃ j,j<i/\mk M j=k
 | 0,k,h=>by simp[grpA]at h
 | i+1,k,h=>by
  have h:k∈(ζ04 (grpA M i) (i:Int) (mk M i)).map (·.1):=h
  rw[ζE1]at h
  have old:k∈(grpA M i).map (·.1)->∃ j,j<i+1/\mk M j=k:=fun q=>by
   obtain⟨j,hj,e⟩:=ζr1 M i k q
   exact⟨j,by omega,e⟩
  split at h
  ·exact old h
  ·rcases ζζ9.mp h with q | q
   ·exact old q
   ·rw[ζζ1]at q
    exact⟨i,by omega,q.symm⟩
theorem ζ88{M:List Int}(hM:1<=M.length):(grp M).length=1↔∀ i j,i<M.length->j<M.length->mk M i=mk M j:=by
 unfold grp
 constructor
 ·intro h i j hi hj
  obtain⟨kv,e⟩:=ζζ33.mp h
  have h1:=grpA_key (M:=M) hi
  have h2:=grpA_key (M:=M) hj
  rw[e]at h1 h2
  rw[ζζ1m,ζζ1]at h1 h2
  rw[h1,h2]
 ·intro h
  have nd:=ζi2 M M.length
  have h0:=grpA_key (M:=M) (i:=M.length) (j:=0) (by omega)
  generalize hg:(grpA M M.length)=g at *
  match g,hg with
  | [],_=>simp at h0
  | [kv],_=>rfl
  | a :: b :: r,hg =>
   exfalso
   obtain⟨i,hi,e1⟩:=ζr1 M M.length a.1 (by rw[hg];simp)
   obtain⟨j,hj,e2⟩:=ζr1 M M.length b.1 (by rw[hg];simp)
   have e3:=h i j hi hj
   have:a.1=b.1:=by rw[<- e1,<- e2,e3]
   simp[this]at nd
theorem SameP.one{m l:List Int}(s:SameP m l):(∀ i j,i<m.length->j<m.length->mk m i=mk m j)↔(∀ i j,i<l.length->j<l.length->mk l i=mk l j):=by
 obtain⟨hl,h⟩:=s
 rw[<- hl]
 constructor
 ·intro q i j hi hj;exact(h i j hi hj).mp (q i j hi hj)
 ·intro q i j hi hj;exact(h i j hi hj).mpr (q i j hi hj)
theorem ζ24{M:List Int}:∀ {i:Nat} {kv:Int × List Int},kv∈grpA M i->kv.2.length<=i
 | 0,kv,h=>by simp[grpA]at h
 | i+1,kv,h=>by
  unfold grpA ζ04 at h
  split at h
  ·obtain⟨kv0,h0,e⟩:=ζζx.mp h
   have ih:=ζ24 h0
   by_cases hc:kv0.1=mk M i
   ·rw[if_pos hc]at e
    subst e
    rw[ζζ6,ζζR]
    omega
   ·rw[if_neg hc]at e
    subst e
    omega
  ·rcases ζζ9.mp h with h0 | h0
   ·have ih:=ζ24 h0
    omega
   ·rw[ζζ1]at h0
    subst h0
    simp
end My
namespace My
open PySem L2 PyProof.Rows
theorem ζN2(val:Nat->Int):∀ i,(firstMet val i).Nodup
 | 0=>List.nodup_nil
 | i+1=>by
  rw[ζζ2D]
  unfold step_dedup
  split
  ·exact ζN2 val i
  ·rename_i h
   refine ζW5 (ζN2 val i) fun z=>h ?_
   rw[ζζ0W]
   exact⟨val i,z,by simp⟩
theorem ζ26(val:Nat->Int):∀ i (k:Int),k∈firstMet val i↔∃ j,j<i/\val j=k
 | 0,k=>by
  rw[firstMet_zero]
  constructor
  ·intro h;cases h
  ·rintro⟨j,h,_⟩;exact absurd h (ζζ0G j)
 | i+1,k=>by
  rw[ζζ2D]
  have ih:=ζ26 val i k
  unfold step_dedup
  split
  ·rename_i h
   rw[ih]
   constructor
   ·rintro⟨j,hj,e⟩;exact⟨j,by omega,e⟩
   ·rintro⟨j,hj,e⟩
    by_cases hji:j<i
    ·exact⟨j,hji,e⟩
    ·have e2:j=i:=by omega
     subst e2
     obtain⟨y,hy,ey⟩:=ζζ0W.mp h
     have ey':y=val j:=by simpa using ey
     rw[ey',e]at hy
     exact ih.mp hy
  ·rw[ζζ9,ih,ζζ1]
   constructor
   ·rintro(⟨j,hj,e⟩ | e)
    ·exact⟨j,by omega,e⟩
    ·exact⟨i,by omega,e.symm⟩
   ·rintro⟨j,hj,e⟩
    by_cases hji:j<i
    ·exact .inl ⟨j,hji,e⟩
    ·have e2:j=i:=by omega
     subst e2
     exact .inr e.symm
theorem ζF8{ns:List Int}(h:1<=ns.length):(L2.seen ns).length=1↔∀ i j,i<ns.length->j<ns.length->mk ns i=mk ns j:=by
 have nd:=ζN2 (fun i=>ns.getD i 0) ns.length
 have mm:=ζ26 (fun i=>ns.getD i 0) ns.length
 unfold L2.seen
 generalize firstMet (fun i=>ns.getD i 0) ns.length=l at *
 constructor
 ·intro h1 i j hi hj
  obtain⟨x,e⟩:=ζζ33.mp h1
  have a:=(mm (ns.getD i 0)).mpr ⟨i,hi,rfl⟩
  have b:=(mm (ns.getD j 0)).mpr ⟨j,hj,rfl⟩
  rw[e,ζζ1]at a b
  show ns.getD i 0=ns.getD j 0
  rw[a,b]
 ·intro q
  have h0:=(mm (ns.getD 0 0)).mpr ⟨0,by omega,rfl⟩
  match l,nd,mm,h0 with
  | [],_,_,h0=>cases h0
  | [x],_,_,_=>rfl
  | x :: y :: r,nd,mm,_ =>
   exfalso
   obtain⟨i,hi,e1⟩:=(mm x).mp (by simp)
   obtain⟨j,hj,e2⟩:=(mm y).mp (by simp)
   have e3:ns.getD i 0=ns.getD j 0:=q i j hi hj
   have e:x=y:=by rw[<- e1,<- e2];exact e3
   simp[e]at nd
theorem ζx1(z:Int)(l:List Int):inV (.int z) (IL l)=decide (z∈l):=by
 unfold inV
 rw[List.any_map]
 rw[ζζ0j,ζζ0W,ζζM]
 constructor
 ·rintro⟨y,hy,e⟩
  have e':y=z:=by simpa [eqV] using e
  rw[<- e'];exact hy
 ·intro h;exact⟨z,h,by simp[eqV]⟩
theorem ζd1(l:List Int):(IL l).all ζG3=true:=by
 rw[List.all_map,ζζ0i]
 intro x _
 rfl
theorem ζI{a b:Int}:decide (V.int a=V.int b)=decide (a=b):=by
 by_cases h:a=b
 ·subst h;simp
 ·have h':¬ V.int a=V.int b:=fun z=>h (V.int.inj z)
  rw[ζζE h,ζζE h']
end My
namespace My
open PySem L2
def IsSet(m:Nat)(ns:List Int):Prop:=∀ i z,ns[i]?=some z->0<=z/\z<(m:Int)/\∀ y,i≠0->ns[i - 1]?=some y->y<z
def ζ6(ps:List (Int × Int))(ns:List Int):List (Nat × Nat):=ns.map fun z=>((ps.getD z.toNat (0,0)).1.toNat,(ps.getD z.toNat (0,0)).2.toNat)
theorem ζy2{ps:List (Int × Int)}{ns:List Int}{i:Nat}{z:Int}(h:ns[i]?=some z):ζ6 ps (ns.take (i+1))=ζ6 ps (ns.take i)++[((ps.getD z.toNat (0,0)).1.toNat,(ps.getD z.toNat (0,0)).2.toNat)]:=by
 unfold ζ6
 rw[ζζK,h]
 simp
theorem ζ71{m:List Int}{i:Nat}(h:i<m.length):m[i]?=some (mk m i):=by
 rw[ζζ0 h]
 simp[mk,ζζi,ζζ0 h]
theorem ζG2(n:Int):rngI 0 n=(List.range n.toNat).map fun(i:Nat)=>(i:Int):=by
 unfold rngI
 rw[ζζ2B]
 refine ζζ0g fun i _=>?_
 omega
def gkv(g:List (Int × List Int))(as:List Addr):List (Key × V):=List.zipWith (fun kv a=>((Sum.inl kv.1:Key),V.ref a)) g as
theorem ζr6{g:List (Int × List Int)}{as:List Addr}(h:as.length=g.length):(gkv g as).length=g.length:=by unfold gkv;rw[ζζ1e];omega
theorem ζc8:∀ {g:List (Int × List Int)} {as:List Addr},as.length=g.length->(gkv g as).map (·.2)=as.map V.ref
 | [],[],_=>rfl
 | [],_ :: _,h=>by simp at h
 | _ :: _,[],h=>by simp at h
 | kv :: g,a :: as,h=>by
  show V.ref a :: (gkv g as).map (·.2)=V.ref a :: as.map V.ref
  rw[ζc8 (ζζ1k h)]
theorem ζs6:∀ {g g':List (Int × List Int)} {as:List Addr},g.map (·.1)=g'.map (·.1)->gkv g as=gkv g' as
 | [],[],_,_=>rfl
 | [],_ :: _,_,h=>by simp at h
 | _ :: _,[],_,h=>by simp at h
 | kv :: g,kv' :: g',[],_=>rfl
 | kv :: g,kv' :: g',a :: as,h=>by
  rw[ζζF,ζζF,List.cons.injEq]at h
  show((Sum.inl kv.1:Key),V.ref a) :: gkv g as=((Sum.inl kv'.1:Key),V.ref a) :: gkv g' as
  rw[h.1,ζs6 h.2]
theorem ζq6:∀ {g:List (Int × List Int)} {as:List Addr} {kv:Int × List Int} {a:Addr},as.length=g.length->gkv (g++[kv]) (as++[a])=gkv g as++[((Sum.inl kv.1:Key),V.ref a)]
 | [],[],_,_,_=>rfl
 | [],_ :: _,_,_,h=>by simp at h
 | _ :: _,[],_,_,h=>by simp at h
 | x :: g,y :: as,kv,a,h=>by
  show _ :: gkv (g++[kv]) (as++[a])=_ :: (gkv g as++_)
  rw[ζq6 (ζζ1k h)]
theorem ζp6:∀ {g:List (Int × List Int)} {as:List Addr} {k:Int},as.length=g.length ->
  (valV (gkv g as) (Sum.inl k:Key)=none/\k∉g.map (·.1))\/∃(j:Nat) (kv:Int × List Int) (a:Addr),g[j]?=some kv/\as[j]?=some a/\kv.1=k/\valV (gkv g as) (Sum.inl k:Key)=some (.ref a)
 | [],[],k,_=>.inl ⟨rfl,by simp⟩
 | [],_ :: _,_,h=>by simp at h
 | _ :: _,[],_,h=>by simp at h
 | kv :: g,a :: as,k,h=>by
  by_cases e:kv.1=k
  ·refine .inr ⟨0,kv,a,rfl,rfl,e,?_⟩
   show valV (((Sum.inl kv.1:Key),V.ref a) :: gkv g as) _=_
   rw[ζI3 (by rw[e])]
  ·have e':¬ ((Sum.inl kv.1:Key)=Sum.inl k):=fun z=>e (Sum.inl.inj z)
   have ev:valV (gkv (kv :: g) (a :: as)) (Sum.inl k:Key)=valV (gkv g as) (Sum.inl k:Key):=ζJ3 (p:=((Sum.inl kv.1:Key),V.ref a)) e'
   rcases ζp6 (g:=g) (as:=as) (k:=k) (ζζ1k h) with ⟨h1,h2⟩ | ⟨j,kv',a',h1,h2,h3,h4⟩
   ·refine .inl ⟨by rw[ev];exact h1,?_⟩
    rw[ζζF,ζζb]
    rintro(z | z)
    ·exact e z.symm
    ·exact h2 z
   ·exact .inr ⟨j+1,kv',a',by simpa using h1,by simpa using h2,h3,by rw[ev];exact h4⟩
structure GrpAt (H0 H:Hp) (g:List (Int × List Int)) (as:List Addr):Prop where
 len:as.length=g.length
 nd:as.Nodup
 at_:∀(i:Nat) (kv:Int × List Int) (a:Addr),g[i]?=some kv->as[i]?=some a->H a=some (.lst (IL kv.2))
 new:∀ a∈as,H0 a=none
theorem GrpAt.same{H0 H H':Hp}{g:List (Int × List Int)}{as:List Addr}(s:Same H H')(h:GrpAt H0 H g as):GrpAt H0 H' g as:=⟨h.len,h.nd,fun i kv a e1 e2=>s _ _ (h.at_ i kv a e1 e2),h.new⟩
theorem GrpAt.mem{H0 H:Hp}{g:List (Int × List Int)}{as:List Addr}(h:GrpAt H0 H g as){a:Addr}(ha:a∈as):∃ l,H a=some (.lst l):=by
 obtain⟨i,hi,e⟩:=ζζ0R ha
 have hg:i<g.length:=by rw[<- h.len];exact hi
 exact⟨_,h.at_ i g[i] a (ζζ0 hg) (by rw[ζζ0 hi,e])⟩
theorem IsSet.all{m:Nat}{ns:List Int}(h:IsSet m ns):∀ z∈ns,0<=z/\z<(m:Int):=fun z hz=>by
 obtain⟨i,hi,e⟩:=ζζ0R hz
 obtain⟨a,b,_⟩:=h i z (by rw[ζζ0 hi,e])
 exact⟨a,b⟩
theorem IsSet.len{m:Nat}:∀ {ns:List Int},IsSet m ns->ns.length<=m:=fun {ns} h=>by
 have key:∀(i:Nat) (z:Int),ns[i]?=some z->(i:Int)<=z:=by
  intro i
  induction i with
  | zero=>intro z e;exact(h 0 z e).1
  | succ i ih =>
   intro z e
   have hi:i<ns.length:=by have:=(ζζ4.mp e).1;omega
   have e2:ns[i]?=some ns[i]:=ζζ0 hi
   have:=ih _ e2
   have:=(h (i+1) z e).2.2 ns[i] (by omega) (by rw[ζζ2h];exact e2)
   omega
 by_cases h0:ns.length=0
 ·omega
 ·have e:ns[ns.length - 1]?=some (ns[ns.length - 1]'(by omega)):=ζζ0 _
  have a:=key _ _ e
  have b:=(h _ _ e).2.1
  omega
end My
namespace L2
open PySem PySem.Spec PyProof.Rows
section
variable{X:Cx}
theorem ζ45{prog:Program}{w:World}{A:Around}{its:Array Value}{bs:List Bool}(h:∀(i:Nat) (v:Value),its[i]?=some v->∃ b,bs[i]?=some b/\v=.bool b):TruthOf prog w A (fun i v=>its[i]?=some v) (fun i=>bs.getD i false):=by
 intro i v s Q E hP hQ
 obtain⟨b,eb,rfl⟩:=h i v hP
 have hQ:Q (bs.getD i false) s:=hQ
 rw[ζζi,eb]at hQ
 exact ζζ0y hQ
theorem ζO9(bs:List Bool):(List.range bs.length).any (fun i=>bs.getD i false)=bs.any id:=by
 rw[ζζ0j,ζζ0W,ζζ0W]
 constructor
 ·rintro⟨i,hi,e⟩
  have hi:=ζζy.mp hi
  rw[ζζi,ζζ0 hi]at e
  exact⟨_,ζζ0K hi,e⟩
 ·rintro⟨b,hb,e⟩
  obtain⟨i,hi,ei⟩:=ζζ0R hb
  refine⟨i,ζζy.mpr hi,?_⟩
  rw[ζζi,ζζ0 hi,ei]
  exact e
theorem ζL9{bs:List Bool}{its:List Value}(r:Vals (bs.map V.bl) its):∀(i:Nat) (v:Value),its.toArray[i]?=some v->∃ b,bs[i]?=some b/\v=.bool b:=fun i v e=>by
 have e:its[i]?=some v:=by simpa using e
 have hi:i<its.length:=(ζζ4.mp e).1
 obtain⟨x,ex,rx⟩:=r.at hi
 rw[ζζh]at ex
 cases eb:bs[i]? with
 | none=>rw[eb]at ex;cases ex
 | some b =>
  rw[eb]at ex
  have ex:V.bl b=x:=ζζ8 ex
  subst ex
  rw[ζζ0 hi]at e
  have e:its[i]=v:=ζζ8 e
  rw[e]at rx
  exact⟨b,rfl,rx⟩
theorem ζB7 (K:PySem.W.Frag) (hc:X.calm=true) (h:X.K=K:=by rfl):ζI1 X (.builtin "any") (fun xs H Q=>∃(p:Addr) (bs:List Bool),xs=[.ref p]/\SqL K H p (bs.map V.bl)/\Q (.bl (bs.any id)) H):=by
 subst h
 intro pins s σ H xs us Q I r h
 obtain⟨p,bs,rfl,hq,q⟩:=h
 obtain⟨u,rfl,ru⟩:=ζ42 r
 obtain rfl:u=Value.ref p:=ru
 obtain⟨its,rv,pl,hz⟩:=I.list hq
 have hl:its.toArray.size=bs.length:=by rw[ζζ7,<- rv.length,ζζa]
 have hne:p≠s.heap.objs.size:=ζζr (let ⟨_,_,e,_⟩:=pl;ζζn e)
 refine call_any_walk (ζζ1B pl.isList ⟨s.heap.objs.size,_,_,_,_,_,_,rfl,Walks.list (A:=X.A.in1) (I.ok.hd hc) s.heap.objs.size p hne its.toArray,⟨⟨_,ζζf _ rfl,rfl,rfl⟩,pl.isList.push _⟩,ζ45 (ζL9 rv),fun h' tk hk=>?_⟩)
 rw[hl,ζO9]
 refine⟨.bl (bs.any id),H,I.kept fun b o e=>hk b o ?_ (ζζ3 _ e),rfl,q⟩
 intro z
 rw[ζζ1.mp z]at e
 exact absurd (ζζn e) (ζζ0M _)
end
end L2
namespace My
open PySem L2
section
variable{K:PySem.W.Frag}{H:Hp}{α:Type}[DecidableEq α]
def Bears(R:V->α->Prop)(xs:List V)(l:List α):Prop:=xs.length=l.length/\∀(i:Nat) (a:α),l[i]?=some a->∃ x,xs[i]?=some x/\R x a
theorem Bears.at{R:V->α->Prop}{xs:List V}{l:List α}(h:Bears R xs l){i:Nat}{x:V}(e:xs[i]?=some x):∃ a,l[i]?=some a/\R x a:=by
 have hi:i<xs.length:=(ζζ4.mp e).1
 have hl:i<l.length:=by rw[<- h.1];exact hi
 obtain⟨x',e1,q⟩:=h.2 i l[i] (ζζ0 hl)
 rw[e]at e1
 cases e1
 exact⟨_,ζζ0 hl,q⟩
theorem ζl8{l m:List α}(h:l.length=m.length):(List.range l.length).all (fun i=>decide (l[i]?=m[i]?))=decide (l=m):=by
 rw[ζζ0j,ζζ0i,ζζM]
 constructor
 ·intro q
  refine ζζ0D fun i=>?_
  by_cases hi:i<l.length
  ·exact ζζs (q i (ζζy.mpr hi))
  ·rw[ζζG (by omega),ζζG (by omega)]
 ·rintro rfl i _
  simp
theorem ζX2{R:V->α->Prop}{n:Nat}{p q:Addr}{xs ys:List V}{l m:List α}(hp:SqL K H p xs)(hq:SqL K H q ys)(h1:Bears R xs l)(h2:Bears R ys m)(hR:∀ x y a b,R x a->R y b->EqD K H n x y (decide (a=b))):EqD K H (n+1) (.ref p) (.ref q) (decide (l=m)):=by
 by_cases hl:xs.length=ys.length
 ·have e:=ζl8 (l:=l) (m:=m) (by rw[<- h1.1,<- h2.1,hl])
  rw[<- e,<- h1.1]
  refine EqD.lsts hp hq hl fun i x y ex ey=>?_
  obtain⟨a,ea,ra⟩:=h1.at ex
  obtain⟨b,eb,rb⟩:=h2.at ey
  rw[ea,eb,show decide (some a=some b)=decide (a=b) by simp]
  exact hR x y a b ra rb
 ·have e:decide (l=m)=false:=ζζE fun z=>hl (by rw[h1.1,h2.1,z])
  rw[e]
  exact EqD.lens hp hq hl
theorem ζw6{R:V->α->Prop}{n:Nat}{p q:Addr}{xs ys:List V}{l m:List α}(hp:SqT K H p xs)(hq:SqT K H q ys)(h1:Bears R xs l)(h2:Bears R ys m)(hR:∀ x y a b,R x a->R y b->EqD K H n x y (decide (a=b))):EqD K H (n+1) (.ref p) (.ref q) (decide (l=m)):=by
 have key:=EqD.tups (e:=fun i=>decide (l[i]?=m[i]?)) hp hq fun i x y ex ey=>by
  obtain⟨a,ea,ra⟩:=h1.at ex
  obtain⟨b,eb,rb⟩:=h2.at ey
  rw[ea,eb,show decide (some a=some b)=decide (a=b) by simp]
  exact hR x y a b ra rb
 by_cases hl:xs.length=ys.length
 ·have e:=ζl8 (l:=l) (m:=m) (by rw[<- h1.1,<- h2.1,hl])
  rw[<- hl,Nat.min_self,h1.1,e,show(l.length == l.length)=true by simp,ζζ2p]at key
  exact key
 ·have e:decide (l=m)=false:=ζζE fun z=>hl (by rw[h1.1,h2.1,z])
  rw[show(xs.length == ys.length)=false by simpa using hl,Bool.and_false]at key
  rw[e]
  exact key
theorem ζn1(ns:List Int):Bears (fun x (z:Int)=>x=.int z) (IL ns) ns:=⟨ζ4 ns,fun i z e=>⟨_,ζT2 e,rfl⟩⟩
theorem ζy3{n:Nat}{x y:V}{a b:Int}(hx:x=.int a)(hy:y=.int b):EqD K H n x y (decide (a=b)):=by
 subst hx hy
 have e:decide (a=b)=eqV (.int a) (.int b):=by
  show decide (a=b)=(a == b)
  rw[Bool.beq_eq_decide_eq]
 rw[e]
 exact EqD.flat rfl rfl
theorem ζz9{p q:Addr}{ns ms:List Int}(hp:SqL K H p (IL ns))(hq:SqL K H q (IL ms)):EqD K H 1 (.ref p) (.ref q) (decide (ns=ms)) :=
 ζX2 hp hq (ζn1 ns) (ζn1 ms) fun _ _ _ _=>ζy3
theorem ζs1{p q:Addr}{ns ms:List Int}(hp:SqT K H p (IL ns))(hq:SqT K H q (IL ms)):EqD K H 1 (.ref p) (.ref q) (decide (ns=ms)) :=
 ζw6 hp hq (ζn1 ns) (ζn1 ms) fun _ _ _ _=>ζy3
theorem ζA2{xs:List V}{ps:List (Int × Int)}(h:PairsV H xs ps):Bears (PairV H) xs ps:=h
theorem ζy9{n:Nat}{x y:V}{a b:Int × Int}(hx:PairV H x a)(hy:PairV H y b):EqD K H (n+1) x y (decide (a=b)):=by
 obtain⟨t,rfl,ht⟩:=hx
 obtain⟨u,rfl,hu⟩:=hy
 have be:∀ c:Int × Int,Bears (fun x (z:Int)=>x=.int z) ([.int c.1,.int c.2]:List V) [c.1,c.2]:=fun c=>ζn1 [c.1,c.2]
 have k:=ζw6 (n:=n) (SqT.of ht) (SqT.of hu) (be a) (be b) fun _ _ _ _=>ζy3 (K:=K) (H:=H)
 have e:decide ([a.1,a.2]=[b.1,b.2])=decide (a=b):=by
  obtain⟨a1,a2⟩:=a
  obtain⟨b1,b2⟩:=b
  simp
 rw[e]at k
 exact k
theorem ζO4{p q:Addr}{xs ys:List V}{ps qs:List (Int × Int)}(hp:SqL K H p xs)(hq:SqL K H q ys)(h1:PairsV H xs ps)(h2:PairsV H ys qs):EqD K H 2 (.ref p) (.ref q) (decide (ps=qs)) :=
 ζX2 hp hq (ζA2 h1) (ζA2 h2) fun _ _ _ _=>ζy9
def ζj12(H:Hp)(v:V)(l:List Int):Prop:=∃ a,v=.ref a/\H a=some (.lst (IL l))
end
end My
namespace My
def fstB(M:List Int)(p:Nat):Bool:=(List.range p).all fun i=>decide (mk M i≠mk M p)
def posA(M:List Int)(k:Int)(i:Nat):List Int:=((List.range i).filter fun j=>decide (mk M j=k)).map fun(j:Nat)=>(j:Int)
def fstA(M:List Int)(i:Nat):List Nat:=(List.range i).filter (fstB M)
theorem fstB_iff{M:List Int}{p:Nat}:fstB M p=true↔∀ i,i<p->mk M i≠mk M p:=by
 unfold fstB
 rw[ζζ0i]
 constructor
 ·intro h i hi;exact ζζs (h i (ζζy.mpr hi))
 ·intro h i hi;exact ζζd (h i (ζζy.mp hi))
theorem ζI2(M:List Int)(k:Int)(i:Nat):posA M k (i+1)=posA M k i++(if mk M i=k then [(i:Int)] else []):=by
 unfold posA
 rw[ζζ0O,ζζV,ζζA]
 congr 1
 by_cases h:mk M i=k
 ·rw[if_pos h,ζζJ,if_pos (by simpa using h)];rfl
 ·rw[if_neg h,ζζJ,if_neg (by simpa using h)];rfl
theorem ζL4(M:List Int)(i:Nat):fstA M (i+1)=fstA M i++(if fstB M i=true then [i] else []):=by
 unfold fstA
 rw[ζζ0O,ζζV]
 congr 1
 by_cases h:fstB M i=true
 ·rw[if_pos h,ζζJ,if_pos h];rfl
 ·rw[if_neg h,ζζJ,if_neg h];rfl
theorem ζ98(M:List Int):∀ i,grpA M i=(fstA M i).map fun p=>(mk M p,posA M (mk M p) i)
 | 0=>rfl
 | i+1=>by
  have ih:=ζ98 M i
  show ζ04 (grpA M i) (i:Int) (mk M i)=_
  have hk:(mk M i∈(grpA M i).map (·.1))↔fstB M i≠true:=by
   constructor
   ·intro h q
    obtain⟨j,hj,e⟩:=ζr1 M i _ h
    exact fstB_iff.mp q j hj e
   ·intro h
    by_cases q:∃ j,j<i/\mk M j=mk M i
    ·obtain⟨j,hj,e⟩:=q
     rw[<- e]
     exact grpA_key hj
    ·exact absurd (fstB_iff.mpr fun j hj e=>q ⟨j,hj,e⟩) h
  unfold ζ04
  by_cases h:mk M i∈(grpA M i).map (·.1)
  ·have hf:=hk.mp h
   rw[if_pos h,ζL4,if_neg hf,ζζ04,ih,List.map_map]
   refine ζζ0g fun p _=>?_
   show(if mk M p=mk M i then (mk M p,posA M (mk M p) i++[(i:Int)]) else (mk M p,posA M (mk M p) i))=(mk M p,posA M (mk M p) (i+1))
   rw[ζI2]
   by_cases e:mk M p=mk M i
   ·rw[if_pos e,if_pos e.symm]
   ·rw[if_neg e,if_neg (fun z=>e z.symm),ζζ04]
  ·have hf:fstB M i=true:=by
    cases q:fstB M i with
    | true=>rfl
    | false=>exact absurd (hk.mpr (by rw[q];exact ζζu)) h
   rw[if_neg h,ζL4,if_pos hf,ζζA,ih]
   congr 1
   ·refine ζζ0g fun p hp=>?_
    have hpi:p<i:=ζζy.mp (ζζm.mp hp).1
    rw[ζI2,if_neg (fun z=>fstB_iff.mp hf p hpi z.symm),ζζ04]
   ·show [(mk M i,[(i:Int)])]=[(mk M i,posA M (mk M i) (i+1))]
    rw[ζI2,if_pos rfl]
    have e0:posA M (mk M i) i=[]:=by
     unfold posA
     rw[ζζ23.mpr fun j hj=>by simpa using fstB_iff.mp hf j (ζζy.mp hj)]
     rfl
    rw[e0]
    rfl
end My
namespace My
open PySem L2
theorem Bears.snoc{α:Type}[DecidableEq α]{R:V->α->Prop}{xs:List V}{l:List α}{x:V}{a:α}(h:Bears R xs l)(hx:R x a):Bears R (xs++[x]) (l++[a]):=by
 refine⟨by rw[ζζ6,ζζ6,h.1];rfl,fun i b e=>?_⟩
 by_cases hi:i<l.length
 ·rw[ζζI hi]at e
  rw[ζζI (by rw[h.1];exact hi)]
  exact h.2 i b e
 ·have hl:i=l.length:=by
   have:=(ζζ4.mp e).1
   rw[ζζ6,ζζR]at this
   omega
  subst hl
  rw[ζζz (ζζ5 _),ζζ1l]at e
  rw[ζζz (by rw[h.1];exact ζζ5 _),h.1,ζζ1l]
  have e':a=b:=ζζ8 e
  subst e'
  exact⟨x,rfl,hx⟩
theorem Bears.imp{α:Type}[DecidableEq α]{R R':V->α->Prop}{xs:List V}{l:List α}(h:Bears R xs l)(f:∀ x a,R x a->R' x a):Bears R' xs l:=⟨h.1,fun i a e=>let ⟨x,e1,r⟩:=h.2 i a e;⟨x,e1,f x a r⟩⟩
end My
namespace L2
open PySem PySem.Spec PyProof.Rows
structure Fly (h0:Heap) (H:Hp) (e C:Addr) (h:Heap):Prop where
 ex:∃ oe vs T oT ts a0,h.get? e=some oe/\oe.cls=.ref C/\oe.data=.fields vs/\vs[0]?=some a0/\vs[1]?=some (.ref T)/\T≠e/\h.get? T=some oT/\oT.data=.fields ts/\ts[3]?=some .none/\h0.get? T=none/\H T=none
 new:h0.get? e=none
 free:H e=none
section
variable{X:Cx}
abbrev grd(X:Cx)(h:Heap)(ns:List Addr):Heap:=PySem.W.hideAll h (frs X.stack++ns)
end
structure XCls (K:PySem.W.Frag) (C:Addr):Prop where
 ex:PySem.W.excIn K C [.type "ValueError",.type "Exception",.type "BaseException",.type "object"] "ValueError.__new__"=true
 ga:PySem.W.findIn K (.ref C) "__getattribute__"=some (some (.builtin "BaseException.__getattribute__"))
 gh:PySem.W.findIn K (.ref C) "__getattr__"=some none
 cl:PySem.W.findIn K (.ref C) "__class__"=some (some (.builtin "object.__class__"))
 ob:PySem.W.mroIn K C (.type "object")=some true
 bx:PySem.W.mroIn K C (.type "BaseException")=some true
theorem ζe7{a:Int}(h1:-(10 ^ 70)<a)(h2:a<10 ^ 70):a.natAbs.log2<1920:=by
 have h:a.natAbs<10 ^ 70:=by omega
 by_cases h0:a.natAbs=0
 ·rw[h0];decide
 ·exact(Nat.log2_lt h0).mpr (Nat.lt_trans h (by decide))
theorem ζU:∀ {us:List Value} {ns:List Int},IntsAre us ns->Vals (ns.map V.int) us
 | [],[],_=>.nil
 | _ :: _,[],h=>by cases h
 | [],_ :: _,h=>by cases h
 | u :: us,n :: ns,h=>by
  cases h with
  | cons _ _ t=>exact .cons ⟨_,rfl⟩ (ζU t)
section
variable{X:Cx}
theorem ζo2 (K:PySem.W.Frag) (hk:X.K=K:=by rfl):ζI1 X (.builtin "sorted") (fun xs H Q=>∃(p:Addr) (ns:List Int),xs=[.ref p]/\SqL K H p (ns.map V.int)/\ns.length<64 /\
  ∀ ms:List Int,ms.Perm ns->ms.Pairwise (·<=·)->∀ l,H l=none->Q (.ref l) (upd H l (.lst (ms.map V.int)))):=by
 subst hk
 intro pins s σ H xs us Q I r h
 obtain⟨p,ns,rfl,hq,hn,q⟩:=h
 obtain⟨u,rfl,ru⟩:=ζ42 r
 obtain rfl:u=Value.ref p:=ru
 obtain⟨its,rv,pl,hz⟩:=I.list hq
 have hi:=ζx rv
 have hl:its.length=ns.length:=by rw[<- rv.length,ζζa]
 refine sorted_ints pl.isList hi (by omega) fun out ms h1 h2 h3=>?_
 obtain⟨e,he⟩:=sortedAll_at s.heap its out
 have hml:ms.length=ns.length:=h2.length_eq
 refine⟨.ref (s.heap.objs.size+1),_,I.laid (t':=s.toks) (o:=.lst (ms.map V.int)) (fun b o g=>sortedAll_old g) (ζζ0w _) ⟨?_,out.toList,e,ζU h1,?_⟩,rfl,q ms h2 h3 _ (I.hok.fresh (ζζ0w _))⟩
 ·rw[ζζa,hml]
  have:sizeLine=16777216:=ζζ0C
  omega
 ·exact he
end
end L2
namespace My
open PySem L2
theorem isSet_iff{m:Nat}{ns:List Int}:IsSet m ns↔(∀ z∈ns,0<=z/\z<(m:Int))/\ns.Pairwise (· < ·):=by
 constructor
 ·intro h
  refine⟨h.all,?_⟩
  rw[ζζ03]
  intro i j hi hj hij
  induction j with
  | zero=>exact absurd hij (ζζ0G i)
  | succ j ih =>
   have hj':j<ns.length:=by omega
   have key:=(h (j+1) ns[j+1] (ζζ0 hj)).2.2 ns[j] (by omega) (by rw[ζζ2h];exact ζζ0 hj')
   by_cases e:i=j
   ·subst e;exact key
   ·have:=ih hj' (by omega)
    omega
 ·rintro⟨ha,hp⟩ i z hz
  obtain⟨hi,ei⟩:=ζζ4.mp hz
  have hm:=ha z (ζζe hz)
  refine⟨hm.1,hm.2,fun y h0 hy=>?_⟩
  obtain⟨hi',ei'⟩:=ζζ4.mp hy
  have:=ζζ03.mp hp (i - 1) i hi' hi (by omega)
  rw[ei,ei']at this
  exact this
theorem ζ96{ns:List Int}(h:ns.Pairwise (· < ·)):ns.Nodup:=h.imp fun hab e=>by omega
theorem IsSet.nodup{m:Nat}{ns:List Int}(h:IsSet m ns):ns.Nodup:=ζ96 (isSet_iff.mp h).2
end My
namespace My
theorem ζ01{α:Type}{P:List α->Prop}(h0:P [])(h1:∀ l x,P l->P (l++[x])):∀ l,P l:=by
 intro l
 rw[<- List.reverse_reverse l]
 induction l.reverse with
 | nil=>exact h0
 | cons x r ih =>
  rw[List.reverse_cons]
  exact h1 _ _ ih
inductive Conn (es:List (Nat × Nat)):Nat->Nat->Prop
 | refl (i:Nat):Conn es i i
 | edge {a b:Nat} (h:(a,b)∈es):Conn es a b
 | symm {i j:Nat}:Conn es i j->Conn es j i
 | trans {i j k:Nat}:Conn es i j->Conn es j k->Conn es i k
theorem Conn.mono{es fs:List (Nat × Nat)}(h:∀ e∈es,e∈fs){i j:Nat}(c:Conn es i j):Conn fs i j:=by
 induction c with
 | refl i=>exact .refl i
 | edge q=>exact .edge (h _ q)
 | symm _ ih=>exact .symm ih
 | trans _ _ i1 i2=>exact .trans i1 i2
theorem ζM1{n i:Nat}(h:i<n):mk ((List.range n).map fun(i:Nat)=>(i:Int)) i=(i:Int):=by
 rw[mk_map' h]
where
 mk_map' {n i:Nat} (h:i<n):mk ((List.range n).map fun(i:Nat)=>(i:Int)) i=(i:Int):=by
  simp[mk,ζζi,ζζh,ζζ0a h]
def InN(n:Nat)(es:List (Nat × Nat)):Prop:=∀ e∈es,e.1<n/\e.2<n
theorem InN.snoc{n:Nat}{es:List (Nat × Nat)}{e:Nat × Nat}(h:InN n (es++[e])):InN n es/\e.1<n/\e.2<n:=⟨fun x hx=>h x (ζζo _ hx),h e (by simp)⟩
theorem ζb9{n:Nat}:∀ es:List (Nat × Nat),InN n es->∀ e∈es,mk (lms n es) e.1=mk (lms n es) e.2:=by
 refine ζ01 (fun _ e h=>by cases h) fun es x ih hn e he=>?_
 obtain⟨h1,h2,h3⟩:=hn.snoc
 have hl:=ζs n es
 have hx:=hn e he
 rw[ζW]
 refine(ζa6 (by omega) (by omega)).mpr ?_
 rcases ζζ9.mp he with q | q
 ·exact .inl (ih h1 e q)
 ·rw[ζζ1.mp q]
  exact .inr ⟨.inl rfl,.inr rfl⟩
theorem ζc9{n:Nat}:∀ es:List (Nat × Nat),InN n es->∀ i j,i<n->j<n->mk (lms n es) i=mk (lms n es) j->Conn es i j:=by
 refine ζ01 (fun _ i j hi hj h=>?_) fun es x ih hn i j hi hj h=>?_
 ·have h:mk ((List.range n).map fun(i:Nat)=>(i:Int)) i=mk ((List.range n).map fun(i:Nat)=>(i:Int)) j:=h
  rw[ζM1 hi,ζM1 hj]at h
  have:i=j:=by omega
  subst this
  exact .refl i
 ·obtain⟨h1,h2,h3⟩:=hn.snoc
  have hl:=ζs n es
  have up:∀ {i j:Nat},Conn es i j->Conn (es++[x]) i j:=fun c=>c.mono fun e he=>ζζo _ he
  have ex:Conn (es++[x]) x.1 x.2:=.edge (by simp)
  rw[ζW]at h
  rcases(ζa6 (by omega) (by omega)).mp h with q | ⟨q1,q2⟩
  ·exact up (ih h1 i j hi hj q)
  ·have ci:Conn (es++[x]) i x.1:=by
    rcases q1 with q | q
    ·exact up (ih h1 i _ hi h2 q)
    ·exact(up (ih h1 i _ hi h3 q)).trans ex.symm
   have cj:Conn (es++[x]) j x.1:=by
    rcases q2 with q | q
    ·exact up (ih h1 j _ hj h2 q)
    ·exact(up (ih h1 j _ hj h3 q)).trans ex.symm
   exact ci.trans cj.symm
theorem ζJ9{n:Nat}{es:List (Nat × Nat)}(hn:InN n es){i j:Nat}(c:Conn es i j):i=j\/(i<n/\j<n/\mk (lms n es) i=mk (lms n es) j):=by
 induction c with
 | refl i=>exact .inl rfl
 | edge q=>exact .inr ⟨(hn _ q).1,(hn _ q).2,ζb9 es hn _ q⟩
 | symm _ ih =>
  rcases ih with e | ⟨a,b,c⟩
  ·exact .inl e.symm
  ·exact .inr ⟨b,a,c.symm⟩
 | trans _ _ i1 i2 =>
  rcases i1 with e | ⟨a,b,c⟩
  ·rw[e];exact i2
  ·rcases i2 with e | ⟨a',b',c'⟩
   ·rw[<- e];exact .inr ⟨a,b,c⟩
   ·exact .inr ⟨a,b',c.trans c'⟩
theorem ζN{n:Nat}{es:List (Nat × Nat)}(hn:InN n es){i j:Nat}(hi:i<n)(hj:j<n):mk (lms n es) i=mk (lms n es) j↔Conn es i j:=by
 constructor
 ·exact ζc9 es hn i j hi hj
 ·intro c
  rcases ζJ9 hn c with e | ⟨_,_,e⟩
  ·rw[e]
  ·exact e
theorem ζg3{n:Nat}{es:List (Nat × Nat)}(hn:InN n es){i j:Nat}(hi:i<n)(hj:j<n):mk (pms n es) i=mk (pms n es) j↔Conn es i j:=by
 rw[<- ζN hn hi hj]
 have s:=ζN3 (n:=n) (es:=es) hn
 exact s.2 i j (by rw[ζm];exact hi) (by rw[ζm];exact hj)
def cnt(M:List Int):Nat:=(fstA M M.length).length
theorem ζs7(M:List Int){i:Nat}:∃ p,p<=i/\mk M p=mk M i/\fstB M p=true:=by
 induction i using Nat.strongRecOn with
 | ind i ih =>
  by_cases h:fstB M i=true
  ·exact⟨i,ζζ5 _,rfl,h⟩
  ·have:∃ j,j<i/\mk M j=mk M i:=by
    by_cases q:∃ j,j<i/\mk M j=mk M i
    ·exact q
    ·exact absurd (fstB_iff.mpr fun j hj e=>q ⟨j,hj,e⟩) h
   obtain⟨j,hj,e⟩:=this
   obtain⟨p,h1,h2,h3⟩:=ih j hj
   exact⟨p,by omega,h2.trans e,h3⟩
theorem ζB6{p q:Nat->Bool}{x n:Nat}(hx:x<n)(hpx:p x=true)(h:∀ y,y<n->q y=(p y && !decide (y=x))):((List.range n).filter q).length+1=((List.range n).filter p).length:=by
 induction n with
 | zero=>exact absurd hx (ζζ0G x)
 | succ n ih =>
  rw[ζζ0O,ζζV,ζζV,ζζ6,ζζ6]
  by_cases e:x=n
  ·subst e
   have e1:(List.range x).filter q=(List.range x).filter p:=ζζ1T fun y hy=>by
    have hy:=ζζy.mp hy
    rw[h y (by omega),show decide (y=x)=false from ζζE (by omega)]
    simp
   have e2:q x=false:=by rw[h x (by omega)];simp
   rw[e1]
   simp[ζζJ,e2,hpx]
  ·have hq:q n=p n:=by rw[h n (by omega),show decide (n=x)=false from ζζE (fun z=>e z.symm)];simp
   have:=ih (by omega) fun y hy=>h y (by omega)
   simp only [ζζJ,ζζ12,hq]
   omega
theorem ζV2{M:List Int}{p q:Nat}(hp:fstB M p=true)(hq:fstB M q=true)(e:mk M p=mk M q):p=q:=by
 rcases Nat.lt_trichotomy p q with h | h | h
 ·exact absurd e (fstB_iff.mp hq p h)
 ·exact h
 ·exact absurd e.symm (fstB_iff.mp hp q h)
theorem ζm2{m:List Int}{a b:Nat}(ha:a<m.length)(hb:b<m.length)(hne:mk m a≠mk m b):cnt (lm m a b)+1=cnt m:=by
 obtain⟨A,hA1,hA2,hA3⟩:=ζs7 m (i:=a)
 obtain⟨B,hB1,hB2,hB3⟩:=ζs7 m (i:=b)
 have hAB:A≠B:=fun e=>hne (by rw[<- hA2,<- hB2,e])
 unfold cnt fstA
 rw[ζX1]
 refine ζB6 (x:=max A B) (by omega) ?_ fun y hy=>?_
 ·rcases Nat.le_total A B with h | h
  ·rw[Nat.max_eq_right h];exact hB3
  ·rw[Nat.max_eq_left h];exact hA3
 ·rw[ζζ0j,ζζ0u,fstB_iff,fstB_iff]
  have key:∀ i,i<y->(mk (lm m a b) i=mk (lm m a b) y↔Mrg m a b i y):=fun i hi=>ζa6 (by omega) hy
  have nmax:(!decide (y=max A B))=true↔y≠max A B:=by simp
  rw[nmax]
  constructor
  ·intro q
   refine⟨fun i hi e=>q i hi ((key i hi).mpr (.inl e)),fun e=>?_⟩
   rcases Nat.lt_or_gt_of_ne hAB with h | h
   ·have ey:y=B:=by omega
    subst ey
    exact q A h ((key A h).mpr (.inr ⟨.inl hA2,.inr hB2⟩))
   ·have ey:y=A:=by omega
    subst ey
    exact q B h ((key B h).mpr (.inr ⟨.inr hB2,.inl hA2⟩))
  ·rintro⟨q1,q2⟩ i hi e
   rcases(key i hi).mp e with e | ⟨e1,e2⟩
   ·exact q1 i hi e
   ·have fy:fstB m y=true:=fstB_iff.mpr q1
    rcases e2 with e2 | e2
    ·have ey:y=A:=ζV2 fy hA3 (e2.trans hA2.symm)
     rcases e1 with e1 | e1
     ·exact q1 i hi (e1.trans e2.symm)
     ·obtain⟨p,p1,p2,p3⟩:=ζs7 m (i:=i)
      have:p=B:=ζV2 p3 hB3 (by rw[p2,e1,hB2])
      omega
    ·have ey:y=B:=ζV2 fy hB3 (e2.trans hB2.symm)
     rcases e1 with e1 | e1
     ·obtain⟨p,p1,p2,p3⟩:=ζs7 m (i:=i)
      have:p=A:=ζV2 p3 hA3 (by rw[p2,e1,hA2])
      omega
     ·exact q1 i hi (e1.trans e2.symm)
theorem ζZ1(n:Nat):cnt ((List.range n).map fun(i:Nat)=>(i:Int))=n:=by
 unfold cnt fstA
 rw[ζζa,ζζS]
 have e:(List.range n).filter (fstB ((List.range n).map fun(i:Nat)=>(i:Int)))=List.range n:=by
  refine ζζ0S.mpr fun p hp=>fstB_iff.mpr fun i hi e=>?_
  have hp:=ζζy.mp hp
  rw[ζM1 (by omega),ζM1 hp]at e
  omega
 rw[e,ζζS]
theorem ζi8{M:List Int}(hM:1<=M.length):cnt M=1↔∀ i j,i<M.length->j<M.length->mk M i=mk M j:=by
 have e:cnt M=(grp M).length:=by
  unfold cnt grp
  rw[ζ98,ζζa]
 rw[e]
 exact ζ88 hM
end My
namespace My
open PySem L2
theorem ζi7(m:Nat):IsSet m (rngI 0 (m:Int)):=fun i z e=>by
 unfold rngI at e
 rw[ζζh,ζζ2B,ζζC]at e
 by_cases hi:i<m
 ·rw[ζζ0a hi]at e
  have e:(0:Int)+(i:Int)=z:=ζζ8 e
  refine⟨by omega,by omega,fun y h0 ey=>?_⟩
  rw[rngI,ζζh,ζζ2B,ζζC,ζζ0a (by omega)]at ey
  have ey:(0:Int)+((i - 1:Nat):Int)=y:=ζζ8 ey
  omega
 ·rw[ζζG (by rw[ζζS];omega)]at e
  cases e
theorem ζE11{i:Int}{n:Nat}(h0:0<=i)(h1:i<(n:Int)):seqIndex? i n=some i.toNat:=by
 have e:(if i<0 then i+(n:Int) else i)=i:=if_neg (by omega)
 unfold seqIndex?
 simp only [e]
 rw[if_pos (by simp;omega)]
theorem ζh6:∀(l:List Int) (k:Nat),(IL l).eraseIdx k=IL (l.eraseIdx k)
 | [],_=>rfl
 | _ :: _,0=>rfl
 | x :: l,k+1=>by
  show V.int x :: (IL l).eraseIdx k=V.int x :: IL (l.eraseIdx k)
  rw[ζh6 l k]
theorem ζb7{sl:List Int}:∀ {ll:List Int} {k:Nat} {z:Int},ll[k]?=some z->((sl++[z])++ll.eraseIdx k).Perm (sl++ll):=fun {ll k z} h=>by
 rw[ζζ02]
 refine ζζ3d _ ?_
 show(z :: ll.eraseIdx k).Perm ll
 induction ll generalizing k with
 | nil=>simp at h
 | cons x r ih =>
  cases k with
  | zero =>
   have e:x=z:=by simpa using h
   rw[e]
   exact List.Perm.refl _
  | succ k =>
   have:=ih (k:=k) (by simpa using h)
   show(z :: x :: r.eraseIdx k).Perm (x :: r)
   exact(List.Perm.swap x z _).trans (this.cons x)
def ζd(n:Int)(ps:List (Int × Int))(ns:List Int):Prop:=IsSet ps.length ns/\(ns.length:Int)=n - 1/\∀ i j,i<n.toNat->j<n.toNat->Conn (ζ6 ps ns) i j
theorem ζO{n:Int}{ps:List (Int × Int)}{ns:List Int}(g:ζy n ps)(h:∀ z∈ns,0<=z/\z<(ps.length:Int)):InN n.toNat (ζ6 ps ns):=fun e he=>by
 obtain⟨z,hz,rfl⟩:=ζζx.mp he
 obtain⟨z0,z1⟩:=h z hz
 have hp:ps[z.toNat]?=some (ps[z.toNat]'(by omega)):=ζζ0 _
 rw[getD_of hp]
 obtain⟨b1,b2,b3,b4⟩:=g.2.2.2 _ (ζζe hp)
 exact⟨by omega,by omega⟩
theorem ζu{ps:List (Int × Int)}{ns ms:List Int}(h:∀ z∈ns,z∈ms):∀ e∈ζ6 ps ns,e∈ζ6 ps ms:=fun e he=>by
 obtain⟨z,hz,rfl⟩:=ζζx.mp he
 exact ζζx.mpr ⟨z,h z hz,rfl⟩
theorem ζL2{n:Nat}{es:List (Nat × Nat)}(h:InN n es):(∀ i j,i<(lms n es).length->j<(lms n es).length->mk (lms n es) i=mk (lms n es) j)↔∀ i j,i<n->j<n->Conn es i j:=by
 rw[ζs]
 constructor
 ·intro q i j hi hj;exact(ζN h hi hj).mp (q i j hi hj)
 ·intro q i j hi hj;exact(ζN h hi hj).mpr (q i j hi hj)
theorem ζj6{n:Nat}{es:List (Nat × Nat)}(hn:1<=n)(h:InN n es):(grp (pms n es)).length=1↔∀ i j,i<n->j<n->Conn es i j:=by
 rw[ζ88 (by rw[ζm];exact hn),(ζN3 h).one]
 exact ζL2 h
theorem ζW6{n:Nat}{es:List (Nat × Nat)}(hn:1<=n)(h:InN n es):(L2.seen (lms n es)).length=1↔∀ i j,i<n->j<n->Conn es i j:=by
 rw[ζF8 (by rw[ζs];exact hn)]
 exact ζL2 h
theorem ζE8{L:List Int}(h:1<=L.length):1<=(L2.seen L).length:=by
 unfold L2.seen
 have mm:=ζ26 (fun i=>L.getD i 0) L.length (L.getD 0 0)
 have:=mm.mpr ⟨0,by omega,rfl⟩
 exact ζζ21 this
theorem ζT{ps:List (Int × Int)}{ns ms:List Int}(h:∀ z,z∈ns↔z∈ms){i j:Nat}:Conn (ζ6 ps ns) i j↔Conn (ζ6 ps ms) i j :=
 ⟨fun c=>c.mono (ζu fun z hz=>(h z).mp hz),fun c=>c.mono (ζu fun z hz=>(h z).mpr hz)⟩
section
variable{K:PySem.W.Frag}{a:Addr}{xs:List V}{g:TG}{tt:TT}{te:TE}{o:Nat}{fr:List Nat}{σ:St}{H:Hp}{Q:VK}
theorem ζ18(Pv:Nat->List V->Hp->Prop)(h0:Pv 0 [] H)(hz:xs.length<sizeLine)(hl:∀ i ys H,i<=xs.length->Pv i ys H->SqL K H a xs/\ys.length<=i)
  (hs:∀(i:Nat) x ys H (p:Addr),H p=none->xs[i]?=some x->Pv i ys H->ζF3 Pv g tt te o fr σ i (.ref p) ys (upd H p (.tup [.int i,x]))) (hd:∀ ys H,Pv xs.length ys H->∀ p,H p=none->Q (.ref p) (upd H p (.lst ys))):LcR (Ite K a) g tt te o fr σ H Q:=by
 refine⟨fun i m ys H=>m=xs.length - i/\i<=xs.length/\Pv i ys H,⟨xs.length,by simp,ζζj _,h0⟩,?_⟩
 rintro i m ys H ⟨rfl,hi,p⟩
 obtain⟨q,hy⟩:=hl i ys H hi p
 by_cases hlt:i<xs.length
 ·refine .inr ⟨⟨xs,xs[i],q,by simp[hlt]⟩,by omega,fun x H' ⟨T,y,hT,ex,eH,hyy⟩=>?_⟩
  subst ex eH
  exact hs i y ys H T hT (hyy xs q) p (fun j ys H=>∃ m',m'<xs.length - i/\m'=xs.length - j/\j<=xs.length/\Pv j ys H) fun ys H p'=>⟨xs.length - (i+1),by omega,rfl,hlt,p'⟩
 ·have e:i=xs.length:=by omega
  subst e
  exact .inl ⟨⟨xs,q,ζζ5 _⟩,by omega,hd ys H p⟩
end
def unlike(M:List Int)(ps:List (Int × Int))(i:Nat):List Int:=((List.range i).filter fun k=>decide (mk M (ps.getD k (0,0)).1.toNat≠mk M (ps.getD k (0,0)).2.toNat)).map fun(k:Nat)=>(k:Int)
theorem ζu2(M:List Int)(ps:List (Int × Int))(i:Nat):unlike M ps (i+1)=unlike M ps i++(if mk M (ps.getD i (0,0)).1.toNat≠mk M (ps.getD i (0,0)).2.toNat then [(i:Int)] else []):=by
 unfold unlike
 rw[ζζ0O,ζζV,ζζA]
 congr 1
 by_cases h:mk M (ps.getD i (0,0)).1.toNat≠mk M (ps.getD i (0,0)).2.toNat
 ·rw[if_pos h,ζζJ,if_pos (ζζd h)];rfl
 ·rw[if_neg h,ζζJ,if_neg (by simpa using h)];rfl
theorem ζ52(M:List Int)(ps:List (Int × Int))(i:Nat):(unlike M ps i).length<=i:=by
 unfold unlike
 rw[ζζa]
 exact ζζO (ζζ0n _ _) (by simp)
def wo(ns:List Int)(z:Int):List Int:=ns.filter fun y=>decide (y≠z)
theorem wo_mem{ns:List Int}{z y:Int}:y∈wo ns z↔y∈ns/\y≠z:=by unfold wo;rw[ζζm];simp
theorem ζP6(ns:List Int)(z:Int):(wo ns z).length<=ns.length:=ζζ0n _ _
theorem ζ32{ns:List Int}{i:Nat}{y z:Int}(h:ns[i]?=some y):wo (ns.take (i+1)) z=wo (ns.take i) z++(if y≠z then [y] else []):=by
 unfold wo
 rw[ζζK,h,ζζV]
 congr 1
 by_cases e:y≠z
 ·rw[if_pos e];show List.filter _ [y]=_;rw[ζζJ,if_pos (ζζd e)];rfl
 ·rw[if_neg e];show List.filter _ [y]=_;rw[ζζJ,if_neg (by simpa using e)];rfl
theorem ζ35{n:Int}{ps:List (Int × Int)}{M L:List Int}(g:ζy n ps)(hM:M.length=n.toNat)(s:SameP M L):unlike M ps ps.length=unlike L ps ps.length:=by
 unfold unlike
 congr 1
 refine ζζ1T fun k hk=>?_
 have hk:=ζζy.mp hk
 have hp:ps[k]?=some ps[k]:=ζζ0 hk
 rw[getD_of hp]
 obtain⟨b1,b2,b3,b4⟩:=g.2.2.2 _ (ζζe hp)
 have:=s.2 ps[k].1.toNat ps[k].2.toNat (by omega) (by omega)
 rw[ζζ0j,ζζM,ζζM]
 exact not_congr this
def ζ910(n:Int)(ps:List (Int × Int))(ns:List Int)(z:Int)(l:List Int):List Int:=l.filter fun y=>decide (z∈unlike (lms n.toNat (ζ6 ps (wo ns y))) ps ps.length)
theorem ζx5{M:List Int}{ps:List (Int × Int)}{z:Int}(h0:0<=z)(h1:z<(ps.length:Int)):z∈unlike M ps ps.length↔mk M (ps.getD z.toNat (0,0)).1.toNat≠mk M (ps.getD z.toNat (0,0)).2.toNat:=by
 unfold unlike
 rw[ζζx]
 constructor
 ·rintro⟨k,hk,rfl⟩
  have:=ζζs (ζζm.mp hk).2
  rw[ζζC]
  exact this
 ·intro h
  exact⟨z.toNat,ζζm.mpr ⟨ζζy.mpr (by omega),ζζd h⟩,by omega⟩
theorem ζ75{a b:List Int}(h:a.Perm b)(h1:a.Pairwise (·<=·))(h2:b.Pairwise (·<=·)):a=b:=by
 induction a generalizing b with
 | nil=>exact(List.Perm.nil_eq h)
 | cons x a ih =>
  cases b with
  | nil=>exact absurd h.length_eq (by simp)
  | cons y b =>
   obtain⟨hx,ha⟩:=ζζ0d.mp h1
   obtain⟨hy,hb⟩:=ζζ0d.mp h2
   have e:x=y:=by
    have m1:y∈x :: a:=h.mem_iff.mpr ζζg
    have m2:x∈y :: b:=h.mem_iff.mp ζζg
    rcases ζζb.mp m1 with e1 | e1
    ·exact e1.symm
    ·rcases ζζb.mp m2 with e2 | e2
     ·exact e2
     ·have:=hx y e1;have:=hy x e2;omega
   subst e
   rw[ih (List.Perm.cons_inv h) ha hb]
end My
namespace L2
open PySem PySem.Spec PyProof.Rows
section
variable{prog:Program}{w:World}{A:Around}{E:Value->Shared->Prop}{s:Shared}
theorem ζz2 {tp:Addr} {vs:List Value} {Q:List Value->Shared->Prop} {ot:Obj} {m:Nat} (ht:s.heap.get? tp=some ot) (hc:ot.cls=.type "tuple") (hd:ot.data=.seq vs.toArray m) (hz:vs.length<=sizeLine)
  (k:Q vs { s with heap:=(s.heap.push (seqObj "list" #[] 0)).update s.heap.objs.size (Obj.mapSeq (·++vs.toArray)) }):wpAny (model prog w) A (collect (.ref tp)) Q E s:=by
 have ht1:(s.heap.push (seqObj "list" #[] 0)).get? tp=some ot:=ζζ3 _ ht
 have hL1:(s.heap.push (seqObj "list" #[] 0)).get? s.heap.objs.size=some (seqObj "list" #[] 0):=ζζf _ rfl
 unfold collect
 refine ζζ2 (ζζ28 (ζζ09 ζζ2S ?_))
 show wpAny _ _ (do again (.builtin "list.__iadd__" ⟨[<- newList [],.ref tp],[]⟩)) _ _ s
 refine ζζ2 (ζζ1x (ζζl ⟨ζζ1w _ (by decide +kernel),ζζ09 entry_list_iadd' ?_⟩))
 show wpAny _ _ (Builtin.List.listExtendWith (.ref s.heap.objs.size) (.ref tp) (.ref s.heap.objs.size)) _ _ { s with heap:=s.heap.push (seqObj "list" #[] 0) }
 unfold Builtin.List.listExtendWith
 refine ζζ2 (ζζ2V (T:="tuple") ⟨ot,ht1,hc⟩ ?_)
 rw [if_pos (by rw [show(Value.type "tuple" == Value.type "tuple")=true from rfl];simp)]
 refine ζζ2 (listItems_at ht1 hd ?_)
 refine ζζ2 (listItems_at (xs:=#[]) (n:=0) hL1 rfl ?_)
 rw[if_neg (by simp)]
 refine ζζ2 (ζζ1K (xs:=#[]) (n:=0) hL1 rfl ?_ (ζζj _) (by show(#[]++vs.toArray).size<=sizeLine+1;simp only [Array.size_append,ζζ7,ζζ0Q];omega))
 refine ζζl ?_
 refine ζζ2 (ζζ2X (ζζ2M hL1 _) ?_)
 show wpAny _ _ (pure ((#[]:Array Value)++vs.toArray).toList) Q E _
 rw[show((#[]:Array Value)++vs.toArray).toList=vs by simp]
 exact ζζl k
theorem ζ85 {tp:Addr} {vs:List Value} {ns:List Int} {Q:Value->Shared->Prop} {ot:Obj} {m:Nat} (ht:s.heap.get? tp=some ot) (hc:ot.cls=.type "tuple") (hd:ot.data=.seq vs.toArray m) (hI:IntsAre vs ns) (h64:vs.length<64)
  (k:∀(out:Array Value) (ms:List Int),IntsAre out.toList ms->ms.Perm ns->ms.Pairwise (·<=·)->Q (.ref (s.heap.objs.size+1)) { s with heap:=sortedAll s.heap vs out }) :
  wpAny (model prog w) A (call (.builtin "sorted") [.ref tp]) Q E s:=by
 have hsl:sizeLine=16777216:=ζζ0C
 have hsz:((s.heap.push (seqObj "list" #[] 0)).update s.heap.objs.size (Obj.mapSeq (·++vs.toArray))).objs.size=s.heap.objs.size+1:=by
  rw[Heap.size_update,size_push']
 have hoL:(((s.heap.push (seqObj "list" #[] 0)).update s.heap.objs.size (Obj.mapSeq (·++vs.toArray))).push (seqObj "list" vs.toArray 0)).get? (s.heap.objs.size+1)=some (seqObj "list" vs.toArray 0):=by
  rw[<- hsz]
  exact ζζf _ rfl
 refine Calls.call_function_entry kind_sorted plain_sorted entry_sorted (args_sorted1 _) ?_
 unfold Builtin.«sorted»
 refine ζζ2 (m:=checkCount "sorted" 1 1 _) (ζζl ?_)
 refine ζζ2 (ζz2 ht hc hd (by omega) ?_)
 refine ζζ2 (ζζ1x ?_)
 show wpAny _ _ _ _ _ { s with heap:=((s.heap.push (seqObj "list" #[] 0)).update s.heap.objs.size (Obj.mapSeq (·++vs.toArray))).push (seqObj "list" vs.toArray 0) }
 rw[hsz]
 refine ζζ2 (ζζ0x (ζζ0p slot_list_sort ⟨_,hoL,rfl⟩ entry_list_sort (list_sort_tree hoL hI h64 fun out ms b1 b2 b3=>⟨_,rfl,?_⟩) (args_list_sort _)))
 exact ζζl ⟨_,rfl,k out ms b1 b2 b3⟩
end
section
variable{X:Cx}
theorem ζ84 (K:PySem.W.Frag) (hk:X.K=K:=by rfl):ζI1 X (.builtin "sorted") (fun xs H Q=>∃(p:Addr) (ns:List Int),xs=[.ref p]/\SqT K H p (ns.map V.int)/\ns.length<64 /\
  ∀ ms:List Int,ms.Perm ns->ms.Pairwise (·<=·)->∀ l,H l=none->Q (.ref l) (upd H l (.lst (ms.map V.int)))):=by
 subst hk
 intro pins s σ H xs us Q I r h
 obtain⟨p,ns,rfl,hq,hn,q⟩:=h
 obtain⟨u,rfl,ru⟩:=ζ42 r
 obtain rfl:u=Value.ref p:=ru
 obtain⟨its,rv,⟨ot,h1,h2,m,h3⟩,hz⟩:=I.tuple hq
 have hi:=ζx rv
 have hl:its.length=ns.length:=by rw[<- rv.length,ζζa]
 refine ζ85 h1 h2 h3 hi (by omega) fun out ms b1 b2 b3=>?_
 obtain⟨e,he⟩:=sortedAll_at s.heap its out
 have hml:ms.length=ns.length:=b2.length_eq
 refine⟨.ref (s.heap.objs.size+1),_,I.laid (t':=s.toks) (o:=.lst (ms.map V.int)) (fun b o g=>sortedAll_old g) (ζζ0w _) ⟨?_,out.toList,e,ζU b1,he⟩,rfl,q ms b2 b3 _ (I.hok.fresh (ζζ0w _))⟩
 rw[ζζa,hml]
 have:sizeLine=16777216:=ζζ0C
 omega
def ζM11(K:PySem.W.Frag):R2:=fun x y H Q=>∃ a b xs ys,x=.ref a/\y=.ref b/\SqT K H a xs/\SqT K H b ys/\xs.length+ys.length<=sizeLine /\
 (xs=[]->Q (.ref b) H)/\(xs≠[]->ys=[]->Q (.ref a) H)/\(xs≠[]->ys≠[]->∀ p,H p=none->Q (.ref p) (upd H p (.tup (xs++ys))))
theorem ζy4(K:PySem.W.Frag)(hk:X.K=K:=by rfl):OpR X (binaryOp .Add) (ζM11 K):=by
 intro pins s σ H x y v u Q I rx ry h
 obtain⟨a,b,xs,ys,e1,e2,ha,hb,hz,q0,q1,q2⟩:=id h
 by_cases hx:xs=[]
 ·subst hk e1 e2
  cases rx
  cases ry
  obtain⟨its,r1,p1,_⟩:=I.tuple ha
  obtain⟨its2,r2,p2,_⟩:=I.tuple hb
  have hi:its=[]:=r1.nil_iff.mpr hx
  obtain⟨⟨cls,dd,data,sl⟩,ho,hc,n,hd⟩:=id p1
  obtain⟨⟨cls2,dd2,data2,sl2⟩,ho2,hc2,n2,hd2⟩:=id p2
  simp only at hc hd hc2 hd2
  subst hc hd hc2 hd2
  exact concat_meets ⟨_,ho,rfl⟩ ⟨_,ho2,rfl⟩ ζζ2Z seq_tuple_add ζζ1Z ζζ1V (ζζ1N _ _)
   (tuple_addW0 a b its.toArray its2.toArray n n2 dd dd2 sl sl2 (by simp[hi])) ⟨ho,ho2,⟨.ref b,H,I,rfl,q0 hx⟩⟩
 ·exact ζY8 K hk pins s σ H x y v u Q I rx ry ⟨a,b,xs,ys,e1,e2,ha,hb,hx,hz,q1 hx,q2 hx⟩
end
end L2
namespace My
open PySem L2
theorem ζp12{m:List Int}{a b:Nat}(h:mk m a=mk m b):lm m a b=m:=by unfold lm;rw[if_neg (fun z=>z h)]
theorem ζE6{m:List Int}{a b:Nat}(ha:a<m.length)(hb:b<m.length):cnt m<=cnt (lm m a b)+1:=by
 by_cases e:mk m a=mk m b
 ·rw[ζp12 e];omega
 ·have:=ζm2 ha hb e;omega
theorem ζc11{n:Nat}:∀ es:List (Nat × Nat),InN n es->n<=cnt (lms n es)+es.length:=by
 refine ζ01 (fun _=>?_) fun es x ih hn=>?_
 ·have:cnt (lms n [])=n:=ζZ1 n
  omega
 ·obtain⟨h1,h2,h3⟩:=hn.snoc
  have hl:=ζs n es
  have:=ζE6 (m:=lms n es) (a:=x.1) (b:=x.2) (by omega) (by omega)
  have:=ih h1
  rw[ζW,ζζ6,ζζq,ζζ0Q]
  omega
theorem ζD6{M:List Int}(h:1<=M.length):1<=cnt M:=by
 unfold cnt fstA
 refine ζζ21 (a:=0) (ζζm.mpr ⟨ζζy.mpr (by omega),fstB_iff.mpr fun i hi=>absurd hi (ζζ0G i)⟩)
theorem ζ31{n:Nat}{es:List (Nat × Nat)}(hn:1<=n)(h:InN n es):cnt (lms n es)=1↔∀ i j,i<n->j<n->Conn es i j:=by
 rw[ζi8 (by rw[ζs];exact hn)]
 exact ζL2 h
theorem ζe4{ts:List Int}{o:Int}(hn:ts.Nodup)(ho:o∈ts):(wo ts o).length+1=ts.length:=by
 induction ts with
 | nil=>cases ho
 | cons x r ih =>
  obtain⟨h1,h2⟩:=ζζ0h.mp hn
  unfold wo
  rw[ζζJ]
  by_cases e:x=o
  ·subst e
   rw[if_neg (by simp)]
   have:r.filter (fun y=>decide (y≠x))=r:=ζζ0S.mpr fun y hy=>ζζd fun e=>h1 (e ▸ hy)
   rw[this];rfl
  ·rw[if_pos (ζζd e)]
   have:=ih h2 ((ζζb.mp ho).resolve_left fun z=>e z.symm)
   unfold wo at this
   rw[ζζq,ζζq]
   omega
def ζz(ps:List (Int × Int))(z:Int):Nat × Nat:=((ps.getD z.toNat (0,0)).1.toNat,(ps.getD z.toNat (0,0)).2.toNat)
theorem ζY(ps:List (Int × Int))(ns:List Int)(z:Int):ζ6 ps (ns++[z])=ζ6 ps ns++[ζz ps z]:=by unfold ζ6 ζz;rw[ζζA];rfl
theorem ζg1{n:Int}{ps:List (Int × Int)}{z:Int}(g:ζy n ps)(z0:0<=z)(z1:z<(ps.length:Int)):(ζz ps z).1<n.toNat/\(ζz ps z).2<n.toNat:=by
 have:=ζO (ns:=[z]) g (fun y hy=>by rw[ζζ1.mp hy];exact⟨z0,z1⟩)
 exact this (ζz ps z) (by unfold ζ6 ζz;simp)
theorem ζT9{n:Int}{ps:List (Int × Int)}{ts:List Int}{o:Int}(hT:ζd n ps ts):∀ y∈wo ts o,0<=y/\y<(ps.length:Int):=fun y hy=>hT.1.all y (wo_mem.mp hy).1
theorem exch{n:Int}{ps:List (Int × Int)}{ts:List Int}{o z:Int}(g:ζy n ps)(hT:ζd n ps ts)(ho:o∈ts)(z0:0<=z)(z1:z<(ps.length:Int)) :
  (∀ i j,i<n.toNat->j<n.toNat->Conn (ζ6 ps (wo ts o++[z])) i j)↔¬ Conn (ζ6 ps (wo ts o)) (ζz ps z).1 (ζz ps z).2:=by
 have hn:1<=n.toNat:=by have:=g.1;omega
 have hw:=ζe4 hT.1.nodup ho
 have hl:(ts.length:Int)=n - 1:=hT.2.1
 have i0:InN n.toNat (ζ6 ps (wo ts o)):=ζO g (ζT9 hT)
 have hz:=ζg1 g z0 z1
 have ob:=hT.1.all o ho
 have hoe:=ζg1 g ob.1 ob.2
 have i1:InN n.toNat (ζ6 ps (wo ts o)++[ζz ps z]):=fun e he=>(ζζ9.mp he).elim (i0 e) fun q=>by rw[ζζ1.mp q];exact hz
 have i2:InN n.toNat (ζ6 ps (wo ts o)++[ζz ps o]):=fun e he=>(ζζ9.mp he).elim (i0 e) fun q=>by rw[ζζ1.mp q];exact hoe
 have hL:=ζs n.toNat (ζ6 ps (wo ts o))
 have le:(ζ6 ps (wo ts o)).length=(wo ts o).length:=by unfold ζ6;rw[ζζa]
 rw[ζY]
 constructor
 ·intro hc c
  have h1:cnt (lms n.toNat (ζ6 ps (wo ts o)++[ζz ps z]))=1:=(ζ31 hn i1).mpr hc
  rw[ζW,ζp12 ((ζN i0 hz.1 hz.2).mpr c)]at h1
  have:=ζc11 _ i0
  omega
 ·intro hc
  have h2:cnt (lms n.toNat (ζ6 ps (wo ts o)++[ζz ps o]))=1:=by
   refine(ζ31 hn i2).mpr fun i j hi hj=>?_
   rw[<- ζY]
   refine(ζT fun y=>?_).mp (hT.2.2 i j hi hj)
   rw[ζζ9,wo_mem,ζζ1]
   constructor
   ·intro hy
    by_cases e:y=o
    ·exact .inr e
    ·exact .inl ⟨hy,e⟩
   ·rintro(q | q)
    ·exact q.1
    ·rw[q];exact ho
  rw[ζW]at h2
  have h3:=ζE6 (m:=lms n.toNat (ζ6 ps (wo ts o))) (a:=(ζz ps o).1) (b:=(ζz ps o).2) (by omega) (by omega)
  have h4:=ζm2 (m:=lms n.toNat (ζ6 ps (wo ts o))) (a:=(ζz ps z).1) (b:=(ζz ps z).2) (by omega) (by omega) (fun e=>hc ((ζN i0 hz.1 hz.2).mp e))
  have h5:=ζD6 (M:=lm (lms n.toNat (ζ6 ps (wo ts o))) (ζz ps z).1 (ζz ps z).2) (by rw[ζX1];omega)
  refine(ζ31 hn i1).mp ?_
  rw[ζW]
  omega
def cutT(n:Int)(ps:List (Int × Int))(ts:List Int)(o:Int):List Int:=unlike (lms n.toNat (ζ6 ps (wo ts o))) ps ps.length
theorem ζ62{M:List Int}{ps:List (Int × Int)}{i:Nat}{z:Int}(h:z∈unlike M ps i):0<=z/\z<(i:Int):=by
 unfold unlike at h
 obtain⟨k,hk,rfl⟩:=ζζx.mp h
 have:=ζζy.mp (ζζm.mp hk).1
 omega
theorem ζX{n:Int}{ps:List (Int × Int)}{ts:List Int}{o z:Int}(g:ζy n ps)(hT:ζd n ps ts)(z0:0<=z)(z1:z<(ps.length:Int)):z∈cutT n ps ts o↔¬ Conn (ζ6 ps (wo ts o)) (ζz ps z).1 (ζz ps z).2:=by
 have hz:=ζg1 g z0 z1
 unfold cutT
 rw[ζx5 z0 z1]
 exact not_congr (ζN (ζO g (ζT9 hT)) hz.1 hz.2)
def exg(n:Int)(ps:List (Int × Int))(ts:List Int)(o z:Int):Prop:=o∈ts/\z≠o/\z∈cutT n ps ts o
instance (n:Int) (ps:List (Int × Int)) (ts:List Int) (o z:Int):Decidable (exg n ps ts o z):=by unfold exg;infer_instance
theorem ζx3{n:Int}{ps:List (Int × Int)}{ts:List Int}{o z:Int}(g:ζy n ps)(hT:ζd n ps ts) :
  exg n ps ts o z↔o∈ts/\z∉ts/\0<=z/\z<(ps.length:Int)/\∀ i j,i<n.toNat->j<n.toNat->Conn (ζ6 ps (wo ts o++[z])) i j:=by
 constructor
 ·rintro⟨h1,h2,h3⟩
  obtain⟨z0,z1⟩:=ζ62 h3
  have hc:=(ζX g hT z0 z1).mp h3
  refine⟨h1,fun hz=>hc ?_,z0,z1,(exch g hT h1 z0 z1).mpr hc⟩
  refine .edge ?_
  exact ζζx.mpr ⟨z,wo_mem.mpr ⟨hz,h2⟩,rfl⟩
 ·rintro⟨h1,h2,z0,z1,hc⟩
  exact⟨h1,fun e=>h2 (e ▸ h1),(ζX g hT z0 z1).mpr ((exch g hT h1 z0 z1).mp hc)⟩
def exs(n:Int)(ps:List (Int × Int))(ts:List Int)(l:List Int):List (Int × Int):=l.flatMap fun o=>(wo (cutT n ps ts o) o).map fun z=>(o,z)
theorem ζx9{n:Int}{ps:List (Int × Int)}{ts l:List Int}{i:Nat}{o:Int}(h:l[i]?=some o):exs n ps ts (l.take (i+1))=exs n ps ts (l.take i)++(wo (cutT n ps ts o) o).map fun z=>(o,z):=by
 unfold exs
 rw[ζζK,h,List.flatMap_append]
 congr 1
 show List.flatMap _ [o]=_
 simp
theorem ζv6{n:Int}{ps:List (Int × Int)}{ts:List Int}:∀ l:List Int,(exs n ps ts l).length<=ps.length * l.length
 | []=>by show(0:Nat)<=_;omega
 | o :: l=>by
  have:=ζv6 (n:=n) (ps:=ps) (ts:=ts) l
  have h1:(wo (cutT n ps ts o) o).length<=ps.length:=ζζO (ζP6 _ _) (ζ52 _ _ _)
  have e:exs n ps ts (o :: l)=(wo (cutT n ps ts o) o).map (fun z=>(o,z))++exs n ps ts l:=by unfold exs;rw[List.flatMap_cons]
  rw[e,ζζ6,ζζa,ζζq,Nat.mul_succ]
  omega
theorem PairsV.mut{H:Hp}{l:Addr}{ys zs xs:List V}{ps:List (Int × Int)}(hP:PairsV H xs ps)(hl:H l=some (.lst ys)):PairsV (upd H l (.lst zs)) xs ps:=by
 refine⟨hP.1,fun j p e=>?_⟩
 obtain⟨v,e1,tt,e2,e3⟩:=hP.2 j p e
 exact⟨v,e1,tt,e2,by rw[ζ9 (ζr5 e3 hl (fun z=>nomatch z))];exact e3⟩
theorem ζm8{ns:List Int}{o y:Int}{i:Nat}(h:ns[i]?=some y):(ns.take (i+1)).map (fun z=>(o,z))=(ns.take i).map (fun z=>(o,z))++[(o,y)]:=by
 rw[ζζK,h,ζζA];rfl
end My
namespace L2
open PySem PySem.Spec PyProof.Rows
section
variable{X:Cx}
theorem ζ36{e:Addr->Bool}{n:Nat}{x:V}{w:Value}{pins:List (Addr × Obj)}{σ:St}{H:Hp}{s:Shared}(I:Inv X pins σ H s){A:Around}(hu:A.units+n<cLine)(rx:RelV x w):∀ {xs:List V} {us:List Value},Vals xs us->(∀ v∈xs,∃ a,v=.ref a/\EqD X.K H n v x (e a))->∀ u∈us,SeqAt.EqAt A s u w (match u with | .ref a=>e a | _=>false)
 | _,_,.nil,_=>fun u hu=>by cases hu
 | y :: xs,u :: us,.cons r t,h=>fun u' hu'=>by
  rcases ζζb.mp hu' with rfl | hu'
  ·obtain⟨a,rfl,q⟩:=h y ζζg
   obtain rfl:u'=Value.ref a:=r
   exact q.at I hu rfl rx
  ·exact ζ36 I hu rx t (fun v hv=>h v (ζζk _ hv)) u' hu'
end
end L2
namespace My
open PySem L2
theorem ζS4{n:Int}{ps:List (Int × Int)}{ts:List Int}{o y:Int}(g:ζy n ps)(hT:ζd n ps ts)(ho:o∈ts)(hy:y∈ts):y∈cutT n ps ts o↔y=o:=by
 have yb:=hT.1.all y hy
 rw[ζX g hT yb.1 yb.2]
 constructor
 ·intro h
  by_cases e:y=o
  ·exact e
  ·exact absurd (.edge (ζζx.mpr ⟨y,wo_mem.mpr ⟨hy,e⟩,rfl⟩)) h
 ·rintro rfl
  refine(exch g hT hy yb.1 yb.2).mp fun i j hi hj=>(ζT fun z=>?_).mp (hT.2.2 i j hi hj)
  rw[ζζ9,wo_mem,ζζ1]
  constructor
  ·intro hz
   by_cases e:z=y
   ·exact .inr e
   ·exact .inl ⟨hz,e⟩
  ·rintro(q | q)
   ·exact q.1
   ·rw[q];exact hy
theorem ringA_mem{n:Int}{ps:List (Int × Int)}{ts l:List Int}{z y:Int}:y∈ζ910 n ps ts z l↔y∈l/\z∈cutT n ps ts y:=by
 unfold ζ910
 rw[ζζm,ζζM]
 exact Iff.rfl
theorem ζP1{n:Int}{ps:List (Int × Int)}{ts ms:List Int}{o z:Int}(g:ζy n ps)(hT:ζd n ps ts)(hx:exg n ps ts o z)(hpm:ms.Perm (wo ts o++[z]))(hpw:ms.Pairwise (·<=·)):ζd n ps ms:=by
 obtain⟨ho,hz,z0,z1,hc⟩:=(ζx3 g hT).mp hx
 have nd:(wo ts o++[z]).Nodup:=ζW5 (hT.1.nodup.sublist List.filter_sublist) fun h=>hz (wo_mem.mp h).1
 have ndm:ms.Nodup:=hpm.nodup_iff.mpr nd
 have hl:=ζe4 hT.1.nodup ho
 have hl2:=hpm.length_eq
 rw[ζζ6,ζζR]at hl2
 refine⟨isSet_iff.mpr ⟨fun y hy=>?_,(ζζ3a.mpr ⟨hpw,ndm⟩).imp fun {x y} h=>by have:=h.1;have:=h.2;omega⟩,by rw[hl2,hl];exact hT.2.1,fun i j hi hj=>(ζT fun y=>hpm.mem_iff).mpr (hc i j hi hj)⟩
 rcases ζζ9.mp (hpm.mem_iff.mp hy) with h | h
 ·exact hT.1.all y (wo_mem.mp h).1
 ·rw[ζζ1.mp h];exact⟨z0,z1⟩
section
variable{n:Int}{ps:List (Int × Int)}{ts ms:List Int}{o z:Int}(g:ζy n ps)(hT:ζd n ps ts)(hx:exg n ps ts o z)(hpm:ms.Perm (wo ts o++[z]))(hpw:ms.Pairwise (·<=·))
include g hT hx hpm hpw
theorem ζY10{y:Int}:y∈ms↔(y∈ts/\y≠o)\/y=z:=by
 rw[hpm.mem_iff,ζζ9,wo_mem,ζζ1]
end
def grd(n:Nat)(ps:List (Int × Int)):Nat->List Int
 | 0=>[]
 | k+1=>if mk (lms n (ζ6 ps (grd n ps k))) (ζz ps (k:Int)).1=mk (lms n (ζ6 ps (grd n ps k))) (ζz ps (k:Int)).2 then grd n ps k else grd n ps k++[(k:Int)]
theorem ζN1(n:Nat)(ps:List (Int × Int))(k:Nat):grd n ps (k+1)=if mk (lms n (ζ6 ps (grd n ps k))) (ζz ps (k:Int)).1=mk (lms n (ζ6 ps (grd n ps k))) (ζz ps (k:Int)).2 then grd n ps k else grd n ps k++[(k:Int)]:=rfl
theorem ζi5{n:Nat}{ps:List (Int × Int)}:∀ k,∀ z∈grd n ps k,0<=z/\z<(k:Int)
 | 0,z,h=>by cases h
 | k+1,z,h=>by
  rw[ζN1]at h
  split at h
  ·have:=ζi5 k z h;omega
  ·rcases ζζ9.mp h with h | h
   ·have:=ζi5 k z h;omega
   ·rw[ζζ1.mp h];omega
theorem ζu3{n:Nat}{ps:List (Int × Int)}:∀ k,(grd n ps k).Pairwise (· < ·)
 | 0=>List.Pairwise.nil
 | k+1=>by
  rw[ζN1]
  split
  ·exact ζu3 k
  ·rw[ζζX]
   exact⟨ζu3 k,ζζZ ..,fun a ha b hb=>by rw[ζζ1.mp hb];exact(ζi5 k a ha).2⟩
theorem ζk6{n:Nat}{ps:List (Int × Int)}{k:Nat}(hk:k<=ps.length):IsSet ps.length (grd n ps k):=isSet_iff.mpr ⟨fun z hz=>by have:=ζi5 k z hz;omega,ζu3 k⟩
theorem ζo7{n:Int}{ps:List (Int × Int)}(g:ζy n ps){k:Nat}(hk:k<=ps.length):InN n.toNat (ζ6 ps (grd n.toNat ps k)):=ζO g (ζk6 hk).all
theorem ζI4{n:Nat}{ps:List (Int × Int)}{j:Nat}:∀ k,j<=k->∀ z,z∈grd n ps j↔z∈grd n ps k/\z<(j:Int)
 | 0,h,z=>by
  have:j=0:=by omega
  subst this
  exact⟨fun h=>(by cases h),fun h=>h.1⟩
 | k+1,h,z=>by
  by_cases e:j=k+1
  ·subst e
   exact⟨fun h=>⟨h,(ζi5 _ z h).2⟩,fun h=>h.1⟩
  ·have ih:=ζI4 (n:=n) (ps:=ps) (j:=j) k (by omega) z
   rw[ζN1,ih]
   split
   ·exact Iff.rfl
   ·rw[ζζ9,ζζ1]
    constructor
    ·rintro⟨h1,h2⟩;exact⟨.inl h1,h2⟩
    ·rintro⟨h1 | h1,h2⟩
     ·exact⟨h1,h2⟩
     ·omega
theorem ζa8{n:Int}{ps:List (Int × Int)}(g:ζy n ps){k j:Nat}(hk:k<=ps.length)(hj:j<k)(hn:(j:Int)∉grd n.toNat ps k):Conn (ζ6 ps (grd n.toNat ps j)) (ζz ps (j:Int)).1 (ζz ps (j:Int)).2:=by
 have he:=ζg1 (z:=(j:Int)) g (by omega) (by omega)
 have h1:(j:Int)∉grd n.toNat ps (j+1):=fun h=>hn ((ζI4 k hj _).mp h).1
 rw[ζN1]at h1
 split at h1
 ·rename_i h
  exact(ζN (ζo7 g (by omega)) he.1 he.2).mp h
 ·exact absurd (ζζc _ (ζζ1.mpr rfl)) h1
theorem ζK4{n:Int}{ps:List (Int × Int)}(g:ζy n ps):∀ k,k<=ps.length->cnt (lms n.toNat (ζ6 ps (grd n.toNat ps k)))+(grd n.toNat ps k).length=n.toNat
 | 0,_=>ζZ1 n.toNat
 | k+1,hk=>by
  have ih:=ζK4 g k (by omega)
  have he:=ζg1 (z:=(k:Int)) g (by omega) (by omega)
  have hl:=ζs n.toNat (ζ6 ps (grd n.toNat ps k))
  rw[ζN1]
  split
  ·exact ih
  ·rename_i h
   rw[ζY,ζW,ζζ6,ζζR]
   have:=ζm2 (m:=lms n.toNat (ζ6 ps (grd n.toNat ps k))) (by omega) (by omega) h
   omega
theorem ζm6{n:Int}{ps:List (Int × Int)}(g:ζy n ps){ts:List Int}(ht:∀ z∈ts,0<=z/\z<(ps.length:Int)){i j:Nat}(c:Conn (ζ6 ps ts) i j):Conn (ζ6 ps (grd n.toNat ps ps.length)) i j:=by
 induction c with
 | refl i=>exact .refl i
 | symm _ ih=>exact .symm ih
 | trans _ _ i1 i2=>exact .trans i1 i2
 | @edge a b h =>
  obtain⟨z,hz,e⟩:=ζζx.mp h
  obtain⟨z0,z1⟩:=ht z hz
  have ez:z=((z.toNat:Nat):Int):=by omega
  by_cases hm:z∈grd n.toNat ps ps.length
  ·exact .edge (ζζx.mpr ⟨z,hm,e⟩)
  ·rw[ez]at hm
   have c:=ζa8 g (ζζ5 _) (by omega) hm
   have c2:=c.mono (ζu fun y hy=>((ζI4 ps.length (by omega) y).mp hy).1)
   rw[<- ez]at c2
   have ea:a=(ζz ps z).1:=(ζζ0l Prod.fst e).symm
   have eb:b=(ζz ps z).2:=(ζζ0l Prod.snd e).symm
   rw[ea,eb]
   exact c2
theorem ζ34{n:Int}{ps:List (Int × Int)}(g:ζy n ps){ts:List Int}(hT:ζd n ps ts):ζd n ps (grd n.toNat ps ps.length):=by
 have hc:∀ i j,i<n.toNat->j<n.toNat->Conn (ζ6 ps (grd n.toNat ps ps.length)) i j:=fun i j hi hj=>ζm6 g hT.1.all (hT.2.2 i j hi hj)
 have h1:=(ζ31 (by have:=g.1;omega) (ζo7 g (ζζ5 _))).mpr hc
 have h2:=ζK4 g ps.length (ζζ5 _)
 exact⟨ζk6 (ζζ5 _),by have:=g.1;omega,hc⟩
theorem ζ44{n:Int}{ps:List (Int × Int)}(g:ζy n ps)(h:¬ ((grd n.toNat ps ps.length).length:Int)<n - 1):ζd n ps (grd n.toNat ps ps.length):=by
 have h2:=ζK4 g ps.length (ζζ5 _)
 have h3:=ζD6 (M:=lms n.toNat (ζ6 ps (grd n.toNat ps ps.length))) (by rw[ζs];have:=g.1;omega)
 exact⟨ζk6 (ζζ5 _),by have:=g.1;omega,(ζ31 (by have:=g.1;omega) (ζo7 g (ζζ5 _))).mp (by omega)⟩
theorem ζB4:∀ {a b:List Int},a.length=b.length->HT.lexLt a b=true->∃(p:List Int) (x y:Int) (r s:List Int),a=p++x :: r/\b=p++y :: s/\x<y
 | [],[],_,h=>by cases h
 | [],_ :: _,e,_=>by simp at e
 | _ :: _,[],e,_=>by simp at e
 | x :: xs,y :: ys,e,h=>by
  rw[HT.lexLt_cons]at h
  by_cases q:x=y
  ·subst q
   rw[if_pos rfl]at h
   obtain⟨p,u,v,r,s,e1,e2,e3⟩:=ζB4 (by simpa using e) h
   exact⟨x :: p,u,v,r,s,by rw[e1];rfl,by rw[e2];rfl,e3⟩
  ·rw[if_neg q]at h
   exact⟨[],x,y,xs,ys,rfl,rfl,ζζs h⟩
theorem ζJ4{n:Int}{ps:List (Int × Int)}(g:ζy n ps){ts:List Int}(hT:ζd n ps ts):HT.lexLt ts (grd n.toNat ps ps.length)=false:=by
 have hG:=ζ34 g hT
 cases h:HT.lexLt ts (grd n.toNat ps ps.length) with
 | false=>rfl
 | true =>
  exfalso
  obtain⟨p,x,y,r,s,e1,e2,hxy⟩:=ζB4 (by have:=hT.2.1;have:=hG.2.1;omega) h
  have hx:x∈ts:=by rw[e1];simp
  obtain⟨x0,x1⟩:=hT.1.all x hx
  have at1:=(isSet_iff.mp hT.1).2
  have ag:=ζu3 (n:=n.toNat) (ps:=ps) ps.length
  rw[e1,ζζX]at at1
  rw[e2,ζζX]at ag
  have px:∀ z∈p,z<x:=fun z hz=>at1.2.2 z hz x ζζg
  have ys:∀ z∈y :: s,x<z:=fun z hz=>by
   rcases ζζb.mp hz with e | hz
   ·rw[e];exact hxy
   ·have:=(ζζ0d.mp ag.2.1).1 z hz;omega
  have ex:x=((x.toNat:Nat):Int):=by omega
  have hn:((x.toNat:Nat):Int)∉grd n.toNat ps ps.length:=by
   rw[<- ex,e2,ζζ9]
   rintro(h | h)
   ·have:=px x h;omega
   ·have:=ys x h;omega
  have c:=ζa8 g (ζζ5 _) (by omega) hn
  have c2:Conn (ζ6 ps (wo ts x)) (ζz ps x).1 (ζz ps x).2:=by
   rw[<- ex]at c
   refine c.mono (ζu fun z hz=>?_)
   obtain⟨h1,h2⟩:=(ζI4 ps.length (by omega) z).mp hz
   rw[<- ex]at h2
   rw[e2,ζζ9]at h1
   rcases h1 with h1 | h1
   ·exact wo_mem.mpr ⟨by rw[e1];exact ζζo _ h1,by omega⟩
   ·have:=ys z h1;omega
  exact(ζX g hT x0 x1).mp ((ζS4 g hT hx hx).mpr rfl) c2
theorem lex_trans:∀ {a b c:List Int},HT.lexLt a b=true->HT.lexLt b c=true->HT.lexLt a c=true
 | [],[],_,h,_=>by cases h
 | [],_ :: _,[],_,h=>by cases h
 | [],_ :: _,_ :: _,_,_=>rfl
 | _ :: _,[],_,h,_=>by cases h
 | _ :: _,_ :: _,[],_,h=>by cases h
 | x :: xs,y :: ys,z :: zs,h1,h2=>by
  rw[HT.lexLt_cons]at h1 h2 ⊢
  by_cases e1:x=y
  ·subst e1
   rw[if_pos rfl]at h1
   by_cases e2:x=z
   ·subst e2
    rw[if_pos rfl]at h2 ⊢
    exact lex_trans h1 h2
   ·rw[if_neg e2]at h2 ⊢
    exact h2
  ·rw[if_neg e1]at h1
   have h1:=ζζs h1
   by_cases e2:y=z
   ·subst e2
    rw[if_neg e1]
    exact ζζd h1
   ·rw[if_neg e2]at h2
    have h2:=ζζs h2
    rw[if_neg (by omega)]
    exact ζζd (by omega)
theorem lex_irrefl:∀ a:List Int,HT.lexLt a a=false
 | []=>rfl
 | x :: xs=>by rw[HT.lexLt_cons,if_pos rfl];exact lex_irrefl xs
theorem best_le(bt:Nat->Nat->Bool):∀ j,argBest bt j<=j
 | 0=>ζζ5 _
 | j+1=>by
  unfold argBest
  split
  ·exact ζζ5 _
  ·have:=best_le bt j;omega
def nxt(s:List Int):Int:=match s.getLast? with | none=>0 | some x=>x+1
def ext1(m:Int)(s:List Int):List (List Int):=(List.range (m - nxt s).toNat).map fun(i:Nat)=>s++[nxt s+(i:Int)]
def cmb(m:Int):Nat->List (List Int)
 | 0=>[[]]
 | k+1=>(cmb m k).flatMap (ext1 m)
theorem ζ09(s:List Int)(x:Int):nxt (s++[x])=x+1:=by unfold nxt;rw[List.getLast?_append];rfl
theorem ext1_mem{m:Int}{s l:List Int}:l∈ext1 m s↔∃ t,nxt s<=t/\t<m/\l=s++[t]:=by
 unfold ext1
 rw[ζζx]
 constructor
 ·rintro⟨i,hi,rfl⟩
  have:=ζζy.mp hi
  exact⟨_,by omega,by omega,rfl⟩
 ·rintro⟨t,h1,h2,rfl⟩
  exact⟨(t - nxt s).toNat,ζζy.mpr (by omega),by rw[show nxt s+(((t - nxt s).toNat:Nat):Int)=t by omega]⟩
theorem asc_snoc{m:Nat}{s:List Int}{t:Int}:IsSet m (s++[t])↔IsSet m s/\nxt s<=t/\0<=t/\t<(m:Int):=by
 rw[isSet_iff,isSet_iff,ζζX]
 have last:(∀ a∈s,∀ b∈[t],a<b)/\s.Pairwise (· < ·)->nxt s<=t\/t<0:=by
  rintro⟨h,_⟩
  unfold nxt
  cases e:s.getLast? with
  | none=>by_cases h0:0<=t;exact .inl h0;exact .inr (by omega)
  | some x=>have:=h x (List.mem_of_getLast? e) t (by simp);exact .inl (by show x+1<=t;omega)
 constructor
 ·rintro⟨h1,h2,_,h3⟩
  have ht:=h1 t (by simp)
  refine⟨⟨fun z hz=>h1 z (ζζo _ hz),h2⟩,?_,ht⟩
  rcases last ⟨h3,h2⟩ with h | h
  ·exact h
  ·omega
 ·rintro⟨⟨h1,h2⟩,h3,h4,h5⟩
  refine⟨fun z hz=>?_,h2,ζζZ ..,fun a ha b hb=>?_⟩
  ·rcases ζζ9.mp hz with h | h
   ·exact h1 z h
   ·rw[ζζ1.mp h];exact⟨h4,h5⟩
  ·rw[ζζ1.mp hb]
   have key:∀ {s:List Int} {a:Int},s.Pairwise (· < ·)->a∈s->a<nxt s:=by
    refine fun {s}=>ζ01 (P:=fun s=>∀ {a:Int},s.Pairwise (· < ·)->a∈s->a<nxt s) (fun {a} _ h=>by cases h) (fun l x ih {a} hp h=>?_) s
    rw[ζ09]
    rw[ζζX]at hp
    rcases ζζ9.mp h with h | h
    ·have:=hp.2.2 a h x (by simp);omega
    ·rw[ζζ1.mp h];omega
   have:=key h2 ha
   omega
theorem cmb_mem{m:Nat}:∀ {k:Nat} {l:List Int},l∈cmb (m:Int) k↔l.length=k/\IsSet m l
 | 0,l=>by
  show l∈[[]]↔_
  rw[ζζ1]
  constructor
  ·rintro rfl;exact⟨rfl,fun i z e=>by simp at e⟩
  ·rintro⟨h,_⟩;exact ζζ00.mp h
 | k+1,l=>by
  show l∈(cmb (m:Int) k).flatMap (ext1 m)↔_
  rw[ζζ1A]
  constructor
  ·rintro⟨s,hs,hl⟩
   obtain⟨t,h1,h2,rfl⟩:=ext1_mem.mp hl
   obtain⟨e,hI⟩:=cmb_mem.mp hs
   have n0:0<=nxt s:=by
    unfold nxt
    cases q:s.getLast? with
    | none=>exact ζζ0L 0
    | some x=>have:=(hI.all x (List.mem_of_getLast? q)).1;show 0<=x+1;omega
   exact⟨by rw[ζζ6,e];rfl,asc_snoc.mpr ⟨hI,h1,by omega,h2⟩⟩
  ·rintro⟨e,hI⟩
   have hne:l≠[]:=fun z=>by rw[z]at e;simp at e
   obtain⟨s,t,rfl⟩:∃ s t,l=s++[t]:=⟨l.dropLast,l.getLast hne,(List.dropLast_concat_getLast hne).symm⟩
   obtain⟨h1,h2,h3,h4⟩:=asc_snoc.mp hI
   exact⟨s,cmb_mem.mpr ⟨by rw[ζζ6]at e;simpa using e,h1⟩,ext1_mem.mpr ⟨t,h2,h4,rfl⟩⟩
theorem ζB2:∀ {w t:List Int},t.Pairwise (· < ·)->w.Pairwise (· < ·)->(∀ z∈t,z∈w)->t.Sublist w
 | [],[],_,_,_=>List.Sublist.slnil
 | [],x :: t,_,_,h=>absurd (h x ζζg) (by simp)
 | y :: w,[],_,_,_=>List.nil_sublist _
 | y :: w,x :: t,ht,hw,h=>by
  obtain⟨h1,h2⟩:=ζζ0d.mp ht
  obtain⟨h3,h4⟩:=ζζ0d.mp hw
  by_cases e:x=y
  ·subst e
   refine List.Sublist.cons₂ _ (ζB2 h2 h4 fun z hz=>?_)
   rcases ζζb.mp (h z (ζζk _ hz)) with q | q
   ·have:=h1 z hz;omega
   ·exact q
  ·have hx:x∈w:=(ζζb.mp (h x ζζg)).resolve_left e
   refine List.Sublist.cons _ (ζB2 ht h4 fun z hz=>?_)
   rcases ζζb.mp (h z hz) with q | q
   ·have:=h3 x hx
    rcases ζζb.mp hz with q2 | q2
    ·rw[q2];exact hx
    ·have:=h1 z q2;omega
   ·exact q
def pmf(M:List Int)(es:List (Nat × Nat)):List Int:=es.foldl (fun m e=>pm m e.1 e.2) M
theorem ζT8(M:List Int)(es:List (Nat × Nat))(e:Nat × Nat):pmf M (es++[e])=pm (pmf M es) e.1 e.2:=by unfold pmf;rw[ζζ1t];rfl
theorem ζP5(M:List Int):∀ es:List (Nat × Nat),(pmf M es).length=M.length:=by
 intro es
 unfold pmf
 induction es generalizing M with
 | nil=>rfl
 | cons e l ih=>rw[ζζ2b,ih,ζC1]
theorem ζF9{xs:List V}{i:Int}(h0:0<=i):cutV xs none (some i)=xs.take i.toNat:=by
 have e:HT.sIx xs.length xs.length (some i)=min i.toNat xs.length:=by
  show(if i<0 then (i+(xs.length:Int)).toNat else min i.toNat xs.length)=_
  rw[if_neg (by omega)]
 unfold cutV
 rw[e,HT.sIx_none,List.drop_zero,Nat.sub_zero]
 by_cases h:i.toNat<=xs.length
 ·rw[Nat.min_eq_left h]
 ·rw[Nat.min_eq_right (by omega),ζζ06 (ζζ5 _),ζζ06 (by omega)]
def rgL(m:Nat):List Int:=(List.range m).map fun(i:Nat)=>(i:Int)
theorem rgL_mem{m:Nat}{z:Int}:z∈rgL m↔0<=z/\z<(m:Int):=by
 unfold rgL
 rw[ζζx]
 constructor
 ·rintro⟨i,hi,rfl⟩
  have:=ζζy.mp hi
  omega
 ·intro h
  exact⟨z.toNat,ζζy.mpr (by omega),by omega⟩
theorem ζM(m:Nat):(rgL m).length=m:=by unfold rgL;simp
theorem ζq4(m:Nat):(rgL m).Pairwise (· < ·):=by
 unfold rgL
 rw[ζζ1R]
 exact ζζ1q.imp fun h=>by omega
theorem ζL7(m:Nat):IsSet m (rgL m):=isSet_iff.mpr ⟨fun z hz=>rgL_mem.mp hz,ζq4 m⟩
theorem ζI8(m:Nat):rngI 0 (m:Int)=rgL m:=by
 unfold rngI rgL
 rw[ζζ2B,ζζC]
 exact ζζ0g fun i _=>by omega
def ζC7(n:Int)(ps:List (Int × Int)):Prop:=∀ i j,i<n.toNat->j<n.toNat->Conn (ζ6 ps (rgL ps.length)) i j
end My
namespace L2
open PySem PySem.Spec PyProof.Rows
section
variable{prog:Program}{w:World}{A:Around}{E:Value->Shared->Prop}{s:Shared}
theorem ζn5{r:Addr}{a b c:Int}{t u v:Tok}{n:Nat}{Q:List Value->Shared->Prop}(hh:A.handled=none)(hr:IsRange s.heap r a b c t u v)(hm:Builtin.Range.small a b c=true)(hn:Builtin.Range.rangeSize a b c=n)(hl:n<=2 ^ 24)
  (k:∀(h':Heap) (tk:Nat) (acc:Array Value),(∀ b o,s.heap.get? b=some o->h'.get? b=some o)->ItemsOf (fun i v=>∃ t,v=.int (a+i * c) t) acc n->Q acc.toList { s with heap:=h',toks:=tk }):wpAny (model prog w) A (collect (.ref r)) Q E s:=by
 have hL1:(s.heap.push (seqObj "list" #[] 0)).get? s.heap.objs.size=some (seqObj "list" #[] 0):=ζζf _ rfl
 unfold collect
 refine ζζ2 (ζζ28 (ζζ09 ζζ2S ?_))
 show wpAny _ A.in1 (do again (.builtin "list.__iadd__" ⟨[<- newList [],.ref r],[]⟩)) _ _ s
 refine ζζ2 (ζζ1x (ζζl ⟨ζζ1w _ (by decide +kernel),ζζ09 entry_list_iadd' ?_⟩))
 show wpAny _ A.in1 (Builtin.List.listExtendWith (.ref s.heap.objs.size) (.ref r) (.ref s.heap.objs.size)) _ _ { s with heap:=s.heap.push (seqObj "list" #[] 0) }
 refine ζζ0I (wpAny_extend_range (A:=A) (R:=fun x s'=>∃(h':Heap) (tk:Nat) (acc:Array Value) (c':Nat),x=.ok (.ret (.ref s.heap.objs.size))/\s'={ s with heap:=h',toks:=tk }/\(∀ b o,s.heap.get? b=some o->h'.get? b=some o) /\
   h'.get? s.heap.objs.size=some { cls:=.type "list",dict:=none,data:=.seq acc c',slots:=#[] }/\ItemsOf (fun i v=>∃ t,v=.int (a+i * c) t) acc n)
  (s:={ s with heap:=s.heap.push (seqObj "list" #[] 0) }) hh (ζζ3 _ hr) hm hn hl _ _ 0 hL1 fun h' tk acc c' k1 k2 k3=>⟨h',tk,acc,c',rfl,rfl,fun b o e=>k1 b o (ζζr (ζζn e)) (ζζ3 _ e),k2,k3⟩) (fun fin s' z=>?_) (fun e s' z=>?_)
 ·cases fin with
  | done f =>
   obtain⟨h',tk,acc,c',e,rfl,k1,k2,k3⟩:=z
   cases e
   refine ζζ2 (ζζ2X k2 ?_)
   exact ζζl (k h' tk acc k1 k3)
  | again c' =>
   refine⟨z.1,ζζ10 z.2 fun x s2 z=>?_⟩
   obtain⟨h',tk,acc,c',rfl,rfl,k1,k2,k3⟩:=z
   refine ζζ2 (ζζ2X k2 ?_)
   exact ζζl (k h' tk acc k1 k3)
 ·obtain⟨h',tk,acc,c',e,_⟩:=z
  cases e
theorem ζn3{r:Addr}{a b c:Int}{t u v:Tok}{n:Nat}(hm:Builtin.Range.small a b c=true)(hn:Builtin.Range.rangeSize a b c=n)(hl:n<=2 ^ 24) :
  Meets (Builtin.«tuple.__new__» ⟨[.type "tuple",.ref r],[]⟩) (fun A R s=>A.handled=none/\IsRange s.heap r a b c t u v/\∀(h':Heap) (tk:Nat) (acc:Array Value),(∀ b o,s.heap.get? b=some o->h'.get? b=some o)->ItemsOf (fun i v=>∃ t,v=.int (a+i * c) t) acc n ->
   R (.ok (.ret (.ref h'.objs.size))) { s with heap:=h'.push (seqObj "tuple" acc 0),toks:=tk }) :=
 .of_wp fun prog w A R s h=>by
  obtain⟨hh,hr,h⟩:=h
  have e1:=sub_tuple_self
  have e2:=init_tuple_lookup
  have e3:=madeHere_tuple
  have hT:s.TypeIs (.ref r) "range":=⟨_,hr,rfl⟩
  have hh1:A.in1.handled=none:=hh
  wp_walk using ζζ2V hT,ζn5 hh1 hr hm hn hl
  intro h' tk acc hk hacc
  show wpAny _ _ (Builtin.Tuple.tupleExact acc.toList.toArray >>= ret) _ _ _
  unfold Builtin.Tuple.tupleExact
  have e:acc.toList.toArray=acc:=by simp
  rw[e]
  refine ζζ2 (ζζ0m ?_ (by show acc.size<=sizeLine;rw[hacc.1,ζζ0C];exact hl))
  exact ζζl ⟨_,rfl,h h' tk acc hk hacc⟩
theorem ζn2{r:Addr}{a b c:Int}{t u v:Tok}{n:Nat}{Q:Value->Shared->Prop}(hh:A.handled=none)(hr:IsRange s.heap r a b c t u v)(hm:Builtin.Range.small a b c=true)(hn:Builtin.Range.rangeSize a b c=n)(hl:n<=2 ^ 24)
  (k:∀(h':Heap) (tk:Nat) (acc:Array Value),(∀ b o,s.heap.get? b=some o->h'.get? b=some o)->ItemsOf (fun i v=>∃ t,v=.int (a+i * c) t) acc n->Q (.ref h'.objs.size) { s with heap:=h'.push (seqObj "tuple" acc 0),toks:=tk }):wpAny (model prog w) A (call (.type "tuple") [.ref r]) Q E s :=
 callType_new F.called_tuple (by decide) (F.typeCall_tuple_1 _) (F.newCall_tuple_1 _) (fun o=>F.args_object_init_2 o _) F.entry_tuple_new (ζn3 (t:=t) (u:=u) (v:=v) hm hn hl)
  ⟨hh,hr,fun h' tk acc hk hacc=>⟨⟨_,ζζf _ rfl,rfl⟩,k h' tk acc hk hacc⟩⟩
end
section
variable{X:Cx}
theorem ζ03 (hc:X.calm=true):ζI1 X (.type "tuple") (fun xs H Q=>∃ p lo hi,xs=[.ref p]/\H p=some (.rng lo hi)/\(-(2 ^ 62)<=lo/\lo<2 ^ 62/\-(2 ^ 62)<=hi/\hi<2 ^ 62)/\(hi - lo).toNat<=16777216 /\
  ∀ l,H l=none->Q (.ref l) (upd H l (.tup ((rngI lo hi).map V.int)))):=by
 intro pins s σ H xs us Q I r h
 obtain⟨p,lo,hi,rfl,hp,⟨b1,b2,b3,b4⟩,hz,q⟩:=h
 obtain⟨u,rfl,ru⟩:=ζ42 r
 obtain rfl:u=Value.ref p:=ru
 obtain⟨t,u,v,e⟩:=(show ObjOk X.prog X.w H s.heap p (.rng lo hi) from I.hok p _ hp)
 have hn:Builtin.Range.rangeSize lo hi 1=(((hi - lo).toNat:Nat):Int):=by rw[rangeSize_one];split <;> omega
 refine ζn2 (I.ok.hd hc) (t:=t) (u:=u) (v:=v) e (small_one b1 b2 b3 b4) hn hz fun h' tk acc hk ha=>?_
 have hl:acc.toList.length=(hi - lo).toNat:=by rw[ζζD];exact ha.1
 have rv:Vals ((rngI lo hi).map V.int) acc.toList:=ζv5 (lo:=lo) hl fun j w ew=>by
  obtain⟨t,e⟩:=ha.2 j w (by simpa using ew)
  exact⟨t,by rw[e,Int.mul_one]⟩
 have I1:Inv X pins σ H { s with heap:=h',toks:=tk }:=I.kept (t':=tk) hk
 have hz2:((rngI lo hi).map V.int).length<=sizeLine:=by
  rw[ζζa,ζL1]
  have:sizeLine=16777216:=ζζ0C
  omega
 have I2:Inv X pins σ (upd H h'.objs.size (.tup ((rngI lo hi).map V.int))) { s with heap:=h'.push (seqObj "tuple" acc.toList.toArray 0),toks:=tk } :=
  I1.laid (t':=tk) (fun b o e=>ζζ3 _ e) (ζζ5 _) (show ObjOk X.prog X.w _ _ _ (.tup ((rngI lo hi).map V.int)) from⟨hz2,acc.toList,rv,IsTup.new _ _⟩)
 have ea:acc.toList.toArray=acc:=by simp
 rw[ea]at I2
 exact⟨.ref h'.objs.size,_,I2,rfl,q _ (I1.hok.fresh (ζζ5 _))⟩
end
end L2
namespace My
open PySem L2
def gst(n:Nat)(ps:List (Int × Int))(G:List Int)(z:Int):List Int:=if mk (lms n (ζ6 ps G)) (ζz ps z).1=mk (lms n (ζ6 ps G)) (ζz ps z).2 then G else G++[z]
def grw(n:Nat)(ps:List (Int × Int))(zs:List Int):List Int:=zs.foldl (gst n ps) []
theorem ζc1(n:Nat)(ps:List (Int × Int))(zs:List Int)(z:Int):grw n ps (zs++[z])=gst n ps (grw n ps zs) z:=by unfold grw;rw[ζζ1t];rfl
theorem ζH4(n:Nat)(ps:List (Int × Int))(zs:List Int):∀ ys,∃ us,grw n ps (zs++ys)=grw n ps zs++us/\us.Sublist ys:=by
 refine ζ01 ⟨[],by simp⟩ fun ys y ih=>?_
 obtain⟨us,e,s⟩:=ih
 rw[<- ζζ02,ζc1,e]
 unfold gst
 split
 ·exact⟨us,rfl,s.trans (ζζ2P _ _)⟩
 ·exact⟨us++[y],by rw[ζζ02],s.append (List.Sublist.refl _)⟩
theorem ζx2(n:Nat)(ps:List (Int × Int))(zs:List Int):(grw n ps zs).Sublist zs:=by
 obtain⟨us,e,s⟩:=ζH4 n ps [] zs
 rw[ζζ1G]at e
 rw[e]
 exact s
theorem ζG4(n:Nat)(ps:List (Int × Int)):∀ k,grw n ps ((List.range k).map fun(i:Nat)=>(i:Int))=grd n ps k
 | 0=>rfl
 | k+1=>by rw[ζζ0O,ζζA,ζζ1m,ζc1,ζG4 n ps k,ζN1];rfl
theorem ζ78{n:Nat}{ps:List (Int × Int)}{zs:List Int}(h:∀ z∈zs,0<=z/\z<(ps.length:Int)):∀ z∈grw n ps zs,0<=z/\z<(ps.length:Int):=fun z hz=>h z ((ζx2 n ps zs).subset hz)
theorem ζ14{n:Int}{ps:List (Int × Int)}(g:ζy n ps){zs:List Int}(h:∀ z∈zs,0<=z/\z<(ps.length:Int)):InN n.toNat (ζ6 ps (grw n.toNat ps zs)):=ζO g (ζ78 h)
theorem ζt3{n:Int}{ps:List (Int × Int)}(g:ζy n ps):∀ zs:List Int,(∀ z∈zs,0<=z/\z<(ps.length:Int))->cnt (lms n.toNat (ζ6 ps (grw n.toNat ps zs)))+(grw n.toNat ps zs).length=n.toNat:=by
 refine ζ01 (fun _=>ζZ1 n.toNat) fun zs z ih h=>?_
 have h1:∀ z∈zs,0<=z/\z<(ps.length:Int):=fun y hy=>h y (ζζo _ hy)
 have ih:=ih h1
 obtain⟨z0,z1⟩:=h z (ζζc _ (ζζ1.mpr rfl))
 have he:=ζg1 (z:=z) g z0 z1
 have hl:=ζs n.toNat (ζ6 ps (grw n.toNat ps zs))
 rw[ζc1]
 unfold gst
 split
 ·exact ih
 ·rename_i h
  rw[ζY,ζW,ζζ6,ζζR]
  have:=ζm2 (m:=lms n.toNat (ζ6 ps (grw n.toNat ps zs))) (by omega) (by omega) h
  omega
theorem ζ68{n:Int}{ps:List (Int × Int)}(g:ζy n ps){zs:List Int}(h:∀ z∈zs,0<=z/\z<(ps.length:Int)):(grw n.toNat ps zs).length<=14:=by
 have:=ζt3 g zs h
 have:=g.2.1
 omega
theorem ζi6{n:Int}{ps:List (Int × Int)}(g:ζy n ps):∀ zs:List Int,(∀ z∈zs,0<=z/\z<(ps.length:Int))->∀ {i j:Nat},Conn (ζ6 ps zs) i j->Conn (ζ6 ps (grw n.toNat ps zs)) i j:=by
 refine ζ01 (fun _ _ _ c=>c) fun zs z IH h i j c=>?_
 have h1:∀ z∈zs,0<=z/\z<(ps.length:Int):=fun y hy=>h y (ζζo _ hy)
 obtain⟨z0,z1⟩:=h z (ζζc _ (ζζ1.mpr rfl))
 have he:=ζg1 (z:=z) g z0 z1
 have up:∀ {a b:Nat},Conn (ζ6 ps (grw n.toNat ps zs)) a b->Conn (ζ6 ps (grw n.toNat ps (zs++[z]))) a b:=fun c=>by
  rw[ζc1]
  unfold gst
  split
  ·exact c
  ·exact c.mono (ζu fun y hy=>ζζo _ hy)
 have own:Conn (ζ6 ps (grw n.toNat ps (zs++[z]))) (ζz ps z).1 (ζz ps z).2:=by
  rw[ζc1]
  unfold gst
  split
  ·rename_i e
   exact(ζN (ζ14 g h1) he.1 he.2).mp e
  ·rw[ζY]
   exact .edge (ζζc _ (ζζ1.mpr rfl))
 induction c with
 | refl i=>exact .refl i
 | symm _ ih=>exact .symm ih
 | trans _ _ i1 i2=>exact .trans i1 i2
 | @edge a b e =>
  rw[ζY]at e
  rcases ζζ9.mp e with e | e
  ·exact up (IH h1 (.edge e))
  ·have e:=ζζ1.mp e
   have ea:a=(ζz ps z).1:=ζζ0l Prod.fst e
   have eb:b=(ζz ps z).2:=ζζ0l Prod.snd e
   rw[ea,eb]
   exact own
theorem ζl6{n:Int}{ps:List (Int × Int)}(g:ζy n ps):ζC7 n ps↔¬ ((grd n.toNat ps ps.length).length:Int)<n - 1:=by
 constructor
 ·intro h
  have hc:∀ i j,i<n.toNat->j<n.toNat->Conn (ζ6 ps (grd n.toNat ps ps.length)) i j:=fun i j hi hj=>ζm6 g (fun z hz=>rgL_mem.mp hz) (h i j hi hj)
  have h1:=(ζ31 (by have:=g.1;omega) (ζo7 g (ζζ5 _))).mpr hc
  have h2:=ζK4 g ps.length (ζζ5 _)
  have:=g.1
  omega
 ·intro h i j hi hj
  exact((ζ44 g h).2.2 i j hi hj).mono (ζu fun z hz=>rgL_mem.mpr (by have:=ζi5 ps.length z hz;omega))
end My
namespace PyProof.Rows
open PySem
abbrev dK:Keyed:=(Value.none,Value.none)
section
variable{O:KeyOrd}{key:Keyed->O.α}{kd:SortKind}
def ke(key:Keyed->O.α)(arr:Array Keyed)(i:Nat):O.α:=key (arr.getD i dK)
def RK(O:KeyOrd)(key:Keyed->O.α)(x y:Keyed):Prop:=O.kle (key x) (key y)
structure MI (O:KeyOrd) (key:Keyed->O.α) (la lb:List Keyed) (out:Array Keyed) (ia ib:Nat):Prop where
 so:out.toList.Pairwise (RK O key)
 oa:∀ x∈out.toList,∀ y∈la.drop ia,RK O key x y
 ob:∀ x∈out.toList,∀ y∈lb.drop ib,RK O key x y
 pm:(out.toList++la.drop ia++lb.drop ib).Perm (la++lb)
abbrev LoS:=Option (Array Keyed) × Array Keyed × Nat × Nat × Nat × Nat × Nat
structure MH (O:KeyOrd) (key:Keyed->O.α) (la lb:List Keyed) (out:Array Keyed) (na nb:Nat):Prop where
 so:out.toList.Pairwise fun x y=>RK O key y x
 oa:∀ x∈la.take na,∀ y∈out.toList,RK O key x y
 ob:∀ x∈lb.take nb,∀ y∈out.toList,RK O key x y
 pm:(la.take na++lb.take nb++out.toList).Perm (la++lb)
abbrev HiS:=Option (Array Keyed) × Nat × Nat × Array Keyed × Nat × Nat × Nat
def offs:List (List Keyed)->Nat->List (Nat × Nat)
 | [],_=>[]
 | g :: gs,o=>(o,g.length) :: offs gs (o+g.length)
structure PI (O:KeyOrd) (key:Keyed->O.α) (kd:SortKind) (a₀:Array Keyed) (st:SortSt) (segs:List (List Keyed)) (rest:List Keyed):Prop where
 kind:kindOf st=kd
 fail:failedOf st=none
 perm:(arrOf st).Perm a₀
 arr:(arrOf st).toList=segs.flatten++rest
 srt:∀ g∈segs,1<=g.length/\g.Pairwise (RK O key)
 pend:(pendingOf st).toList.map (fun p=>(p.1,p.2.1))=offs segs 0
end
end PyProof.Rows
namespace L2
open PySem PySem.Spec PyProof.Rows
section
def sameBut(a:Addr)(h h':Heap):Prop:=∀ b o,b≠a->h.get? b=some o->h'.get? b=some o
end
end L2
namespace L2
open PySem PySem.Spec PyProof.Rows My
theorem ints_uniq:∀ {vs:List Value} {ns ms:List Int},IntsAre vs ns->IntsAre vs ms->ns=ms
 | _,_,_,.nil,.nil=>rfl
 | _,_,_,.cons n t h,.cons _ _ k=>by rw[ints_uniq h k]
end L2
namespace My
open PySem L2
abbrev lexS(a b:List Int):Prop:=HT.lexLt a b=true
theorem ζ08:∀(p a b:List Int),HT.lexLt (p++a) (p++b)=HT.lexLt a b
 | [],a,b=>rfl
 | x :: p,a,b=>by rw[ζζ25,ζζ25,HT.lexLt_cons,if_pos rfl,ζ08 p]
theorem ζZ7:∀ {s t:List Int} (a b:List Int),s.length=t.length->HT.lexLt s t=true->HT.lexLt (s++a) (t++b)=true
 | [],[],a,b,_,h=>by cases h
 | [],_ :: _,a,b,e,_=>by simp at e
 | _ :: _,[],a,b,e,_=>by simp at e
 | x :: s,y :: t,a,b,e,h=>by
  rw[HT.lexLt_cons]at h
  rw[ζζ25,ζζ25,HT.lexLt_cons]
  split
  ·rename_i q;rw[if_pos q]at h;exact ζZ7 a b (by simpa using e) h
  ·rename_i q;rw[if_neg q]at h;exact h
theorem ζ64(m:Int):∀ k,∀ l∈cmb m k,l.length=k
 | 0,l,h=>by rw[ζζ1.mp h];rfl
 | k+1,l,h=>by
  obtain⟨s,hs,hl⟩:=ζζ1A.mp h
  obtain⟨t,_,_,rfl⟩:=ext1_mem.mp hl
  rw[ζζ6,ζ64 m k s hs];rfl
theorem ζj8(m:Int):∀ k,(cmb m k).Pairwise lexS
 | 0=>ζζZ ..
 | k+1=>by
  show((cmb m k).flatMap (ext1 m)).Pairwise lexS
  rw[List.pairwise_flatMap]
  refine⟨fun s _=>?_,ζζ1f (fun {s t} hs ht hst=>?_) (ζj8 m k)⟩
  ·unfold ext1
   rw[ζζ1R]
   refine ζζ1q.imp fun {i j} hij=>?_
   show HT.lexLt _ _=true
   rw[ζ08,HT.lexLt_cons,if_neg (by omega)]
   exact ζζd (by omega)
  ·intro x hx y hy
   obtain⟨u,_,_,rfl⟩:=ext1_mem.mp hx
   obtain⟨v,_,_,rfl⟩:=ext1_mem.mp hy
   exact ζZ7 _ _ (by rw[ζ64 m k s hs,ζ64 m k t ht]) hst
theorem ζQ1{α:Type}[DecidableEq α]:∀ {l m:List α},l.Nodup->(∀ x∈l,x∈m)->l.length<=m.length
 | [],m,_,_=>ζζj _
 | x :: l,m,h,hs=>by
  obtain⟨h1,h2⟩:=ζζ0h.mp h
  have hx:=hs x ζζg
  have:=ζQ1 (l:=l) (m:=m.erase x) h2 fun y hy=>(List.mem_erase_of_ne (fun(e:y=x)=>h1 (e ▸ hy))).mpr (hs y (ζζk _ hy))
  rw[ζζ2Q hx]at this
  have:=ζζ21 hx
  rw[ζζq]
  omega
theorem ζp4{n:Int}{ps:List (Int × Int)}{T:List Int}{z:Int}(g:ζy n ps)(hT:ζd n ps T)(z0:0<=z)(z1:z<(ps.length:Int)):Conn (ζ6 ps (ζ910 n ps T z T)) (ζz ps z).1 (ζz ps z).2:=by
 have he:=ζg1 (z:=z) g z0 z1
 have key:∀ D:List Int,(∀ o∈D,o∈T/\z∉cutT n ps T o)->Conn (ζ6 ps (T.filter fun y=>decide (y∉D))) (ζz ps z).1 (ζz ps z).2:=by
  intro D
  induction D with
  | nil =>
   intro _
   have e:(T.filter fun y=>decide (y∉([]:List Int)))=T:=ζζ0S.mpr fun y _=>by simp
   rw[e]
   exact hT.2.2 _ _ he.1 he.2
  | cons o D ih =>
   intro hD
   have c:=ih fun y hy=>hD y (ζζk _ hy)
   obtain⟨hoT,hoc⟩:=hD o ζζg
   by_cases hoD:o∈D
   ·refine c.mono (ζu fun y hy=>?_)
    obtain⟨h1,h2⟩:=ζζm.mp hy
    have h2:=ζζs h2
    exact ζζm.mpr ⟨h1,ζζd fun h=>(ζζb.mp h).elim (fun e=>h2 (e ▸ hoD)) h2⟩
   ·refine ζζp fun hno=>?_
    have hsub:∀ y,y∈(T.filter fun y=>decide (y∉o :: D))->y∈wo T o:=fun y hy=>by
     obtain⟨h1,h2⟩:=ζζm.mp hy
     have h2:=ζζs h2
     exact wo_mem.mpr ⟨h1,fun e=>h2 (by rw[e];exact ζζg)⟩
    have c2:Conn (ζ6 ps ((T.filter fun y=>decide (y∉o :: D))++[o])) (ζz ps z).1 (ζz ps z).2:=(ζT fun y=>by
     rw[ζζ9,ζζm,ζζm,ζζ1]
     simp only [ζζ1r,ζζb,not_or]
     constructor
     ·rintro⟨h1,h2⟩
      by_cases e:y=o
      ·exact .inr e
      ·exact .inl ⟨h1,e,h2⟩
     ·rintro(⟨h1,_,h2⟩ | e)
      ·exact⟨h1,h2⟩
      ·rw[e];exact⟨hoT,hoD⟩).mp c
    have hall:∀ y∈(T.filter fun y=>decide (y∉o :: D)),0<=y/\y<(ps.length:Int):=fun y hy=>hT.1.all y (ζζm.mp hy).1
    obtain⟨o0,o1⟩:=hT.1.all o hoT
    have hin:InN n.toNat (ζ6 ps (T.filter fun y=>decide (y∉o :: D))):=ζO g hall
    have hin1:InN n.toNat (ζ6 ps ((T.filter fun y=>decide (y∉o :: D))++[o])):=ζO g fun y hy=>by
     rcases ζζ9.mp hy with h | h
     ·exact hall y h
     ·rw[ζζ1.mp h];exact⟨o0,o1⟩
    have hoe:=ζg1 (z:=o) g o0 o1
    have hl:=ζs n.toNat (ζ6 ps (T.filter fun y=>decide (y∉o :: D)))
    have own:¬ Conn (ζ6 ps (wo T o)) (ζz ps o).1 (ζz ps o).2:=(ζX g hT o0 o1).mp ((ζS4 g hT hoT hoT).mpr rfl)
    have cw:Conn (ζ6 ps (wo T o)) (ζz ps z).1 (ζz ps z).2:=ζζp fun h=>hoc ((ζX g hT z0 z1).mpr h)
    have up:∀ {i j:Nat},i<n.toNat->j<n.toNat->mk (lms n.toNat (ζ6 ps (T.filter fun y=>decide (y∉o :: D)))) i=mk (lms n.toNat (ζ6 ps (T.filter fun y=>decide (y∉o :: D)))) j->Conn (ζ6 ps (wo T o)) i j:=fun hi hj e=>((ζN hin hi hj).mp e).mono (ζu hsub)
    have m:=(ζN hin1 he.1 he.2).mpr c2
    rw[ζY,ζW,ζa6 (by omega) (by omega)]at m
    rcases m with m | ⟨m1,m2⟩
    ·exact hno ((ζN hin he.1 he.2).mp m)
    ·rcases m1 with m1 | m1 <;> rcases m2 with m2 | m2
     ·exact hno ((ζN hin he.1 he.2).mp (m1.trans m2.symm))
     ·exact own (((up he.1 hoe.1 m1).symm.trans cw).trans (up he.2 hoe.2 m2))
     ·exact own (((up he.2 hoe.1 m2).symm.trans cw.symm).trans (up he.1 hoe.2 m1))
     ·exact hno ((ζN hin he.1 he.2).mp (m1.trans m2.symm))
 have c:=key (T.filter fun y=>decide (z∉cutT n ps T y)) fun o ho=>by
  obtain⟨h1,h2⟩:=ζζm.mp ho
  exact⟨h1,ζζs h2⟩
 refine c.mono (ζu fun y hy=>?_)
 obtain⟨h1,h2⟩:=ζζm.mp hy
 have h2:=ζζs h2
 exact ringA_mem.mpr ⟨h1,ζζp fun h=>h2 (ζζm.mpr ⟨h1,ζζd h⟩)⟩
inductive WP (n:Int) (ps:List (Int × Int)) (W:List Int) (T0:List Int):List Int->List (Int × Int)->List Int->Prop
 | nil:WP n ps W T0 [] [] T0
 | skip {l:List Int} {ws:List (Int × Int)} {T:List Int} {z:Int}:WP n ps W T0 l ws T->z∈T->WP n ps W T0 (l++[z]) ws T
 | step {l:List Int} {ws:List (Int × Int)} {T T':List Int} {z o:Int}:WP n ps W T0 l ws T->z∉T->o∈ζ910 n ps T z T->o∉W->(∀ y∈ζ910 n ps T z T,y∉W->o<=y)->T'.Perm (wo T o++[z])->T'.Pairwise (·<=·)->WP n ps W T0 (l++[z]) (ws++[(o,z)]) T'
theorem ζf11{a b:List Int}(ha:a.Pairwise (· < ·))(hb:b.Pairwise (· < ·))(h:∀ z,z∈a↔z∈b):a=b :=
 (ζB2 ha hb fun z hz=>(h z).mp hz).eq_of_length (ζζ2I (ζB2 ha hb fun z hz=>(h z).mp hz).length_le (ζB2 hb ha fun z hz=>(h z).mpr hz).length_le)
theorem ζT4{xs:List V}{i:Int}(h0:0<=i):cutV xs (some i) none=xs.drop i.toNat:=by
 have e:HT.sIx xs.length 0 (some i)=min i.toNat xs.length:=by
  show(if i<0 then (i+(xs.length:Int)).toNat else min i.toNat xs.length)=_
  rw[if_neg (by omega)]
 unfold cutV
 rw[e,HT.sIx_none,ζζ06 (by rw[ζζ0A];exact ζζ5 _)]
 by_cases h:i.toNat<=xs.length
 ·rw[Nat.min_eq_left h]
 ·rw[Nat.min_eq_right (by omega),ζζ24 (ζζ5 _),ζζ24 (by omega)]
def dn(lo hi i:Int):Int:=if i=hi then lo else if i<hi then i else i - 1
theorem ζa10{n i:Nat}(h:i<n):(rgL n)[i]?=some (i:Int):=by
 unfold rgL
 rw[ζζh,ζζ0a h]
 rfl
theorem ζO8(i:Nat):rgL (i+1)=rgL i++[(i:Int)]:=by unfold rgL;rw[ζζ0O,ζζA];rfl
end My
namespace L2
open PySem PySem.Spec PyProof.Rows
section
variable{X:Cx}
def rIxQ(K:PySem.W.Frag):R2:=fun x y H Q=>∃(k:Bool) (p:Addr) (xs:List V) (i:Int) (v:V),x=.ref p/\y=.int i/\My.SqK k K H p xs/\atI xs i=some v/\Q v H
theorem ζE4(K:PySem.W.Frag)(h:X.K=K:=by rfl):IxR X (rIxQ K):=by
 intro value slice pins s σ H x y v u Q I rx ry h1 hs
 obtain⟨k,p,xs,i,z,e1,e2,hq,he,q⟩:=h1
 cases k with
 | false=>exact ζc K h value slice pins s σ H x y v u Q I rx ry ⟨p,xs,i,z,e1,e2,hq,he,q⟩ hs
 | true=>exact ζE K h value slice pins s σ H x y v u Q I rx ry ⟨p,xs,i,z,e1,e2,hq,he,q⟩ hs
end
theorem ζa5{N a b:St->Hp->Prop}{r:VK}{σ:St}{H:Hp}(h:N σ H):Ends.nx { nx:=N,rt:=r,bk:=a,ct:=b } σ H:=h
end L2
namespace My
theorem len1{α:Type}{l:List α}(h:l.length=1):∃ a,l=[a]:=by
 cases l with
 | nil=>cases h
 | cons a l=>cases l with
  | nil=>exact⟨a,rfl⟩
  | cons b l=>simp at h
theorem len2{α:Type}{l:List α}(h:l.length=2):∃ a b,l=[a,b]:=by
 cases l with
 | nil=>cases h
 | cons a l =>
  obtain⟨b,rfl⟩:=len1 (ζζ1k h)
  exact⟨a,b,rfl⟩
theorem len3{α:Type}{l:List α}(h:l.length=3):∃ a b c,l=[a,b,c]:=by
 cases l with
 | nil=>cases h
 | cons a l =>
  obtain⟨b,c,rfl⟩:=len2 (ζζ1k h)
  exact⟨a,b,c,rfl⟩
theorem len4{α:Type}{l:List α}(h:l.length=4):∃ a b c d,l=[a,b,c,d]:=by
 cases l with
 | nil=>cases h
 | cons a l =>
  obtain⟨b,c,d,rfl⟩:=len3 (ζζ1k h)
  exact⟨a,b,c,d,rfl⟩
end My
namespace My
open PySem L2
theorem ζN4{l:List Int}{f:Int->Bool}{i:Nat}{y:Int}(h:l[i]?=some y):(l.take (i+1)).filter f=(l.take i).filter f++(if f y=true then [y] else []):=by
 rw[ζζK,h,ζζV]
 congr 1
 by_cases e:f y=true
 ·rw[if_pos e];show List.filter _ [y]=_;rw[ζζJ,if_pos e];rfl
 ·rw[if_neg e];show List.filter _ [y]=_;rw[ζζJ,if_neg e];rfl
end My
namespace L2
open PySem PySem.Spec PyProof.Rows
section
variable{X:Cx}
def ζF12:R2:=fun x y H Q=>∃ a b xs ys,x=.ref a/\y=.ref b/\H a=some (.tup xs)/\H b=some (.tup ys)/\xs.length+ys.length<=sizeLine/\∀(r:Addr) (H':Hp),Same H H'->H' r=some (.tup (xs++ys))->Q (.ref r) H'
theorem ζr10(K:PySem.W.Frag)(hk:X.K=K:=by rfl):OpR X (binaryOp .Add) ζF12:=by
 intro pins s σ H x y v u Q I rx ry h
 obtain⟨a,b,xs,ys,e1,e2,ha,hb,hz,q⟩:=h
 refine ζy4 K hk pins s σ H x y v u Q I rx ry ⟨a,b,xs,ys,e1,e2,SqT.of ha,SqT.of hb,hz,fun hx=>?_,fun _ hy=>?_,fun _ _ p hp=>q p _ (My.same_at hp) ζ1⟩
 ·subst hx
  exact q b H (Same.refl H) hb
 ·subst hy
  exact q a H (Same.refl H) (by rw[ζζ04];exact ha)
end
end L2
namespace My
open PySem L2
theorem Conn.lift{es fs:List (Nat × Nat)}(h:∀ e∈es,Conn fs e.1 e.2){i j:Nat}(c:Conn es i j):Conn fs i j:=by
 induction c with
 | refl i=>exact .refl i
 | edge e=>exact h _ e
 | symm _ ih=>exact ih.symm
 | trans _ _ ih1 ih2=>exact ih1.trans ih2
theorem ζe2{n:Int}{ps:List (Int × Int)}{T W:List Int}{z:Int}(g:ζy n ps)(hT:ζd n ps T)(hW:ζd n ps W)(hz:z∈T)(hzW:z∉W):∃ y,exg n ps T z y/\exg n ps W y z:=by
 obtain⟨z0,z1⟩:=hT.1.all z hz
 refine ζζp fun hno=>?_
 refine(ζX g hT z0 z1).mp ((ζS4 g hT hz hz).mpr rfl) ((ζp4 g hW z0 z1).lift fun e he=>?_)
 unfold ζ6 at he
 obtain⟨y,hy,rfl⟩:=ζζx.mp he
 obtain⟨hyW,hyc⟩:=ringA_mem.mp hy
 obtain⟨y0,y1⟩:=hW.1.all y hyW
 have hyz:y≠z:=fun e=>hzW (e ▸ hyW)
 have:=(ζX (o:=z) g hT y0 y1)
 exact ζζp fun h=>hno ⟨y,⟨hz,hyz,this.mpr h⟩,⟨hyW,ζζY hyz,hyc⟩⟩
theorem ζ93(l:List Int):∃ m:List Int,m.Perm l/\m.Pairwise (·<=·):=by
 induction l with
 | nil=>exact⟨[],.refl _,.nil⟩
 | cons x l ih =>
  obtain⟨m,h1,h2⟩:=ih
  have key:∀ m:List Int,m.Pairwise (·<=·)->∃ k:List Int,k.Perm (x :: m)/\k.Pairwise (·<=·):=by
   intro m
   induction m with
   | nil=>intro _;exact⟨[x],.refl _,ζζZ _ _⟩
   | cons y m ih2 =>
    intro hp
    obtain⟨hy,hm⟩:=ζζ0d.mp hp
    by_cases hxy:x<=y
    ·refine⟨x :: y :: m,.refl _,ζζ0d.mpr ⟨fun z hz=>?_,hp⟩⟩
     rcases ζζb.mp hz with e | e
     ·rw[e];exact hxy
     ·exact Int.le_trans hxy (hy z e)
    ·obtain⟨k,k1,k2⟩:=ih2 hm
     refine⟨y :: k,(k1.cons y).trans (List.Perm.swap x y m),ζζ0d.mpr ⟨fun z hz=>?_,k2⟩⟩
     rcases ζζb.mp (k1.mem_iff.mp hz) with e | e
     ·rw[e];omega
     ·exact hy z e
  obtain⟨k,k1,k2⟩:=key m h2
  exact⟨k,k1.trans (h1.cons x),k2⟩
end My
namespace L2
open PySem PySem.Spec PyProof.Rows
section
variable{X:Cx}
theorem ζo5 (K:PySem.W.Frag) (hk:X.K=K:=by rfl):ζI1 X (.type "tuple") (fun xs H Q=>∃(p:Addr) (ys:List V),xs=[.ref p]/\(H p=some (.tup ys)\/SqL K H p ys)/\∀(r:Addr) (H':Hp),Same H H'->H' r=some (.tup ys)->Q (.ref r) H'):=by
 intro pins s σ H xs us Q I r h
 obtain⟨p,ys,rfl,hq,q⟩:=h
 refine ζJ K hk pins s σ H _ us Q I r ⟨p,ys,rfl,?_⟩
 rcases hq with hq | hq
 ·exact .inr ⟨SqT.of hq,q p H (Same.refl H) hq⟩
 ·exact .inl ⟨hq,fun l hl=>q l _ (My.same_at hl) ζ1⟩
end
end L2
namespace My
open PySem L2
inductive Wk (n:Int) (ps:List (Int × Int)) (T0:List Int):List (Int × Int)->List Int->Prop
 | nil:Wk n ps T0 [] T0
 | step {ws:List (Int × Int)} {T T':List Int} {o z:Int}:Wk n ps T0 ws T->exg n ps T o z->T'.Perm (wo T o++[z])->T'.Pairwise (·<=·)->Wk n ps T0 (ws++[(o,z)]) T'
theorem ζs3{n:Int}{ps:List (Int × Int)}{U:List Int}(g:ζy n ps)(hU:ζd n ps U):∀ V:List Int,V.Nodup->(∀ z∈V,z∈U)->grw n.toNat ps V=V:=by
 refine ζ01 (fun _ _=>rfl) fun V z ih hn hs=>?_
 have hn':=ζζ0c.mp hn
 have hV:∀ y∈V,y∈U:=fun y hy=>hs y (ζζo _ hy)
 have hz:z∈U:=hs z (ζζc _ (ζζ1.mpr rfl))
 have hzV:z∉V:=fun h=>hn'.2.2 z h z (ζζ1.mpr rfl) rfl
 obtain⟨z0,z1⟩:=hU.1.all z hz
 have he:=ζg1 (z:=z) g z0 z1
 rw[ζc1,ih hn'.1 hV]
 unfold gst
 rw[if_neg]
 intro e
 have c:=(ζN (ζO g fun y hy=>hU.1.all y (hV y hy)) he.1 he.2).mp e
 exact(ζX g hU z0 z1).mp ((ζS4 g hU hz hz).mpr rfl) (c.mono (ζu fun y hy=>wo_mem.mpr ⟨hV y hy,fun e'=>hzV (by rw[<- e'];exact hy)⟩))
theorem ζr9{n:Int}{ps:List (Int × Int)}{as bs:List Int}{z:Int}(g:ζy n ps)(h:∀ y∈as,0<=y/\y<(ps.length:Int))(z0:0<=z)(z1:z<(ps.length:Int))(hz:z∉grw n.toNat ps (as++z :: bs)):Conn (ζ6 ps (grw n.toNat ps as)) (ζz ps z).1 (ζz ps z).2:=by
 obtain⟨us,e,_⟩:=ζH4 n.toNat ps (as++[z]) bs
 rw[ζζ02]at e
 have e:grw n.toNat ps (as++z :: bs)=grw n.toNat ps (as++[z])++us:=e
 rw[e,ζc1]at hz
 have he:=ζg1 (z:=z) g z0 z1
 refine(ζN (ζ14 g h) he.1 he.2).mp (ζζp fun hne=>hz ?_)
 unfold gst
 rw[if_neg hne]
 exact ζζo _ (ζζc _ (ζζ1.mpr rfl))
theorem ζq9{n:Nat}{ps:List (Int × Int)}{as bs:List Int}{y:Int}(h:y∈grw n ps as):y∈grw n ps (as++bs):=by
 obtain⟨us,e,_⟩:=ζH4 n ps as bs
 rw[e]
 exact ζζo _ h
def Fr(n:Nat)(ps:List (Int × Int))(l:List Int):Bool:=decide (grw n ps l=l)
def frs(n:Nat)(ps:List (Int × Int))(k:Nat):List (List Int):=(cmb (ps.length:Int) k).filter (Fr n ps)
theorem ζt9{n:Int}{ps:List (Int × Int)}(g:ζy n ps){l:List Int}:l∈frs n.toNat ps (n - 1).toNat↔ζd n ps l:=by
 unfold frs
 rw[ζζm,cmb_mem]
 have g1:=g.1
 constructor
 ·rintro⟨⟨h1,h2⟩,h3⟩
  have e:grw n.toNat ps l=l:=ζζs h3
  have c:=ζt3 g l h2.all
  rw[e]at c
  exact⟨h2,by omega,(ζ31 (by omega) (ζO g h2.all)).mp (by omega)⟩
 ·intro h
  exact⟨⟨by have:=h.2.1;omega,h.1⟩,ζζd (ζs3 g h l h.1.nodup fun z hz=>hz)⟩
theorem ζr8{f:Int->Int}{a b:List Int}(h:a.Perm b):(a.map f).sum=(b.map f).sum:=by
 induction h with
 | nil=>rfl
 | cons x _ ih=>rw[ζζF,ζζF,ζζ0f,ζζ0f,ih]
 | swap x y l=>rw[ζζF,ζζF,ζζF,ζζF,ζζ0f,ζζ0f,ζζ0f,ζζ0f];omega
 | trans _ _ i1 i2=>exact i1.trans i2
theorem ζq11{l:List Int}{o:Int}(h:o∉l):wo l o=l:=ζζ0S.mpr fun y hy=>ζζd fun e=>h (e ▸ hy)
theorem ζy11{f:Int->Int}{o:Int}:∀ {l:List Int},l.Nodup->o∈l->((wo l o).map f).sum+f o=(l.map f).sum:=by
 intro l
 induction l with
 | nil=>intro _ h;cases h
 | cons x l ih =>
  intro hn ho
  obtain⟨hx,hn⟩:=ζζ0h.mp hn
  by_cases e:x=o
  ·subst e
   have h1:wo (x :: l) x=l:=by
    have h2:wo (x :: l) x=wo l x:=ζζ0r (by simp)
    rw[h2,ζq11 hx]
   rw[h1,ζζF,ζζ0f]
   omega
  ·have h2:wo (x :: l) o=x :: wo l o:=ζζ0q (ζζd e)
   have hm:o∈l:=by
    rcases ζζb.mp ho with h | h
    ·exact absurd h.symm e
    ·exact h
   have:=ih hn hm
   rw[h2,ζζF,ζζ0f,ζζF,ζζ0f]
   omega
theorem ζF7{f:Int->Int}{T m:List Int}{o z:Int}(hn:T.Nodup)(ho:o∈T)(h:m.Perm (wo T o++[z])):(m.map f).sum+f o=(T.map f).sum+f z:=by
 have h1:=ζy11 (f:=f) hn ho
 rw[ζr8 h,ζζA,List.sum_append]
 show _+(f z+0)+_=_
 omega
theorem ζu7{p q:Int->Bool}{x:Int}:∀ {l:List Int},(∀ y∈l,p y=true->q y=true)->x∈l->q x=true->p x=false->(l.filter p).length<(l.filter q).length:=by
 intro l
 induction l with
 | nil=>intro _ h;cases h
 | cons y l ih =>
  intro h hx hq hp
  have h':∀ y∈l,p y=true->q y=true:=fun z hz=>h z (ζζk _ hz)
  have le:(l.filter p).length<=(l.filter q).length:=by
   have e:l.filter p=(l.filter q).filter p:=by
    rw[List.filter_filter]
    refine ζζ1T fun z hz=>?_
    cases e:p z with
    | false=>rfl
    | true=>rw[h' z hz e];rfl
   rw[e]
   exact ζζ0n ..
  rcases ζζb.mp hx with e | e
  ·subst e
   rw[ζζ0r (by rw[hp];decide),ζζ0q hq,ζζq]
   omega
  ·have:=ih h' e hq hp
   rw[ζζJ,ζζJ]
   cases e1:p y with
   | true =>
    rw[h y (ζζg ..) e1]
    show(List.filter p l).length+1<(List.filter q l).length+1
    omega
   | false =>
    cases q y with
    | true=>show(List.filter p l).length<(List.filter q l).length+1;omega
    | false=>exact this
theorem ζJ1{n:Int}{ps:List (Int × Int)}{T:List Int}(hT:ζd n ps T):T.Pairwise (· < ·):=(isSet_iff.mp hT.1).2
theorem ζ15{T:List Int}(h:T.Pairwise (· < ·)):T.Nodup:=h.imp fun h e=>by omega
theorem ζr7{n:Int}{ps:List (Int × Int)}{T:List Int}(f:Int->Int)(g:ζy n ps)(hT:ζd n ps T):(∀ o z,exg n ps T o z->f o<=f z)↔∀ W,ζd n ps W->(T.map f).sum<=(W.map f).sum:=by
 constructor
 ·intro h
  have key:∀(k:Nat) (W:List Int),ζd n ps W->(T.filter fun y=>decide (y∉W)).length<=k->(T.map f).sum<=(W.map f).sum:=by
   intro k
   induction k with
   | zero =>
    intro W hW hk
    have he:=ζζ23.mp (List.eq_nil_of_length_eq_zero (Nat.le_zero.mp hk))
    have hs:=ζB2 (ζJ1 hT) (ζJ1 hW) fun y hy=>by
     have:=he y hy
     simpa using this
    rw[hs.eq_of_length (by have:=hT.2.1;have:=hW.2.1;omega)]
    exact ζζ0L _
   | succ k ih =>
    intro W hW hk
    by_cases hz:∃ z,z∈T/\z∉W
    ·obtain⟨z,hz,hzW⟩:=hz
     obtain⟨y,x1,x2⟩:=ζe2 g hT hW hz hzW
     obtain⟨m,h1,h2⟩:=ζ93 (wo W y++[z])
     have hm:=ζP1 g hW x2 h1 h2
     have hyT:=((ζx3 g hT).mp x1).2.1
     have e:=ζF7 (f:=f) (ζ15 (ζJ1 hW)) x2.1 h1
     have hzm:z∈m:=h1.mem_iff.mpr (ζζc _ (ζζ1.mpr rfl))
     have hl:(T.filter fun y=>decide (y∉m)).length<(T.filter fun y=>decide (y∉W)).length:=by
      refine ζu7 (x:=z) (fun x hx hp=>?_) hz (ζζd hzW) (ζζE fun h=>h hzm)
      refine ζζd fun hxW=>(ζζs hp) (h1.mem_iff.mpr (ζζo _ (wo_mem.mpr ⟨hxW,fun e=>hyT (e ▸ hx)⟩)))
     have i:=ih m hm (by omega)
     have:=h z y x1
     omega
    ·refine ih W hW ?_
     have:(T.filter fun y=>decide (y∉W))=[]:=ζζ23.mpr fun y hy hd=>hz ⟨y,hy,ζζs hd⟩
     rw[this]
     exact ζζj _
  exact fun W hW=>key _ W hW (ζζ5 _)
 ·intro h o z hx
  obtain⟨m,h1,h2⟩:=ζ93 (wo T o++[z])
  have hm:=h m (ζP1 g hT hx h1 h2)
  have e:=ζF7 (f:=f) (ζ15 (ζJ1 hT)) hx.1 h1
  omega
def gnB(ls:List Int)(p:Int × Int):Bool:=decide (ls.getD p.2.toNat 0<ls.getD p.1.toNat 0)
def gns(n:Int)(ps:List (Int × Int))(ls ts:List Int):List (Int × Int):=(exs n ps ts ts).filter (gnB ls)
theorem ζo6{n:Int}{ps:List (Int × Int)}{ls ts:List Int}(g:ζy n ps)(hT:ζd n ps ts):gns n ps ls ts=[]↔∀ W,ζd n ps W->(ts.map fun z=>ls.getD z.toNat 0).sum<=(W.map fun z=>ls.getD z.toNat 0).sum:=by
 rw[<- ζr7 (fun z=>ls.getD z.toNat 0) g hT]
 constructor
 ·intro h o z hx
  refine ζζp fun hc=>?_
  have hm:(o,z)∈gns n ps ls ts:=ζζm.mpr ⟨ζζ1A.mpr ⟨o,hx.1,ζζx.mpr ⟨z,wo_mem.mpr ⟨hx.2.2,hx.2.1⟩,rfl⟩⟩,ζζd (by show ls.getD z.toNat 0<ls.getD o.toNat 0;omega)⟩
  rw[h]at hm
  cases hm
 ·intro h
  refine List.eq_nil_iff_forall_not_mem.mpr fun p hp=>?_
  obtain⟨h1,h2⟩:=ζζm.mp hp
  obtain⟨o',ho,h3⟩:=ζζ1A.mp h1
  obtain⟨z',hz,rfl⟩:=ζζx.mp h3
  obtain⟨h4,h5⟩:=wo_mem.mp hz
  have h6:=h o' z' ⟨ho,h5,h4⟩
  have h7:ls.getD z'.toNat 0<ls.getD o'.toNat 0:=ζζs h2
  omega
theorem srt_strict{a:List Int}(h:a.Pairwise (·<=·))(hn:a.Nodup):a.Pairwise (· < ·):=(h.and hn).imp fun h=>by have:=h.1;have:=h.2;omega
theorem ζU2{n:Int}{ps:List (Int × Int)}(g:ζy n ps):∀ zs:List Int,(∀ z∈zs,0<=z/\z<(ps.length:Int))->(grw n.toNat ps zs).Nodup:=by
 refine ζ01 (fun _=>List.Pairwise.nil) fun zs z ih hb=>?_
 have hb':∀ y∈zs,0<=y/\y<(ps.length:Int):=fun y hy=>hb y (ζζo _ hy)
 obtain⟨z0,z1⟩:=hb z (ζζc _ (ζζ1.mpr rfl))
 have he:=ζg1 (z:=z) g z0 z1
 rw[ζc1]
 unfold gst
 split
 ·exact ih hb'
 ·next hne =>
  refine ζζ0c.mpr ⟨ih hb',by simp,fun a ha b hbb e=>?_⟩
  rw[ζζ1.mp hbb]at e
  subst e
  refine hne ((ζN (ζ14 g hb') he.1 he.2).mpr (.edge ?_))
  exact ζζx.mpr ⟨a,ha,rfl⟩
theorem ζh5{n:Int}{ps:List (Int × Int)}{zs ms:List Int}(g:ζy n ps)(hb:∀ z∈zs,0<=z/\z<(ps.length:Int))(hl:¬ ((grw n.toNat ps zs).length:Int)<n - 1)(hpm:ms.Perm (grw n.toNat ps zs))(hpw:ms.Pairwise (·<=·)):ζd n ps ms:=by
 have g1:=g.1
 have h2:=ζt3 g zs hb
 have h3:=ζD6 (M:=lms n.toNat (ζ6 ps (grw n.toNat ps zs))) (by rw[ζs];omega)
 have hcov:=(ζ31 (by omega) (ζ14 g hb)).mp (by omega)
 refine⟨isSet_iff.mpr ⟨fun z hz=>hb z ((ζx2 _ _ _).subset (hpm.mem_iff.mp hz)),srt_strict hpw (hpm.nodup_iff.mpr (ζU2 g zs hb))⟩,by rw[hpm.length_eq];omega,fun i j hi hj=>?_⟩
 exact(ζT fun y=>hpm.mem_iff).mpr (hcov i j hi hj)
theorem ζQ10{n:Int}{ps:List (Int × Int)}{I os U:List Int}(g:ζy n ps)(hU:ζd n ps U)(hI:I.Nodup)(hIU:∀ z∈I,z∈U)(hUo:∀ z∈U,z∈I++os)(hb:∀ z∈I++os,0<=z/\z<(ps.length:Int)):(grw n.toNat ps (I++os)).take I.length=I/\¬ ((grw n.toNat ps (I++os)).length:Int)<n - 1:=by
 have g1:=g.1
 obtain⟨us,e,_⟩:=ζH4 n.toNat ps I os
 rw[ζs3 g hU I hI hIU]at e
 refine⟨by rw[e,List.take_left],?_⟩
 have hcov:∀ i j,i<n.toNat->j<n.toNat->Conn (ζ6 ps (grw n.toNat ps (I++os))) i j:=fun i j hi hj=>ζi6 g _ hb ((hU.2.2 i j hi hj).mono (ζu hUo))
 have h1:=(ζ31 (by omega) (ζ14 g hb)).mpr hcov
 have h2:=ζt3 g (I++os) hb
 omega
def TC(n:Int)(ps:List (Int × Int))(c:Nat):Prop:=∃ L:List (List Int),L.Nodup/\(∀ l,l∈L↔ζd n ps l)/\L.length=c
theorem Bears.app{α:Type}[DecidableEq α]{R:V->α->Prop}{xs ys:List V}{l m:List α}(h:Bears R xs l)(h2:Bears R ys m):Bears R (xs++ys) (l++m):=by
 refine⟨by rw[ζζ6,ζζ6,h.1,h2.1],fun i a e=>?_⟩
 have hl:=h.1
 by_cases c:i<l.length
 ·rw[ζζI c]at e
  obtain⟨x,e1,r⟩:=h.2 i a e
  exact⟨x,by rw[ζζI (by omega)];exact e1,r⟩
 ·rw[ζζz (by omega)]at e
  obtain⟨x,e1,r⟩:=h2.2 _ a e
  exact⟨x,by rw[ζζz (by omega),hl];exact e1,r⟩
theorem PairsV.set{H:Hp}{xs:List V}{ps:List (Int × Int)}{v:V}{p:Int × Int}(h:PairsV H xs ps)(i:Nat)(q:PairV H v p):PairsV H (xs.set i v) (ps.set i p):=by
 refine⟨by rw[ζζ0P,ζζ0P];exact h.1,fun j x e=>?_⟩
 have hl:=h.1
 by_cases c:i=j
 ·subst c
  rw[ζζ1S]at e
  rw[if_pos rfl]at e
  by_cases hlt:i<ps.length
  ·rw[if_pos hlt]at e
   obtain rfl:=ζζ8 e
   exact⟨v,by rw[ζζ1S,if_pos rfl,if_pos (by omega)],q⟩
  ·rw[if_neg hlt]at e
   cases e
 ·rw[ζζ1S,if_neg c]at e
  obtain⟨w,e1,r⟩:=h.2 j x e
  exact⟨w,by rw[ζζ1S,if_neg c];exact e1,r⟩
end My
namespace L2
open PySem PySem.Spec PyProof.Rows
def Itz(K:PySem.W.Frag)(a b:Addr):It :=
 ⟨fun i H=>∃ xs ys x y,SqL K H a xs/\SqL K H b ys/\xs[i]?=some x/\ys[i]?=some y,fun i H v H'=>∃ T x y,H T=none/\v=.ref T/\H'=upd H T (.tup [x,y])/\(∀ xs,SqL K H a xs->xs[i]?=some x)/\∀ ys,SqL K H b ys->ys[i]?=some y,
  fun i H=>∃ xs ys,SqL K H a xs/\SqL K H b ys/\(xs.length<=i\/ys.length<=i)⟩
theorem ζp8{P:Program}{w:World}{K:PySem.W.Frag}{elts:List Expr}{x1:Nat}{pos:Pos}(a b z TI TO i1 i2:Addr)(D:ZipApart z TI TO i1 i2 a b) :
  Turn P w K (.Tuple elts x1 pos) (Itz K a b) [z,TI,TO,i1,i2] z (fun i h=>IsZip h z TI TO .none/\IsPair h TI (.ref i1) (.ref i2)/\(∃ c d,IsPair h TO c d)/\h.IsListIter i1 a i/\h.IsListIter i2 b i) where
 mem:=by simp
 obj:=fun i h st c hc=>by
  obtain⟨hz,hTI,⟨u,v,hTO⟩,⟨o1,e1,_,d1⟩,⟨o2,e2,_,d2⟩⟩:=st
  have hc':c=z\/c=TI\/c=TO\/c=i1\/c=i2:=by simpa using hc
  rcases hc' with rfl | rfl | rfl | rfl | rfl
  ·exact⟨_,hz,fun v q=>by
    have q':Data.fields _=Data.cell v:=q
    cases q'⟩
  ·exact⟨_,hTI,fun v q=>by
    have q':Data.seq _ _=Data.cell v:=q
    cases q'⟩
  ·exact⟨_,hTO,fun v q=>by
    have q':Data.seq _ _=Data.cell v:=q
    cases q'⟩
  ·exact⟨o1,e1,fun v q=>by rw[d1]at q;cases q⟩
  ·exact⟨o2,e2,fun v q=>by rw[d2]at q;cases q⟩
 keep:=fun i h h' st k=>by
  obtain⟨hz,hTI,⟨u,v,hTO⟩,h1,h2⟩:=st
  exact⟨k z (by simp) _ hz,k TI (by simp) _ hTI,⟨u,v,k TO (by simp) _ hTO⟩,h1.at fun o e=>k i1 (by simp) o e,h2.at fun o e=>k i2 (by simp) o e⟩
 item:=by
  intro X hP hw hK hc i pins s σ H E I hf st hg
  subst hP hw hK
  obtain⟨xs,ys,x,y,hq,hq2,hx,hy⟩:=hg
  obtain⟨hz,hTI,⟨u0,v0,hTO⟩,h1,h2⟩:=st
  obtain⟨its,rv,p,_⟩:=I.list hq
  obtain⟨u,hu,ru⟩:=rv.get hx
  obtain⟨its2,rv2,p2,_⟩:=I.list hq2
  obtain⟨v,hv,rv'⟩:=rv2.get hy
  have fz:=hf z (by simp)
  have fTO:=hf TO (by simp)
  have fi1:=hf i1 (by simp)
  have fi2:=hf i2 (by simp)
  have hT0:H s.heap.objs.size=none:=I.hok.fresh (ζζ5 _)
  refine wpAny_pyNext_zip_item D hz hTI hTO h1 h2 p.isList p2.isList (x:=u) (y:=v) (by simpa using hu) (by simpa using hv) fun h' a1 a2 a3 a4 a5 hsz hk=>?_
  have ltT:∀ b ob,s.heap.get? b=some ob->b≠s.heap.objs.size:=fun b ob z=>ζζr (ζζn z)
  have ltH:∀ b ob,H b=some ob->b≠s.heap.objs.size:=fun b ob z=>ζζr (I.hok.lt z)
  have nof:∀ c ob,H c=some ob->c≠z/\c≠TO/\c≠i1/\c≠i2:=fun c ob q=>⟨fun e=>(by rw[e,fz.1]at q;cases q),fun e=>(by rw[e,fTO.1]at q;cases q),fun e=>(by rw[e,fi1.1]at q;cases q),fun e=>(by rw[e,fi2.1]at q;cases q)⟩
  have hkc:∀ c o,c∉[z,TO,i1,i2]->s.heap.get? c=some o->h'.get? c=some o:=fun c o hcx q=>hk c o (fun e=>hcx (by simp[e])) (fun e=>hcx (by simp[e])) (fun e=>hcx (by simp[e])) (fun e=>hcx (by simp[e])) q
  have I1:Inv X pins σ (upd H s.heap.objs.size (.tup [x,y])) { s with heap:=h' }:=by
   refine I.step (g':=s.gens) (d':=s.drawn) (t':=s.toks) (ch:=[z,TO,i1,i2]) (fun c hb=>?_) (fun c o _ _ hcx q _=>hkc c o hcx q) (fun c o _ _ hcx q _=>⟨o.slots,hkc c o hcx q⟩)
    (fun c o _ q n=>by rw[ζ9 (ltT c o q)];exact n) (fun c o hcx q=>⟨o,hkc c o hcx q⟩) (fun c ys q=>by rw[ζ9 (ltH c _ q)];exact q) (fun c o v q=>by rw[ζ9 (ltH c _ q)];exact q)
    (fun c ps q=>⟨#[],by rw[ζ9 (ltH c _ q),q];simp⟩) (fun m hm=>?_) (fun c v' q=>?_) I.bare
   ·have hc':c=z\/c=TO\/c=i1\/c=i2:=by simpa using hb
    rcases hc' with rfl | rfl | rfl | rfl
    ·exact⟨fz.2.2.2.1,fz.2.1,fz.2.2.2.2.1,fz.2.2.2.2.2⟩
    ·exact⟨fTO.2.2.2.1,fTO.2.1,fTO.2.2.2.2.1,fTO.2.2.2.2.2⟩
    ·exact⟨fi1.2.2.2.1,fi1.2.1,fi1.2.2.2.2.1,fi1.2.2.2.2.2⟩
    ·exact⟨fi2.2.2.2.1,fi2.2.1,fi2.2.2.2.2.1,fi2.2.2.2.2.2⟩
   ·obtain⟨o,es,ep,ho',r⟩:=hm
    exact⟨o,es,ep,hk _ o (ζζY fz.2.1) (ζζY fTO.2.1) (ζζY fi1.2.1) (ζζY fi2.2.1) ho',r⟩
   ·by_cases hb:c=s.heap.objs.size
    ·subst hb
     rw[ζ1]at q
     cases q
     exact⟨by show 2<=sizeLine;decide,[u,v],.cons ru (.cons rv' .nil),⟨_,a5,rfl,_,rfl⟩⟩
    ·rw[ζ9 hb]at q
     refine(I.hok c v' q).stay (fun e w' hc' q'=>?_) (fun e q=>by rw[ζ9 (ltH e _ q)];exact q) fun e ys q=>by rw[ζ9 (ltH e _ q)];exact q
     rcases hc' with rfl | hc'
     ·have:=nof e _ q
      exact hk e w' this.1 this.2.1 this.2.2.1 this.2.2.2 q'
     ·have:=nof e _ hc'
      exact hk e w' this.1 this.2.1 this.2.2.1 this.2.2.2 q'
  refine⟨_,rfl,wpAny_letOwnedTupleGo_zip a1 fun h2 hz2 hs2=>?_⟩
  have fT:z≠s.heap.objs.size:=ltT z _ hz
  have I2:Inv X pins σ (upd H s.heap.objs.size (.tup [x,y])) { s with heap:=h2 }:=Inv.turned (s:={ s with heap:=h' }) (h':=h2) (t':=s.toks) (it:=z) I1 (fun b o hb q=>hs2.extBut b o hb q) (by rw[ζ9 fT];exact fz.1) fz.2.1 fz.2.2.2.1 fz.2.2.2.2.1 fz.2.2.2.2.2
  refine⟨.ref s.heap.objs.size,_,I2,rfl,⟨_,x,y,hT0,rfl,rfl,fun ys hy'=>by rw[I.list_inj hy' hq];exact hx,fun ys hy'=>by rw[I.list_inj hy' hq2];exact hy⟩,
   ⟨hz2,hs2.extBut _ _ D.TIz (hkc _ _ (by have:=D.TIz;have:=D.TITO;have:=D.TIi1;have:=D.TIi2;simp;exact⟨D.TIz,D.TITO,D.TIi1,D.TIi2⟩) hTI),⟨u,v,hs2.extBut _ _ D.TOz a2⟩,a3.at fun o q=>hs2.extBut i1 o D.i1z q,a4.at fun o q=>hs2.extBut i2 o D.i2z q⟩,fun c hc=>?_⟩
  have hc':c=z\/c=TI\/c=TO\/c=i1\/c=i2:=by simpa using hc
  have hn:=(hf c hc).1
  rcases hc' with rfl | rfl | rfl | rfl | rfl
  ·rw[ζ9 fT];exact hn
  ·rw[ζ9 (ltT _ _ hTI)];exact hn
  ·rw[ζ9 (ltT _ _ hTO)];exact hn
  ·obtain⟨o,eo,_⟩:=h1
   rw[ζ9 (ltT _ o eo)];exact hn
  ·obtain⟨o,eo,_⟩:=h2
   rw[ζ9 (ltT _ o eo)];exact hn
 done:=by
  intro X hP hw hK hc i pins s σ H E I hf st hg
  subst hP hw hK
  obtain⟨xs,ys,hq,hq2,hend⟩:=hg
  obtain⟨hz,hTI,⟨u0,v0,hTO⟩,h1,h2⟩:=st
  obtain⟨its,rv,p,_⟩:=I.list hq
  obtain⟨its2,rv2,p2,_⟩:=I.list hq2
  have l1:=rv.length
  have l2:=rv2.length
  have fz:=hf z (by simp)
  have fTO:=hf TO (by simp)
  have fi1:=hf i1 (by simp)
  have fi2:=hf i2 (by simp)
  refine wpAny_pyNext_zip_end (I.ok.hd hc) D hz hTI hTO h1 h2 p.isList p2.isList (by
   rcases hend with e | e
   ·exact .inl (by simp;omega)
   ·exact .inr (by simp;omega)) fun h' hk=>⟨rfl,?_⟩
  have hkc:∀ c o,c∉[z,TO,i1,i2]->s.heap.get? c=some o->h'.get? c=some o:=fun c o hcx q=>hk c o (fun e=>hcx (by simp[e])) (fun e=>hcx (by simp[e])) (fun e=>hcx (by simp[e])) (fun e=>hcx (by simp[e])) q
  have nof:∀ c ob,H c=some ob->c≠z/\c≠TO/\c≠i1/\c≠i2:=fun c ob q=>⟨fun e=>(by rw[e,fz.1]at q;cases q),fun e=>(by rw[e,fTO.1]at q;cases q),fun e=>(by rw[e,fi1.1]at q;cases q),fun e=>(by rw[e,fi2.1]at q;cases q)⟩
  refine I.step (g':=s.gens) (d':=s.drawn) (t':=s.toks) (ch:=[z,TO,i1,i2]) (fun c hb=>?_) (fun c o _ _ hcx q _=>hkc c o hcx q) (fun c o _ _ hcx q _=>⟨o.slots,hkc c o hcx q⟩)
   (fun c o _ q n=>n) (fun c o hcx q=>⟨o,hkc c o hcx q⟩) (fun c ys q=>q) (fun c o v q=>q)
   (fun c ps q=>⟨#[],by rw[q];simp⟩) (fun m hm=>?_) (fun c v' q=>?_) I.bare
  ·have hc':c=z\/c=TO\/c=i1\/c=i2:=by simpa using hb
   rcases hc' with rfl | rfl | rfl | rfl
   ·exact⟨fz.2.2.2.1,fz.2.1,fz.2.2.2.2.1,fz.2.2.2.2.2⟩
   ·exact⟨fTO.2.2.2.1,fTO.2.1,fTO.2.2.2.2.1,fTO.2.2.2.2.2⟩
   ·exact⟨fi1.2.2.2.1,fi1.2.1,fi1.2.2.2.2.1,fi1.2.2.2.2.2⟩
   ·exact⟨fi2.2.2.2.1,fi2.2.1,fi2.2.2.2.2.1,fi2.2.2.2.2.2⟩
  ·obtain⟨o,es,ep,ho',r⟩:=hm
   exact⟨o,es,ep,hk _ o (ζζY fz.2.1) (ζζY fTO.2.1) (ζζY fi1.2.1) (ζζY fi2.2.1) ho',r⟩
  ·refine(I.hok c v' q).stay (fun e w' hc' q'=>?_) (fun e q=>q) fun e ys q=>q
   rcases hc' with rfl | hc'
   ·have:=nof e _ q
    exact hk e w' this.1 this.2.1 this.2.2.1 this.2.2.2 q'
   ·have:=nof e _ hc'
    exact hk e w' this.1 this.2.1 this.2.2.1 this.2.2.2 q'
 self:=fun _ _ _ _ _ st h=>wpAny_pyIter_zip st.1 h
def iZip(K:PySem.W.Frag)(ta:TA):TI:=fun σ H R=>ta σ H fun vs H1=>∃ a b,vs=[.ref a,.ref b]/\(∃ xs ys,SqL K H1 a xs/\SqL K H1 b ys)/\R (Itz K a b) H1
section
variable{X:Cx}
theorem ζP11 (K:PySem.W.Frag) {elts:List Expr} {x1:Nat} {tpos:Pos} {e f:Expr} {ta:TA} {p pos:Pos} (hg:Gl X "zip") (hm:X.mg "zip"=none) (ha:PA X [e,f] ta) (hs:starEach [e,f] X.env=(false,eval e X.env) :: starEach [f] X.env:=by rfl) (hpl:(backTo pos (starEach [f] X.env)).any (·.1)=false:=by rfl) (hk:X.K=K:=by rfl) :
  PI X (.Tuple elts x1 tpos) (.Call (.Name "zip" p) [e,f] [] pos) (iZip K ta):=by
 subst hk
 intro pins s σ H R I h
 refine Call_ (ζs2 I hg hm Boot.«zip» (ζζ0e (thn (ha pos pins s σ H _ I h) fun us s1 ⟨vs,H1,I1,r1,q1⟩=>?_) hs hpl))
 obtain⟨a,b,ev,⟨xs,ys,hq,hq2⟩,q⟩:=q1
 subst ev
 obtain⟨u,u',rfl,ru,ru'⟩:=ζr11 r1
 obtain rfl:u=Value.ref a:=ru
 obtain rfl:u'=Value.ref b:=ru'
 obtain⟨its,rv,pl,_⟩:=I1.list hq
 obtain⟨its2,rv2,pl2,_⟩:=I1.list hq2
 have lt1:a<s1.heap.objs.size:=let ⟨_,_,e,_⟩:=pl;ζζn e
 have lt2:b<s1.heap.objs.size:=let ⟨_,_,e,_⟩:=pl2;ζζn e
 have D:ZipApart (s1.heap.objs.size+4) (s1.heap.objs.size+2) (s1.heap.objs.size+3) s1.heap.objs.size (s1.heap.objs.size+1) a b:=by
  have key:∀ n x y:Nat,x<n->y<n->ZipApart (n+4) (n+2) (n+3) n (n+1) x y:=fun n x y h1 h2=>by constructor <;> (intro q;have q':(_:Nat)=_:=q;omega)
  exact key _ _ _ lt1 lt2
 refine call_zip_2 pl.isList pl2.isList fun h' hz hTI hTO hi1 hi2 hsz hk=>?_
 refine wpAny_pyIter_zip (s:={ s1 with heap:=h' }) hz ?_
 refine⟨s1.heap.objs.size+4,[s1.heap.objs.size+4,s1.heap.objs.size+2,s1.heap.objs.size+3,s1.heap.objs.size,s1.heap.objs.size+1],_,_,H1,rfl,I1.kept (t':=s1.toks) hk,ζp8 a b _ _ _ _ _ D,⟨hz,hTI,⟨_,_,hTO⟩,hi1,hi2⟩,fun c hc=>?_,q⟩
 have hle:s1.heap.objs.size<=c:=by
  have hc':c=s1.heap.objs.size+4\/c=s1.heap.objs.size+2\/c=s1.heap.objs.size+3\/c=s1.heap.objs.size\/c=s1.heap.objs.size+1:=by simpa using hc
  rcases hc' with e | e | e | e | e <;> rw[e] <;> first | exact ζζ5 _ | exact Nat.le_add_right _ _
 exact I1.fpOk hle (I1.hok.fresh hle)
end
end L2
namespace My
open PySem L2
section
variable{K:PySem.W.Frag}{a b:Addr}{xs ys:List V}{g:TG}{tt:TT}{te:TE}{o:Nat}{fr:List Nat}{σ:St}{H:Hp}{Q:VK}
theorem ζ112(Pv:Nat->List V->Hp->Prop)(h0:Pv 0 [] H)(hxy:xs.length=ys.length)(hz:xs.length<sizeLine)(hl:∀ i zs H,i<=xs.length->Pv i zs H->SqL K H a xs/\SqL K H b ys/\zs.length<=i)
  (hs:∀(i:Nat) x y zs H (p:Addr),H p=none->xs[i]?=some x->ys[i]?=some y->Pv i zs H->ζF3 Pv g tt te o fr σ i (.ref p) zs (upd H p (.tup [x,y]))) (hd:∀ zs H,Pv xs.length zs H->∀ p,H p=none->Q (.ref p) (upd H p (.lst zs))):LcR (Itz K a b) g tt te o fr σ H Q:=by
 refine⟨fun i m zs H=>m=xs.length - i/\i<=xs.length/\Pv i zs H,⟨xs.length,by simp,ζζj _,h0⟩,?_⟩
 rintro i m zs H ⟨rfl,hi,p⟩
 obtain⟨q,q2,hy⟩:=hl i zs H hi p
 by_cases hlt:i<xs.length
 ·refine .inr ⟨⟨xs,ys,xs[i],ys[i]'(by omega),q,q2,by simp[hlt],ζζ0 (by omega)⟩,by omega,fun x H' ⟨T,u,v,hT,ex,eH,hu,hv⟩=>?_⟩
  subst ex eH
  exact hs i u v zs H T hT (hu xs q) (hv ys q2) p (fun j zs H=>∃ m',m'<xs.length - i/\m'=xs.length - j/\j<=xs.length/\Pv j zs H) fun zs H p'=>⟨xs.length - (i+1),by omega,rfl,hlt,p'⟩
 ·have e:i=xs.length:=by omega
  subst e
  exact .inl ⟨⟨xs,ys,q,q2,.inl (ζζ5 _)⟩,by omega,hd zs H p⟩
end
end My
namespace My
def sm:Nat->(Nat->Int)->Int
 | 0,_=>0
 | n+1,f=>sm n f+f n
def ex(k:Nat)(r:Nat->Nat)(i:Nat):Nat:=if i<k then i else k+r (i - k)
end My
namespace My
open PySem L2
def LiV(d:Addr)(H:Hp)(v:V)(l:List Int):Prop:=∃ r,v=.ref r/\H r=some (.lst (IL l))/\r≠d
theorem Bears.erase{α:Type}[DecidableEq α]{R:V->α->Prop}{xs:List V}{l:List α}(h:Bears R xs l)(t:Nat):Bears R (xs.eraseIdx t) (l.eraseIdx t):=by
 have hl:=h.1
 refine⟨by rw[ζζ18,ζζ18,hl],fun i a e=>?_⟩
 rw[ζζ34]at e
 rw[ζζ34]
 split at e
 ·next c=>rw[if_pos c];exact h.2 _ _ e
 ·next c=>rw[if_neg c];exact h.2 _ _ e
end My
namespace My
def ind(u v i:Nat):Int:=(if i=u then 1 else 0) - (if i=v then 1 else 0)
end My
namespace My
open PySem L2
def sh(a x:Nat):Nat:=if x<a then x else x - 1
def dl(a b x:Nat):Nat:=if x=a then sh a b else sh a x
structure TabAt (H0:Hp) (r:Addr) (n:Nat) (H:Hp) (ys:List V) (L:List (List Int)):Prop where
 tab:H r=some (.lst ys)
 rows:Bears (LiV r H) ys L
 len:L.length=n
 all:∀ l∈L,l.length=n
 nd:ys.Nodup
 new:∀ A,V.ref A∈ys->H0 A=none
end My
namespace L2
open PySem
def Ris(t:SetTable):Prop:=t.place.toList.Pairwise (· < ·)
theorem ζ25{xs:Array Nat}(h:xs.toList.Pairwise (· < ·)){i k a b:Nat}(hik:i<k)(ha:xs[i]?=some a)(hb:xs[k]?=some b):a<b:=by
 rw[<- ζζN]at ha hb
 obtain⟨h1,e1⟩:=ζζ4.mp ha
 obtain⟨h2,e2⟩:=ζζ4.mp hb
 rw[<- e1,<- e2]
 exact ζζ03.mp h i k h1 h2 hik
theorem ζ33{xs:Array Nat}{j:Nat}(h:xs.toList.Pairwise (· < ·)):∀(f lo hi:Nat),hi - lo<=f->lo<=hi->hi<=xs.size->(∀ i v,xs[i]?=some v->i<lo->v<j)->(∀ i v,xs[i]?=some v->hi<=i->j<=v) ->
  SetTable.below.go xs j f lo hi<=xs.size/\∀ i v,xs[i]?=some v->(i<SetTable.below.go xs j f lo hi↔v<j)
 | 0,lo,hi,hf,hl,hs,a,b=>by
  have e:lo=hi:=by omega
  unfold SetTable.below.go
  refine⟨by omega,fun i v hv=>⟨a i v hv,fun hvj=>Nat.lt_of_not_le fun hc=>?_⟩⟩
  have:=b i v hv (by omega)
  omega
 | f+1,lo,hi,hf,hl,hs,a,b=>by
  unfold SetTable.below.go
  by_cases c:lo<hi
  ·rw[if_pos c]
   dsimp only
   obtain⟨m,hm⟩:∃ m,xs[(lo+hi) / 2]?=some m:=⟨_,ζζB (by omega)⟩
   have em:xs.getD ((lo+hi) / 2) j=m:=by rw[ζζw,hm];rfl
   rw[em]
   by_cases d:m<j
   ·rw[if_pos d]
    refine ζ33 h f _ hi (by omega) (by omega) hs (fun i v hv hi2=>?_) b
    by_cases e:i=(lo+hi) / 2
    ·rw[e,hm]at hv
     exact ζζ8 hv ▸ d
    ·have:=ζ25 h (show i<(lo+hi) / 2 by omega) hv hm
     omega
   ·rw[if_neg d]
    refine ζ33 h f lo _ (by omega) (by omega) (by omega) a fun i v hv hi2=>?_
    by_cases e:i=(lo+hi) / 2
    ·rw[e,hm]at hv
     have:=ζζ8 hv
     omega
    ·have:=ζ25 h (show(lo+hi) / 2<i by omega) hm hv
     omega
  ·rw[if_neg c]
   refine⟨by omega,fun i v hv=>⟨a i v hv,fun hvj=>Nat.lt_of_not_le fun hc=>?_⟩⟩
   have:=b i v hv (by omega)
   omega
theorem ζt1{xs:Array Nat}(h:xs.toList.Pairwise (· < ·))(j:Nat):SetTable.below xs j<=xs.size/\∀ i v,xs[i]?=some v->(i<SetTable.below xs j↔v<j) :=
 ζ33 h xs.size 0 xs.size (by omega) (ζζj _) (ζζ5 _) (fun i v _ h=>absurd h (ζζ0G _)) fun i v hv hi=>by
  rw[ζζ0X hi]at hv
  cases hv
theorem ζM9{xs:Array Nat}(h:xs.toList.Pairwise (· < ·)){i v:Nat}(hv:xs[i]?=some v):SetTable.below xs v=i:=by
 obtain⟨h1,h2⟩:=ζt1 h v
 have a:¬ i<SetTable.below xs v:=fun q=>by have:=(h2 i v hv).mp q;omega
 refine ζζ2I (by omega) (ζζ1y fun q=>?_)
 have hlt:=(Array.getElem?_eq_some_iff.mp hv).1
 obtain⟨u,hu⟩:∃ u,xs[SetTable.below xs v]?=some u:=⟨_,ζζB (by omega)⟩
 have b:=ζ25 h q hu hv
 have:=(h2 _ u hu).mpr b
 omega
theorem ζM6{xs:Array Nat}(h:xs.toList.Pairwise (· < ·)){i v:Nat}(hv:xs[i]?=some v):SetTable.below xs (v+1)=i+1:=by
 obtain⟨h1,h2⟩:=ζt1 h (v+1)
 have a:=(h2 i v hv).mpr (ζζ0z v)
 refine ζζ2I (ζζ1y fun q=>?_) a
 obtain⟨u,hu⟩:∃ u,xs[i+1]?=some u:=⟨_,ζζB (by omega)⟩
 have b:=(h2 _ u hu).mp q
 have:=ζ25 h (ζζ0z i) hv hu
 omega
theorem ζL6{xs:Array Nat}(h:xs.toList.Pairwise (· < ·)):SetTable.below xs 0=0:=by
 obtain⟨h1,h2⟩:=ζt1 h 0
 refine Nat.le_zero.mp (ζζ1y fun q=>?_)
 obtain⟨u,hu⟩:∃ u,xs[0]?=some u:=⟨_,ζζB (by omega)⟩
 exact ζζ0G _ ((h2 _ u hu).mp q)
def ζp5(t:SetTable)(j:Nat):Prop:=t.place[SetTable.below t.place j]?≠some j
theorem ζ710{t:SetTable}{j:Nat}(h:Ris t)(hn:ζp5 t j):Ris (t.put j).1:=by
 obtain⟨h1,h2⟩:=ζt1 h j
 have up:∀ i v,t.place[i]?=some v->SetTable.below t.place j<=i->j<v:=fun i v hv hi=>by
  have a:¬ v<j:=fun q=>by have:=(h2 i v hv).mpr q;omega
  have b:v≠j:=fun e=>hn (by rw[e]at hv;rw[ζM9 h hv];exact hv)
  omega
 show(SetTable.insertAt t.place (SetTable.below t.place j) j).toList.Pairwise (· < ·)
 rw[SetTable.toList_insertAt]
 have dn:∀ x∈t.place.toList.take (SetTable.below t.place j),x<j:=fun x hx=>by
  obtain⟨i,hi⟩:=ζζ19 hx
  rw[List.getElem?_take]at hi
  split at hi
  ·rename_i q
   rw[ζζN]at hi
   exact(h2 i x hi).mp q
  ·cases hi
 have ub:∀ x∈t.place.toList.drop (SetTable.below t.place j),j<x:=fun x hx=>by
  obtain⟨i,hi⟩:=ζζ19 hx
  rw[ζζ2i,ζζN]at hi
  exact up _ x hi (Nat.le_add_right _ _)
 refine ζζX.mpr ⟨ζζ3e (ζζ1s _ _) h,ζζ0d.mpr ⟨ub,ζζ3e (List.drop_sublist _ _) h⟩,fun a ha b hb=>?_⟩
 rcases ζζb.mp hb with e | e
 ·rw[e];exact dn a ha
 ·exact Nat.lt_trans (dn a ha) (ub b e)
theorem ζb3{t:SetTable}{j:Nat}(h:t.slot j=.empty\/t.slot j=.dummy):ζp5 t j:=fun e=>by
 have e2:t.slot j=.live (SetTable.below t.place j):=by
  unfold SetTable.slot
  dsimp only
  rw[if_pos (by rw[e];simp)]
 rw[e2]at h
 rcases h with h | h <;> cases h
theorem ζ92{t:SetTable}{f:Nat->Int}{h:Int}:∀(n:Nat) (p:SetTable.Probe) (j:Nat) (d:Option Nat),(∀ e,p.dummy=some e->ζp5 t e)->SetTable.probe.go t f h n p=some (.empty j d)->ζp5 t j/\∀ e,d=some e->ζp5 t e
 | 0,p,j,d,_,h=>by cases h
 | n+1,p,j,d,hp,h=>by
  have adv:∀ q:SetTable.Probe,(t.advance q).dummy=q.dummy:=fun q=>by
   unfold SetTable.advance
   split <;> rfl
  unfold SetTable.probe.go at h
  split at h
  ·rename_i hs
   cases h
   exact⟨ζb3 (.inl hs),hp⟩
  ·rename_i hs
   exact ζ92 n _ j d (fun e he=>by rw[adv]at he;cases he;exact ζb3 (.inr hs)) h
  ·split at h
   ·cases h
   ·exact ζ92 n _ j d (fun e he=>hp e (by rw[adv]at he;exact he)) h
theorem ζt7{t:SetTable}{h:Int}{s:Nat}{b:Bool}(e:t.freeSlot h=some (s,b)):ζp5 t s:=by
 unfold SetTable.freeSlot at e
 split at e
 ·rename_i j d hp
  obtain⟨a1,a2⟩:=ζ92 _ _ j d (fun e he=>by cases he) hp
  have e1:=ζζ0l Prod.fst (ζζ8 e)
  dsimp only at e1
  rw[<- e1]
  cases d with
  | none=>exact a1
  | some x=>exact a2 x rfl
 ·cases e
theorem ζW1(t:SetTable)(n:Nat):Ris (t.standIn n):=by
 show(Array.range n).toList.Pairwise (· < ·)
 rw[Array.toList_range]
 exact ζζ1q
theorem ζ810{t:SetTable}(h:Ris t)(es:Array (Int × Value))(k:Int)(x:Value):Ris (layNew t es k x).2.1/\(layNew t es k x).2.1.led=t.led:=by
 unfold layNew
 split
 ·rename_i s b e
  dsimp only
  unfold SetTable.orStandIn
  split
  ·exact⟨ζ710 h (ζt7 e),rfl⟩
  ·exact⟨ζW1 _ _,rfl⟩
 ·exact⟨ζW1 _ _,rfl⟩
theorem ζY6{t:SetTable}(h:Ris t)(es:Array (Int × Value))(n:Nat):Ris (relayAll t es n).2.1/\(relayAll t es n).2.1.led=t.led:=by
 unfold relayAll
 split
 ·rename_i t' order e
  dsimp only
  split
  ·unfold SetTable.relaid SetTable.laid at e
   cases ho:SetTable.layClean (SetTable.sizeAbove n - 1) (es.map (·.1)) with
   | none=>rw[ho]at e;cases e
   | some owner =>
    rw[ho]at e
    have e1:=ζζ0l Prod.fst (ζζ8 e)
    dsimp only at e1
    rw[<- e1]
    refine⟨?_,rfl⟩
    show(List.map _ (List.filterMap _ _)).toArray.toList.Pairwise (· < ·)
    rw[List.toList_toArray,ζζ1R,List.pairwise_filterMap]
    refine ζζ1q.imp fun {a b} hab x hx y hy=>?_
    have ex:x.1=a:=by
     cases q:owner.getD a none with
     | none=>rw[q]at hx;cases hx
     | some z=>rw[q]at hx;cases hx;rfl
    have ey:y.1=b:=by
     cases q:owner.getD b none with
     | none=>rw[q]at hy;cases hy
     | some z=>rw[q]at hy;cases hy;rfl
    rw[ex,ey]
    exact hab
  ·exact⟨ζW1 _ _,rfl⟩
 ·exact⟨ζW1 _ _,rfl⟩
end L2
namespace L2
open PySem PySem.Spec PyProof.Rows
def SetR(P:Program)(w:World)(h:Heap)(a:Addr)(led:Bool)(S:Int->Bool)(n:Nat):Prop :=
 ∃(o:Obj) (es:Array (Int × Value)) (ep:Nat) (t:SetTable),h.get? a=some o/\o.ExactSet/\o.data=.set es ep t/\ElemsOf (intKind P w) es.toList/\(∀ z,S z=true↔∃ y∈es.toList,(intKind P w).is z y.2=true)/\es.size<scanBound/\t.fits es.size=true/\es.size=n/\Ris t/\t.led=led
theorem SetR.at{P:Program}{w:World}{h h':Heap}{a:Addr}{led:Bool}{S:Int->Bool}{n:Nat}(q:SetR P w h a led S n)(k:∀ o,h.get? a=some o->h'.get? a=some o):SetR P w h' a led S n :=
 let ⟨o,es,ep,t,ho,r⟩:=q
 ⟨o,es,ep,t,k o ho,r⟩
section
variable{prog:Program}{w:World}{A:Around}{E:Value->Shared->Prop}{s:Shared}
theorem ζd3{h:Heap}{a:Addr}{o:Obj}{es:Array (Int × Value)}{ep:Nat}{t:SetTable}(ho:h.get? a=some o)(hx:o.ExactSet)(hd:o.data=.set es ep t)(fs:Array (Int × Value))(u:SetTable) :
  (h.update a (Obj.putSet fs u)).get? a=some { o with data:=.set fs (ep+1) u }/\({ o with data:=.set fs (ep+1) u }:Obj).ExactSet:=by
 have q:=ζζ05 (Obj.putSet fs u) ho (by rw[putSet_of fs u hd];rfl)
 rw[putSet_of fs u hd]at q
 exact⟨q,hx⟩
theorem ζP9{gv:Bool->Sem Unit}(hgv:∀(b:Bool) (s1:Shared) (R:Unit->Shared->Prop),R () s1->wpAny (model prog w) A (gv b) R E s1)
  {a:Addr} {o:Obj} {es fs:Array (Int × Value)} {ep:Nat} {t u:SetTable} (ho:s.heap.get? a=some o) (hx:o.ExactSet) (hd:o.data=.set es ep t)
  {S:Int->Bool} (he:ElemsOf (intKind prog w) fs.toList) (hm:∀ z,S z=true↔∃ y∈fs.toList,(intKind prog w).is z y.2=true) (hb:fs.size<scanBound) (hf:u.fits fs.size=true) (hr:Ris u) {dm:Bool} {R:Option Bool->Shared->Prop}
  (k:∀ h',Heap.SameBut a s.heap h'->SetR prog w h' a u.led S fs.size->R (some true) { s with heap:=h' }) :
  wpAny (model prog w) A (do
   storeSet a fs u
   if (!dm && u.tooFull)=true then do
    gv (relayAll u fs (SetTable.grown fs.size)).2.2
    storeSet a (relayAll u fs (SetTable.grown fs.size)).1 (relayAll u fs (SetTable.grown fs.size)).2.1
    pure (some true)
   else pure (some true)) R E s:=by
 obtain⟨h1,x1⟩:=ζd3 ho hx hd fs u
 have b1:=ζζ0k s.heap a (Obj.putSet fs u)
 refine ζζ2 (wpAny_storeSet_of ho hd ?_ (fits_of_scanBound hb))
 by_cases c:(!dm && u.tooFull)=true
 ·rw[if_pos c]
  have p:=relayAll_perm u fs (SetTable.grown fs.size)
  have f:=relayAll_fits u fs (SetTable.grown fs.size)
  obtain⟨r,l⟩:=ζY6 hr fs (SetTable.grown fs.size)
  generalize relayAll u fs (SetTable.grown fs.size)=Z at p f r l ⊢
  obtain⟨gs,v,gave⟩:=Z
  dsimp only at p f r l ⊢
  have ez:gs.size=fs.size:=by rw[<- ζζD,p.length_eq,ζζD]
  obtain⟨h2,x2⟩:=ζd3 h1 x1 rfl gs v
  refine ζζ2 (hgv _ _ _ (ζζ2 (wpAny_storeSet_of h1 rfl (ζζl ?_) (fits_of_scanBound (by rw[ez];exact hb)))))
  exact k _ (b1.trans (ζζ0k _ a _)) ⟨_,gs,_,v,h2,x2,rfl,he.perm p,fun z=>(hm z).trans ⟨fun⟨y,hy,q⟩=>⟨y,p.mem_iff.mpr hy,q⟩,fun⟨y,hy,q⟩=>⟨y,p.mem_iff.mp hy,q⟩⟩,by rw[ez];exact hb,f,ez,r,l⟩
 ·rw[if_neg c]
  exact ζζl (k _ b1 ⟨_,fs,_,u,h1,x1,rfl,he,hm,hb,hf,rfl,hr,rfl⟩)
theorem ζh11{a:Addr}{S:Int->Bool}{n:Nat}{z:Int}{x:Value}{led:Bool}{R:Bool->Shared->Prop}(hz:(intKind prog w).is z x=true)(hsc:x.scannable=true)(hS:SetR prog w s.heap a led S n)(room:n+1<scanBound)
  (k:∀ h',Heap.SameBut a s.heap h'->SetR prog w h' a led (fun y=>S y || decide (y=z)) (if S z then n else n+1)->R (!S z) { s with heap:=h' }) :
  wpAny (model prog w) A (setAddHashed a x ((intKind prog w).hash z)) R E s:=by
 obtain⟨o,es,ep,t,ho,hx,hd,he,hm,hb,hf,hn,hr,hl⟩:=hS
 unfold setAddHashed setAddHashedIn
 refine ζζ0x (ζζ2 (ζζ1h ho hd hf ?_))
 dsimp only
 rw[if_pos (byScan_of hsc hb he)]
 unfold setAddByScan
 refine ζζ2 (ζζ2 (ζζ2W (ζζ2 (wpAny_setScan_of hz ho hd hf he ?_))))
 cases hw:List.findIdx? (fun y=>(intKind prog w).is z y.2) es.toList with
 | some j =>
  obtain⟨j1,j2,_⟩:=List.findIdx?_eq_some_iff_getElem.mp hw
  have yes:S z=true:=(hm z).mpr ⟨es.toList[j],ζζ0K j1,j2⟩
  have fin:=k s.heap (Heap.SameBut.refl a s.heap) ⟨o,es,ep,t,ho,hx,hd,he,fun y=>by
   rw[Bool.or_eq_true,ζζ1r,<- hm y]
   exact⟨fun q=>q.elim id fun q=>q ▸ yes,.inl⟩,hb,hf,by rw[yes];exact hn,hr,hl⟩
  rw[yes]at fin
  dsimp only
  exact ζζl (ζζl fin)
 | none =>
  have no:S z=false:=ζζ1U.mpr fun q=>by
   obtain⟨y,hy,hp⟩:=(hm z).mp q
   have:=List.findIdx?_eq_none_iff.mp hw y hy
   rw[hp]at this
   cases this
  dsimp only
  have p:=layNew_perm t es ((intKind prog w).hash z) x
  have f:=layNew_fits t es ((intKind prog w).hash z) x
  obtain⟨r,l⟩:=ζ810 hr es ((intKind prog w).hash z) x
  generalize layNew t es ((intKind prog w).hash z) x=Z at p f r l ⊢
  obtain⟨fs,u,dm,gave⟩:=Z
  dsimp only at p f r l ⊢
  rw[ζζ2s]at p
  have ez:fs.size=n+1:=by rw[<- ζζD,p.length_eq,ζζ6,ζζD,hn];rfl
  have gw:∀(b:Bool) {s1:Shared} {R':Unit->Shared->Prop},R' () s1->wpAny (model prog w) A (match b with | true=>rule "set.scan.the-table-gave-way" | false=>pure ()) R' E s1:=fun b s1 R' q=>by
   cases b
   ·exact ζζl q
   ·exact ζζ2W q
  have fin:∀ h',Heap.SameBut a s.heap h'->SetR prog w h' a led (fun y=>S y || decide (y=z)) fs.size->R true { s with heap:=h' }:=fun h' q1 q2=>by
   have q:=k h' q1
   rw[no]at q
   rw[ez]at q2
   exact q q2
  have he1:=(he.push hz hsc).perm p
  have hm1:∀ y,(S y || decide (y=z))=true↔∃ v∈fs.toList,(intKind prog w).is y v.2=true:=mem_push_iff hz hm p
  have hb1:fs.size<scanBound:=by omega
  refine ζζ2 (gw _ ?_)
  have tail:∀ v:SetTable,v.fits fs.size=true->Ris v->v.led=led->wpAny (model prog w) A (do
    storeSet a fs v
    if (!dm && v.tooFull)=true then do
     (match (relayAll v fs (SetTable.grown fs.size)).2.2 with | true=>rule "set.scan.the-table-gave-way" | false=>pure ())
     storeSet a (relayAll v fs (SetTable.grown fs.size)).1 (relayAll v fs (SetTable.grown fs.size)).2.1
     pure (some true)
    else pure (some true)) (fun y s1=>wpAny (model prog w) A (match y with | some added=>pure added | none=>setAddHashedIn a x ((intKind prog w).hash z) 99999) R E s1) E s:=fun v a1 a2 a3 =>
   ζP9 (gv:=fun b=>match b with | true=>rule "set.scan.the-table-gave-way" | false=>pure ()) (fun b s1 R' q=>gw b q) ho hx hd he1 hm1 hb1 a1 a2 fun h' q1 q2=>ζζl (fin h' q1 (a3 ▸ q2))
  split
  ·refine ζζ2 ?_
   rw[hashByValue_scannable 8 hsc]
   refine ζζl ?_
   split
   ·exact tail u f r (l.trans hl)
   ·exact tail _ (SetTable.fits_plain_off f) r (l.trans hl)
  ·refine ζζ2 (ζζl ?_)
   rw[if_pos rfl]
   exact tail u f r (l.trans hl)
end
section
variable{prog:Program}{w:World}{A:Around}{R:Result->Shared->Prop}{I:Addr}{fp wr:List Addr}{G:Array GenState->Array GenState->Prop}{n:Nat}{P:Nat->Value->Prop}{St:Nat->Shared->Prop}
theorem ζY3(W:WalksS prog w A.in1 I fp wr G n P St)(b:Addr)(hbf:b∉fp){led:Bool}(val:Nat->Int)(hv:∀ i v,P i v->∃ t,v=.int (val i) t)(hn:n+1<scanBound) :
  ∀(k i:Nat) (s:Shared),n - i=k->i<=n->St i s->SetR prog w s.heap b led (fun z=>(firstMet val i).any (· == z)) (firstMet val i).length ->
   (∀ s',Moved (b :: wr) G s s'->SetR prog w s'.heap b led (fun z=>(firstMet val n).any (· == z)) (firstMet val n).length->R (.ok (.ret .none)) s') ->
   codeAny (model prog w) A (.builtin "set.update.loop" ⟨[.ref b,.ref I],[]⟩) R s
 | 0,i,s,hk,hi,st,hS,q=>by
  have e:i=n:=by omega
  subst e
  refine ζζ09 F.entry_set_update_loop ?_
  rw[ζζ0v ζζ2u _]
  show wpAny _ A.in1 (pyNext (.ref I) >>= _) _ _ s
  refine ζζ2 (W.done s _ _ st fun s1 m=>?_)
  show wpAny _ A.in1 (ret Value.none) _ _ s1
  exact ζζl (q s1 (m.mono fun c hc=>.tail _ hc) (hS.at fun o ho=>m.heap b o (fun hc=>hbf (W.sub _ hc)) ho))
 | k+1,i,s,hk,hi,st,hS,q=>by
  have hlt:i<n:=by omega
  refine ζζ09 F.entry_set_update_loop ?_
  rw[ζζ0v ζζ2u _]
  show wpAny _ A.in1 (pyNext (.ref I) >>= _) _ _ s
  refine ζζ2 (W.item i s _ _ hlt st fun v s1 hP st1 m=>?_)
  obtain⟨t,rfl⟩:=hv i v hP
  have hS1:=hS.at (h':=s1.heap) fun o ho=>m.heap b o (fun hc=>hbf (W.sub _ hc)) ho
  show wpAny _ A.in1 (holding [Value.int (val i) t] (setAdd b (.int (val i) t)) >>= _) _ _ s1
  refine ζζ2 (ζζ0x ?_)
  unfold setAdd
  refine ζζ0x (ζζ2 ((intKind prog w).pyHash (k:=val i) (intKind_is _ _ _ _) ?_))
  have fm:=firstMet_length_le val i
  refine ζh11 (s:={ s1 with toks:=s1.toks+1 }) (intKind_is _ _ _ _) rfl hS1 (by omega) fun h2 sb hS2=>?_
  have hS3:SetR prog w h2 b led (fun z=>(firstMet val (i+1)).any (· == z)) (firstMet val (i+1)).length:=by
   have e1:(fun z=>(firstMet val (i+1)).any (· == z))=fun y=>((firstMet val i).any (· == y) || decide (y=val i)):=funext fun y=>by rw[ζζ2D,step_any]
   rw[e1,ζζ2D,step_length]
   exact hS2
  have kept:∀ c o,c≠b->s1.heap.get? c=some o->h2.get? c=some o:=fun c o hc e=>(sb.2 c hc).trans e
  refine ζζl ⟨ζζ0Z ζζ2u _,ζY3 W b hbf val hv hn k (i+1) _ (by omega) hlt (W.frame _ s1 _ _ st1 (ζζ0w _) fun c hc o e=>kept c o (fun e'=>hbf (e' ▸ hc)) e) hS3 fun s2 m2 hS4=>?_⟩
  exact q s2 (Moved.trans W.gtrans ((m.mono fun c hc=>.tail _ hc).then_heap (ζζ0w _) fun c o hc e=>kept c o (fun e'=>hc (e' ▸ .head _)) e) m2) hS4
end
section
variable{prog:Program}{w:World}{A:Around}{E:Value->Shared->Prop}{s:Shared}
def ζF1 (w:World):Obj:={ cls:=.type "set",dict:=none,data:=.set #[] 0 (.fresh 0 0 (!w.params.followText "set-order")) }
theorem ζV7(a:Value){Q:Value->Shared->Prop}(k:Q (.ref s.heap.objs.size) { s with heap:=s.heap.push (ζF1 w) }) :
  codeAny (model prog w) A (.call (.builtin "set.__new__") ⟨[.type "set",a],[]⟩) (wants Q E) s:=by
 refine codeAny_of_tree ?_
 show wpAny _ A.in1 (checkBuiltinCall "set.__new__" ⟨[.type "set",a],[]⟩ >>= fun _=>again (.builtin "set.__new__" ⟨[.type "set",a],[]⟩)) _ _ s
 refine ζζ2 (ζζ1i (F.newCall_set_1 a) (ζζl ⟨ζζ0Z F.plain_set_new _,ζζ09 F.entry_set_new ?_⟩))
 rw[ζζ0v F.plain_set_new _]
 have hsub:=sub_set_self
 unfold Builtin.«set.__new__» Builtin.Frozenset.newClass
 obtain⟨hp,g,d,tk,os⟩:=s
 dsimp only
 wp_walk
 refine ζζ1p (ζζl ?_)
 simp only [newObj]
 refine ζζ2 (wpAny_alloc (ζζl (ζζl k)))
theorem ζo4 {h:Heap} {a:Addr} (e:h.get? a=some (ζF1 w)):SetR prog w h a (!w.params.followText "set-order") (fun z=>(firstMet (fun _=>0) 0).any (· == z)) 0:=by
 refine⟨_,#[],0,_,e,⟨rfl,rfl,rfl⟩,rfl,fun y hy=>(by cases hy),fun z=>⟨fun q=>(by cases q),fun⟨y,hy,_⟩=>(by cases hy)⟩,by decide,by simp[SetTable.fits,SetTable.fresh,SetTable.fill],rfl,.nil,rfl⟩
theorem ζN8{l:Addr}{items:Array Value}{ns:List Int}{h0:Heap}{b:Addr}{Q:Value->Shared->Prop}(hh:A.handled=none)(hb0:h0.get? b=some (ζF1 w))(hl:h0.IsList l items)(hne:l≠b)(hi:IntsAre items.toList ns)(hn:items.size+1<scanBound)
  (k:∀ h' tk,SetR prog w h' b (!w.params.followText "set-order") (fun z=>(firstMet (fun i=>ns.getD i 0) items.size).any (· == z)) (firstMet (fun i=>ns.getD i 0) items.size).length->(∀ c o,c≠b->h0.get? c=some o->h'.get? c=some o)->Q .none { s with heap:=h',toks:=tk }) :
  wpAny (model prog w) A.in1 (Builtin.«set.__init__» ⟨[.ref b,.ref l],[]⟩) (fun fin s'=>match fin with | .done f=>wants Q E (.ok f) s' | .again c'=>c'.quiet=true/\codeAny (model prog w) A c' (wants Q E) s') (fun e s'=>wants Q E (.error e) s') { s with heap:=h0 }:=by
 have hT:Shared.TypeIs { s with heap:=h0 } (.ref b) "set":=⟨_,hb0,rfl⟩
 have hl0:=hl
 obtain⟨⟨ocls,odict,odata,oslots⟩,hol,hcl,nl,hdl⟩:=hl
 simp only at hcl hdl
 subst hcl hdl
 have q1:=F.sub_list_set
 have q2:=F.sub_list_frozenset
 have q3:(Value.type "list" == Value.type "dict")=false:=by decide
 unfold ζF1 at hb0
 unfold Builtin.«set.__init__» noKeywords Builtin.Frozenset.updateFrom
 generalize hPI:pyIter=PI
 wp_walk
 subst hPI
 refine ζζ1B hl0 ?_
 refine ζζ2 (ζζ28 ?_)
 have ltl:l<h0.objs.size:=ζζn hol
 have ltb:b<h0.objs.size:=ζζn hb0
 have bf:b∉[h0.objs.size,l]:=fun q=>by
  rcases ζζb.mp q with e | e
  ·exact ζζr ltb e
  ·exact hne (ζζ1.mp e).symm
 refine ζY3 ((Walks.list (A:=A.in1.in1) (by simp [hh]) _ l (ζζr ltl) items).toS) b bf (led:=!w.params.followText "set-order") (fun i=>ns.getD i 0) (fun i v hv=>ζζ3f hi i v (by rw [ζζN];exact hv)) hn (items.size - 0) 0 _ (by omega) (ζζj _)
  ⟨⟨_,ζζf _ rfl,rfl,rfl⟩,hl0.push _⟩ ?_ ?_
 ·exact ζo4 (ζζ3 _ hb0)
 ·rintro⟨h',g',d',tk',os'⟩ m hS
  have e1:g'=s.gens:=m.gens
  have e2:d'=s.drawn:=m.drawn
  have e3:os'=s.os:=m.os
  subst e1 e2 e3
  show wpAny _ _ _ _ _ _
  refine ζζl ?_
  show wpAny _ _ (ret Value.none) _ _ _
  refine ζζl (k h' tk' hS fun c o hc e=>m.heap c o (fun q=>?_) (ζζ3 _ e))
  rcases ζζb.mp q with e' | e'
  ·exact hc e'
  ·exact ζζr (ζζn e) (ζζ1.mp e')
set_option maxRecDepth 100000 in
set_option maxHeartbeats 3000000 in
theorem ζ310{l:Addr}{items:Array Value}{ns:List Int}{Q:Value->Shared->Prop}(hh:A.handled=none)(hl:s.heap.IsList l items)(hi:IntsAre items.toList ns)(hn:items.size+1<scanBound)
  (k:∀ h' tk,SetR prog w h' s.heap.objs.size (!w.params.followText "set-order") (fun z=>(firstMet (fun i=>ns.getD i 0) items.size).any (· == z)) (firstMet (fun i=>ns.getD i 0) items.size).length->(∀ c o,s.heap.get? c=some o->h'.get? c=some o)->Q (.ref s.heap.objs.size) { s with heap:=h',toks:=tk }) :
  wpAny (model prog w) A (call (.type "set") [.ref l]) Q E s:=by
 obtain⟨c,tl,hmro⟩:=ζζ0s.mro
 have a1:=ζζ0s.made
 have a2:=ζζ0s.sub
 have a3:=ζζ0s.notType
 have a4:=ζζ0s.canCreate
 have a5:=F.typeCall_set_1 (.ref l)
 refine ζζ2Y (codeAny_of_tree ?_)
 show wpAny _ _ (callAny (.type "set") _) _ _ _
 refine ζζl ⟨ζζ1w _ (by decide +kernel),ζζ09 F.entry_type_call ?_⟩
 rw [Around.under_plain (weight_type_call_type "set" [.ref l] []) rfl]
 repeat any_goals first | assumption | wp_step
 refine ζζ10 (ζV7 (.ref l) (E:=E) (Q:=fun ob s1=>ob=.ref s.heap.objs.size/\s1={ s with heap:=s.heap.push (ζF1 w) }) ⟨rfl,rfl⟩) fun r s1 hr=>?_
 match r,hr with
 | .error e,hr=>exact hr
 | .ok (.ret ob),hr =>
  obtain⟨rfl,rfl⟩:=hr
  have hb0:(s.heap.push (ζF1 w)).get? s.heap.objs.size=some (ζF1 w):=ζζf _ rfl
  have hT:Shared.TypeIs { s with heap:=s.heap.push (ζF1 w) } (.ref s.heap.objs.size) "set":=⟨_,hb0,rfl⟩
  have a6:=ζζ0s.init.lookup
  have a7:=ζζ0s.init.bind (.ref s.heap.objs.size)
  repeat any_goals first | assumption | wp_step
  have ltl:l<s.heap.objs.size:=let ⟨_,e,_⟩:=hl;ζζn e
  refine ζζ10 (codeAny_call_builtin (R:=wants (fun r s2=>r=.none/\Q (.ref s.heap.objs.size) s2) E) ζζ0s.init.plain F.entry_set_init (check_set_init_1 hT (ζN8 (A:=_) (s:=s) ?_ hb0 (hl.push _) (ζζr ltl) hi hn fun h' tk hS kp=>⟨rfl,k h' tk hS fun c o e=>kp c o (ζζr (ζζn e)) (ζζ3 _ e)⟩))) fun r2 s2 hr2=>?_
  ·simp[hh]
  ·match r2,hr2 with
   | .error e,hr2=>exact hr2
   | .ok (.ret v),hr2 =>
    obtain⟨rfl,q⟩:=hr2
    repeat any_goals first | assumption | wp_step
end
theorem ζI5:Manifest.owners.lookup (String.ofList ['r','o','t','a','r','e','t','i','_','t','e','s'].reverse)=some Manifest.sig_set_iterator:=by kernel_rfl
theorem si_next:PySem.Slot "set_iterator" "__next__" "set_iterator.__next__" :=
 .of (owner:="set_iterator") (n:="__next__") (by rw [ζζ2m,ζζ1D];kernel_rfl) (by decide +kernel) (by decide +kernel) (by decide +kernel)
  (by first | exact .inl (by decide +kernel) | exact .inr (by decide +kernel)) (by rw[isSubtype_type];kernel_rfl)
theorem ζD2:entryFor table "set_iterator.__next__"=some Builtin.«set_iterator.__next__»:=entryFor_of_tree (by kernel_rfl)
theorem ζE2 (a:Value):argsOk "set_iterator.__next__" ⟨[a],[]⟩:=by
 unfold argsOk;rw [signature?_of (id:="set_iterator.__next__") (n:=['_','_','t','x','e','n','_','_']) (o:=['r','o','t','a','r','e','t','i','_','t','e','s']) (by kernel_rfl) ζI5];kernel_rfl
theorem ζK7:PySem.Slot "set_iterator" "__iter__" "set_iterator.__iter__" :=
 .of (owner:="set_iterator") (n:="__iter__") (by rw [ζζ2m,ζζ1D];kernel_rfl) (by decide +kernel) (by decide +kernel) (by decide +kernel)
  (by first | exact .inl (by decide +kernel) | exact .inr (by decide +kernel)) (by rw[isSubtype_type];kernel_rfl)
theorem ζA8 (a:Value):argsOk "set_iterator.__iter__" ⟨[a],[]⟩:=by
 unfold argsOk;rw [signature?_of (id:="set_iterator.__iter__") (n:=['_','_','r','e','t','i','_','_']) (o:=['r','o','t','a','r','e','t','i','_','t','e','s']) (by kernel_rfl) ζI5];kernel_rfl
theorem ζz8:entryFor table "set_iterator.__iter__"=some Builtin.«dict_keyiterator.__iter__» :=
 entryFor_alias (id':="dict_keyiterator.__iter__") (by kernel_rfl) (by first | rfl | decide +kernel | (unfold String.splitOn;simp +decide [String.splitOnAux])) (by decide +kernel) (by kernel_rfl)
theorem ζu8:Manifest.owners.lookup (String.ofList ['t','e','s'].reverse)=some Manifest.sig_set:=by kernel_rfl
theorem ζI7:PySem.Slot "set" "__iter__" "set.__iter__" :=
 .of (owner:="set") (n:="__iter__") (by rw [ζζ2m,ζζ1D];kernel_rfl) (by decide +kernel) (by decide +kernel) (by decide +kernel)
  (by first | exact .inl (by decide +kernel) | exact .inr (by decide +kernel)) (by rw[isSubtype_type];kernel_rfl)
theorem ζw8 (a:Value):argsOk "set.__iter__" ⟨[a],[]⟩:=by
 unfold argsOk;rw [signature?_of (id:="set.__iter__") (n:=['_','_','r','e','t','i','_','_']) (o:=['t','e','s']) (by kernel_rfl) ζu8];kernel_rfl
theorem ζv8:entryFor table "set.__iter__"=some Builtin.«frozenset.__iter__» :=
 entryFor_alias (id':="frozenset.__iter__") (by kernel_rfl) (by first | rfl | decide +kernel | (unfold String.splitOn;simp +decide [String.splitOnAux])) (by decide +kernel) (by kernel_rfl)
def IsSi (h:Heap) (I a:Addr) (f:Value) (i n ep:Nat):Prop:=∃ o,h.get? I=some o/\o.cls=.type "set_iterator"/\o.data=.fields #[f,rawInt (i:Int),.ref a,rawInt (n:Int),rawInt (ep:Int)]
theorem IsSi.ty {s:Shared} {I a:Addr} {f:Value} {i n ep:Nat} (x:IsSi s.heap I a f i n ep):s.TypeIs (.ref I) "set_iterator":=let ⟨o,p,q,_⟩:=x;⟨o,p,q⟩
theorem IsSi.keep{h h':Heap}{I a:Addr}{f:Value}{i n ep:Nat}(x:IsSi h I a f i n ep)(e:∀ o,h.get? I=some o->h'.get? I=some o):IsSi h' I a f i n ep:=let ⟨o,p,q⟩:=x;⟨o,e _ p,q⟩
def SetIs(h:Heap)(a:Addr)(es:Array (Int × Value))(ep:Nat)(t:SetTable):Prop:=∃ o,h.get? a=some o/\o.ExactSet/\o.data=.set es ep t
theorem SetIs.keep{h h':Heap}{a:Addr}{es:Array (Int × Value)}{ep:Nat}{t:SetTable}(x:SetIs h a es ep t)(e:∀ o,h.get? a=some o->h'.get? a=some o):SetIs h' a es ep t:=let ⟨o,p,q⟩:=x;⟨o,e _ p,q⟩
section
variable{prog:Program}{w:World}{A:Around}{E:Value->Shared->Prop}{s:Shared}
theorem ζG6{M:Model}{src:Source}{n:Nat}{Q:Nat->Shared->Prop}(hn:n≠0)(k:∀ i,i<n->∀ d,Q i { s with drawn:=d }):wpAny M A (choose src n) Q E s :=
 fun Γ p _=>⟨hn,k _ (Nat.mod_lt _ (Nat.pos_of_ne_zero hn)) _⟩
theorem ζj2{α:Type}:∀ {l:List α} {i:Nat} {y:α},l[i]?=some y->(y :: l.eraseIdx i).Perm l
 | [],_,_,h=>by simp at h
 | x :: l,0,y,h=>by
  obtain rfl:x=y:=ζζ8 h
  exact .rfl
 | x :: l,i+1,y,h=>(List.Perm.swap x y (l.eraseIdx i)).trans ((ζj2 (l:=l) (i:=i) h).cons x)
theorem ζx6{M:Model}{α:Type}:∀(n:Nat) (xs:List α) (s:Shared) (Q:List α->Shared->Prop),n=xs.length->(∀ ys d,ys.Perm xs->Q ys { s with drawn:=d })->wpAny M A (drawOrder n xs) Q E s
 | 0,xs,s,Q,h,k=>by
  have e:xs=[]:=ζζ00.mp h.symm
  subst e
  exact ζζl (k [] s.drawn .rfl)
 | n+1,[],s,Q,h,k=>by cases h
 | n+1,x :: xs,s,Q,h,k=>by
  show wpAny M A (choose .order (x :: xs).length >>= _) Q E s
  refine ζζ2 (ζG6 (by simp) fun i hi d=>?_)
  obtain⟨y,hy⟩:∃ y,(x :: xs)[i]?=some y:=⟨_,ζζ0 hi⟩
  rw[hy]
  dsimp only
  refine ζζ2 (ζx6 n ((x :: xs).eraseIdx i) _ _ (by rw[ζζ1H hi];omega) fun ys d' hp=>ζζl (k (y :: ys) d' ?_))
  exact(hp.cons y).trans (ζj2 hy)
theorem ζs4{α:Type}{f:Nat->Nat}:∀(n k:Nat) (l:List α) (out:Array α),n=l.length->(pickOrder.go f n k l out).toList.Perm (out.toList++l)
 | 0,k,l,out,h=>by
  rw[ζζ00.mp h.symm,ζζ04]
  exact .rfl
 | n+1,k,l,out,h=>by
  have hi:f k % l.length<l.length:=Nat.mod_lt _ (by omega)
  obtain⟨y,hy⟩:∃ y,l[f k % l.length]?=some y:=⟨_,ζζ0 hi⟩
  unfold pickOrder.go
  rw[hy]
  dsimp only
  refine(ζs4 n (k+1) _ _ (by rw[ζζ1H hi];omega)).trans ?_
  rw[ζζ2s,ζζ02]
  refine ζζ3d _ ?_
  exact ζj2 hy
theorem ζJ7{I a:Addr}{f:Value}{i n ep:Nat}{Q:Value->Shared->Prop}(hr:IsSi s.heap I a f i n ep)(h:Q (.ref I) s):wpAny (model prog w) A (pyIter (.ref I)) Q E s:=by
 refine wpAny_pyIter_slot hr.ty ζK7 (ζζ0p ζK7 hr.ty ζz8 ?_ (ζA8 _))
 show wpAny _ _ (ret (.ref I)) _ _ s
 exact ζζl ⟨_,rfl,"set_iterator",_,hr.ty,si_next.lookup,h⟩
def ζq5(prog:Program)(w:World)(a:Addr)(es:Array (Int × Value))(ep:Nat)(t:SetTable)(ord:List Value)(sl:Nat->Nat):Prop :=
 ∀(A:Around) (E:Value->Shared->Prop) (s:Shared) (i:Nat) (Q:Option (Value × Nat)->Shared->Prop),SetIs s.heap a es ep t->i<=ord.length->Q ((ord[i]?).map fun x=>(x,sl (i+1))) s->wpAny (model prog w) A (setNext a (sl i) i ep) Q E s
theorem ζ210{I a:Addr}{es:Array (Int × Value)}{ep:Nat}{t:SetTable}{ord:List Value}{sl:Nat->Nat}{i:Nat}{x:Value}{Q:Option Value->Shared->Prop}(hN:ζq5 prog w a es ep t ord sl)(hS:SetIs s.heap a es ep t)(hf:t.fits es.size=true)(hi:IsSi s.heap I a (rawInt (sl i:Nat)) i es.size ep)(hx:ord[i]?=some x)
  (k:∀ h',IsSi h' I a (rawInt (sl (i+1):Nat)) (i+1) es.size ep->Heap.SameBut I s.heap h'->Q (some x) { s with heap:=h' }):wpAny (model prog w) A (pyNext (.ref I)) Q E s:=by
 obtain⟨o,ho,hc,hd⟩:=id hi
 obtain⟨oa,hoa,hxa,hda⟩:=id hS
 unfold pyNext
 refine ζζ2 (ζζ1Q (ζζ0t (name:=Str.ofString "__next__") hi.ty si_next (ζζ0p si_next hi.ty ζD2 ?_ (ζE2 _))))
 unfold Builtin.«set_iterator.__next__»
 refine ζζ2 (ζζ1i (a:=(Value.ref I,[])) rfl ?_)
 dsimp only
 refine ζζ2 (ζζ2w ho hd ?_)
 dsimp only [rawInt]
 refine ζζ2 (ζζ1n hoa hda hf ?_)
 rw[if_neg (by simp)]
 rw[ζζC,ζζC,ζζC]
 refine ζζ2 (hN _ _ s i _ hS (ζζ1z (ζζ4.mp hx).1) ?_)
 rw[hx]
 dsimp only [Option.map_some]
 refine ζζ2 (ζζ15 ho hd (by simp) ?_)
 have ho2:=ζζ05 (Obj.mapFields (fun vs=>vs.setIfInBounds 0 (rawInt (sl (i+1):Nat)))) ho (ζζ1a (ζζ0b hd _))
 refine ζζ2 (ζζ15 ho2 (ζζ0b hd _) (by simp) ?_)
 refine ζζl ⟨x,rfl,ζζl (k _ ⟨_,ζζ05 _ ho2 (ζζ1a (ζζ0b (ζζ0b hd _) _)),?_,?_⟩ ((ζζ0k ..).trans (ζζ0k ..)))⟩
 ·rw[ζζ2a,ζζ2a];exact hc
 ·rw[ζζ0b (ζζ0b hd _)]
  simp
  rfl
theorem ζB11{I a:Addr}{es:Array (Int × Value)}{ep:Nat}{t:SetTable}{ord:List Value}{sl:Nat->Nat}{Q:Option Value->Shared->Prop}(hh:A.handled=none)(hN:ζq5 prog w a es ep t ord sl)(hS:SetIs s.heap a es ep t)(hf:t.fits es.size=true)(hi:IsSi s.heap I a (rawInt (sl ord.length:Nat)) ord.length es.size ep)
  (k:∀ h',Heap.ExtBut I s.heap h'->Q none { s with heap:=h' }):wpAny (model prog w) A (pyNext (.ref I)) Q E s:=by
 obtain⟨o,ho,hc,hd⟩:=id hi
 obtain⟨oa,hoa,hxa,hda⟩:=id hS
 unfold pyNext
 refine ζζ2 (ζζ1Q (ζζ0t (name:=Str.ofString "__next__") hi.ty si_next (ζζ0p si_next hi.ty ζD2 ?_ (ζE2 _))))
 unfold Builtin.«set_iterator.__next__»
 refine ζζ2 (ζζ1i (a:=(Value.ref I,[])) rfl ?_)
 dsimp only
 refine ζζ2 (ζζ2w ho hd ?_)
 dsimp only [rawInt]
 refine ζζ2 (ζζ1n hoa hda hf ?_)
 rw[if_neg (by simp)]
 rw[ζζC,ζζC,ζζC]
 refine ζζ2 (hN _ _ s ord.length _ hS (ζζ5 _) ?_)
 rw[ζζG (ζζ5 _)]
 dsimp only [Option.map_none]
 refine ζζ2 (ζζ15 ho hd (by simp) ?_)
 show wpAny _ _ (newExc (.type "StopIteration") [] >>= _) _ _ _
 refine ζζ2 ?_
 simp only [newExc,newTuple]
 refine ζζ2 (ζζ0m ?_ (by size_fits))
 refine ζζ2 (m:=firstArgMember _ _) (ζζ1i (a:=Value.none) (by first | rfl | (simp only [firstArgMember];rfl)) ?_)
 refine ζζ0m ?_ (by size_fits)
 simp only [raiseNew]
 refine ζζ2 (wpAny_handled ?_)
 rw[show A.in1.handled=none from hh]
 refine ζζ2 (ζζl (wpAny_throw ?_))
 refine ζζ2 (ζζ2f (T:="StopIteration") (b:=true) ⟨_,ζζf _ rfl,rfl⟩ isSubtype_stop ?_)
 exact ζζl (k _ ((((ζζ0k ..).extBut).push _).push _))
theorem ζy8{I a:Addr}{es:Array (Int × Value)}{ep:Nat}{t:SetTable}{ord:List Value}{sl:Nat->Nat}(hh:A.handled=none)(hN:ζq5 prog w a es ep t ord sl)(hf:t.fits es.size=true)(hne:a≠I) :
  Walks prog w A I [I,a] [I] ord.length (fun i v=>ord[i]?=some v) (fun i h=>i<=ord.length/\IsSi h I a (rawInt (sl i:Nat)) i es.size ep/\SetIs h a es ep t) where
 sub:=fun b hb=>ζζb.mpr (.inl (ζζ1.mp hb))
 frame:=fun _ _ _ x hk=>⟨x.1,x.2.1.keep fun o e=>hk I (by simp) o e,x.2.2.keep fun o e=>hk a (by simp) o e⟩
 item:=fun i s Q E hi ⟨_,x1,x2⟩ hQ=>by
  have hx:ord[i]?=some (ord[i]'hi):=ζζ0 hi
  exact ζ210 hN x2 hf x1 hx fun h' y hs=>hQ _ h' s.toks hx ⟨hi,y,x2.keep fun o e=>(hs.2 a hne).trans e⟩ fun b o hb eo=>hs.extBut b o (fun e=>hb (by simp[e])) eo
 done:=fun s Q E ⟨_,x1,x2⟩ hQ=>ζB11 hh hN x2 hf x1 fun h' he=>hQ h' s.toks fun b o hb eo=>he b o (fun e=>hb (by simp[e])) eo
 self:=fun _ _ _ _ x hQ=>ζJ7 x.2.1 hQ
theorem ζ29 {a:Addr} {es:Array (Int × Value)} {ep:Nat} {t:SetTable} (hf:t.fits es.size=true) (hr:Ris t) (hb:w.params.followText "set-order"=false) (hl:t.led=true) (hd:(!t.plain && decide (es.size > 1))=false) :
  ζq5 prog w a es ep t (es.toList.map (·.2)) (fun i=>if i=0 then 0 else (t.place.getD (i - 1) 0)+1):=by
 intro A E s i Q ⟨o,ho,hx,hda⟩ hi q
 have hps:t.place.size=es.size:=by
  unfold SetTable.fits at hf
  simp only [ζζ0u,ζζ11]at hf
  exact hf.1
 rw[ζζa,ζζD]at hi
 unfold setNext
 refine ζζ2 (ζζ1h ho hda hf ?_)
 dsimp only
 refine ζζ2 ?_
 unfold setsByText
 refine ζζ2 (ζζ1p (ζζl ?_))
 show wpAny _ _ (if (w.params.followText "set-order")=true then _ else _) _ _ _
 rw[if_neg (by rw[hb];decide)]
 show wpAny _ _ (if (!t.plain && decide (es.size > 1))=true then _ else _) _ _ _
 rw[if_neg (by rw[hd];decide)]
 refine ζζ2 ?_
 show wpAny _ _ (if (!t.led && !es.isEmpty)=true then _ else _) _ _ _
 rw[if_neg (by rw[hl];simp)]
 refine ζζl ?_
 have eb:SetTable.below t.place (if i=0 then 0 else (t.place.getD (i - 1) 0)+1)=i:=by
  by_cases c:i=0
  ·rw[if_pos c,c]
   exact ζL6 hr
  ·rw[if_neg c]
   obtain⟨v,hv⟩:∃ v,t.place[i - 1]?=some v:=⟨_,ζζB (by omega)⟩
   have e:t.place.getD (i - 1) 0=v:=by rw[ζζw,hv];rfl
   rw[e,ζM6 hr hv]
   omega
 rw[eb]
 refine ζζl ?_
 by_cases c:i<es.size
 ·obtain⟨v,hv⟩:∃ v,t.place[i]?=some v:=⟨_,ζζB (by omega)⟩
  obtain⟨y,hy⟩:∃ y,es[i]?=some y:=⟨_,ζζB c⟩
  have e:t.place.getD i 0=v:=by rw[ζζw,hv];rfl
  rw[ζζh,ζζN,hy]at q
  rw[hv,hy]
  simp only [ζζ2H,ζζ2h,e,if_neg (Nat.succ_ne_zero i)]at q
  exact q
 ·have e1:es[i]?=none:=ζζ0X (by omega)
  rw[ζζh,ζζN,e1]at q
  rw[e1]
  exact q
theorem ζ87 {a:Addr} {es:Array (Int × Value)} {ep:Nat} {t:SetTable} (hf:t.fits es.size=true) (hb:w.params.followText "set-order"=true) :
  ζq5 prog w a es ep t ((pickOrder (w.params.setOrder a ep) es).toList.map (·.2)) (fun _=>0):=by
 intro A E s i Q ⟨o,ho,hx,hda⟩ hi q
 unfold setNext
 refine ζζ2 (ζζ1h ho hda hf ?_)
 dsimp only
 refine ζζ2 ?_
 unfold setsByText
 refine ζζ2 (ζζ1p (ζζl ?_))
 show wpAny _ _ (if (w.params.followText "set-order")=true then _ else _) _ _ _
 rw[if_pos hb,if_neg (by simp)]
 refine ζζ2 ?_
 unfold setWalk
 refine ζζ2 (ζζ1h ho hda hf ?_)
 dsimp only
 refine ζζ2 ?_
 unfold setsByText
 refine ζζ2 (ζζ1p (ζζl ?_))
 show wpAny _ _ (if (w.params.followText "set-order")=true then _ else _) _ _ _
 rw[if_pos hb]
 refine ζζ2 (ζζ1p (ζζl ?_))
 rw[ζζh,ζζN,Option.map_map]at q
 exact ζζl q
def IsPl(h:Heap)(b:Addr)(pl:List Nat):Prop:=∃ o n,h.get? b=some o/\o.data=.seq (pl.map fun(i:Nat)=>rawInt (i:Int)).toArray n
theorem IsPl.keep{h h':Heap}{b:Addr}{pl:List Nat}(x:IsPl h b pl)(e:∀ o,h.get? b=some o->h'.get? b=some o):IsPl h' b pl:=let ⟨o,n,p,q⟩:=x;⟨o,n,e _ p,q⟩
theorem ζ510{I a b:Addr}{es:Array (Int × Value)}{ep:Nat}{t:SetTable}{pl:List Nat}{i j:Nat}{x:Int × Value}{Q:Option Value->Shared->Prop}(hS:SetIs s.heap a es ep t)(hf:t.fits es.size=true)(hi:IsSi s.heap I a (.ref b) i es.size ep)(hb:IsPl s.heap b pl)(hj:pl[i]?=some j)(hx:es[j]?=some x)
  (k:∀ h',IsSi h' I a (.ref b) (i+1) es.size ep->Heap.SameBut I s.heap h'->Q (some x.2) { s with heap:=h' }):wpAny (model prog w) A (pyNext (.ref I)) Q E s:=by
 obtain⟨o,ho,hc,hd⟩:=id hi
 obtain⟨oa,hoa,hxa,hda⟩:=id hS
 obtain⟨ob,nb,hob,hdb⟩:=hb
 unfold pyNext
 refine ζζ2 (ζζ1Q (ζζ0t (name:=Str.ofString "__next__") hi.ty si_next (ζζ0p si_next hi.ty ζD2 ?_ (ζE2 _))))
 unfold Builtin.«set_iterator.__next__»
 refine ζζ2 (ζζ1i (a:=(Value.ref I,[])) rfl ?_)
 dsimp only
 refine ζζ2 (ζζ2w ho hd ?_)
 dsimp only [rawInt]
 refine ζζ2 (ζζ1n hoa hda hf ?_)
 rw[if_neg (by simp)]
 refine ζζ2 (ζζ1o hob hdb ?_)
 dsimp only
 have e:(pl.map fun(i:Nat)=>rawInt (i:Int)).toArray[(i:Int).toNat]?=some (.int (j:Int) 0):=by rw[ζζC,ζζ3c,ζζh,hj];rfl
 rw[e]
 dsimp only
 rw[ζζC,ζζC]
 refine ζζ2 ?_
 unfold setNextDrawn
 refine ζζ2 (ζζ1h hoa hda hf ?_)
 dsimp only
 rw[if_neg (by simp),hx]
 refine ζζl ?_
 refine ζζ2 (ζζ15 ho hd (by simp) ?_)
 refine ζζl ⟨x.2,rfl,ζζl (k _ ⟨_,ζζ05 _ ho (ζζ1a (ζζ0b hd _)),?_,?_⟩ (ζζ0k ..))⟩
 ·rw[ζζ2a];exact hc
 ·rw[ζζ0b hd]
  simp
  rfl
theorem ζF11{I a b:Addr}{es:Array (Int × Value)}{ep:Nat}{t:SetTable}{pl:List Nat}{Q:Option Value->Shared->Prop}(hh:A.handled=none)(hS:SetIs s.heap a es ep t)(hf:t.fits es.size=true)(hi:IsSi s.heap I a (.ref b) pl.length es.size ep)(hb:IsPl s.heap b pl)
  (k:∀ h',Heap.ExtBut I s.heap h'->Q none { s with heap:=h' }):wpAny (model prog w) A (pyNext (.ref I)) Q E s:=by
 obtain⟨o,ho,hc,hd⟩:=id hi
 obtain⟨oa,hoa,hxa,hda⟩:=id hS
 obtain⟨ob,nb,hob,hdb⟩:=hb
 unfold pyNext
 refine ζζ2 (ζζ1Q (ζζ0t (name:=Str.ofString "__next__") hi.ty si_next (ζζ0p si_next hi.ty ζD2 ?_ (ζE2 _))))
 unfold Builtin.«set_iterator.__next__»
 refine ζζ2 (ζζ1i (a:=(Value.ref I,[])) rfl ?_)
 dsimp only
 refine ζζ2 (ζζ2w ho hd ?_)
 dsimp only [rawInt]
 refine ζζ2 (ζζ1n hoa hda hf ?_)
 rw[if_neg (by simp)]
 refine ζζ2 (ζζ1o hob hdb ?_)
 dsimp only
 have e:(pl.map fun(i:Nat)=>rawInt (i:Int)).toArray[(pl.length:Int).toNat]?=none:=by rw[ζζC,ζζ3c];exact ζζG (by simp)
 rw[e]
 dsimp only
 refine ζζ2 (ζζ15 ho hd (by simp) ?_)
 have ho2:=ζζ05 (Obj.mapFields (fun vs=>vs.setIfInBounds 0 (rawInt 0))) ho (ζζ1a (ζζ0b hd _))
 refine ζζ2 (ζζ15 ho2 (ζζ0b hd _) (by simp) ?_)
 show wpAny _ _ (newExc (.type "StopIteration") [] >>= _) _ _ _
 refine ζζ2 ?_
 simp only [newExc,newTuple]
 refine ζζ2 (ζζ0m ?_ (by size_fits))
 refine ζζ2 (m:=firstArgMember _ _) (ζζ1i (a:=Value.none) (by first | rfl | (simp only [firstArgMember];rfl)) ?_)
 refine ζζ0m ?_ (by size_fits)
 simp only [raiseNew]
 refine ζζ2 (wpAny_handled ?_)
 rw[show A.in1.handled=none from hh]
 refine ζζ2 (ζζl (wpAny_throw ?_))
 refine ζζ2 (ζζ2f (T:="StopIteration") (b:=true) ⟨_,ζζf _ rfl,rfl⟩ isSubtype_stop ?_)
 exact ζζl (k _ (((((ζζ0k ..).trans (ζζ0k ..)).extBut).push _).push _))
theorem ζG8{I a b:Addr}{es:Array (Int × Value)}{ep:Nat}{t:SetTable}{pl:List Nat}(hh:A.handled=none)(hp:pl.Perm (List.range es.size))(hf:t.fits es.size=true)(hne:a≠I)(hnb:b≠I) :
  Walks prog w A I [I,a,b] [I] pl.length (fun i v=>(pl.filterMap fun j=>(es[j]?).map (·.2))[i]?=some v) (fun i h=>i<=pl.length/\IsSi h I a (.ref b) i es.size ep/\SetIs h a es ep t/\IsPl h b pl) where
 sub:=fun c hc=>ζζb.mpr (.inl (ζζ1.mp hc))
 frame:=fun _ _ _ x hk=>⟨x.1,x.2.1.keep fun o e=>hk I (by simp) o e,x.2.2.1.keep fun o e=>hk a (by simp) o e,x.2.2.2.keep fun o e=>hk b (by simp) o e⟩
 item:=fun i s Q E hi ⟨_,x1,x2,x3⟩ hQ=>by
  have hj:pl[i]?=some (pl[i]'hi):=ζζ0 hi
  have hlt:=ζζy.mp (hp.mem_iff.mp (ζζe hj))
  have hx:es[pl[i]'hi]?=some (es[pl[i]'hi]'hlt):=ζζB hlt
  have fm:∀(l:List Nat),(∀ j∈l,j<es.size)->l.filterMap (fun j=>(es[j]?).map (·.2))=l.map fun j=>(es.getD j (0,.none)).2:=fun l hl=>by
   induction l with
   | nil=>rfl
   | cons y l ih =>
    have hy:=hl y ζζg
    rw[ζζ1E,ζζF,ih fun j h=>hl j (ζζk _ h),ζζB hy,ζζw,ζζB hy]
    rfl
  have hv:(pl.filterMap fun j=>(es[j]?).map (·.2))[i]?=some (es[pl[i]'hi]'hlt).2:=by
   rw[fm pl fun j hj=>ζζy.mp (hp.mem_iff.mp hj),ζζh,hj,ζζ2H,ζζw,hx]
   rfl
  exact ζ510 x2 hf x1 x3 hj hx fun h' y hs=>hQ _ h' s.toks hv ⟨hi,y,x2.keep fun o e=>(hs.2 a hne).trans e,x3.keep fun o e=>(hs.2 b hnb).trans e⟩ fun c o hc eo=>hs.extBut c o (fun e=>hc (by simp[e])) eo
 done:=fun s Q E ⟨_,x1,x2,x3⟩ hQ=>ζF11 hh x2 hf x1 x3 fun h' he=>hQ h' s.toks fun c o hc eo=>he c o (fun e=>hc (by simp[e])) eo
 self:=fun _ _ _ _ x hQ=>ζJ7 x.2.1 hQ
end
section
variable{prog:Program}{w:World}{A B:Around}{E:Value->Shared->Prop}{s:Shared}
theorem SetIs.ty {a:Addr} {es:Array (Int × Value)} {ep:Nat} {t:SetTable} (x:SetIs s.heap a es ep t):s.TypeIs (.ref a) "set":=let ⟨o,p,q,_⟩:=x;⟨o,p,q.1⟩
theorem ζD8 {a:Addr} {es:Array (Int × Value)} {ep:Nat} {t:SetTable} {Q:Value->Shared->Prop} (hh:A.handled=none) (hS:SetIs s.heap a es ep t) (hf:t.fits es.size=true) (hr:Ris t) (hl:t.led=!w.params.followText "set-order") (hz:es.size<=sizeLine)
  (k:∀(I:Addr) (h':Heap) d (ord:List Value) (fp:List Addr) (St:Nat->Heap->Prop),ord.Perm (es.toList.map (·.2))->Walks prog w A I fp [I] ord.length (fun i v=>ord[i]?=some v) St->St 0 h'->(∀ b∈fp,b<h'.objs.size/\(b=a\/s.heap.objs.size<=b))->I∈fp->s.heap.objs.size<=I->(∀ c o,s.heap.get? c=some o->h'.get? c=some o)->Q (.ref I) { s with heap:=h',drawn:=d }) :
  wpAny (model prog w) B (pyIter (.ref a)) Q E s:=by
 obtain⟨o,ho,hx,hd⟩:=id hS
 have lta:a<s.heap.objs.size:=ζζn ho
 refine wpAny_pyIter_slot hS.ty ζI7 (ζζ0p ζI7 hS.ty ζv8 ?_ (ζw8 _))
 unfold Builtin.«frozenset.__iter__»
 refine ζζ2 (ζζ1i (a:=a) rfl ?_)
 refine ζζ2 ?_
 unfold Builtin.Frozenset.sizeOf
 refine ζζ2 (ζζ1n ho hd hf (ζζl ?_))
 refine ζζ2 ?_
 unfold setDrawn
 refine ζζ2 (ζζ1h ho hd hf ?_)
 dsimp only
 refine ζζ2 ?_
 unfold setsByText
 refine ζζ2 (ζζ1p (ζζl (ζζl ?_)))
 have num:∀(ord:List Value) (sl:Nat->Nat),sl 0=0->ζq5 prog w a es ep t ord sl->ord.Perm (es.toList.map (·.2))->wpAny (model prog w) B.in1 (pure (rawInt 0) >>= fun first=>setEpoch a >>= fun e=>newFields "set_iterator" [first,rawInt 0,.ref a,rawInt (es.size:Int),rawInt (e:Int)] >>= fun it=>ret it)
   (fun fin s'=>∃ v,fin=Fin.done (Flow.ret v)/\∃ T' r,s'.TypeIs v T'/\typeLookup (Value.type T') (Str.ofString "__next__")=pure (some r)/\Q v s') E s:=fun ord sl h0 hN hp=>by
  refine ζζ2 (ζζl (ζζ2 (wpAny_setEpoch_of ho hd hf (ζζ2 ?_))))
  unfold newFields
  refine ζζ0m ?_ (by size_fits)
  have hI:IsSi (s.heap.push { cls:=.type "set_iterator",data:=.fields [rawInt 0,rawInt 0,.ref a,rawInt (es.size:Int),rawInt (ep:Int)].toArray }) s.heap.objs.size a (rawInt (sl 0:Nat)) 0 es.size ep:=⟨_,ζζf _ rfl,rfl,by rw [h0];rfl⟩
  refine ζζl ⟨_,rfl,"set_iterator",_,IsSi.ty (s:={ s with heap:=_ }) hI,si_next.lookup,?_⟩
  have ne:a≠s.heap.objs.size:=ζζr lta
  refine k _ _ s.drawn ord _ _ hp (ζy8 hh hN hf ne) ⟨ζζj _,hI,hS.keep fun o e=>ζζ3 _ e⟩ (fun b hb=>?_) (by simp) (ζζ5 _) fun c o e=>ζζ3 _ e
  rw[ζζ0B]
  rcases ζζb.mp hb with e | e
  ·rw[e];exact⟨ζζ0z _,.inr (ζζ5 _)⟩
  ·rw[ζζ1.mp e];exact⟨ζζ0o lta,.inl rfl⟩
 by_cases hb:w.params.followText "set-order"=true
 ·rw [if_neg (by show ¬ (!w.params.followText "set-order" && _)=true;rw [hb];simp)]
  refine num _ (fun _=>0) rfl (ζ87 hf hb) ?_
  have:=ζs4 (f:=w.params.setOrder a ep) es.size 0 es.toList #[] (by rw[ζζD])
  exact this.map _
 ·have hb':w.params.followText "set-order"=false:=by simpa using hb
  rw[hb']at hl
  by_cases c:(!t.plain && decide (es.size > 1))=true
  ·rw [if_pos (by show(!w.params.followText "set-order" && (!t.plain && decide (es.size > 1)))=true;rw [hb',c];rfl)]
   refine ζζ2 (ζx6 es.size (List.range es.size) s _ (by rw[ζζS]) fun pl d hp=>?_)
   have hpl:pl.length=es.size:=by rw[hp.length_eq,ζζS]
   refine ζζ2 (wpAny_newTuple ?_ (by rw[ζζa,hpl];exact hz))
   have hoS:∀(h:Heap) o,h.get? a=some o->(h.push { cls:=.type "tuple",data:=.seq (List.map (fun i=>rawInt ((i:Nat):Int)) pl).toArray }).get? a=some o:=fun h o e=>ζζ3 _ e
   refine ζζ2 (wpAny_setEpoch_of (hoS s.heap o ho) hd hf (ζζ2 ?_))
   unfold newFields
   refine ζζ0m ?_ (by size_fits)
   have ne:a≠s.heap.objs.size:=ζζr lta
   generalize hh1:s.heap.push { cls:=.type "tuple",data:=.seq (List.map (fun i=>rawInt ((i:Nat):Int)) pl).toArray }=h1
   have s1:h1.objs.size=s.heap.objs.size+1:=by rw[<- hh1];exact ζζ0B ..
   have old1:∀ c o,s.heap.get? c=some o->h1.get? c=some o:=fun c o e=>by rw[<- hh1];exact ζζ3 _ e
   have hP1:IsPl h1 s.heap.objs.size pl:=by rw[<- hh1];exact⟨_,0,ζζf _ rfl,rfl⟩
   have hI:IsSi (h1.push { cls:=.type "set_iterator",data:=.fields [Value.ref s.heap.objs.size,rawInt 0,.ref a,rawInt (es.size:Int),rawInt (ep:Int)].toArray }) h1.objs.size a (.ref s.heap.objs.size) 0 es.size ep:=⟨_,ζζf _ rfl,rfl,rfl⟩
   refine ζζl ⟨_,rfl,"set_iterator",_,IsSi.ty (s:={ s with heap:=_,drawn:=d }) hI,si_next.lookup,?_⟩
   have hord:(pl.filterMap fun j=>(es[j]?).map (·.2)).Perm (es.toList.map (·.2)):=by
    refine(hp.filterMap _).trans ?_
    rw[<- filterMap_getElem?_range es,List.map_filterMap]
   have hol:(pl.filterMap fun j=>(es[j]?).map (·.2)).length=pl.length:=by rw[hord.length_eq,ζζa,ζζD,hpl]
   have W:=ζG8 (prog:=prog) (w:=w) (A:=A) (I:=h1.objs.size) (a:=a) (b:=s.heap.objs.size) (es:=es) (ep:=ep) (t:=t) hh hp hf (by rw[s1];exact ζζr (ζζ0o lta)) (by rw[s1];exact ζζr (ζζ0z _))
   rw[<- hol]at W
   refine k _ _ d _ _ _ hord W ⟨ζζj _,hI,hS.keep fun o e=>ζζ3 _ (old1 _ o e),hP1.keep fun o e=>ζζ3 _ e⟩ (fun b hb=>?_) (by simp) (by rw[s1];exact ζζ0w _) fun c o e=>ζζ3 _ (old1 c o e)
   rw[ζζ0B,s1]
   rcases ζζb.mp hb with e | e
   ·rw[e,s1];exact⟨ζζ0z _,.inr (ζζ0w _)⟩
   ·rcases ζζb.mp e with e | e
    ·rw[e];exact⟨ζζ0o (ζζ0o lta),.inl rfl⟩
    ·rw[ζζ1.mp e];exact⟨ζζ0o (ζζ0z _),.inr (ζζ5 _)⟩
  ·have c':(!t.plain && decide (es.size > 1))=false:=by simpa using c
   rw [if_neg (by show ¬ (!w.params.followText "set-order" && (!t.plain && decide (es.size > 1)))=true;rw [c'];simp)]
   exact num _ _ rfl (ζ29 hf hr hb' hl c') .rfl
end
theorem ζA11:typeLookup (.type "set") "__len__"=pure (some (.builtin "set.__len__")):=by rw [ζζ2m,ζζ1D];kernel_rfl
section
variable{prog:Program}{w:World}{A:Around}{E:Value->Shared->Prop}{s:Shared}
theorem ζZ9 {r:Addr} {Q:Bool->Shared->Prop} (hT:s.TypeIs (.ref r) "set") (h:Q false s):wpAny (model prog w) A (Builtin.List.listLengthHint (.ref r)) Q E s:=by
 unfold Builtin.List.listLengthHint
 refine ζζ2 (wpAny_specialOf hT ζA11 ?_)
 generalize hid:("set.__len__":String)=id0
 wp_delta
 rw [show splitId id0=some ("set","__len__") from by subst hid;decide +kernel]
 subst hid
 refine ζζ2 (ζζ2f (T:="set") (b:=true) hT sub_set_self ?_)
 show wpAny _ A (typeOf (Value.ref r) >>= _) _ _ _
 exact ζζ2 (ζζ2V (T:="set") hT (ζζl h))
theorem ζm5 {a:Addr} {es:Array (Int × Value)} {ep:Nat} {t:SetTable} {Q:List Value->Shared->Prop} (hh:A.handled=none) (hS:SetIs s.heap a es ep t) (hf:t.fits es.size=true) (hr:Ris t) (hl:t.led=!w.params.followText "set-order") (hz:es.size<=sizeLine)
  (k:∀(out:List Value) h' tk d,out.Perm (es.toList.map (·.2))->s.heap.objs.size<=h'.objs.size->(∀ c o,s.heap.get? c=some o->h'.get? c=some o)->Q out { s with heap:=h',toks:=tk,drawn:=d }):wpAny (model prog w) A (collect (.ref a)) Q E s:=by
 have hL1:(s.heap.push (seqObj "list" #[] 0)).get? s.heap.objs.size=some (seqObj "list" #[] 0):=ζζf _ rfl
 have hS1:SetIs (s.heap.push (seqObj "list" #[] 0)) a es ep t:=hS.keep fun o e=>ζζ3 _ e
 have lta:a<s.heap.objs.size:=let ⟨_,e,_⟩:=hS;ζζn e
 unfold collect
 refine ζζ2 (ζζ28 (ζζ09 ζζ2S ?_))
 show wpAny _ _ (newList [] >>= fun v=>again (.builtin "list.__iadd__" ⟨[v,.ref a],[]⟩)) _ _ s
 refine ζζ2 (ζζ1x (ζζl ⟨ζζ1w _ (by decide +kernel),ζζ09 entry_list_iadd' ?_⟩))
 show wpAny _ _ (Builtin.List.listExtendWith (.ref s.heap.objs.size) (.ref a) (.ref s.heap.objs.size)) _ _ { s with heap:=s.heap.push (seqObj "list" #[] 0) }
 unfold Builtin.List.listExtendWith
 refine ζζ2 (ζζ2V (T:="set") (SetIs.ty (s:={ s with heap:=s.heap.push (seqObj "list" #[] 0) }) hS1) ?_)
 have e1:Builtin.List.listSameRef (.ref s.heap.objs.size) (.ref a)=false:=by
  show(s.heap.objs.size == a)=false
  exact ζζ2G (ζζ0H lta)
 rw[if_neg (by rw[e1];decide)]
 refine ζζ2 (ζD8 (A:=A.in1) (by simp[hh]) hS1 hf hr hl hz fun I h' d ord fp St hord W st0 hfp hI hge kp=>?_)
 have hT':Shared.TypeIs { s with heap:=h',drawn:=d } (.ref a) "set":=SetIs.ty (s:={ s with heap:=h',drawn:=d }) (hS1.keep fun o e=>kp a o e)
 refine ζζ2 (ζζ0x (ζZ9 hT' ?_))
 rw[if_pos (by decide +kernel)]
 have hL2:=kp _ _ hL1
 refine ζζ2 (ζζ2W (ζζ2 ?_))
 unfold Builtin.List.listTouch
 refine ζζ2 (ζζ1K (xs:=#[]) (n:=0) hL2 rfl ?_ (ζζj _) (by show 1<=sizeLine+1;omega))
 have hL3:=ζζ05 (Obj.mapSeq (·.push Value.none)) hL2 rfl
 refine ζζ1K (xs:=#[].push Value.none) (n:=1) hL3 rfl ?_ (by show 1<=sizeLine;decide) (by show 0<=sizeLine+1;omega)
 have hL4:=ζζ05 (Obj.mapSeq Array.pop) hL3 rfl
 have old:∀ c o,c≠s.heap.objs.size->h'.get? c=some o->((h'.update s.heap.objs.size (Obj.mapSeq (·.push Value.none))).update s.heap.objs.size (Obj.mapSeq Array.pop)).get? c=some o:=fun c o hc e=>by
  rw[ζζQ _ _ (ζζY hc),ζζQ _ _ (ζζY hc)]
  exact e
 generalize (h'.update s.heap.objs.size (Obj.mapSeq (·.push Value.none))).update s.heap.objs.size (Obj.mapSeq Array.pop)=h4 at *
 have hSf:s.heap.objs.size∉fp:=fun q=>by
  rcases(hfp _ q).2 with e | e
  ·exact ζζ0H lta e
  ·rw [show({ s with heap:=s.heap.push (seqObj "list" #[] 0) }:Shared).heap.objs.size=s.heap.objs.size+1 from ζζ0B ..] at e
   exact Nat.not_succ_le_self _ e
 have lenO:ord.length=es.size:=by rw[hord.length_eq,ζζa,ζζD]
 refine ζζl ⟨ζζ0Z PySem.F.plain_extend_loop _,codeAny_extend_loopS W.toS (by rw[lenO];exact hz) s.heap.objs.size hSf _ ord.length 0 _ #[] _ rfl (ζζj _) (W.frame 0 _ _ st0 fun b hb o e=>old b o (fun q=>hSf (q ▸ hb)) e) hL4 (ItemsOf.nil _) fun s2 acc c m hL5 hacc=>?_⟩
 have eo:acc.toList=ord:=by
  refine ζζ0D fun i=>?_
  rw[ζζN]
  by_cases hi:i<ord.length
  ·have q:acc[i]?=some (acc[i]'(by rw[hacc.1];exact hi)):=ζζB _
   rw[q,hacc.2 i _ q]
  ·rw[ζζG (by omega),ζζ0X (by rw[hacc.1];omega)]
 show wpAny _ A (load s.heap.objs.size >>= _) Q E s2
 refine ζζ2 (ζζ2X hL5 ?_)
 refine ζζl ?_
 rw[eo,Moved.eq_with m]
 refine k ord s2.heap s2.toks d hord (ζζ1z (ζζn hL5)) fun c o e=>?_
 have lt:=ζζn e
 refine m.heap c o (fun q=>?_) (old c o (ζζr lt) (kp c o (ζζ3 _ e)))
 rcases ζζb.mp q with e' | e'
 ·exact ζζr lt e'
 ·rw[ζζ1.mp e']at lt
  have:=ζζt lt (ζζO (ζζ0w _) (ζζ0B .. ▸ hge))
  exact ζζ0M _ this
end
theorem ζv2{m:List Int}:∀ {l:List Int},m.Nodup->l.length=m.length->(∀ x∈m,x∈l)->l.Perm m:=by
 induction m with
 | nil=>intro l _ h _;rw[ζζ00.mp h]
 | cons x m ih =>
  intro l hn hl hs
  have hx:=hs x ζζg
  have hn':=ζζ0h.mp hn
  refine(List.perm_cons_erase hx).trans ((ih hn'.2 (by rw[ζζ2Q hx,hl];rfl) fun y hy=>?_).cons x)
  have ne:y≠x:=fun e=>hn'.1 (by rw[<- e];exact hy)
  exact(List.mem_erase_of_ne ne).mpr (hs y (ζζk _ hy))
theorem ζk7{us vs:List Value}(p:us.Perm vs):∀ {ns:List Int},IntsAre vs ns->∃ ms,IntsAre us ms/\ms.Perm ns:=by
 induction p with
 | nil=>intro ns h;exact⟨ns,h,.rfl⟩
 | cons x _ ih =>
  intro ns h
  cases h with
  | cons n t h =>
   obtain⟨ms,h1,h2⟩:=ih h
   exact⟨n :: ms,.cons n t h1,h2.cons n⟩
 | swap x y l =>
  intro ns h
  cases h with
  | cons n t h =>
   cases h with
   | cons m u h=>exact⟨m :: n :: _,.cons m u (.cons n t h),.swap n m _⟩
 | trans _ _ ih1 ih2 =>
  intro ns h
  obtain⟨ms,h1,h2⟩:=ih2 h
  obtain⟨ls,h3,h4⟩:=ih1 h1
  exact⟨ls,h3,h4.trans h2⟩
theorem ζn9{vs:List Value}{ns:List Int}(h:IntsAre vs ns):vs.length=ns.length:=by
 induction h with
 | nil=>rfl
 | cons n t _ ih=>rw[ζζq,ζζq,ih]
theorem ζB1(val:Nat->Int):∀ i,(firstMet val i).Nodup
 | 0=>.nil
 | i+1=>by
  rw[ζζ2D]
  unfold step_dedup
  split
  ·exact ζB1 val i
  ·rename_i h
   refine ζζ0c.mpr ⟨ζB1 val i,by simp,fun a ha b hb e=>?_⟩
   rw[ζζ1.mp hb]at e
   exact h (ζζ0W.mpr ⟨a,ha,by rw[e];simp⟩)
section
variable{prog:Program}{w:World}{A:Around}{E:Value->Shared->Prop}{s:Shared}
theorem ζh2:∀ {l:List (Int × Value)},ElemsOf (intKind prog w) l->∃ ms,IntsAre (l.map (·.2)) ms/\∀ z,z∈ms↔∃ y∈l,(intKind prog w).is z y.2=true
 | [],_=>⟨[],.nil,fun z=>⟨fun h=>(by cases h),fun⟨y,h,_⟩=>(by cases h)⟩⟩
 | y :: l,h=>by
  obtain⟨ms,h1,h2⟩:=ζh2 h.tail
  obtain⟨⟨z,hz,_⟩,_⟩:=h.head
  obtain⟨hy,v⟩:=y
  obtain⟨u,rfl⟩:=Value.isInt_shape (show Value.isInt z v=true from hz)
  refine⟨z :: ms,.cons z u h1,fun x=>?_⟩
  rw[ζζb,h2]
  constructor
  ·rintro(e | ⟨y,hy,q⟩)
   ·exact⟨_,ζζg,e ▸ hz⟩
   ·exact⟨y,ζζk _ hy,q⟩
  ·rintro⟨y,hy,q⟩
   rcases ζζb.mp hy with e | e
   ·rw[e]at q
    exact .inl ((intKind prog w).inj _ _ _ q hz)
   ·exact .inr ⟨y,e,q⟩
theorem ζF5 {a:Addr} {led:Bool} {S:Int->Bool} {n:Nat} {Q:Value->Shared->Prop} (hh:A.handled=none) (hS:SetR prog w s.heap a (!w.params.followText "set-order") S n) (h64:n<64)
  (k:∀(ms:List Int) (out:List Value) r h' tk d c,IntsAre out ms->ms.Pairwise (·<=·)->ms.length=n->(∀ z,z∈ms↔S z=true)->s.heap.objs.size<=r->h'.get? r=some (seqObj "list" out.toArray c)->(∀ c o,s.heap.get? c=some o->h'.get? c=some o)->Q (.ref r) { s with heap:=h',toks:=tk,drawn:=d }) :
  wpAny (model prog w) A (call (.builtin "sorted") [.ref a]) Q E s:=by
 obtain⟨o,es,ep,t,ho,hx,hd,he,hm,hb,hf,hn,hr,hl⟩:=hS
 obtain⟨ns,hI,hmem⟩:=ζh2 he
 have hsl:sizeLine=16777216:=ζζ0C
 refine Calls.call_function_entry kind_sorted plain_sorted entry_sorted (args_sorted1 _) ?_
 unfold Builtin.«sorted»
 refine ζζ2 (m:=checkCount "sorted" 1 1 _) (ζζl ?_)
 refine ζζ2 (ζm5 (A:=A.in1) (by simp[hh]) ⟨o,ho,hx,hd⟩ hf hr hl (by omega) fun out h1 tk d hp hge kp=>?_)
 obtain⟨ls,hI2,hp2⟩:=ζk7 hp hI
 have lo:=ζn9 hI2
 have ll:ls.length=n:=by rw[<- lo,hp.length_eq,ζζa,ζζD,hn]
 refine ζζ2 (ζζ1x ?_)
 have hL:(h1.push (seqObj "list" out.toArray 0)).get? h1.objs.size=some (seqObj "list" out.toArray 0):=ζζf _ rfl
 refine ζζ2 (ζζ0x (ζζ0p slot_list_sort ⟨_,hL,rfl⟩ entry_list_sort (list_sort_tree hL hI2 (by omega) fun res ms b1 b2 b3=>⟨_,rfl,?_⟩) (args_list_sort _)))
 obtain⟨c,hc⟩:=sortedHeap_at (out:=res) hL
 refine ζζl ⟨_,rfl,k ms res.toList h1.objs.size _ tk d c b1 b3 (by rw[b2.length_eq,ll]) (fun z=>by rw[b2.mem_iff,hp2.mem_iff,hmem,hm]) hge (by rw[Array.toArray_toList];exact hc) fun b ob e=>?_⟩
 have lt:=ζζn (kp b ob e)
 rw[sortedHeap_old (ζζr lt) (by rw[size_push'];exact ζζ0o lt)]
 exact ζζ3 _ (kp b ob e)
end
section
variable{X:Cx}
theorem Inv.drew{X:Cx}{pins:List (Addr × Obj)}{σ:St}{H:Hp}{s:Shared}(I:Inv X pins σ H s)(d:Drawn):Inv X pins σ H { s with drawn:=d } :=
 I.step (g':=s.gens) (d':=d) (t':=s.toks) (h':=s.heap) (ch:=[]) (fun b hb=>(by cases hb)) (fun b o _ _ _ q _=>q) (fun b o _ _ _ q _=>⟨o.slots,q⟩) (fun b o _ _ n=>n) (fun b o _ q=>⟨o,q⟩) (fun b xs q=>q) (fun b o u q=>q) (fun b ps q=>⟨#[],by rw[q];simp⟩) (fun m hm=>hm) I.hok I.bare
end
end L2
namespace My
open PySem L2
def FD(A B:List Int)(t:Int):Prop:=t∈A/\t∉B/\∀ s,s<t->(s∈A↔s∈B)
theorem ζC4:∀ {A B:List Int},A.Pairwise (· < ·)->B.Pairwise (· < ·)->A.length=B.length->(HT.lexLt A B=true↔∃ t,FD A B t)
 | [],[],_,_,_=>⟨fun h=>(by cases h),fun⟨t,h,_⟩=>(by cases h)⟩
 | x :: A,y :: B,hA,hB,hl=>by
  obtain⟨a1,a2⟩:=ζζ0d.mp hA
  obtain⟨b1,b2⟩:=ζζ0d.mp hB
  have hl':A.length=B.length:=ζζ1k hl
  show(if x=y then HT.lexLt A B else decide (x<y))=true↔_
  by_cases c:x=y
  ·subst c
   rw[if_pos rfl,ζC4 a2 b2 hl']
   constructor
   ·rintro⟨t,h1,h2,h3⟩
    have tx:=a1 t h1
    refine⟨t,ζζk _ h1,fun q=>?_,fun s hs=>?_⟩
    ·rcases ζζb.mp q with e | e
     ·omega
     ·exact h2 e
    ·rw[ζζb,ζζb,h3 s hs]
   ·rintro⟨t,h1,h2,h3⟩
    have tx:t≠x:=fun e=>h2 (e ▸ ζζg)
    have h1':=(ζζb.mp h1).resolve_left tx
    refine⟨t,h1',fun q=>h2 (ζζk _ q),fun s hs=>?_⟩
    have:=h3 s hs
    rw[ζζb,ζζb]at this
    by_cases e:s=x
    ·rw[e]
     exact⟨fun q=>absurd (a1 x q) (Int.lt_irrefl x),fun q=>absurd (b1 x q) (Int.lt_irrefl x)⟩
    ·exact⟨fun q=>(this.mp (.inr q)).resolve_left e,fun q=>(this.mpr (.inr q)).resolve_left e⟩
  ·rw[if_neg c,ζζM]
   constructor
   ·intro h
    refine⟨x,ζζg,fun q=>?_,fun s hs=>⟨fun q=>?_,fun q=>?_⟩⟩
    ·rcases ζζb.mp q with e | e
     ·exact c e
     ·have:=b1 x e;omega
    ·rcases ζζb.mp q with e | e
     ·omega
     ·have:=a1 s e;omega
    ·rcases ζζb.mp q with e | e
     ·omega
     ·have:=b1 s e;omega
   ·rintro⟨t,h1,h2,h3⟩
    have tx:x<=t:=by
     rcases ζζb.mp h1 with e | e
     ·omega
     ·have:=a1 t e;omega
    refine ζζp fun hc=>?_
    have hyx:y<x:=by omega
    have:=(h3 y (by omega)).mpr ζζg
    rcases ζζb.mp this with e | e
    ·omega
    ·have:=a1 y e;omega
theorem ζv12{s rest:TS}{D:Ends}{σ:L2.St}{H:Hp}(P:L2.St->Hp->Prop)(h1:∀ σ' H',P σ' H'->rest D σ' H')(h2:∀ K:L2.St->Hp->Prop,(∀ σ' H',P σ' H'->K σ' H')->s { D with nx:=K } σ H):tSeq s rest D σ H:=h2 _ h1
theorem ζ610{n:Int}{ps:List (Int × Int)}(g:ζy n ps):∃ L:List (List Int),(∀ l,l∈L↔ζd n ps l)/\L.Pairwise lexS:=⟨frs n.toNat ps (n - 1).toNat,fun _=>ζt9 g,(ζj8 _ _).filter _⟩
end My
namespace L2
open PySem PySem.Spec PyProof.Rows
structure CompScopeD (sc0:Scope) (N N':List Str) (o:Nat) (fr:List Nat) (scope:Scope) (xo:Str):Prop where
 kind:scope.kind=.function
 one:(scope.names.filter fun y=>y.2 == .cell)=[(xo,.cell)]
 loc:(scope.names.all fun y=>y.2 != .local || scope.names.lookup y.1 == some .local)=true
 free:(scope.names.all fun y=>y.2 != .free || (y.1 != xo && (sc0.names.lookup y.1 == some .cell || sc0.names.lookup y.1 == some .free)))=true
 len:N'.length=o+fr.length
 sees:((List.range fr.length).all fun j=>match fr[j]? with
  | none=>false
  | some y=>match N[y]? with
   | none=>false
   | some x=>N'[o+j]? == some x && scope.names.lookup x == some .free)=true
section
variable{prog:Program}{w:World}{A:Around}{E:Value->Shared->Prop}{s:Shared}
theorem ζ19{j t:Addr}{i:Nat}{us:Array Value}{u:Value}{Q:Value->Shared->Prop}(hj:s.heap.IsTupleIter j t i)(ht:s.heap.IsTuple t us)(hu:us[i]?=some u)
  (q:∀ h',h'.IsTupleIter j t (i+1)->Heap.SameBut j s.heap h'->Q u { s with heap:=h' }):wpAny (model prog w) A (Builtin.SmallTypes.nextOf (.ref j)) Q E s:=by
 obtain⟨o1,e1,c1,d1⟩:=id hj
 obtain⟨o2,e2,_,n2,d2⟩:=ht
 unfold Builtin.SmallTypes.nextOf
 refine ζζ2 (ζζ0t (name:=Str.ofString "__next__") hj.typeIs ζζ1g (ζζ0p ζζ1g hj.typeIs ζζ3g ?_ (ζζ36 _)))
 show wpAny _ _ (field (.ref j) 0 >>= _) _ _ s
 refine ζζ2 (ζζ2F e1 d1 (x:=.ref t) rfl ?_)
 rw[if_neg (show ¬ (Value.ref t == Value.none)=true from ζζu)]
 show wpAny _ _ (field (.ref j) 1 >>= _) _ _ s
 refine ζζ2 (ζζ2F e1 d1 (x:=.int i 0) rfl ?_)
 show wpAny _ _ (seqItems? (.ref t) >>= _) _ _ s
 refine ζζ2 (ζζ1o e2 d2 ?_)
 simp only [hu,ζζC]
 refine ζζ2 (ζζ15 e1 d1 (by simp) (ζζl ⟨u,rfl,ζζl (q _ ?_ (ζζ0k ..))⟩))
 refine⟨_,ζζ05 _ e1 (ζζ1a (ζζ0b d1 _)),(ζζ2a ..).trans c1,?_⟩
 rw[ζζ0b d1]
 simp[rawInt]
theorem ζT7{j t:Addr}{i:Nat}{us:Array Value}{Q:Value->Shared->Prop}(hh:A.handled=none)(hj:s.heap.IsTupleIter j t i)(ht:s.heap.IsTuple t us)(hu:us[i]?=none)
  (q:∀ h' e,Heap.ExtBut j s.heap h'->(∃ o,h'.get? e=some o/\o.cls=.type "StopIteration")->E (.ref e) { s with heap:=h' }):wpAny (model prog w) A (Builtin.SmallTypes.nextOf (.ref j)) Q E s:=by
 obtain⟨o1,e1,c1,d1⟩:=id hj
 obtain⟨o2,e2,_,n2,d2⟩:=ht
 unfold Builtin.SmallTypes.nextOf
 refine ζζ2 (ζζ0t (name:=Str.ofString "__next__") hj.typeIs ζζ1g (ζζ0p ζζ1g hj.typeIs ζζ3g ?_ (ζζ36 _)))
 show wpAny _ _ (field (.ref j) 0 >>= _) _ _ s
 refine ζζ2 (ζζ2F e1 d1 (x:=.ref t) rfl ?_)
 rw[if_neg (show ¬ (Value.ref t == Value.none)=true from ζζu)]
 show wpAny _ _ (field (.ref j) 1 >>= _) _ _ s
 refine ζζ2 (ζζ2F e1 d1 (x:=.int i 0) rfl ?_)
 show wpAny _ _ (seqItems? (.ref t) >>= _) _ _ s
 refine ζζ2 (ζζ1o e2 d2 ?_)
 simp only [hu,ζζC]
 refine ζζ2 (ζζ2W (ζζ2 (ζζ15 e1 d1 (by simp) (ζζ2 (m:=newExc (.type "StopIteration") []) ?_))))
 simp only [newTuple,newExc]
 refine ζζ2 (ζζ0m (ζζ2 (m:=firstArgMember _ _) (ζζ1i (a:=Value.none) (by first | rfl | (simp only [firstArgMember];rfl)) (ζζ0m ?_ (by size_fits)))) (by size_fits))
 unfold raiseNew
 refine ζζ2 (wpAny_handled ?_)
 first
  | rw[hh]
  | rw[show A.in1.handled=none from hh]
 refine ζζ2 (ζζl (wpAny_throw (q _ _ (((ζζ0k ..).extBut.push _).push _) ⟨_,ζζf _ rfl,rfl⟩)))
end
end L2
namespace My
open PySem L2
def ev(b:Int):List Int->Int
 | []=>0
 | d :: l=>d+b * ev b l
theorem ζS6(l:List Int)(x:Int):(l++[x]).sum=l.sum+x:=by
 induction l with
 | nil=>show x+0=0+x;omega
 | cons y l ih=>show y+(l++[x]).sum=y+l.sum+x;omega
def cM(M:List Int)(p:Nat)(x:Int):Int:=((M.take p).count x:Nat)
theorem ζf3{n:Nat}:∀ es:List (Nat × Nat),InN n es->∀ i,i<n->0<=mk (pms n es) i/\mk (pms n es) i<=(i:Int)/\mk (pms n es) (mk (pms n es) i).toNat=mk (pms n es) i:=by
 refine ζ01 (fun _ i hi=>?_) fun es e ih h=>?_
 ·have e:mk (pms n []) i=(i:Int):=ζM1 hi
  rw[e,ζζC]
  exact⟨by omega,ζζ0L _,e⟩
 ·obtain⟨h1,h2,h3⟩:=h.snoc
  have ih:=ih h1
  intro i hi
  rw[ζO5]
  have hl:=ζm n es
  generalize pms n es=M at *
  obtain⟨i1,i2,i3⟩:=ih i hi
  obtain⟨a1,a2,a3⟩:=ih e.1 h2
  obtain⟨b1,b2,b3⟩:=ih e.2 h3
  unfold pm
  by_cases c:min (mk M e.1) (mk M e.2)<max (mk M e.1) (mk M e.2)
  ·rw[if_pos c]
   obtain⟨lo,hlo⟩:∃ lo,lo=min (mk M e.1) (mk M e.2):=⟨_,rfl⟩
   obtain⟨hi',hhi⟩:∃ hi',hi'=max (mk M e.1) (mk M e.2):=⟨_,rfl⟩
   rw[<- hlo,<- hhi]at c ⊢
   have lown:mk M lo.toNat=lo:=by
    rcases Int.le_total (mk M e.1) (mk M e.2) with q | q
    ·rw[hlo,ζζ2K q];exact a3
    ·rw[hlo,ζζ2C q];exact b3
   have lb:0<=lo/\lo<(n:Int):=by
    rcases Int.le_total (mk M e.1) (mk M e.2) with q | q
    ·rw[hlo,ζζ2K q];omega
    ·rw[hlo,ζζ2C q];omega
   rw[ζV3 _ _ (by omega)]
   by_cases d:mk M i=hi'
   ·rw[if_pos d,ζV3 _ _ (by omega),lown,if_neg (by omega)]
    omega
   ·rw[if_neg d,ζV3 _ _ (by omega),i3,if_neg d]
    exact⟨i1,i2,rfl⟩
  ·rw[if_neg c]
   exact⟨i1,i2,i3⟩
section
variable{n:Nat}{es:List (Nat × Nat)}(h:InN n es)
include h
theorem ζQ3{i:Nat}(hi:i<n):Conn es i (mk (pms n es) i).toNat:=by
 obtain⟨a,b,c⟩:=ζf3 es h i hi
 exact(ζg3 h hi (by omega)).mp c.symm
theorem ζJ2{i j:Nat}(hi:i<n)(hj:j<n)(c:Conn es i j):mk (pms n es) i<=(j:Int):=by
 rw[(ζg3 h hi hj).mpr c]
 exact(ζf3 es h j hj).2.1
end
theorem ζU4{es:List (Nat × Nat)}{φ:Nat->Prop}(h:∀ e∈es,(φ e.1↔φ e.2)){i j:Nat}(c:Conn es i j):φ i↔φ j:=by
 induction c with
 | refl i=>exact Iff.rfl
 | edge q=>exact h _ q
 | symm _ ih=>exact ih.symm
 | trans _ _ i1 i2=>exact i1.trans i2
theorem ζI9{es fs:List (Nat × Nat)}(f:Nat->Nat)(h:∀ e∈es,Conn fs (f e.1) (f e.2)){i j:Nat}(c:Conn es i j):Conn fs (f i) (f j):=by
 induction c with
 | refl i=>exact .refl _
 | edge e=>exact h _ e
 | symm _ ih=>exact ih.symm
 | trans _ _ ih1 ih2=>exact ih1.trans ih2
theorem ζA10(f:Int->Int):∀ {l:List Int},l≠[]->∃ m∈l,∀ z∈l,f z<=f m
 | [x],_=>⟨x,by simp,fun z hz=>by rw[ζζ1.mp hz];exact ζζ0L _⟩
 | x :: y :: l,_=>by
  obtain⟨m,hm,q⟩:=ζA10 f (l:=y :: l) (by simp)
  by_cases c:f m<=f x
  ·exact⟨x,by simp,fun z hz=>by
    rcases ζζb.mp hz with r | r
    ·rw[r];exact ζζ0L _
    ·exact Int.le_trans (q z r) c⟩
  ·exact⟨m,ζζk _ hm,fun z hz=>by
    rcases ζζb.mp hz with r | r
    ·rw[r];omega
    ·exact q z r⟩
abbrev lnz(ls:List Int)(z:Int):Int:=ls.getD z.toNat 0
def lwS(ls:List Int)(x:Int):List Int:=(rgL ls.length).filter fun z=>decide (lnz ls z<x)
def leS(ls:List Int)(x:Int):List Int:=(rgL ls.length).filter fun z=>decide (lnz ls z<=x)
theorem lwS_mem{ls:List Int}{x z:Int}:z∈lwS ls x↔(0<=z/\z<(ls.length:Int))/\lnz ls z<x:=by
 unfold lwS
 rw[ζζm,rgL_mem,ζζM]
theorem leS_mem{ls:List Int}{x z:Int}:z∈leS ls x↔(0<=z/\z<(ls.length:Int))/\lnz ls z<=x:=by
 unfold leS
 rw[ζζm,rgL_mem,ζζM]
theorem ζW3{ls:List Int}{x y:Int}(h:y<x){z:Int}(hz:z∈lwS ls x)(hy:lnz ls z=y):(lwS ls y).length<(lwS ls x).length:=by
 have hn:∀ x,(lwS ls x).Nodup:=fun x=>(ζ96 (ζq4 _)).filter _
 have hz2:z∉lwS ls y:=fun c=>by have:=(lwS_mem.mp c).2;omega
 exact ζQ1 (l:=z :: lwS ls y) (ζζ0h.mpr ⟨hz2,hn y⟩) fun w hw=>by
  rcases ζζb.mp hw with r | r
  ·exact r ▸ hz
  ·have q:=lwS_mem.mp r
   exact lwS_mem.mpr ⟨q.1,by omega⟩
def mA(N:Nat)(ps:List (Int × Int))(ls:List Int)(x:Int):List Int:=pms N (ζ6 ps (lwS ls x))
def mB(N:Nat)(ps:List (Int × Int))(ls:List Int)(x:Int):List Int:=pms N (ζ6 ps (leS ls x))
def spt(N:Nat)(ps:List (Int × Int))(ls:List Int)(x:Int)(i:Nat):Int:=if mk (mA N ps ls x) i=mk (mB N ps ls x) i then 0 else mk (mA N ps ls x) i
def cwT(N:Nat)(ps:List (Int × Int))(ls:List Int):List (Int × Int):=(List.range ps.length).map fun i=>(spt N ps ls (ls.getD i 0) (ps.getD i (0,0)).1.toNat,spt N ps ls (ls.getD i 0) (ps.getD i (0,0)).2.toNat)
theorem ζR4(N:Nat)(ps:List (Int × Int))(ls:List Int):(cwT N ps ls).length=ps.length:=by
 unfold cwT
 rw[ζζa,ζζS]
theorem ζE9{N:Nat}{ps:List (Int × Int)}{ls:List Int}{z:Int}(h0:0<=z)(h1:z<(ps.length:Int)):ζz (cwT N ps ls) z=((spt N ps ls (lnz ls z) (ζz ps z).1).toNat,(spt N ps ls (lnz ls z) (ζz ps z).2).toNat):=by
 have e:(cwT N ps ls).getD z.toNat (0,0)=(spt N ps ls (lnz ls z) (ζz ps z).1,spt N ps ls (lnz ls z) (ζz ps z).2):=by
  unfold cwT
  rw[ζζi,ζζh,ζζ0a (by omega)]
  rfl
 unfold ζz at *
 rw[e]
section
variable{n:Int}{ps:List (Int × Int)}{ls T:List Int}(g:ζy n ps)(hl:ls.length=ps.length)
include g hl
theorem inA(x:Int):InN n.toNat (ζ6 ps (lwS ls x)):=ζO g fun z hz=>by have:=(lwS_mem.mp hz).1;omega
theorem inB(x:Int):InN n.toNat (ζ6 ps (leS ls x)):=ζO g fun z hz=>by have:=(leS_mem.mp hz).1;omega
theorem ownA(x:Int){i:Nat}(hi:i<n.toNat):0<=mk (mA n.toNat ps ls x) i/\mk (mA n.toNat ps ls x) i<=(i:Int)/\mk (mA n.toNat ps ls x) (mk (mA n.toNat ps ls x) i).toNat=mk (mA n.toNat ps ls x) i:=ζf3 _ (inA g hl x) i hi
theorem ownB(x:Int){i:Nat}(hi:i<n.toNat):0<=mk (mB n.toNat ps ls x) i/\mk (mB n.toNat ps ls x) i<=(i:Int)/\mk (mB n.toNat ps ls x) (mk (mB n.toNat ps ls x) i).toNat=mk (mB n.toNat ps ls x) i:=ζf3 _ (inB g hl x) i hi
theorem ζo11(x:Int){i:Nat}(hi:i<n.toNat):Conn (ζ6 ps (lwS ls x)) i (mk (mA n.toNat ps ls x) i).toNat:=ζQ3 (inA g hl x) hi
theorem ζf12(x:Int){i:Nat}(hi:i<n.toNat):Conn (ζ6 ps (leS ls x)) i (mk (mB n.toNat ps ls x) i).toNat:=ζQ3 (inB g hl x) hi
theorem iffA(x:Int){i j:Nat}(hi:i<n.toNat)(hj:j<n.toNat):mk (mA n.toNat ps ls x) i=mk (mA n.toNat ps ls x) j↔Conn (ζ6 ps (lwS ls x)) i j:=ζg3 (inA g hl x) hi hj
theorem iffB(x:Int){i j:Nat}(hi:i<n.toNat)(hj:j<n.toNat):mk (mB n.toNat ps ls x) i=mk (mB n.toNat ps ls x) j↔Conn (ζ6 ps (leS ls x)) i j:=ζg3 (inB g hl x) hi hj
theorem ζ012(x:Int){i j:Nat}(hi:i<n.toNat)(hj:j<n.toNat)(c:Conn (ζ6 ps (lwS ls x)) i j):mk (mA n.toNat ps ls x) i<=(j:Int):=ζJ2 (inA g hl x) hi hj c
theorem ζg9(x:Int){i j:Nat}(hi:i<n.toNat)(hj:j<n.toNat)(c:Conn (ζ6 ps (leS ls x)) i j):mk (mB n.toNat ps ls x) i<=(j:Int):=ζJ2 (inB g hl x) hi hj c
theorem ζs8(x:Int){i j:Nat}(c:Conn (ζ6 ps (lwS ls x)) i j):Conn (ζ6 ps (leS ls x)) i j:=c.mono (ζu fun z hz=>by have:=lwS_mem.mp hz;exact leS_mem.mpr ⟨this.1,by omega⟩)
theorem ζz11{x y:Int}(h:y<x){i j:Nat}(c:Conn (ζ6 ps (leS ls y)) i j):Conn (ζ6 ps (lwS ls x)) i j:=c.mono (ζu fun z hz=>by have:=leS_mem.mp hz;exact lwS_mem.mpr ⟨this.1,by omega⟩)
theorem ζq7{x y:Int}{v:Nat}(hv:v<n.toNat)(a1:mk (mA n.toNat ps ls x) v=v)(b1:mk (mB n.toNat ps ls x) v≠v)(a2:mk (mA n.toNat ps ls y) v=v)(b2:mk (mB n.toNat ps ls y) v≠v):x=y:=by
 have key:∀ x y:Int,y<x->mk (mA n.toNat ps ls x) v=v->mk (mB n.toNat ps ls y) v≠v->False:=fun x y h a b=>by
  obtain⟨o1,o2,_⟩:=ownB g hl y hv
  have:=ζ012 g hl x hv (by omega) (ζz11 g hl h (ζf12 g hl y hv))
  omega
 rcases Int.lt_trichotomy x y with c | c | c
 ·exact(key y x c a2 b1).elim
 ·exact c
 ·exact(key x y c a1 b2).elim
theorem ζV6{x:Int}{i:Nat}(hi:i<n.toNat):0<=spt n.toNat ps ls x i/\spt n.toNat ps ls x i<n/\(spt n.toNat ps ls x i≠0->spt n.toNat ps ls x i=mk (mA n.toNat ps ls x) i/\mk (mA n.toNat ps ls x) (spt n.toNat ps ls x i).toNat=spt n.toNat ps ls x i/\mk (mB n.toNat ps ls x) (spt n.toNat ps ls x i).toNat≠spt n.toNat ps ls x i):=by
 obtain⟨o1,o2,o3⟩:=ownA g hl x hi
 unfold spt
 by_cases c:mk (mA n.toNat ps ls x) i=mk (mB n.toNat ps ls x) i
 ·rw[if_pos c]
  exact⟨ζζ0L _,by omega,fun h=>absurd rfl h⟩
 ·rw[if_neg c]
  refine⟨o1,by omega,fun _=>⟨rfl,o3,fun e=>c ?_⟩⟩
  rw[<- e]
  exact(iffB g hl x (by omega) hi).mpr (ζs8 g hl x (ζo11 g hl x hi)).symm
theorem ζh8:ζy n (cwT n.toNat ps ls):=by
 obtain⟨g1,g2,g3,g4⟩:=id g
 refine⟨g1,g2,by rw[ζR4];exact g3,fun p hp=>?_⟩
 unfold cwT at hp
 obtain⟨i,hi,rfl⟩:=ζζx.mp hp
 have hi:=ζζy.mp hi
 have he:=ζg1 (z:=(i:Int)) g (by omega) (by omega)
 unfold ζz at he
 rw[ζζC]at he
 have h1:=ζV6 g hl (x:=ls.getD i 0) he.1
 have h2:=ζV6 g hl (x:=ls.getD i 0) he.2
 exact⟨h1.1,h1.2.1,h2.1,h2.2.1⟩
theorem ζA6(hT:ζd n (cwT n.toNat ps ls) T):∀(k:Nat) (x:Int),(lwS ls x).length=k->∀ a,a<n.toNat->Conn (ζ6 ps (T.filter fun z=>decide (lnz ls z<=x))) a (mk (mB n.toNat ps ls x) a).toNat:=by
 intro k
 induction k using Nat.strongRecOn with
 | ind k ih =>
  intro x hk
  obtain⟨t1,t2,t3⟩:=id hT
  rw[ζR4]at t1
  have tm:∀ {y z:Int},z∈T.filter (fun z=>decide (lnz ls z<=y))↔z∈T/\lnz ls z<=y:=by
   intro y z
   rw[ζζm,ζζM]
  have low:∀ {i j:Nat},Conn (ζ6 ps (lwS ls x)) i j->Conn (ζ6 ps (T.filter fun z=>decide (lnz ls z<=x))) i j:=fun c=>c.lift fun e he=>by
   obtain⟨z,hz,rfl⟩:=ζζx.mp he
   have q:=lwS_mem.mp hz
   have hz2:z∈leS ls (lnz ls z):=leS_mem.mpr ⟨q.1,ζζ0L _⟩
   have ee:=ζg1 (z:=z) g q.1.1 (by omega)
   have i1:=ih _ (by rw[<- hk];exact ζW3 q.2 hz rfl) (lnz ls z) rfl _ ee.1
   have i2:=ih _ (by rw[<- hk];exact ζW3 q.2 hz rfl) (lnz ls z) rfl _ ee.2
   have e1:mk (mB n.toNat ps ls (lnz ls z)) (ζz ps z).1=mk (mB n.toNat ps ls (lnz ls z)) (ζz ps z).2:=(iffB g hl _ ee.1 ee.2).mpr (.edge (ζζx.mpr ⟨z,hz2,rfl⟩))
   rw[e1]at i1
   exact(i1.trans i2.symm).mono (ζu fun w hw=>by have:=tm.mp hw;exact tm.mpr ⟨this.1,by omega⟩)
  have atA:∀ a,a<n.toNat->Conn (ζ6 ps (T.filter fun z=>decide (lnz ls z<=x))) a (mk (mA n.toNat ps ls x) a).toNat:=fun a ha=>low (ζo11 g hl x ha)
  have bA:∀ a,a<n.toNat->mk (mB n.toNat ps ls x) (mk (mA n.toNat ps ls x) a).toNat=mk (mB n.toNat ps ls x) a:=fun a ha=>by
   have o:=ownA g hl x ha
   exact(iffB g hl x (by omega) ha).mpr (ζs8 g hl x (ζo11 g hl x ha)).symm
  obtain⟨φ,hφ⟩:∃ φ:Nat->Prop,φ=fun w=>w<n.toNat->mk (mA n.toNat ps ls x) w=w->mk (mB n.toNat ps ls x) w≠w->Conn (ζ6 ps (T.filter fun z=>decide (lnz ls z<=x))) w (mk (mB n.toNat ps ls x) w).toNat:=⟨_,rfl⟩
  have phi0:φ 0:=by
   rw[hφ]
   intro h1 _ h3
   have:=ownB g hl x h1
   exact absurd (by omega) h3
  have other:∀(y:Int) (a:Nat),a<n.toNat->y≠x->φ (spt n.toNat ps ls y a).toNat:=fun y a ha hy=>by
   obtain⟨q0,q1,q2⟩:=ζV6 g hl (x:=y) ha
   by_cases c:spt n.toNat ps ls y a=0
   ·rw[c];exact phi0
   ·obtain⟨_,q3,q4⟩:=q2 c
    rw[hφ]
    intro h1 h2 h3
    exact absurd (ζq7 g hl (v:=(spt n.toNat ps ls y a).toNat) (by omega) (by rw[q3];omega) (fun e=>q4 (by rw[e];omega)) h2 h3) hy
  have own:∀ a,a<n.toNat->(φ (spt n.toNat ps ls x a).toNat↔Conn (ζ6 ps (T.filter fun z=>decide (lnz ls z<=x))) a (mk (mB n.toNat ps ls x) a).toNat):=fun a ha=>by
   by_cases c:mk (mA n.toNat ps ls x) a=mk (mB n.toNat ps ls x) a
   ·have e:spt n.toNat ps ls x a=0:=by unfold spt;rw[if_pos c]
    rw[e]
    refine⟨fun _=>?_,fun _=>phi0⟩
    have:=atA a ha
    rw[c]at this
    exact this
   ·have e:spt n.toNat ps ls x a=mk (mA n.toNat ps ls x) a:=by unfold spt;rw[if_neg c]
    obtain⟨o1,o2,o3⟩:=ownA g hl x ha
    have ba:=bA a ha
    rw[e,hφ]
    show(_->_->_->Conn _ _ _)↔_
    rw[ba]
    constructor
    ·intro h
     exact(atA a ha).trans (h (by omega) (by rw[o3];omega) (fun e2=>c (by rw[e2];omega)))
    ·intro h _ _ _
     exact(atA a ha).symm.trans h
  have all:∀ w,w<n.toNat->φ w:=fun w hw=>by
   refine(ζU4 (φ:=φ) (fun e he=>?_) (t3 0 w (by omega) hw)).mp phi0
   obtain⟨z,hz,rfl⟩:=ζζx.mp he
   have zb:=t1.all z hz
   have ee:=ζg1 (z:=z) g zb.1 zb.2
   show φ (ζz (cwT n.toNat ps ls) z).1↔φ (ζz (cwT n.toNat ps ls) z).2
   rw[ζE9 zb.1 zb.2]
   show φ (spt _ _ _ _ _).toNat↔φ (spt _ _ _ _ _).toNat
   by_cases c:lnz ls z=x
   ·rw[c,own _ ee.1,own _ ee.2]
    have ce:Conn (ζ6 ps (T.filter fun z=>decide (lnz ls z<=x))) (ζz ps z).1 (ζz ps z).2:=.edge (ζζx.mpr ⟨z,tm.mpr ⟨hz,by omega⟩,rfl⟩)
    have e1:mk (mB n.toNat ps ls x) (ζz ps z).1=mk (mB n.toNat ps ls x) (ζz ps z).2:=(iffB g hl _ ee.1 ee.2).mpr (.edge (ζζx.mpr ⟨z,leS_mem.mpr ⟨⟨zb.1,by omega⟩,by omega⟩,rfl⟩))
    rw[e1]
    exact⟨fun h=>ce.symm.trans h,fun h=>ce.trans h⟩
   ·exact⟨fun _=>other _ _ ee.2 c,fun _=>other _ _ ee.1 c⟩
  intro a ha
  obtain⟨o1,o2,o3⟩:=ownA g hl x ha
  have ba:=bA a ha
  have c1:=atA a ha
  by_cases c:mk (mB n.toNat ps ls x) (mk (mA n.toNat ps ls x) a).toNat=mk (mA n.toNat ps ls x) a
  ·rw[<- ba,c];exact c1
  ·have:=all (mk (mA n.toNat ps ls x) a).toNat (by omega)
   rw[hφ]at this
   have:=this (by omega) (by rw[o3];omega) (fun e=>c (by rw[e];omega))
   rw[ba]at this
   exact c1.trans this
end
def LvT(n:Int)(ps:List (Int × Int))(ls T:List Int):Prop:=∀(x:Int) (i j:Nat),i<n.toNat->j<n.toNat->Conn (ζ6 ps (leS ls x)) i j->Conn (ζ6 ps (T.filter fun z=>decide (lnz ls z<=x))) i j
def NoG(n:Int)(ps:List (Int × Int))(ls T:List Int):Prop:=∀ o z,exg n ps T o z->lnz ls o<=lnz ls z
theorem ζC10(ls:List Int):∃ U:Int,∀ z:Int,lnz ls z<=U:=by
 have h:∀ l:List Int,∃ U:Int,∀ i:Nat,l.getD i 0<=U:=by
  intro l
  induction l with
  | nil=>exact⟨0,fun i=>by simp⟩
  | cons x l ih =>
   obtain⟨U,hU⟩:=ih
   refine⟨max x U,fun i=>?_⟩
   cases i with
   | zero=>show x<=_;omega
   | succ i=>have:=hU i;show l.getD i 0<=_;omega
 obtain⟨U,hU⟩:=h ls
 exact⟨U,fun z=>hU z.toNat⟩
section
variable{n:Int}{ps:List (Int × Int)}{ls T:List Int}(g:ζy n ps)(hl:ls.length=ps.length)
include g hl
theorem ζT12(hT:ζd n (cwT n.toNat ps ls) T):LvT n ps ls T:=fun x i j hi hj c=>by
 have h1:=ζA6 g hl hT _ x rfl i hi
 have h2:=ζA6 g hl hT _ x rfl j hj
 rw[(iffB g hl x hi hj).mpr c]at h1
 exact h1.trans h2.symm
theorem ζu12(hT:ζd n (cwT n.toNat ps ls) T):ζd n ps T:=by
 obtain⟨t1,t2,t3⟩:=id hT
 rw[ζR4]at t1
 obtain⟨U,hU⟩:=ζC10 ls
 have zero:∀ a,a<n.toNat->mk (mB n.toNat ps ls U) a=0:=fun a ha=>by
  obtain⟨o1,o2,o3⟩:=ownB g hl U ha
  refine ζζp fun no=>?_
  obtain⟨v,hv⟩:∃ v:Nat,v=(mk (mB n.toNat ps ls U) a).toNat:=⟨_,rfl⟩
  have v0:v≠0:=by omega
  have vn:v<n.toNat:=by omega
  have ov:mk (mB n.toNat ps ls U) v=(v:Int):=by rw[hv,o3];omega
  have st:=ζU4 (φ:=fun w=>w≠v) (fun e he=>by
   obtain⟨z,hz,rfl⟩:=ζζx.mp he
   have zb:=t1.all z hz
   have ee:=ζg1 (z:=z) g zb.1 zb.2
   show(ζz (cwT n.toNat ps ls) z).1≠v↔(ζz (cwT n.toNat ps ls) z).2≠v
   rw[ζE9 zb.1 zb.2]
   have key:∀ c,c<n.toNat->(spt n.toNat ps ls (lnz ls z) c).toNat≠v:=fun c hc e=>by
    obtain⟨q0,q1,q2⟩:=ζV6 g hl (x:=lnz ls z) hc
    obtain⟨_,q3,q4⟩:=q2 (by omega)
    rw[e]at q3 q4
    have ov2:=ownB g hl (lnz ls z) vn
    have cb:=ζf12 g hl (lnz ls z) vn
    have cu:Conn (ζ6 ps (leS ls U)) v (mk (mB n.toNat ps ls (lnz ls z)) v).toNat:=cb.mono (ζu fun y hy=>by have:=leS_mem.mp hy;exact leS_mem.mpr ⟨this.1,hU y⟩)
    have:=ζg9 g hl U vn (by omega) cu
    omega
   exact⟨fun _=>key _ ee.2,fun _=>key _ ee.1⟩) (t3 0 v (by omega) vn)
  exact(st.mp (ζζY v0)) rfl
 refine⟨t1,t2,?_⟩
 have key:∀ a,a<n.toNat->Conn (ζ6 ps T) a 0:=fun a ha=>by
  have h1:=ζA6 g hl hT _ U rfl a ha
  rw[zero a ha]at h1
  exact h1.mono (ζu fun z hz=>(ζζm.mp hz).1)
 exact fun i j hi hj=>(key i hi).trans (key j hj).symm
theorem ζf9{v:Nat}(hv:v<n.toNat):∀(k:Nat) (x:Int),(lwS ls x).length=k->mk (mB n.toNat ps ls x) v≠v->∃ y,mk (mA n.toNat ps ls y) v=v/\mk (mB n.toNat ps ls y) v≠v:=by
 intro k
 induction k using Nat.strongRecOn with
 | ind k ih =>
  intro x hk hb
  by_cases c:mk (mA n.toNat ps ls x) v=v
  ·exact⟨x,c,hb⟩
  ·have ne:lwS ls x≠[]:=fun e=>c (by
    unfold mA
    rw[e]
    exact ζM1 hv)
   obtain⟨m,hm,q⟩:=ζA10 (lnz ls) ne
   have hm2:=lwS_mem.mp hm
   have e:leS ls (lnz ls m)=lwS ls x:=by
    unfold leS lwS
    refine ζζ1T fun z hz=>?_
    rw[ζζ1c]
    constructor
    ·intro h;omega
    ·intro h;exact q z (lwS_mem.mpr ⟨rgL_mem.mp hz,h⟩)
   refine ih _ (by rw[<- hk];exact ζW3 hm2.2 hm rfl) (lnz ls m) rfl ?_
   have e2:mB n.toNat ps ls (lnz ls m)=mA n.toNat ps ls x:=by unfold mB mA;rw[e]
   rw[e2]
   exact c
theorem ζS12(hT:ζd n ps T)(hv:LvT n ps ls T):ζd n (cwT n.toNat ps ls) T:=by
 obtain⟨t1,t2,t3⟩:=id hT
 obtain⟨U,hU⟩:=ζC10 ls
 refine⟨by rw[ζR4];exact t1,t2,?_⟩
 have tm:∀ {y z:Int},z∈T.filter (fun z=>decide (lnz ls z<=y))↔z∈T/\lnz ls z<=y:=by
  intro y z
  rw[ζζm,ζζM]
 have key:∀ v,v<n.toNat->Conn (ζ6 (cwT n.toNat ps ls) T) v 0:=fun v hvn=>by
  by_cases v0:v=0
  ·rw[v0];exact .refl _
  have bU:mk (mB n.toNat ps ls U) v≠v:=by
   have cu:Conn (ζ6 ps (leS ls U)) v 0:=(t3 v 0 hvn (by omega)).mono (ζu fun y hy=>by have:=t1.all y hy;exact leS_mem.mpr ⟨⟨this.1,by omega⟩,hU y⟩)
   have:=ζg9 g hl U hvn (by omega) cu
   omega
  obtain⟨y,ya,yb⟩:=ζf9 g hl hvn _ U rfl bU
  obtain⟨b1,b2,b3⟩:=ownB g hl y hvn
  obtain⟨u,hu⟩:∃ u:Nat,u=(mk (mB n.toNat ps ls y) v).toNat:=⟨_,rfl⟩
  have un:u<n.toNat:=by omega
  have bu:mk (mB n.toNat ps ls y) u=(u:Int):=by rw[hu,b3];omega
  have cvu:Conn (ζ6 ps (leS ls y)) v u:=by rw[hu];exact ζf12 g hl y hvn
  have cT:=hv y v u hvn un cvu
  have mp:=ζI9 (fs:=ζ6 (cwT n.toNat ps ls) T) (fun i=>(spt n.toNat ps ls y i).toNat) (fun e he=>by
   obtain⟨z,hz,rfl⟩:=ζζx.mp he
   obtain⟨zT,zy⟩:=tm.mp hz
   have zb:=t1.all z zT
   have ee:=ζg1 (z:=z) g zb.1 zb.2
   show Conn _ (spt n.toNat ps ls y (ζz ps z).1).toNat (spt n.toNat ps ls y (ζz ps z).2).toNat
   by_cases c:lnz ls z=y
   ·have e:=ζE9 (N:=n.toNat) (ls:=ls) zb.1 zb.2
    rw[c]at e
    have:(ζz (cwT n.toNat ps ls) z)∈ζ6 (cwT n.toNat ps ls) T:=ζζx.mpr ⟨z,zT,rfl⟩
    rw[e]at this
    exact .edge this
   ·have z1:z∈lwS ls y:=lwS_mem.mpr ⟨⟨zb.1,by omega⟩,by omega⟩
    have z2:z∈leS ls y:=leS_mem.mpr ⟨⟨zb.1,by omega⟩,zy⟩
    have ea:=(iffA g hl y ee.1 ee.2).mpr (.edge (ζζx.mpr ⟨z,z1,rfl⟩))
    have eb:=(iffB g hl y ee.1 ee.2).mpr (.edge (ζζx.mpr ⟨z,z2,rfl⟩))
    have e:spt n.toNat ps ls y (ζz ps z).1=spt n.toNat ps ls y (ζz ps z).2:=by
     unfold spt
     rw[ea,eb]
    rw[e]
    exact .refl _) cT
  have sv:spt n.toNat ps ls y v=(v:Int):=by
   unfold spt
   rw[if_neg (by omega),ya]
  have su:spt n.toNat ps ls y u=0:=by
   obtain⟨a1,a2,a3⟩:=ownA g hl y un
   have ca:=ζo11 g hl y un
   have:=ζg9 g hl y (i:=(mk (mA n.toNat ps ls y) u).toNat) (j:=(mk (mA n.toNat ps ls y) u).toNat) (by omega) (by omega) (.refl _)
   have e1:mk (mB n.toNat ps ls y) (mk (mA n.toNat ps ls y) u).toNat=mk (mB n.toNat ps ls y) u:=(iffB g hl y (by omega) un).mpr (ζs8 g hl y ca).symm
   unfold spt
   rw[if_pos (by omega)]
  have mp:Conn (ζ6 (cwT n.toNat ps ls) T) (spt n.toNat ps ls y v).toNat (spt n.toNat ps ls y u).toNat:=mp
  rw[sv,su]at mp
  exact mp
 exact fun i j hi hj=>(key i hi).trans (key j hj).symm
omit hl in
theorem ζL12(hl:ls.length=ps.length)(hT:ζd n ps T)(hg:NoG n ps ls T):LvT n ps ls T:=fun x i j _ _ c=>c.lift fun e he=>by
 obtain⟨z,hz,rfl⟩:=ζζx.mp he
 obtain⟨zb,zx⟩:=leS_mem.mp hz
 show Conn _ (ζz ps z).1 (ζz ps z).2
 by_cases zT:z∈T
 ·exact .edge (ζζx.mpr ⟨z,ζζm.mpr ⟨zT,ζζd zx⟩,rfl⟩)
 ·refine(ζp4 g hT zb.1 (by omega)).mono (ζu fun y hy=>?_)
  obtain⟨yT,yc⟩:=ringA_mem.mp hy
  have:=hg y z ⟨yT,fun e=>zT (e ▸ yT),yc⟩
  exact ζζm.mpr ⟨yT,ζζd (by omega)⟩
theorem ζB10(hT:ζd n ps T)(hv:LvT n ps ls T):NoG n ps ls T:=fun o z he=>by
 refine ζζp fun no=>?_
 obtain⟨h1,h2,h3⟩:=he
 obtain⟨z0,z1⟩:=ζ62 h3
 have ee:=ζg1 (z:=z) g z0 z1
 refine(ζX g hT z0 z1).mp h3 ?_
 refine(hv (lnz ls z) _ _ ee.1 ee.2 (.edge (ζζx.mpr ⟨z,leS_mem.mpr ⟨⟨z0,by omega⟩,ζζ0L _⟩,rfl⟩))).mono (ζu fun y hy=>?_)
 obtain⟨yT,yl⟩:=ζζm.mp hy
 have yl:=ζζs yl
 exact wo_mem.mpr ⟨yT,fun e=>no (by rw[<- e];exact yl)⟩
theorem ζb11:ζd n (cwT n.toNat ps ls) T↔ζd n ps T/\NoG n ps ls T :=
 ⟨fun h=>⟨ζu12 g hl h,ζB10 g hl (ζu12 g hl h) (ζT12 g hl h)⟩,fun h=>ζS12 g hl h.1 (ζL12 g hl h.1 h.2)⟩
end
theorem ζh10{n:Nat}{es fs:List (Nat × Nat)}(h1:InN n es)(h2:InN n fs)(h:∀ i j,Conn es i j↔Conn fs i j):pms n es=pms n fs:=by
 have key:∀ {es fs:List (Nat × Nat)},InN n es->InN n fs->(∀ i j,Conn es i j↔Conn fs i j)->∀ i,i<n->mk (pms n es) i<=mk (pms n fs) i:=fun {es fs} h1 h2 h i hi=>by
  obtain⟨o1,o2,_⟩:=ζf3 fs h2 i hi
  have:=ζJ2 h1 hi (by omega) ((h i _).mpr (ζQ3 h2 hi))
  omega
 refine ζζ0D fun i=>?_
 by_cases c:i<n
 ·rw[ζ71 (by rw[ζm];exact c),ζ71 (by rw[ζm];exact c)]
  exact ζζ0l some (Int.le_antisymm (key h1 h2 h i c) (key h2 h1 (fun i j=>(h i j).symm) i c))
 ·rw[ζζG (by rw[ζm];omega),ζζG (by rw[ζm];omega)]
def lvl(ls:List Int)(x:Int)(i:Nat):List Int:=(rgL i).filter fun z=>decide (lnz ls z=x)
theorem ζ76(ls:List Int)(x:Int)(i:Nat):lvl ls x (i+1)=lvl ls x i++(if ls.getD i 0=x then [(i:Int)] else []):=by
 unfold lvl rgL
 rw[ζζ0O,ζζA,ζζV]
 congr 1
 have e:lnz ls (i:Int)=ls.getD i 0:=by unfold lnz;rw[ζζC]
 by_cases c:ls.getD i 0=x
 ·rw[if_pos c]
  exact ζζ0q (by simp only [ζζM];rw[e];exact c)
 ·rw[if_neg c]
  exact ζζ0r (by simp only [ζζM];rw[e];exact c)
theorem lvl_mem{ls:List Int}{x z:Int}{i:Nat}:z∈lvl ls x i↔(0<=z/\z<(i:Int))/\lnz ls z=x:=by
 unfold lvl
 rw[ζζm,rgL_mem,ζζM]
theorem ζY7(ls:List Int)(x:Int)(i:Nat):IsSet i (lvl ls x i):=isSet_iff.mpr ⟨fun z hz=>(lvl_mem.mp hz).1,(ζq4 i).filter _⟩
def cwP(N:Nat)(ps:List (Int × Int))(ls:List Int)(i:Nat):Int × Int:=(spt N ps ls (ls.getD i 0) (ps.getD i (0,0)).1.toNat,spt N ps ls (ls.getD i 0) (ps.getD i (0,0)).2.toNat)
def mdT(N:Nat)(ps:List (Int × Int))(ls:List Int)(p:Nat->Prop)[DecidablePred p]:List (Int × Int):=(List.range ps.length).map fun i=>if p i then cwP N ps ls i else ps.getD i (0,0)
theorem ζy10(N:Nat)(ps:List (Int × Int))(ls:List Int)(p:Nat->Prop)[DecidablePred p]:(mdT N ps ls p).length=ps.length:=by unfold mdT;rw[ζζa,ζζS]
theorem ζA4{N:Nat}{ps:List (Int × Int)}{ls:List Int}{p q:Nat->Prop}[DecidablePred p][DecidablePred q](h:∀ i,i<ps.length->(p i↔q i)):mdT N ps ls p=mdT N ps ls q:=by
 unfold mdT
 refine ζζ0g fun i hi=>?_
 have:=h i (ζζy.mp hi)
 by_cases c:p i
 ·rw[if_pos c,if_pos (this.mp c)]
 ·rw[if_neg c,if_neg fun d=>c (this.mpr d)]
theorem ζ79{N:Nat}{ps:List (Int × Int)}{ls:List Int}{p:Nat->Prop}[DecidablePred p](h:∀ i,i<ps.length->¬ p i):mdT N ps ls p=ps:=by
 unfold mdT
 refine ζζ0D fun i=>?_
 rw[ζζh]
 by_cases c:i<ps.length
 ·rw[ζζ0a c,ζζ0 c]
  show some (if p i then _ else ps.getD i (0,0))=_
  rw[if_neg (h i c),ζζi,ζζ0 c]
  rfl
 ·rw[ζζG (by rw[ζζS];omega),ζζG (by omega)]
  rfl
theorem ζz10{N:Nat}{ps:List (Int × Int)}{ls:List Int}{p:Nat->Prop}[DecidablePred p](h:∀ i,i<ps.length->p i):mdT N ps ls p=cwT N ps ls:=by
 unfold mdT cwT
 refine ζζ0g fun i hi=>?_
 rw[if_pos (h i (ζζy.mp hi))]
 rfl
theorem ζx10{N:Nat}{ps:List (Int × Int)}{ls:List Int}{p q:Nat->Prop}[DecidablePred p][DecidablePred q]{k:Nat}(h:∀ i,i<ps.length->(q i↔p i\/i=k)):(mdT N ps ls p).set k (cwP N ps ls k)=mdT N ps ls q:=by
 unfold mdT
 refine ζζ0D fun i=>?_
 rw[ζζh]
 by_cases c:i<ps.length
 ·have hq:=h i c
  rw[ζζ0a c]
  by_cases d:k=i
  ·rw[d,ζζ22 (by rw[ζζa,ζζS];exact c)]
   show _=some (if q i then _ else _)
   rw[if_pos (hq.mpr (.inr d.symm))]
  ·rw[ζζ2e d,ζζh,ζζ0a c]
   show some (if p i then _ else _)=some (if q i then _ else _)
   by_cases e:p i
   ·rw[if_pos e,if_pos (hq.mpr (.inl e))]
   ·rw[if_neg e,if_neg fun f=>(hq.mp f).elim e fun g=>d g.symm]
 ·rw[ζζG (by rw[ζζ0P,ζζa,ζζS];omega),ζζG (by rw[ζζS];omega)]
  rfl
section
variable{n:Int}{ps:List (Int × Int)}{ls Ls S:List Int}{j:Nat}{x:Int}(g:ζy n ps)(hl:ls.length=ps.length)(hLa:Ls.Pairwise (· < ·))(hLm:∀ z,z∈Ls↔z∈ls)(hx:Ls[j]?=some x)
include hLa hx
theorem ζD7{y:Int}(hy:y∈Ls):y∈Ls.take j↔y<x:=by
 obtain⟨hj,e⟩:=ζζ4.mp hx
 constructor
 ·intro h
  obtain⟨i,hi,ei⟩:=ζζ2d.mp h
  rw[ζζv]at hi
  rw[List.getElem_take]at ei
  rw[<- ei,<- e]
  exact ζζ03.mp hLa i j (by omega) hj (by omega)
 ·intro h
  obtain⟨i,hi,ei⟩:=ζζ2d.mp hy
  have:i<j:=ζζp fun no=>by
   rcases Nat.lt_or_eq_of_le (ζζ1y no) with c | c
   ·have:=ζζ03.mp hLa j i hj hi c
    omega
   ·subst c
    omega
  exact ζζ2d.mpr ⟨i,by rw[ζζv];omega,by rw[List.getElem_take];exact ei⟩
include g hl hLm
theorem ζ99(hS:∀ z,z∈S↔(0<=z/\z<(ps.length:Int))/\lnz ls z∈Ls.take j):pms n.toNat (ζ6 ps S)=mA n.toNat ps ls x:=by
 refine ζh10 (ζO g fun z hz=>((hS z).mp hz).1) (inA g hl x) fun a b=>ζT fun z=>?_
 rw[hS,lwS_mem,hl]
 refine and_congr_right fun zb=>?_
 refine ζD7 hLa hx ((hLm _).mpr ?_)
 unfold lnz
 rw[ζζi,ζζ0 (show z.toNat<ls.length by omega)]
 exact ζζ0K _
theorem ζ89(hS:∀ z,z∈S↔(0<=z/\z<(ps.length:Int))/\lnz ls z∈Ls.take j):pmf (pms n.toNat (ζ6 ps S)) (ζ6 ps (lvl ls x ps.length))=pms n.toNat (ζ6 ps (S++lvl ls x ps.length))/\pms n.toNat (ζ6 ps (S++lvl ls x ps.length))=mB n.toNat ps ls x/\∀ z,z∈S++lvl ls x ps.length↔(0<=z/\z<(ps.length:Int))/\lnz ls z∈Ls.take (j+1):=by
 have m1:∀ z,z∈S++lvl ls x ps.length↔(0<=z/\z<(ps.length:Int))/\lnz ls z∈Ls.take (j+1):=fun z=>by
  rw[ζζ9,hS,lvl_mem,ζζK,hx]
  show _↔_/\lnz ls z∈Ls.take j++[x]
  rw[ζζ9,ζζ1]
  constructor
  ·rintro(⟨a,b⟩ | ⟨a,b⟩)
   ·exact⟨a,.inl b⟩
   ·exact⟨a,.inr b⟩
  ·rintro⟨a,b | b⟩
   ·exact .inl ⟨a,b⟩
   ·exact .inr ⟨a,b⟩
 refine⟨?_,?_,m1⟩
 ·unfold pmf pms ζ6
  rw[ζζA,ζζ1t]
 ·refine ζh10 (ζO g fun z hz=>((m1 z).mp hz).1) (inB g hl x) fun a b=>ζT fun z=>?_
  rw[ζζ9,hS,lvl_mem,leS_mem,hl]
  have t:(0<=z/\z<(ps.length:Int))->(lnz ls z∈Ls.take j↔lnz ls z<x):=fun zb=>ζD7 hLa hx ((hLm _).mpr (by
   unfold lnz
   rw[ζζi,ζζ0 (show z.toNat<ls.length by omega)]
   exact ζζ0K _))
  constructor
  ·rintro(⟨a,b⟩ | ⟨a,b⟩)
   ·exact⟨a,Int.le_of_lt ((t a).mp b)⟩
   ·exact⟨a,Int.le_of_eq b⟩
  ·rintro⟨a,b⟩
   rcases Int.lt_or_eq_of_le b with c | c
   ·exact .inl ⟨a,(t a).mpr c⟩
   ·exact .inr ⟨a,c⟩
end
def sumL(ls T:List Int):Int:=(T.map (lnz ls)).sum
theorem ζl4{ls a b:List Int}(h:a.Perm b):sumL ls a=sumL ls b:=by
 unfold sumL
 induction h with
 | nil=>rfl
 | cons x _ ih=>rw[ζζF,ζζF,ζζ0f,ζζ0f,ih]
 | swap x y l=>rw[ζζF,ζζF,ζζF,ζζF,ζζ0f,ζζ0f,ζζ0f,ζζ0f];omega
 | trans _ _ i1 i2=>exact i1.trans i2
theorem ζG7{ls:List Int}{o:Int}:∀ {T:List Int},T.Nodup->o∈T->sumL ls (wo T o)+lnz ls o=sumL ls T
 | [],_,h=>by cases h
 | x :: T,hn,h=>by
  obtain⟨n1,n2⟩:=ζζ0h.mp hn
  unfold wo
  by_cases c:x=o
  ·rw[ζζ0r (by simpa using c)]
   have e:T.filter (fun y=>decide (y≠o))=T:=ζζ0S.mpr fun y hy=>ζζd fun e=>n1 (by rw[c,<- e];exact hy)
   rw[e,<- c]
   show sumL ls T+lnz ls x=lnz ls x+sumL ls T
   omega
  ·rw[ζζ0q (by simpa using c)]
   have:=ζG7 (ls:=ls) n2 ((ζζb.mp h).resolve_left fun e=>c e.symm)
   show lnz ls x+sumL ls (wo T o)+lnz ls o=lnz ls x+sumL ls T
   omega
theorem ζz1{ls T M:List Int}{o z:Int}(hn:T.Nodup)(ho:o∈T)(hp:M.Perm (wo T o++[z])):sumL ls M=sumL ls T - lnz ls o+lnz ls z:=by
 rw[ζl4 hp]
 have:=ζG7 (ls:=ls) hn ho
 have e:sumL ls (wo T o++[z])=sumL ls (wo T o)+lnz ls z:=by
  unfold sumL
  rw[ζζA,ζζ1m]
  exact ζS6 _ _
 omega
section
variable{n:Int}{ps:List (Int × Int)}{ls T:List Int}(g:ζy n ps)
include g
theorem ζB5{W:List Int}(hT:ζd n ps T)(hW:ζd n ps W)(h:∀ z∈T,z∈W):T.Perm W:=by
 have:=ζv2 (l:=W) hT.1.nodup (by have:=hT.2.1;have:=hW.2.1;omega) h
 exact this.symm
theorem ζt10(hT:ζd n ps T)(hg:NoG n ps ls T):∀(k:Nat) (W:List Int),ζd n ps W->(T.filter fun z=>decide (z∉W)).length=k->sumL ls T<=sumL ls W:=by
 intro k
 induction k using Nat.strongRecOn with
 | ind k ih =>
  intro W hW hk
  by_cases c:∀ z∈T,z∈W
  ·rw[ζl4 (ζB5 g hT hW c)]
   exact ζζ0L _
  ·obtain⟨z,hz⟩:∃ z,z∈T/\z∉W:=ζζp fun no=>c fun z hz=>ζζp fun hn=>no ⟨z,hz,hn⟩
   obtain⟨y,h1,h2⟩:=ζe2 g hT hW hz.1 hz.2
   have lz:=hg z y h1
   obtain⟨M,hM1,hM2⟩:=ζ93 (wo W y++[z])
   have tM:=ζP1 g hW h2 hM1 hM2
   have sM:=ζz1 (ls:=ls) hW.1.nodup h2.1 hM1
   have yT:y∉T:=((ζx3 g hT).mp h1).2.1
   have less:(T.filter fun x=>decide (x∉M)).length<k:=by
    rw[<- hk]
    refine ζQ1 (l:=z :: T.filter fun x=>decide (x∉M)) ?_ fun x hx=>?_
    ·refine ζζ0h.mpr ⟨fun h=>?_,hT.1.nodup.filter _⟩
     have:=ζζs (ζζm.mp h).2
     exact this (hM1.mem_iff.mpr (ζζc _ (ζζ1.mpr rfl)))
    ·rcases ζζb.mp hx with e | e
     ·rw[e]
      exact ζζm.mpr ⟨hz.1,ζζd hz.2⟩
     ·obtain⟨e1,e2⟩:=ζζm.mp e
      have e2:=ζζs e2
      refine ζζm.mpr ⟨e1,ζζd fun h=>e2 (hM1.mem_iff.mpr (ζζo _ (wo_mem.mpr ⟨h,fun q=>yT (q ▸ e1)⟩)))⟩
   have:=ih _ less M tM rfl
   omega
theorem ζw10(hT:ζd n ps T)(h:∀ W,ζd n ps W->sumL ls T<=sumL ls W):NoG n ps ls T:=fun o z he=>by
 obtain⟨M,hM1,hM2⟩:=ζ93 (wo T o++[z])
 have tM:=ζP1 g hT he hM1 hM2
 have sM:=ζz1 (ls:=ls) hT.1.nodup he.1 hM1
 have:=h M tM
 omega
theorem ζz6(hl:ls.length=ps.length):ζd n (cwT n.toNat ps ls) T↔ζd n ps T/\∀ W,ζd n ps W->sumL ls T<=sumL ls W:=by
 rw[ζb11 g hl]
 exact⟨fun h=>⟨h.1,fun W hW=>ζt10 g h.1 h.2 _ W hW rfl⟩,fun h=>⟨h.1,ζw10 g h.1 h.2⟩⟩
theorem ζy6(hl:ls.length=ps.length):(∃ W,ζd n ps W)↔∃ W,ζd n (cwT n.toNat ps ls) W:=by
 constructor
 ·rintro⟨W,hW⟩
  obtain⟨L,hL1,hL2⟩:=ζ610 g
  have key:∀ l:List (List Int),l≠[]->∃ m∈l,∀ x∈l,sumL ls m<=sumL ls x:=by
   intro l
   induction l with
   | nil=>intro h;exact absurd rfl h
   | cons x l ih =>
    intro _
    by_cases c:l=[]
    ·rw[c]
     exact⟨x,by simp,fun y hy=>by rw[ζζ1.mp hy];exact ζζ0L _⟩
    ·obtain⟨m,hm,q⟩:=ih c
     by_cases d:sumL ls m<=sumL ls x
     ·exact⟨m,ζζk _ hm,fun y hy=>by
       rcases ζζb.mp hy with r | r
       ·rw[r];exact d
       ·exact q y r⟩
     ·exact⟨x,by simp,fun y hy=>by
       rcases ζζb.mp hy with r | r
       ·rw[r];exact ζζ0L _
       ·have:=q y r;omega⟩
  obtain⟨m,hm,q⟩:=key L (fun e=>by rw[e]at hL1;exact absurd ((hL1 W).mpr hW) (by simp))
  exact⟨m,(ζz6 g hl).mpr ⟨(hL1 m).mp hm,fun V hV=>q V ((hL1 V).mpr hV)⟩⟩
 ·rintro⟨W,hW⟩
  exact⟨W,((ζz6 g hl).mp hW).1⟩
end
end My
namespace L2
open PySem PySem.Spec PyProof.Rows
section
theorem isTup_tuple{h:Heap}{a:Addr}{us:Array Value}(p:IsTup h a us):h.IsTuple a us:=by
 obtain⟨o,e,c,n,d⟩:=p
 exact⟨o,e,c,n,d⟩
theorem ζb12{prog:Program}{w:World}{A:Around}(hh:A.handled=none)(it l:Addr)(ne:l≠it)(us:Array Value) :
  Draws prog w A it [it,l] us.size (fun i v=>us[i]?=some v) (fun i h=>h.IsTupleIter it l i/\h.IsTuple l us) where
 live:=fun _ _ st=>by
  obtain⟨⟨o,ho,_⟩,_⟩:=st
  exact⟨o,ho⟩
 frame:=fun _ _ _ st hk=>by
  obtain⟨⟨o,ho,r⟩,o2,ho2,r2⟩:=st
  exact⟨⟨o,hk it (by simp) o ho,r⟩,o2,hk l (by simp) o2 ho2,r2⟩
 item:=fun i s Q E hi st q=>ζ19 st.1 st.2 (u:=us[i]) (by simp[hi]) fun g t1 sb=>q _ g s.toks (by simp[hi]) ⟨t1,st.2.extBut sb.extBut ne⟩ sb
 done:=fun s Q E st q=>ζT7 hh st.1 st.2 (by simp) q
variable{prog:Program}{w:World}{A:Around}{E:Value->Shared->Prop}{s:Shared}
set_option maxRecDepth 100000 in
theorem ζw7(l:Addr)(us:Array Value) :
  Meets (Builtin.«enumerate.__new__» ⟨[.type "enumerate",.ref l],[]⟩) (fun _ R s=>s.heap.IsTuple l us /\
   R (.ok (.ret (.ref (s.heap.push { cls:=.type "tuple_iterator",data:=.fields #[.ref l,.int 0 0] }).objs.size)))
    { s with heap:=(s.heap.push { cls:=.type "tuple_iterator",data:=.fields #[.ref l,.int 0 0] }).push { cls:=.type "enumerate",data:=.fields #[.none,.bool false,.ref s.heap.objs.size,rawInt 0,.none,.none] } }) :=
 .of_wp fun prog w A R s h=>by
  obtain⟨hp,g,d,tk,os⟩:=s
  obtain⟨hl,h⟩:=h
  have q0:=sub_enumerate
  have hL:Heap.IsTuple (Shared.heap ⟨hp,g,d,tk,os⟩) l us:=hl
  obtain⟨⟨c,dct,dt,sl⟩,e1,e2,n,e3⟩:=hl
  simp only at e2 e3
  subst e2 e3
  wp_walk using ζζ29 e1
  refine wpAny_stack_any fun st=>ζζl ?_
  split
  ·rename_i c _ _ _ _ _
   cases (c == Value.type "enumerate")
   all_goals
    wp_walk using ζζ29 e1,ζζ1v hL
    exact⟨_,rfl,h⟩
  ·wp_walk using ζζ29 e1,ζζ1v hL
   exact⟨_,rfl,h⟩
theorem ζJ6{l:Addr}{us:Array Value}{Q:Value->Shared->Prop}(ht:s.heap.IsTuple l us)
  (q:∀ g,IsEnum g (s.heap.objs.size+1) s.heap.objs.size 0 .none->g.IsTupleIter s.heap.objs.size l 0->g.objs.size=s.heap.objs.size+2->(∀ b o,s.heap.get? b=some o->g.get? b=some o)->Q (.ref (s.heap.objs.size+1)) { s with heap:=g }) :
  wpAny (model prog w) A (call (.type "enumerate") [.ref l]) Q E s:=by
 refine callType_new F.called_enumerate (by decide) (F.typeCall_enumerate_1 _) (F.newCall_enumerate_1 _) (fun ob=>F.args_object_init_2 ob _) F.entry_enumerate_new (ζw7 l us) ⟨ht,?_⟩
 obtain⟨G,hG⟩:∃ G,G=s.heap.push { cls:=.type "tuple_iterator",data:=.fields #[.ref l,.int 0 0] }:=⟨_,rfl⟩
 have z:G.objs.size=s.heap.objs.size+1:=by rw[hG];exact ζζ0B ..
 show _/\_
 rw[<- hG,z]
 have e1:=ζζf G (o:={ cls:=.type "enumerate",data:=.fields #[.none,.bool false,.ref s.heap.objs.size,rawInt 0,.none,.none] }) rfl
 rw[z]at e1
 have i1:G.IsTupleIter s.heap.objs.size l 0:=by rw[hG];exact⟨_,ζζf _ rfl,rfl,rfl⟩
 obtain⟨o1,i2,i3⟩:=i1
 refine⟨⟨_,e1,rfl⟩,q _ e1 ⟨o1,ζζ3 _ i2,i3⟩ (by rw[ζζ0B,z]) fun b o x=>ζζ3 _ (by rw[hG];exact ζζ3 _ x)⟩
end
def IteT(K:PySem.W.Frag)(a:Addr):It :=
 ⟨fun i H=>∃ xs x,SqT K H a xs/\xs[i]?=some x,fun i H v H'=>∃ T x,H T=none/\v=.ref T/\H'=upd H T (.tup [.int i,x])/\∀ xs,SqT K H a xs->xs[i]?=some x,fun i H=>∃ xs,SqT K H a xs/\xs.length<=i⟩
theorem ζz5{P:Program}{w:World}{K:PySem.W.Frag}{elts:List Expr}{x1:Nat}{pos:Pos}(a e it:Addr)(hne:e≠it)(hae:a≠e)(hai:a≠it):Turn P w K (.Tuple elts x1 pos) (IteT K a) [e,it] e (fun i h=>(∃ old,IsEnum h e it i old)/\h.IsTupleIter it a i) where
 mem:=by simp
 obj:=fun i h st b hb=>by
  obtain⟨⟨old,he⟩,o,eo,c,d⟩:=st
  rcases ζζb.mp hb with z | hb
  ·subst z
   exact⟨_,he,fun v z=>by
    have z':Data.fields _=Data.cell v:=z
    cases z'⟩
  ·have z:b=it:=by simpa using hb
   subst z
   exact⟨o,eo,fun v z=>by rw[d]at z;cases z⟩
 keep:=fun i h h' st k=>by
  obtain⟨⟨old,he⟩,o,ho,r⟩:=st
  exact⟨⟨old,k e (by simp) _ he⟩,o,k it (by simp) o ho,r⟩
 item:=by
  intro X hP hw hK hc i pins s σ H E I hf st hg
  subst hP hw hK
  obtain⟨xs,x,hq,hx⟩:=hg
  obtain⟨⟨old,he⟩,hit⟩:=st
  obtain⟨its,rv,p,hz⟩:=I.tuple hq
  obtain⟨u,hu,ru⟩:=rv.get hx
  obtain⟨f0,f1,f2,f3,f4,f5⟩:=hf e (by simp)
  obtain⟨g0,g1,g2,g3,g4,g5⟩:=hf it (by simp)
  have hT0:H s.heap.objs.size=none:=I.hok.fresh (ζζ5 _)
  have hlt:i<its.toArray.size:=by simpa using (ζζ4.mp hu).1
  have pT:s.heap.IsTuple a its.toArray:=isTup_tuple p
  refine wpAny_pyNext_enum_itemD (ζb12 (A:=X.A.in1) (by simpa using I.ok.hd hc) it a hai its.toArray) he ⟨hit,pT⟩ hlt hne (by simp[hne,ζζY hae]) fun x' h' tk hx' ho st' hT hsz hk=>?_
  have ex':x'=u:=by
   have e1:its.toArray[i]?=some u:=by simpa using hu
   have e2:its.toArray[i]?=some x':=hx'
   rw[e1]at e2
   exact(ζζ8 e2).symm
  subst ex'
  have ltT:∀ b ob,s.heap.get? b=some ob->b≠s.heap.objs.size:=fun b ob z=>ζζr (ζζn z)
  have ltH:∀ b ob,H b=some ob->b≠s.heap.objs.size:=fun b ob z=>ζζr (I.hok.lt z)
  have nof:∀ b ob,H b=some ob->b≠e/\b≠it:=fun b ob z=>⟨fun q=>(by rw[q,f0]at z;cases z),fun q=>(by rw[q,g0]at z;cases z)⟩
  have I1:Inv X pins σ (upd H s.heap.objs.size (.tup [.int i,x])) { s with heap:=h',toks:=tk+1 }:=by
   refine I.step (g':=s.gens) (d':=s.drawn) (ch:=[e,it]) (fun b hb=>?_) (fun b o _ _ hcx z _=>hk b o (fun q=>hcx (by simp[q])) (fun q=>hcx (by simp[q])) z) (fun b o _ _ hcx z _=>⟨o.slots,hk b o (fun q=>hcx (by simp[q])) (fun q=>hcx (by simp[q])) z⟩)
    (fun b o _ z n=>by rw[ζ9 (ltT b o z)];exact n) (fun b o hcx z=>⟨o,hk b o (fun q=>hcx (by simp[q])) (fun q=>hcx (by simp[q])) z⟩) (fun b ys z=>by rw[ζ9 (ltH b _ z)];exact z) (fun b o v z=>by rw[ζ9 (ltH b _ z)];exact z)
    (fun b ps z=>⟨#[],by rw[ζ9 (ltH b _ z),z];simp⟩) (fun m hm=>?_) (fun b v z=>?_) I.bare
   ·rcases ζζb.mp hb with q | hb
    ·rw[q];exact⟨f3,f1,f4,f5⟩
    ·have q:b=it:=by simpa using hb
     rw[q];exact⟨g3,g1,g4,g5⟩
   ·obtain⟨o,es,ep,ho',r⟩:=hm
    exact⟨o,es,ep,hk _ o (ζζY f1) (ζζY g1) ho',r⟩
   ·by_cases hb:b=s.heap.objs.size
    ·subst hb
     rw[ζ1]at z
     cases z
     exact⟨by show 2<=sizeLine;decide,[.int i tk,x'],.cons ⟨_,rfl⟩ (.cons ru .nil),⟨_,hT,rfl,_,rfl⟩⟩
    ·rw[ζ9 hb]at z
     refine(I.hok b v z).stay (fun c w' hc' q=>?_) (fun c q=>by rw[ζ9 (ltH c _ q)];exact q) fun c ys q=>by rw[ζ9 (ltH c _ q)];exact q
     rcases hc' with rfl | hc'
     ·exact hk c w' (nof c _ z).1 (nof c _ z).2 q
     ·exact hk c w' (nof c _ hc').1 (nof c _ hc').2 q
  refine⟨_,rfl,wpAny_letOwnedTupleGo_enum ho fun h2 he2 hs2=>?_⟩
  have fT:e≠s.heap.objs.size:=ltT e _ he
  have I2:Inv X pins σ (upd H s.heap.objs.size (.tup [.int i,x])) { s with heap:=h2,toks:=tk+1 }:=Inv.turned (s:={ s with heap:=h',toks:=tk+1 }) (h':=h2) (t':=tk+1) (it:=e) I1 (fun b o hb z=>hs2.extBut b o hb z) (by rw[ζ9 fT];exact f0) f1 f3 f4 f5
  refine⟨.ref s.heap.objs.size,_,I2,rfl,⟨_,x,hT0,rfl,rfl,fun ys hy=>by rw[I.tuple_inj hy hq];exact hx⟩,⟨⟨x',by simpa using he2⟩,st'.1.extBut hs2.extBut (ζζY hne)⟩,fun b hb=>?_⟩
  rcases ζζb.mp hb with q | hb
  ·rw[q,ζ9 fT];exact f0
  ·have q:b=it:=by simpa using hb
   obtain⟨o,eo,_⟩:=hit
   rw[q,ζ9 (ltT it o eo)];exact g0
 done:=by
  intro X hP hw hK hc i pins s σ H E I hf st hg
  subst hP hw hK
  obtain⟨xs,hq,hx⟩:=hg
  obtain⟨⟨old,he⟩,hit⟩:=st
  obtain⟨its,rv,p,hz⟩:=I.tuple hq
  obtain⟨g0,g1,g2,g3,g4,g5⟩:=hf it (by simp)
  have hl:=rv.length
  have hT:s.TypeIs (.ref e) "enumerate":=⟨_,he,rfl⟩
  unfold pyNext
  refine ζζ2 (ζζ1Q (ζζ0t (name:=Str.ofString "__next__") hT F.slot_enumerate_next (ζζ0p F.slot_enumerate_next hT F.entry_enumerate_next ?_ (F.args_enumerate_next_1 _))))
  show wpAny _ _ (field (.ref e) 2 >>= _) _ _ _
  refine ζζ2 (ζζ2F he rfl (x:=.ref it) rfl (ζζ2 (ζT7 (by simpa using I.ok.hd hc) hit (isTup_tuple p) (by simp;omega) fun h' x he' ⟨o,ho,hcl⟩=>ζζ2 (ζζ2f (T:="StopIteration") (b:=true) ⟨o,ho,hcl⟩ isSubtype_stop (ζζl ?_)))))
  exact⟨rfl,I.turned (t':=s.toks) (it:=it) (fun b o hb z=>he' b o hb z) g0 g1 g3 g4 g5⟩
 self:=fun _ _ _ _ _ st h=>let ⟨⟨_,he⟩,_⟩:=st;ζζ1C he h
def IteQ(kd:Bool)(K:PySem.W.Frag)(a:Addr):It:=match kd with
 | false=>Ite K a
 | true=>IteT K a
def ζa12(K:PySem.W.Frag)(ta:TA):TI:=fun σ H R=>ta σ H fun vs H1=>∃ a kd,vs=[.ref a]/\(∃ xs,My.SqK kd K H1 a xs)/\R (IteQ kd K a) H1
section
variable{X:Cx}
theorem ζU8 (K:PySem.W.Frag) {elts:List Expr} {x1:Nat} {tpos:Pos} {a:Expr} {ta:TA} {p pos:Pos} (hg:Gl X "enumerate") (hm:X.mg "enumerate"=none) (ha:PA X [a] ta) (hs:starEach [a] X.env=[(false,eval a X.env)]:=by rfl) (hk:X.K=K:=by rfl) :
  PI X (.Tuple elts x1 tpos) (.Call (.Name "enumerate" p) [a] [] pos) (ζa12 K ta):=by
 subst hk
 intro pins s σ H R I h
 refine Call_ (ζs2 I hg hm Boot.«enumerate» (ζζ0e (thn (ha pos pins s σ H _ I h) fun us s1 ⟨vs,H1,I1,r1,q1⟩=>?_) hs rfl))
 obtain⟨b,kd,e,⟨xs,hq⟩,q⟩:=q1
 subst e
 obtain⟨u,rfl,ru⟩:=ζ42 r1
 obtain rfl:u=Value.ref b:=ru
 have nn:∀ k,s1.heap.objs.size<=k->H1 k=none:=fun k hk=>I1.hok.fresh hk
 have fin:∀ c∈[s1.heap.objs.size+1,s1.heap.objs.size],s1.heap.objs.size<=c:=fun c hc=>by
  rcases ζζb.mp hc with q | hc
  ·rw[q];exact ζζ0w _
  ·have q:c=s1.heap.objs.size:=by simpa using hc
   rw[q];exact ζζ5 _
 cases kd with
 | false =>
  obtain⟨its,rv,pl,hz⟩:=I1.list hq
  refine call_enumerate_list pl.isList fun h' he hit hsz hk=>?_
  have I2:Inv X pins σ H1 { s1 with heap:=h' }:=I1.kept (t':=s1.toks) hk
  refine ζζ1C he ⟨s1.heap.objs.size+1,[s1.heap.objs.size+1,s1.heap.objs.size],_,_,H1,rfl,I2,ζi4 b _ _ (ζζ20 _),⟨⟨_,he⟩,hit⟩,fun c hc=>?_,q⟩
  exact I1.fpOk (fin c hc) (nn c (fin c hc))
 | true =>
  obtain⟨its,rv,pl,hz⟩:=I1.tuple hq
  have pT:s1.heap.IsTuple b its.toArray:=isTup_tuple pl
  have ltb:b<s1.heap.objs.size:=let ⟨_,e,_⟩:=pT;ζζn e
  refine ζJ6 pT fun h' he hit hsz hk=>?_
  have I2:Inv X pins σ H1 { s1 with heap:=h' }:=I1.kept (t':=s1.toks) hk
  refine ζζ1C he ⟨s1.heap.objs.size+1,[s1.heap.objs.size+1,s1.heap.objs.size],_,_,H1,rfl,I2,ζz5 b _ _ (ζζ20 _) (ζζr (ζζ0o ltb)) (ζζr ltb),⟨⟨_,he⟩,hit⟩,fun c hc=>?_,q⟩
  exact I1.fpOk (fin c hc) (nn c (fin c hc))
end
section
variable{prog:Program}{w:World}{A:Around}{E:Value->Shared->Prop}{s:Shared}
theorem ζZ6{l:Addr}{items:Array Value}{ns:List Int}{h0:Heap}{b:Addr}{Q:Value->Shared->Prop}(hh:A.handled=none)(hb0:h0.get? b=some (ζF1 w))(hl:h0.IsTuple l items)(hne:l≠b)(hi:IntsAre items.toList ns)(hn:items.size+1<scanBound)
  (k:∀ h' tk,SetR prog w h' b (!w.params.followText "set-order") (fun z=>(firstMet (fun i=>ns.getD i 0) items.size).any (· == z)) (firstMet (fun i=>ns.getD i 0) items.size).length->(∀ c o,c≠b->h0.get? c=some o->h'.get? c=some o)->Q .none { s with heap:=h',toks:=tk }) :
  wpAny (model prog w) A.in1 (Builtin.«set.__init__» ⟨[.ref b,.ref l],[]⟩) (fun fin s'=>match fin with | .done f=>wants Q E (.ok f) s' | .again c'=>c'.quiet=true/\codeAny (model prog w) A c' (wants Q E) s') (fun e s'=>wants Q E (.error e) s') { s with heap:=h0 }:=by
 have hT:Shared.TypeIs { s with heap:=h0 } (.ref b) "set":=⟨_,hb0,rfl⟩
 have hl0:=hl
 obtain⟨⟨ocls,odict,odata,oslots⟩,hol,hcl,nl,hdl⟩:=hl
 simp only at hcl hdl
 subst hcl hdl
 have q1:=F.sub_tuple_set
 have q2:=F.sub_tuple_frozenset
 have q3:(Value.type "tuple" == Value.type "dict")=false:=by decide
 unfold ζF1 at hb0
 unfold Builtin.«set.__init__» noKeywords Builtin.Frozenset.updateFrom
 generalize hPI:pyIter=PI
 wp_walk
 subst hPI
 refine ζζ1v hl0 ?_
 refine ζζ2 (ζζ28 ?_)
 have ltl:l<h0.objs.size:=ζζn hol
 have ltb:b<h0.objs.size:=ζζn hb0
 have bf:b∉[h0.objs.size,l]:=fun q=>by
  rcases ζζb.mp q with e | e
  ·exact ζζr ltb e
  ·exact hne (ζζ1.mp e).symm
 refine ζY3 ((Walks.tuple (A:=A.in1.in1) (by simp [hh]) _ l (ζζr ltl) items).toS) b bf (led:=!w.params.followText "set-order") (fun i=>ns.getD i 0) (fun i v hv=>ζζ3f hi i v (by rw [ζζN];exact hv)) hn (items.size - 0) 0 _ (by omega) (ζζj _)
  ⟨⟨_,ζζf _ rfl,rfl,rfl⟩,hl0.push _⟩ ?_ ?_
 ·exact ζo4 (ζζ3 _ hb0)
 ·rintro⟨h',g',d',tk',os'⟩ m hS
  have e1:g'=s.gens:=m.gens
  have e2:d'=s.drawn:=m.drawn
  have e3:os'=s.os:=m.os
  subst e1 e2 e3
  show wpAny _ _ _ _ _ _
  refine ζζl ?_
  show wpAny _ _ (ret Value.none) _ _ _
  refine ζζl (k h' tk' hS fun c o hc e=>m.heap c o (fun q=>?_) (ζζ3 _ e))
  rcases ζζb.mp q with e' | e'
  ·exact hc e'
  ·exact ζζr (ζζn e) (ζζ1.mp e')
set_option maxRecDepth 100000 in
set_option maxHeartbeats 3000000 in
theorem ζB8{l:Addr}{items:Array Value}{ns:List Int}{Q:Value->Shared->Prop}(hh:A.handled=none)(hl:s.heap.IsTuple l items)(hi:IntsAre items.toList ns)(hn:items.size+1<scanBound)
  (k:∀ h' tk,SetR prog w h' s.heap.objs.size (!w.params.followText "set-order") (fun z=>(firstMet (fun i=>ns.getD i 0) items.size).any (· == z)) (firstMet (fun i=>ns.getD i 0) items.size).length->(∀ c o,s.heap.get? c=some o->h'.get? c=some o)->Q (.ref s.heap.objs.size) { s with heap:=h',toks:=tk }) :
  wpAny (model prog w) A (call (.type "set") [.ref l]) Q E s:=by
 obtain⟨c,tl,hmro⟩:=ζζ0s.mro
 have a1:=ζζ0s.made
 have a2:=ζζ0s.sub
 have a3:=ζζ0s.notType
 have a4:=ζζ0s.canCreate
 have a5:=F.typeCall_set_1 (.ref l)
 refine ζζ2Y (codeAny_of_tree ?_)
 show wpAny _ _ (callAny (.type "set") _) _ _ _
 refine ζζl ⟨ζζ1w _ (by decide +kernel),ζζ09 F.entry_type_call ?_⟩
 rw [Around.under_plain (weight_type_call_type "set" [.ref l] []) rfl]
 repeat any_goals first | assumption | wp_step
 refine ζζ10 (ζV7 (.ref l) (E:=E) (Q:=fun ob s1=>ob=.ref s.heap.objs.size/\s1={ s with heap:=s.heap.push (ζF1 w) }) ⟨rfl,rfl⟩) fun r s1 hr=>?_
 match r,hr with
 | .error e,hr=>exact hr
 | .ok (.ret ob),hr =>
  obtain⟨rfl,rfl⟩:=hr
  have hb0:(s.heap.push (ζF1 w)).get? s.heap.objs.size=some (ζF1 w):=ζζf _ rfl
  have hT:Shared.TypeIs { s with heap:=s.heap.push (ζF1 w) } (.ref s.heap.objs.size) "set":=⟨_,hb0,rfl⟩
  have a6:=ζζ0s.init.lookup
  have a7:=ζζ0s.init.bind (.ref s.heap.objs.size)
  repeat any_goals first | assumption | wp_step
  have ltl:l<s.heap.objs.size:=let ⟨_,e,_⟩:=hl;ζζn e
  refine ζζ10 (codeAny_call_builtin (R:=wants (fun r s2=>r=.none/\Q (.ref s.heap.objs.size) s2) E) ζζ0s.init.plain F.entry_set_init (check_set_init_1 hT (ζZ6 (A:=_) (s:=s) ?_ hb0 (hl.push _) (ζζr ltl) hi hn fun h' tk hS kp=>⟨rfl,k h' tk hS fun c o e=>kp c o (ζζr (ζζn e)) (ζζ3 _ e)⟩))) fun r2 s2 hr2=>?_
  ·simp[hh]
  ·match r2,hr2 with
   | .error e,hr2=>exact hr2
   | .ok (.ret v),hr2 =>
    obtain⟨rfl,q⟩:=hr2
    repeat any_goals first | assumption | wp_step
theorem ζC8{l:Addr}{items:Array Value}{ns:List Int}{Q:Value->Shared->Prop}(hh:A.handled=none)(hl:s.heap.IsList l items\/s.heap.IsTuple l items)(hi:IntsAre items.toList ns)(hn:items.size+1<scanBound)
  (k:∀ h' tk,SetR prog w h' s.heap.objs.size (!w.params.followText "set-order") (fun z=>(firstMet (fun i=>ns.getD i 0) items.size).any (· == z)) (firstMet (fun i=>ns.getD i 0) items.size).length->(∀ c o,s.heap.get? c=some o->h'.get? c=some o)->Q (.ref s.heap.objs.size) { s with heap:=h',toks:=tk }) :
  wpAny (model prog w) A (call (.type "set") [.ref l]) Q E s:=by
 rcases hl with h | h
 ·exact ζ310 hh h hi hn k
 ·exact ζB8 hh h hi hn k
end
section
variable{X:Cx}{p p2 pos pos2:Pos}{e:Expr}{t:TA}
def ζ55(K:PySem.W.Frag)(t:TA):TE:=fun σ H Q=>t σ H fun vs H1=>∃(kd:Bool) (a:Addr) (ns:List Int),vs=[.ref a]/\My.SqK kd K H1 a (ns.map V.int)/\ns.length<64/\∀ ms:List Int,ms.Pairwise (· < ·)->(∀ z,z∈ms↔z∈ns)->∀ l,H1 l=none->Q (.ref l) (upd H1 l (.lst (ms.map V.int)))
theorem ζh3 (K:PySem.W.Frag) (hc:X.calm=true) (g1:Gl X "sorted") (m1:X.mg "sorted"=none) (g2:Gl X "set") (m2:X.mg "set"=none) (ha:PA X [e] t) (hk:X.K=K:=by rfl)
  (he:starEach [e] X.env=[(false,eval e X.env)]:=by rfl)
  (he2:starEach [.Call (.Name "set" p2) [e] [] pos2] X.env=[(false,eval (.Call (.Name "set" p2) [e] [] pos2) X.env)]:=by rfl) :
  PE X (.Call (.Name "sorted" p) [.Call (.Name "set" p2) [e] [] pos2] [] pos) (ζ55 K t):=by
 subst hk
 intro pins s σ H Q I h
 refine ζζ0N (ζs2 I g1 m1 Boot.«sorted» ?_)
 refine ζζ2q ?_ (by rw[he2];rfl) rfl
 rw[he2]
 show wpAny _ _ (spliced ((false,eval (.Call (.Name "set" p2) [e] [] pos2) X.env) :: backTo pos [])) _ _ s
 refine Calls.spliced_cons ?_
 refine ζζ0N (ζs2 I g2 m2 Boot.«set» ?_)
 refine ζζ0e (thn (ha pos2 pins s σ H _ I h) fun us s1 ⟨vs,H1,I1,r1,q1⟩=>?_) (by rw[he];rfl) rfl
 obtain⟨kd,a,ns,rfl,hq,hn,q⟩:=q1
 obtain⟨u,rfl,ru⟩:=ζ42 r1
 obtain rfl:u=Value.ref a:=ru
 obtain⟨its,rv,pl,hz⟩:∃ its:List Value,Vals (ns.map V.int) its/\(s1.heap.IsList a its.toArray\/s1.heap.IsTuple a its.toArray)/\(ns.map V.int).length<=sizeLine:=by
  cases kd with
  | false =>
   obtain⟨its,rv,pl,hz⟩:=I1.list hq
   exact⟨its,rv,.inl pl.isList,hz⟩
  | true =>
   obtain⟨its,rv,pl,hz⟩:=I1.tuple hq
   exact⟨its,rv,.inr (isTup_tuple pl),hz⟩
 have hi:=ζx rv
 have el:its.toArray.size=ns.length:=by rw[ζζ7,<- rv.length,ζζa]
 have sb:scanBound=4096:=rfl
 refine ζC8 (I.ok.hd hc) pl (ns:=ns) (by simpa using hi) (by omega) fun h2 tk hS kp=>?_
 refine Calls.spliced_nil ?_
 have fl:=firstMet_length_le (fun i=>ns.getD i 0) its.toArray.size
 refine ζF5 (led:=true) (s:={ s1 with heap:=h2,toks:=tk }) (I.ok.hd hc) hS (by omega) fun ms out r h3 tk3 d c hI hs hl hmem hge hr kp3=>?_
 have em:∀ z,z∈ms↔z∈ns:=fun z=>by
  rw[hmem,firstMet_any,el]
  have e1:(List.range ns.length).map (fun i=>ns.getD i 0)=ns:=by
   refine ζζ0D fun i=>?_
   rw[ζζh]
   by_cases c:i<ns.length
   ·rw[ζζ0a c,ζζ0 c,ζζ2H,ζζi,ζζ0 c]
    rfl
   ·rw[ζζG (by rw[ζζS];omega),ζζG (by omega)]
    rfl
  rw[e1]
  simp
 have hnd:ms.Nodup:=(ζv2 (ζB1 _ _) hl fun x hx=>(hmem x).mpr (ζζ0W.mpr ⟨x,hx,by simp⟩)).nodup_iff.mpr (ζB1 _ _)
 have hlt:s1.heap.objs.size<=h2.objs.size:=let ⟨_,_,_,_,e,_⟩:=hS;ζζ1z (ζζn e)
 have hge2:s1.heap.objs.size<=r:=ζζO hlt hge
 have hml:ms.length<=ns.length:=by rw[hl,<- el];exact fl
 have I2:=(I1.laid (o:=.lst (ms.map V.int)) (h':=h3) (t':=tk3) (fun b o e=>kp3 b o (kp b o e)) hge2 ⟨by rw[ζζa];have:sizeLine=16777216:=ζζ0C;omega,out,c,ζU hI,hr⟩).drew d
 exact⟨.ref r,_,I2,rfl,q ms (My.srt_strict hs hnd) em r (I1.hok.fresh hge2)⟩
end
end L2
namespace My
open PySem L2
section
variable{K:PySem.W.Frag}{kd:Bool}{a:Addr}{xs:List V}{g:TG}{tt:TT}{te:TE}{o:Nat}{fr:List Nat}{σ:St}{H:Hp}{Q:VK}
theorem ζj9(Pv:Nat->List V->Hp->Prop)(h0:Pv 0 [] H)(hz:xs.length<sizeLine)(hl:∀ i ys H,i<=xs.length->Pv i ys H->SqK kd K H a xs/\ys.length<=i)
  (hs:∀(i:Nat) x ys H (p:Addr),H p=none->xs[i]?=some x->Pv i ys H->ζF3 Pv g tt te o fr σ i (.ref p) ys (upd H p (.tup [.int i,x]))) (hd:∀ ys H,Pv xs.length ys H->∀ p,H p=none->Q (.ref p) (upd H p (.lst ys))):LcR (IteQ kd K a) g tt te o fr σ H Q:=by
 cases kd with
 | false=>exact ζ18 Pv h0 hz hl hs hd
 | true =>
  refine⟨fun i m ys H=>m=xs.length - i/\i<=xs.length/\Pv i ys H,⟨xs.length,by simp,ζζj _,h0⟩,?_⟩
  rintro i m ys H ⟨rfl,hi,p⟩
  obtain⟨q,hy⟩:=hl i ys H hi p
  have q:SqT K H a xs:=q
  by_cases hlt:i<xs.length
  ·refine .inr ⟨⟨xs,xs[i],q,by simp[hlt]⟩,by omega,fun x H' ⟨T,y,hT,ex,eH,hyy⟩=>?_⟩
   subst ex eH
   exact hs i y ys H T hT (hyy xs q) p (fun j ys H=>∃ m',m'<xs.length - i/\m'=xs.length - j/\j<=xs.length/\Pv j ys H) fun ys H p'=>⟨xs.length - (i+1),by omega,rfl,hlt,p'⟩
  ·have e:i=xs.length:=by omega
   subst e
   exact .inl ⟨⟨xs,q,ζζ5 _⟩,by omega,hd ys H p⟩
end
end My
namespace HT
open PySem PyProof.Rows
section
open PySem.SeqAt
open PySem.AutoSeq1 (wpAny_loadPart')
open PySem.MeetsSeq PySem.MeetsSeq2 PySem.MeetsSeq3
theorem ζA5(l b:Addr)(xs ys:Array Value)(n n2:Nat)(dd dd2:Option Addr)(sl sl2:Array (Option Value))(d:Nat)(r:Bool)(hd0:d<=min xs.size ys.size) :
  Meets (Builtin.«tuple.__lt__» ⟨[.ref l,.ref b],[]⟩)
   (fun A R s=>s.heap.get? l=some { cls:=.type "tuple",dict:=dd,data:=.seq xs n,slots:=sl }/\s.heap.get? b=some { cls:=.type "tuple",dict:=dd2,data:=.seq ys n2,slots:=sl2 } /\
    (∀ j (h1:j<xs.size) (h2:j<ys.size),j<=d->EqAt A.in1 s xs[j] ys[j] (decide (j≠d))) /\
    (∀(h1:d<xs.size) (h2:d<ys.size) (prog:Program) (w:World) (E:Value->Shared->Prop) (Q:Value->Shared->Prop),Q (.bool r) s->wpAny (model prog w) A.in1 (richCompare .Lt xs[d] ys[d]) Q E s) /\
    (d=min xs.size ys.size->r=decide (xs.size<ys.size))/\R (.ok (.ret (.bool r))) s) :=
 .of_wp fun prog w A R s h=>by
  obtain⟨hp,g,d1,tk,os⟩:=s
  obtain⟨hl,hb,he,hlt,hfin,h⟩:=h
  have f2:=AutoSeq1.sub_tuple_tuple
  have hZ:(xs.toList.zip ys.toList).length=min xs.size ys.size:=by simp
  wp_walk using ζζ0Y hl,ζζ0Y hb,wpAny_forIn_list _ (fun rest b s'=>b.1=none/\s'=⟨hp,g,d1,tk,os⟩/\∃ i,i<=d/\rest=(xs.toList.zip ys.toList).drop i) _
  case turn =>
   rintro⟨y,x⟩ rest b s' ⟨hb',rfl,i,hid,hz⟩
   have hi:i<(xs.toList.zip ys.toList).length:=by
    rcases Nat.lt_or_ge i (xs.toList.zip ys.toList).length with q | q
    ·exact q
    ·rw[List.drop_of_length_le q]at hz;cases hz
   have hm:i<min xs.size ys.size:=hZ ▸ hi
   have h1:i<xs.size:=ζζt hm (Nat.min_le_left _ _)
   have h2:i<ys.size:=ζζt hm (Nat.min_le_right _ _)
   rw[ζζ1J hi]at hz
   injection hz with hyx hrest
   have hy:y=xs[i]:=by have:=ζζ0l Prod.fst hyx;simpa using this
   have hx:x=ys[i]:=by have:=ζζ0l Prod.snd hyx;simpa using this
   subst hy hx
   refine ζζ2 (he i h1 h2 hid prog w _ _ ?_)
   by_cases c:i=d
   ·subst c
    rw[ζζE (by simp)]
    have hri:=hlt h1 h2 prog w
    wp_walk using hri
    exact⟨_,rfl,by simpa using h⟩
   ·rw[ζζd c]
    wp_walk
    exact⟨rfl,rfl,i+1,by omega,hrest⟩
  case fin =>
   rintro⟨b1,b2⟩ s' ⟨hb',rfl,i,hid,hz⟩
   simp only at hb'
   subst hb'
   have hge:min xs.size ys.size<=i:=by
    rcases Nat.lt_or_ge i (xs.toList.zip ys.toList).length with q | q
    ·rw[ζζ1J q]at hz;cases hz
    ·exact hZ ▸ q
   rw[hfin (by omega)]at h
   wp_walk
   exact⟨_,rfl,by simpa [Builtin.Tuple.tupleCompareSizes] using h⟩
  case h=>exact⟨rfl,rfl,0,ζζj _,rfl⟩
end
section
variable{prog:Program}{w:World}{A:Around}{E:Value->Shared->Prop}{s:Shared}
theorem ζX3{l b:Addr}{xs ys:Array Value}{d:Nat}{r:Bool}{Q:Value->Shared->Prop}(hl:IsTup s.heap l xs)(hb:IsTup s.heap b ys)(hd0:d<=min xs.size ys.size)(hu:A.units<cLine)
  (he:∀ j (h1:j<xs.size) (h2:j<ys.size),j<=d->SeqAt.EqAt A.in1 s xs[j] ys[j] (decide (j≠d)))
  (hlt:∀(h1:d<xs.size) (h2:d<ys.size) (prog:Program) (w:World) (E:Value->Shared->Prop) (Q:Value->Shared->Prop),Q (.bool r) s->wpAny (model prog w) A.in1 (richCompare .Lt xs[d] ys[d]) Q E s)
  (hfin:d=min xs.size ys.size->r=decide (xs.size<ys.size)) (h:Q (.bool r) s):wpAny (model prog w) A (compareOp .Lt (.ref l) (.ref b)) Q E s:=by
 obtain⟨⟨cls,dd,data,sl⟩,ho,hc,n,hd⟩:=id hl
 obtain⟨⟨cls2,dd2,data2,sl2⟩,ho2,hc2,n2,hd2⟩:=id hb
 simp only at hc hd hc2 hd2
 subst hc hd hc2 hd2
 exact richCompare_meets_room (op:=.Lt) ⟨_,ho,rfl⟩ ⟨_,ho2,rfl⟩ ζζ38 ζζ32 (ζζ2U _ _) (ζA5 l b xs ys n n2 dd dd2 sl sl2 d r hd0)
  ⟨ho,ho2,he,hlt,hfin,show Value.bool r≠Value.notImplemented/\Q (.bool r) s from⟨(fun x=>nomatch x),h⟩⟩ hu
theorem ζP4{l b:Addr}{xs ys:Array Value}{ns ms:List Int}(hl:IsTup s.heap l xs)(hb:IsTup s.heap b ys)(hi:IntsAre xs.toList ns)(hj:IntsAre ys.toList ms)(hu:A.units<cLine):SeqAt.EqAt A s (.ref l) (.ref b) (decide (ns=ms)):=by
 have z1:xs.size=ns.length:=by rw[<- hi.length];simp
 have z2:ys.size=ms.length:=by rw[<- hj.length];simp
 by_cases hab:l=b
 ·subst hab
  obtain⟨o1,e1,_,n1,d1⟩:=hl
  obtain⟨o2,e2,_,n2,d2⟩:=hb
  rw[e1]at e2
  cases e2
  rw[d1]at d2
  cases d2
  have en:ns=ms:=L2.ints_uniq hi hj
  rw[ζζd en]
  exact ζζ2n _
 ·have k:=SeqAt.RcAt.tuples (A:=A) (s:=s) (e:=fun j=>ns.getD j 0 == ms.getD j 0) (L2.isTup_tuple hl) (L2.isTup_tuple hb) hu fun j h1 h2=>by
   obtain⟨t,ea⟩:=ζζ3f hi j xs[j] (by simp[h1])
   obtain⟨u,ec⟩:=ζζ3f hj j ys[j] (by simp[h2])
   rw[ea,ec]
   exact ζζ16 _ _ _ _
  have e:((List.range (min xs.size ys.size)).all (fun j=>ns.getD j 0 == ms.getD j 0) && xs.size == ys.size)=decide (ns=ms):=by
   rw[z1,z2,ζζ0j,ζζ0u,ζζ0i,ζζM]
   constructor
   ·rintro⟨q1,q2⟩
    have q2:ns.length=ms.length:=by simpa using q2
    refine ζζ0D fun j=>?_
    by_cases c:j<ns.length
    ·have:=q1 j (ζζy.mpr (by omega))
     rw[ζζi,ζζi,ζζ0 c,ζζ0 (by omega)]at this
     have:=eq_of_beq this
     rw[ζζ0 c,ζζ0 (by omega)]
     exact ζζ0l some this
    ·rw[ζζG (by omega),ζζG (by omega)]
   ·rintro rfl
    exact⟨fun j _=>by simp,by simp⟩
  rw[e]at k
  exact ζζ1X hab k
def ltP(x y:Int × List Int):Bool:=decide (x.1<y.1) || (decide (x.1=y.1) && lexLt x.2 y.2)
theorem lt_pair{l b p q:Addr}{a c:Int}{t u:Tok}{r1 r2:List Value}{xs ys:Array Value}{ns ms:List Int}{Q:Value->Shared->Prop}(hl:IsTup s.heap l (.int a t :: .ref p :: r1).toArray)(hb:IsTup s.heap b (.int c u :: .ref q :: r2).toArray)
  (hp:IsTup s.heap p xs) (hq:IsTup s.heap q ys) (hi:IntsAre xs.toList ns) (hj:IntsAre ys.toList ms) (hr:a=c->ns=ms->r1=[]/\r2=[]) (hu:A.units+2<cLine) (h:Q (.bool (ltP (a,ns) (c,ms))) s):wpAny (model prog w) A (compareOp .Lt (.ref l) (.ref b)) Q E s:=by
 have u1:A.units<cLine:=by omega
 have u2:A.in1.units<cLine:=by show A.units+1<cLine;omega
 by_cases c1:a=c
 ·subst c1
  by_cases c2:ns=ms
  ·obtain⟨rfl,rfl⟩:=hr rfl c2
   have e:ltP (a,ns) (a,ms)=false:=by
    subst c2
    show(decide (a<a) || (decide (a=a) && lexLt ns ns))=false
    rw[My.lex_irrefl]
    simp
   refine ζX3 (d:=2) (r:=ltP (a,ns) (a,ms)) hl hb (by simp) u1 (fun j h1 h2 hj'=>?_) (fun h1=>absurd h1 (by simp)) (fun _=>by rw[e];simp) h
   match j,h1,h2,hj' with
   | 0,_,_,_=>exact(show SeqAt.EqAt A.in1 s (.int a t) (.int a u) true from by have:=ζζ16 (A:=A.in1) (s:=s) a t a u;simpa using this)
   | 1,_,_,_=>exact(show SeqAt.EqAt A.in1 s (.ref p) (.ref q) true from by have:=ζP4 (A:=A.in1) hp hq hi hj u2;rwa [ζζd c2]at this)
   | j+2,h1,_,_=>exact absurd h1 (by simp)
  ·have e:ltP (a,ns) (a,ms)=lexLt ns ms:=by
    show(decide (a<a) || (decide (a=a) && lexLt ns ms))=_
    simp
   rw[e]at h
   refine ζX3 (d:=1) (r:=lexLt ns ms) hl hb (by simp) u1 (fun j h1 h2 hj'=>?_) (fun h1 h2 prog w E Q hq'=>?_) (fun z=>absurd z (by simp)) h
   ·match j,h1,h2,hj' with
    | 0,_,_,_=>exact(show SeqAt.EqAt A.in1 s (.int a t) (.int a u) true from by have:=ζζ16 (A:=A.in1) (s:=s) a t a u;simpa using this)
    | 1,_,_,_=>exact(show SeqAt.EqAt A.in1 s (.ref p) (.ref q) false from by have:=ζP4 (A:=A.in1) hp hq hi hj u2;rwa [ζζE c2]at this)
    | j+2,_,_,z=>omega
   ·exact(show wpAny (model prog w) A.in1 (compareOp .Lt (.ref p) (.ref q)) Q E s from ζ86 hp hq hi hj u2 hq')
 ·have e:ltP (a,ns) (c,ms)=decide (a<c):=by
   show(decide (a<c) || (decide (a=c) && lexLt ns ms))=_
   simp[c1]
  rw[e]at h
  refine ζX3 (d:=0) (r:=decide (a<c)) hl hb (ζζj _) u1 (fun j h1 h2 hj'=>?_) (fun h1 h2 prog w E Q hq'=>?_) (fun z=>absurd z (by simp)) h
  ·match j,h1,h2,hj' with
   | 0,_,_,_=>exact(show SeqAt.EqAt A.in1 s (.int a t) (.int c u) false from by have:=ζζ16 (A:=A.in1) (s:=s) a t c u;rwa [show(a == c)=false by simpa using c1]at this)
   | j+1,_,_,z=>omega
  ·exact ζL5 A.in1 s a t c u prog w E Q hq'
end
theorem ltP_irrefl(x:Int × List Int):ltP x x=false:=by
 show(decide (x.1<x.1) || (decide (x.1=x.1) && lexLt x.2 x.2))=false
 rw[My.lex_irrefl]
 simp
theorem ltP_iff{x y:Int × List Int}:ltP x y=true↔x.1<y.1\/(x.1=y.1/\lexLt x.2 y.2=true):=by
 unfold ltP
 simp
theorem ltP_trans{x y z:Int × List Int}(h1:ltP x y=true)(h2:ltP y z=true):ltP x z=true:=by
 rw[ltP_iff]at h1 h2 ⊢
 rcases h1 with a | ⟨a,b⟩
 ·rcases h2 with c | ⟨c,d⟩
  ·exact .inl (by omega)
  ·exact .inl (by omega)
 ·rcases h2 with c | ⟨c,d⟩
  ·exact .inl (by omega)
  ·exact .inr ⟨by omega,My.lex_trans b d⟩
end HT
namespace My
open PySem L2
theorem best_leastG{lt:Nat->Nat->Bool}(hi:∀ i,lt i i=false)(ht:∀ i j k,lt i j=true->lt j k=true->lt i k=true):∀ j i,i<=j->lt i (argBest lt j)=false
 | 0,i,h=>by
  have:i=0:=by omega
  subst this
  exact hi _
 | j+1,i,h=>by
  have ih:=best_leastG hi ht j
  unfold argBest
  cases hb:lt (j+1) (argBest lt j) with
  | true =>
   rw[if_pos rfl]
   by_cases e:i=j+1
   ·subst e;exact hi _
   ·cases hc:lt i (j+1) with
    | false=>rfl
    | true =>
     have:=ih i (by omega)
     rw[ht _ _ _ hc hb]at this
     cases this
  | false =>
   rw[if_neg (by simp)]
   by_cases e:i=j+1
   ·subst e;exact hb
   ·exact ih i (by omega)
end My
namespace L2
open PySem PySem.Spec PyProof.Rows
section
variable{prog:Program}{w:World}{A:Around}{I S:Addr}{fp wr:List Addr}{n:Nat}{P:Nat->Value->Prop}{St:Nat->Heap->Prop}{R:Result->Shared->Prop}
theorem ζc7(W:Walks prog w A.in1 I fp wr n P St)(lt:Nat->Nat->Bool)(C:Heap->Prop)(ck:∀ h h',C h->(∀ b o,b≠S->b∉wr->h.get? b=some o->h'.get? b=some o)->C h')(cc:∀(s:Shared) (i j:Nat) (v u:Value) (E:Value->Shared->Prop) (Q:Value->Shared->Prop),C s.heap->i≠j->P i v->P j u->Q (.bool (lt i j)) s->wpAny (model prog w) A.in1 (compareOp .Lt v u) Q E s)(hSf:S∉fp):∀(k j:Nat) (s:Shared) (vb:Value) (c:Nat),n - (j+1)=k->j+1<=n->St (j+1) s.heap->P (argBest lt j) vb->C s.heap ->
  s.heap.get? S=some { cls:=.type "list",dict:=none,data:=.seq #[vb,vb] c,slots:=#[] } ->
  (∀ v h' tk,P (argBest lt (n - 1)) v->(∀ b o,b≠S->b∉wr->s.heap.get? b=some o->h'.get? b=some o)->R (.ok (.ret v)) { s with heap:=h',toks:=tk }) ->
  codeAny (model prog w) A (.builtin "min.loop" ⟨[.ref I,.none,.ref S],[]⟩) R s:=by
 have hSw:S∉wr:=fun h=>hSf (W.sub _ h)
 have nm:(toString "min"++toString ".loop":String)="min.loop":=by decide
 intro k
 induction k with
 | zero =>
  intro j s vb c hk hj st pb ta hS hR
  have ej:j+1=n:=by omega
  refine ζζ09 ζζ35 ?_
  rw[ζζ0v ζζ13 _]
  show wpAny _ A.in1 (seqItems? (.ref S) >>= _) _ _ s
  refine ζζ2 (ζζ1o hS rfl ?_)
  show wpAny _ A.in1 (tryCatch (pyNext (.ref I)) _ >>= _) _ _ s
  refine ζζ2 (ζζ2v (W.done s _ _ (ej ▸ st) fun h' tk hk'=>?_))
  have hS':=hk' S _ hSw hS
  show wpAny _ A.in1 (updateSeq S (fun _=>#[]) >>= _) _ _ _
  refine ζζ2 (ζζ2k hS' rfl (ζζ2 (ζζ2E (ζζl ?_))))
  exact hR vb _ tk (by rw[<- ej];exact pb) fun b o b1 b2 e=>(ζζQ _ _ (ζζY b1)).trans (hk' b o b2 e)
 | succ k ih =>
  intro j s vb c hk hj st pb ta hS hR
  have hlt:j+1<n:=by omega
  refine ζζ09 ζζ35 ?_
  rw[ζζ0v ζζ13 _]
  show wpAny _ A.in1 (seqItems? (.ref S) >>= _) _ _ s
  refine ζζ2 (ζζ1o hS rfl ?_)
  show wpAny _ A.in1 (tryCatch (pyNext (.ref I)) _ >>= _) _ _ s
  refine ζζ2 (ζζ2v (W.item (j+1) s _ _ hlt st fun v h' tk pv st' hk'=>?_))
  have hS':=hk' S _ hSw hS
  have ta':=ck _ h' ta fun b o _ b2 e=>hk' b o b2 e
  show wpAny _ A.in1 (tryCatch (holding [v,v] (richCompare .Lt (v) (vb) >>= _)) _ >>= _) _ _ _
  refine ζζ2 (ζζ2v (ζζ0x (ζζ2 (show wpAny _ _ (compareOp .Lt (v) (vb)) _ _ _ from cc { s with heap:=h',toks:=tk } (j+1) _ v vb _ _ ta' (ζζ0H (Nat.lt_succ_of_le (My.best_le _ _))) pv pb ?_))))
  refine ζζ2 (ζζ0x (ζζ0y ?_))
  refine ζζ2 (ζζ2E (ζζl ?_))
  cases hb:lt (j+1) (argBest lt j) with
  | true =>
   simp only [if_true]
   refine ζζ2 (ζζ2k hS' rfl (ζζ2 (ζζ2E ?_)))
   rw[nm]
   have up:∀ b o,b≠S->h'.get? b=some o->(h'.update S (Obj.mapSeq fun _=>#[v,v])).get? b=some o:=fun b o b1 e=>(ζζQ _ _ (ζζY b1)).trans e
   refine ζζl ⟨ζζ0Z ζζ13 _,ih (j+1) _ (v) _ (by omega) hlt (W.frame _ h' _ st' fun b hbf o e=>up b o (fun h=>hSf (h ▸ hbf)) e) ?_ (ck _ _ ta' fun b o b1 _ e=>up b o b1 e) (ζζ05 _ hS' rfl) fun v' h'' tk'' p'' k''=>?_⟩
   ·unfold argBest
    rw[if_pos hb]
    exact pv
   ·exact hR v' h'' tk'' p'' fun b o b1 b2 e=>k'' b o b1 b2 (up b o b1 (hk' b o b2 e))
  | false =>
   simp only [ζζ2j,if_false]
   refine ζζ2 (ζζ2E ?_)
   rw[nm]
   refine ζζl ⟨ζζ0Z ζζ13 _,ih (j+1) _ (vb) c (by omega) hlt st' ?_ ta' hS' fun v' h'' tk'' p'' k''=>?_⟩
   ·unfold argBest
    rw[if_neg (by rw[hb];decide)]
    exact pb
   ·exact hR v' h'' tk'' p'' fun b o b1 b2 e=>k'' b o b1 b2 (hk' b o b2 e)
theorem ζ16 (W:Walks prog w A.in1 I fp wr n P St) (lt:Nat->Nat->Bool) (C:Heap->Prop) (ck:∀ h h',C h->(∀ b o,b≠S->b∉wr->h.get? b=some o->h'.get? b=some o)->C h') (cc:∀(s:Shared) (i j:Nat) (v u:Value) (E:Value->Shared->Prop) (Q:Value->Shared->Prop),C s.heap->i≠j->P i v->P j u->Q (.bool (lt i j)) s->wpAny (model prog w) A.in1 (compareOp .Lt v u) Q E s) (hSf:S∉fp) (hn:0<n) {s:Shared} {c:Nat} (st:St 0 s.heap) (ta:C s.heap) (hS:s.heap.get? S=some { cls:=.type "list",dict:=none,data:=.seq #[] c,slots:=#[] })
  (hR:∀ v h' tk,P (argBest lt (n - 1)) v->(∀ b o,b≠S->b∉wr->s.heap.get? b=some o->h'.get? b=some o)->R (.ok (.ret v)) { s with heap:=h',toks:=tk }) :
  codeAny (model prog w) A (.builtin "min.loop" ⟨[.ref I,.none,.ref S],[]⟩) R s:=by
 have hSw:S∉wr:=fun h=>hSf (W.sub _ h)
 have nm:(toString "min"++toString ".loop":String)="min.loop":=by decide
 refine ζζ09 ζζ35 ?_
 rw[ζζ0v ζζ13 _]
 show wpAny _ A.in1 (seqItems? (.ref S) >>= _) _ _ s
 refine ζζ2 (ζζ1o hS rfl ?_)
 show wpAny _ A.in1 (tryCatch (pyNext (.ref I)) _ >>= _) _ _ s
 refine ζζ2 (ζζ2v (W.item 0 s _ _ hn st fun v h' tk pv st' hk'=>?_))
 have hS':=hk' S _ hSw hS
 show wpAny _ A.in1 (updateSeq S (fun _=>#[v,v]) >>= _) _ _ _
 refine ζζ2 (ζζ2k hS' rfl ?_)
 rw[nm]
 have up:∀ b o,b≠S->h'.get? b=some o->(h'.update S (Obj.mapSeq fun _=>#[v,v])).get? b=some o:=fun b o b1 e=>(ζζQ _ _ (ζζY b1)).trans e
 refine ζζl ⟨ζζ0Z ζζ13 _,ζc7 W lt C ck cc hSf _ 0 _ v _ rfl hn (W.frame _ h' _ st' fun b hbf o e=>up b o (fun h=>hSf (h ▸ hbf)) e) pv (ck _ _ ta fun b o b1 b2 e=>up b o b1 (hk' b o b2 e)) (ζζ05 _ hS' rfl) fun v' h'' tk'' p'' k''=>?_⟩
 exact hR v' h'' tk'' p'' fun b o b1 b2 e=>k'' b o b1 b2 (up b o b1 (hk' b o b2 e))
end
section
variable{X:Cx}
theorem ζV1{x:V}{xs:List V}{us:List Value}(r:Vals (x :: xs) us):∃ u vs,us=u :: vs/\RelV x u/\Vals xs vs:=by
 cases r with
 | cons a b=>exact⟨_,_,rfl,a,b⟩
theorem ζI6 (K:PySem.W.Frag) (hc:X.calm=true) (hu:X.A.units+8<cLine) (hk:X.K=K:=by rfl):ζI1 X (.builtin "min") (fun xs H Q=>∃(p:Addr) (ys:List V) (L:List (Int × List Int)) (fl:Bool),xs=[.ref p]/\SqL K H p ys/\0<ys.length/\ys.length=L.length /\
  (∀(i:Nat) (x:Int × List Int),L[i]?=some x->∃(a q:Addr) (rest:List V),ys[i]?=some (.ref a)/\SqT K H a (.int x.1 :: .ref q :: rest)/\SqT K H q (x.2.map V.int)/\(fl=true->rest=[]))/\(fl=false->L.Nodup) /\
  ∀(i:Nat) (a:Addr) (x:Int × List Int),L[i]?=some x->ys[i]?=some (.ref a)->(∀ m∈L,HT.ltP m x=false)->Q (.ref a) H):=by
 subst hk
 intro pins s σ H xs us Q I r h
 obtain⟨p,ys,L,fl,rfl,hq,hn,hl,hT,hnd,q⟩:=h
 obtain⟨u,rfl,ru⟩:=ζ42 r
 obtain rfl:u=Value.ref p:=ru
 obtain⟨its,rv,pl,hz⟩:=I.list hq
 have el:its.length=ys.length:=rv.length.symm
 have hp:p<s.heap.objs.size:=let ⟨_,_,e,_⟩:=pl;ζζn e
 have nm:(toString "min"++toString ".loop":String)="min.loop":=by decide
 refine call_function_tree F.kind_min F.plain_min F.entry_min (F.args_min1 _) ?_
 show wpAny _ X.A.in1 (Builtin.Builtins.bindParams "min" ["key","default"] 0 ⟨[],[]⟩ >>= _) _ _ s
 refine ζζ2 (ζζ1i (a:=[none,none]) rfl ?_)
 refine ζζ2 (ζζl ?_)
 refine ζζ2 (ζζ1B pl.isList ?_)
 refine ζζ2 (ζζ0m ?_)
 rw[nm]
 have W:=Walks.list (prog:=X.prog) (w:=X.w) (A:=X.A.in1) (I.ok.hd hc) s.heap.objs.size p (ζζr hp) its.toArray
 obtain⟨G,hG⟩:∃ G,G=s.heap.push { cls:=.type "list_iterator",data:=.fields #[.ref p,.int 0 0] }:=⟨_,rfl⟩
 have e1:G.get? s.heap.objs.size=some { cls:=.type "list_iterator",data:=.fields #[.ref p,.int 0 0] }:=by rw [hG];exact ζζf s.heap rfl
 have z1:G.objs.size=s.heap.objs.size+1:=by rw[hG];exact ζζ0B ..
 have up:∀ b o,s.heap.get? b=some o->G.get? b=some o:=fun b o e=>by rw[hG];exact ζζ3 _ e
 have plG:G.IsList p its.toArray:=by rw[hG];exact pl.isList.push _
 rw[<- hG]
 have at':∀(i:Nat) (v:Value),its.toArray[i]?=some v->∃(a:Addr) (x:Int × List Int) (qa:Addr) (rest:List V),L[i]?=some x/\ys[i]?=some (.ref a)/\v=.ref a/\SqT X.K H a (.int x.1 :: .ref qa :: rest)/\SqT X.K H qa (x.2.map V.int)/\(fl=true->rest=[]):=fun i v e=>by
  have e:its[i]?=some v:=by simpa using e
  have hi:i<its.length:=(ζζ4.mp e).1
  obtain⟨a,qa,rest,ea,ta,tq,tf⟩:=hT i L[i] (ζζ0 (by omega))
  obtain⟨x,ex,rx⟩:=rv.at hi
  have ea2:=ea
  rw[ex]at ea2
  cases ea2
  rw[ζζ0 hi]at e
  have e:its[i]=v:=ζζ8 e
  rw[e]at rx
  exact⟨a,L[i],qa,rest,ζζ0 (by omega),ea,rx,ta,tq,tf⟩
 refine ζζl ⟨ζζ0Z ζζ13 _,?_⟩
 obtain⟨lt,hlt⟩:∃ lt:Nat->Nat->Bool,lt=fun i j=>HT.ltP (L.getD i (0,[])) (L.getD j (0,[])):=⟨_,rfl⟩
 refine ζ16 (A:=X.A) (S:=G.objs.size) W lt (fun h=>∀ b o,s.heap.get? b=some o->h.get? b=some o) (fun h h' c k b o e=>k b o (by rw[z1];exact ζζr (ζζ0o (ζζn e))) (fun z=>absurd (ζζ1.mp z) (ζζr (ζζn e))) (c b o e)) (fun s2 i j v u E Q c hij pv pu hQ=>?_) ?_ (by rw[ζζ7];omega) ⟨⟨_,ζζ3 _ e1,rfl,rfl⟩,plG.push _⟩ (fun b o e=>ζζ3 _ (up b o e)) (ζζf _ rfl) fun v h' tk pv hk'=>?_
 ·obtain⟨a1,x1,q1,r1,l1,_,rfl,t1,tq1,f1⟩:=at' i v pv
  obtain⟨a2,x2,q2,r2,l2,_,rfl,t2,tq2,f2⟩:=at' j u pu
  have keep:∀ {a:Addr} {xs:Array Value},IsTup s.heap a xs->IsTup s2.heap a xs:=fun⟨o,ho,z⟩=>⟨o,c _ o ho,z⟩
  obtain⟨i1,v1,p1,_⟩:=I.tuple t1
  obtain⟨i2,v2,p2,_⟩:=I.tuple t2
  obtain⟨j1,w1,o1,_⟩:=I.tuple tq1
  obtain⟨j2,w2,o2,_⟩:=I.tuple tq2
  obtain⟨c1,rest1,rfl,rc1,v1'⟩:=ζV1 v1
  obtain⟨c2,rest2,rfl,rc2,v2'⟩:=ζV1 v2
  obtain⟨d1,rest1,rfl,rd1,vv1⟩:=ζV1 v1'
  obtain⟨d2,rest2,rfl,rd2,vv2⟩:=ζV1 v2'
  obtain⟨tk1,rfl⟩:∃ t,c1=Value.int x1.1 t:=rc1
  obtain⟨tk2,rfl⟩:∃ t,c2=Value.int x2.1 t:=rc2
  obtain rfl:d1=Value.ref q1:=rd1
  obtain rfl:d2=Value.ref q2:=rd2
  have g1:L.getD i (0,[])=x1:=My.getD_of l1
  have g2:L.getD j (0,[])=x2:=My.getD_of l2
  refine HT.lt_pair (keep p1) (keep p2) (keep o1) (keep o2) (by simpa using ζx w1) (by simpa using ζx w2) (fun b1 b2=>?_) (by show X.A.units+1+2<cLine;omega) (by rw[hlt]at hQ;simpa only [g1,g2] using hQ)
  have hxx:x1=x2:=Prod.ext b1 b2
  cases hfl:fl with
  | true =>
   have z1:=f1 hfl
   have z2:=f2 hfl
   rw[z1]at vv1
   rw[z2]at vv2
   have a1:=vv1.length
   have a2:=vv2.length
   exact⟨ζζ00.mp a1.symm,ζζ00.mp a2.symm⟩
  | false =>
   exact absurd (My.nodup_get (hnd hfl) l1 (by rw[hxx];exact l2)) hij
 ·rw[z1]
  simp only [ζζb,List.not_mem_nil,or_false,not_or]
  exact⟨ζζ20 _,ζζ0H (ζζ0o hp)⟩
 ·obtain⟨a,x,qa,rest,l1,y1,rfl,_⟩:=at' _ v pv
  have hs:its.toArray.size=ys.length:=by rw[ζζ7];exact el
  refine⟨.ref a,H,I.kept fun b o e=>hk' b o ?_ ?_ (ζζ3 _ (up b o e)),rfl,q _ a x l1 y1 fun m hm=>?_⟩
  ·rw[z1];exact ζζr (ζζ0o (ζζn e))
  ·exact fun h=>absurd (ζζ1.mp h) (ζζr (ζζn e))
  ·obtain⟨i,hi,ei⟩:=ζζ0R hm
   have k:=My.best_leastG (lt:=lt) (fun i=>by rw[hlt];exact HT.ltP_irrefl _) (fun i j k a b=>by rw[hlt]at a b ⊢;exact HT.ltP_trans a b) (its.toArray.size - 1) i (by omega)
   have g1:L.getD i (0,[])=m:=by rw[ζζi,ζζ0 hi,ei];rfl
   have g2:L.getD (argBest lt (its.toArray.size - 1)) (0,[])=x:=My.getD_of l1
   rw[<- g1,<- g2]
   rw[hlt]at k ⊢
   exact k
end
end L2
namespace My
open PySem L2
def bkD(d:Int):Int:=if d % 2=0 then d+1 else d - 1
def dtU(ps:List (Int × Int))(p:Int):Nat->List Int
 | 0=>[]
 | i+1=>dtU ps p i++(if (ps.getD i (0,0)).1=p then [2 * (i:Int)] else [])++(if (ps.getD i (0,0)).2=p then [2 * (i:Int)+1] else [])
def dts(ps:List (Int × Int))(p:Int):List Int:=dtU ps p ps.length
def VT(n:Nat)(ps:List (Int × Int))(ts:List (List Int)):Prop:=ts.length=n/\∀(p:Nat) (row:List Int),ts[p]?=some row->row.Perm (dts ps (p:Int))
def bhR(row:List Int)(k:Nat):List (Int × Int):=(List.range k).map fun i=>(bkD (row.getD i 0),row.getD ((i+1) % row.length) 0)
def bhL(ts:List (List Int)):List (Int × Int):=ts.flatMap fun row=>bhR row row.length
def Orb(B:List (Int × Int))(d:Int)(row:List Int):Prop:=row[0]?=some d/\row.Nodup/\(∀ i x y,row[i]?=some x->row[i+1]?=some y->(x,y)∈B)/\∀ x,row[row.length - 1]?=some x->(x,d)∈B
def Rds(B:List (Int × Int)):Nat->List (List Int)->Prop
 | 0,R=>R=[]
 | k+1,R=>∃ R',Rds B k R'/\(((k:Int)∈R'.flatten/\R=R')\/((k:Int)∉R'.flatten/\∃ row,Orb B k row/\R=R'++[row]))
structure JagAt (H0:Hp) (r:Addr) (H:Hp) (ys:List V) (L:List (List Int)):Prop where
 tab:H r=some (.lst ys)
 rows:Bears (LiV r H) ys L
 nd:ys.Nodup
 new:∀ A,V.ref A∈ys->H0 A=none
def RdW(ps:List (Int × Int))(ts:List (List Int))(R:List (List Int)):Prop:=(ps.length=0/\R=[[]])\/(0<ps.length/\Rds (bhL ts) (2 * ps.length) R)
def plR(row:List Int)(k:Int):List (Int × Int):=row.map fun d=>(d,k)
def plL(ts:List (List Int)):Nat->List (Int × Int)
 | 0=>[]
 | i+1=>plL ts i++plR (ts.getD i []) i
def Flat(n:Int)(ps:List (Int × Int))(R:List (List Int)):Prop:=ζC7 n ps/\n - (ps.length:Int)+(R.length:Int)=2
def rnR(R:List (List Int))(d:Int):Int:=((plL R R.length).find? fun p=>decide (p.1=d)).elim 0 (·.2)
def owT(R:List (List Int))(m:Nat):List (Int × Int):=(List.range m).map fun(k:Nat)=>(rnR R (2 * (k:Int)),rnR R (2 * (k:Int)+1))
section
variable{one d0 d1:Int}{other:Option Int}
def hdD(one:Int)(other:Option Int)(d0 d1 y:Int):Int:=if y=one then d0 else if some y=other then d1 else y
end
structure Back (n:Nat) (ps:List (Int × Int)) (ts R D:List (List Int)):Prop where
 flat:Flat n ps R
 few:R.length<=14
 rows:∀ l∈R,l.length<64
 good:ζy R.length (owT R ps.length)
 vt:VT R.length (owT R ps.length) R
 rds:RdW (owT R ps.length) R D
 flat2:Flat R.length (owT R ps.length) D
 len:D.length=n
 good2:ζy n (owT D ps.length)
 tc:∀ c,TC n ps c->TC n (owT D ps.length) c
 nd:D.flatten.Nodup
 all:∀ x:Int,0<=x->x<2 * (ps.length:Int)->x∈D.flatten
 small:D.flatten.length<=100
end My
namespace L2
open PySem PySem.Spec PyProof.Rows
def TL(l:List Str):List V:=l.map V.str
theorem ζ43:∀ {l:List Str} {us:List Value},Vals (TL l) us->∃ k:List (Str × Tok),us=strValues k/\k.map (fun x=>x.fst)=l
 | [],_,.nil=>⟨[],rfl,rfl⟩
 | x :: l,_,.cons r t=>by
  obtain⟨tk,rfl⟩:=r
  obtain⟨k,rfl,h⟩:=ζ43 (l:=l) t
  exact⟨(x,tk) :: k,rfl,by rw[ζζF,h]⟩
section
variable{X:Cx}
def ζE12(K:PySem.W.Frag):V->List V->Hp->VK->Prop:=fun x vs H Q=>∃(sep:Str) (a:Addr) (l:List Str),x=.str sep/\vs=[.ref a]/\SqL K H a (TL l)/\JoinOk sep l=true/\Q (.str (sep.join l)) H
theorem ζ06 (K:PySem.W.Frag) (h:X.K=K:=by rfl):MtM X "str.join" (ζE12 K):=by
 subst h
 intro pins s σ H x vs v us Q I rx rv h
 obtain⟨sep,a,l,rfl,rfl,hq,hj,q⟩:=h
 obtain⟨tk,rfl⟩:=rx
 obtain⟨u,rfl,ru⟩:=rv.one
 cases ru
 obtain⟨its,r,pl,hz⟩:=I.list hq
 obtain⟨k,rfl,hk⟩:=ζ43 r
 refine PySem.SC.join pl.isList hk hj fun t' n=>⟨.str _,H,I.tok n,⟨t',rfl⟩,?_⟩
 rw[show Txt.join sep l=sep.join l from PySem.StrLaws.glued_eq_join sep l]
 exact q
theorem ζ22:ζI1 X (.type "str") (fun xs H Q=>∃ i:Int,xs=[.int i]/\-(10 ^ 70)<i/\i<10 ^ 70/\Q (.str (Str.ofString (toString i))) H):=by
 intro pins s σ H xs us Q I r h
 obtain⟨i,rfl,h1,h2,q⟩:=h
 exact ζ74 pins s σ H _ us Q I r ⟨i,rfl,ζe7 h1 h2,q⟩
end
theorem ζf4:∀(l:List Str) (n:Nat),Vals (TL l) (strsFrom n l)
 | [],_=>.nil
 | _ :: l,n=>.cons ⟨n,rfl⟩ (ζf4 l (n+1))
section
variable{X:Cx}
def ζK11:V->List V->Hp->VK->Prop:=fun x vs H Q=>∃(z y:Str),x=.str z/\vs=[.str y]/\(y.length == 0)=false/\z.length<=sizeLine/\(Txt.split z y).length<=sizeLine/\∀ p,H p=none->Q (.ref p) (upd H p (.lst (TL (Txt.split z y))))
theorem ζY5:MtM X "str.split" ζK11:=by
 intro pins s σ H x vs v us Q I rx rv h
 obtain⟨z,y,rfl,rfl,hy,hz,hl,q⟩:=h
 obtain⟨t,rfl⟩:=rx
 obtain⟨u,rfl,ru⟩:=rv.one
 obtain⟨u',rfl⟩:=ru
 have self:Txt.split z y=[z]->EP X pins σ Q (.ref s.heap.objs.size) { s with heap:=s.heap.push { cls:=.type "list",data:=.seq #[.str z t] } }:=fun e=>by
  rw[e]at q
  refine⟨.ref s.heap.objs.size,_,I.laid (t':=s.toks) (o:=.lst (TL [z])) (fun b ob q=>ζζ3 _ q) (ζζ5 _) ?_,rfl,q _ (I.hok.fresh (ζζ5 _))⟩
  exact⟨by rw[e]at hl;exact hl,[.str z t],0,.cons ⟨t,rfl⟩ .nil,ζζf _ rfl⟩
 by_cases c1:(decide (z.length<y.length) || decide (Builtin.Str.strKind z<Builtin.Str.strKind y))=true
 ·have e:Txt.split z y=[z]:=by unfold Txt.split;rw[if_pos c1]
  exact ζζ1I ζζ0T (ζζ2x _ _ _) ζζ1W (ζζ1O _ _) (meets_str_split_cannot_occur z y t u' c1) (self e)
 ·have c1':=ζζ1U.mpr c1
  by_cases c2:(Builtin.Str.occurrences z y 0 z.length (z.length+1)).isEmpty=true
  ·have e:Txt.split z y=[z]:=by unfold Txt.split;rw[if_neg c1,if_pos c2]
   exact ζζ1I ζζ0T (ζζ2x _ _ _) ζζ1W (ζζ1O _ _) (meets_str_split_not_found z y t u' c1' hy c2) (self e)
  ·have e:Txt.split z y=Builtin.Str.partsBetween z (Builtin.Str.occurrences z y 0 z.length (z.length+1)) y.length:=by unfold Txt.split;rw[if_neg c1,if_neg c2]
   rw[e]at hl q
   refine ζζ1I ζζ0T (ζζ2x _ _ _) ζζ1W (ζζ1O _ _) (meets_str_split_sep z y t u' c1' hy (ζζ1U.mpr c2) hz hl) ?_
   refine⟨.ref s.heap.objs.size,_,I.laid (o:=.lst (TL (Builtin.Str.partsBetween z (Builtin.Str.occurrences z y 0 z.length (z.length+1)) y.length))) (fun b ob q=>ζζ3 _ q) (ζζ5 _) ?_,rfl,q _ (I.hok.fresh (ζζ5 _))⟩
   exact⟨by unfold TL;rw[ζζa];exact hl,_,0,ζf4 _ _,ζζf _ rfl⟩
def ζc10:V->List V->Hp->VK->Prop:=fun x vs H Q=>∃(z y:Str),x=.str z/\vs=[.str y]/\Q (.bl (Txt.startswith z y)) H
theorem ζa7:MtM X "str.startswith" ζc10:=by
 intro pins s σ H x vs v us Q I rx rv h
 obtain⟨z,y,rfl,rfl,q⟩:=h
 obtain⟨t,rfl⟩:=rx
 obtain⟨u,rfl,ru⟩:=rv.one
 obtain⟨u',rfl⟩:=ru
 exact PySem.SC.startswith ⟨.bl _,H,I,rfl,q⟩
theorem ζz7:ζI1 X (.type "int") (fun xs H Q=>∃(z:Str) (n:Int),xs=[.str z]/\intText? z=some n/\z.length<=640/\Q (.int n) H):=by
 intro pins s σ H xs us Q I r h
 obtain⟨z,n,rfl,hz,hl,q⟩:=h
 obtain⟨u,rfl,ru⟩:=ζ42 r
 obtain⟨t,rfl⟩:=ru
 exact PySem.W.KIN.call_text hz hl ⟨.int n,H,I.tok _,⟨_,rfl⟩,q⟩
def Its(z:Str):It:=⟨fun i _=>i<z.cps.size,fun i H x H'=>H'=H/\∃ c,z.cps[i]?=some c/\x=.str ⟨#[c]⟩,fun i _=>z.cps.size<=i⟩
theorem ζR6 {P:Program} {w:World} {K:PySem.W.Frag} {tg:Expr} (z:Str) (t:Tok) (it:Addr):Turn P w K tg (Its z) [it] it (fun i h=>h.IsStrIter it "str_ascii_iterator" z t i) where
 mem:=by simp
 obj:=fun i h st b hb=>by
  have e:b=it:=by simpa using hb
  subst e
  obtain⟨o,e,c,d⟩:=st
  exact⟨o,e,fun v z=>by rw[d]at z;cases z⟩
 keep:=fun i h h' st k=>by
  obtain⟨o,e,c,d⟩:=st
  exact⟨o,k it (by simp) o e,c,d⟩
 item:=by
  intro X hP hw hK hc i pins s σ H E I hf st hg
  subst hP hw hK
  obtain⟨c,hc'⟩:∃ c,z.cps[i]?=some c:=⟨_,ζζB hg⟩
  obtain⟨f0,f1,f2,f3,f4,f5⟩:=hf it (by simp)
  refine wpAny_pyNext_ascii_item st hc' fun h' st' sb=>?_
  have I1:Inv X pins σ H { s with heap:=h',toks:=s.toks+1 }:=I.turned (fun b o hb e=>(sb.2 b hb).trans e) f0 f1 f3 f4 f5
  obtain⟨o,e,c',d⟩:=id st'
  exact⟨_,rfl,ζj11 (s:={ s with heap:=h',toks:=s.toks+1 }) e c' d (by decide) ⟨.str ⟨#[c]⟩,H,I1,⟨_,rfl⟩,⟨rfl,c,hc',rfl⟩,st',fun b hb=>(hf b hb).1⟩⟩
 done:=by
  intro X hP hw hK hc i pins s σ H E I hf st hg
  subst hP hw hK
  obtain⟨f0,f1,f2,f3,f4,f5⟩:=hf it (by simp)
  exact wpAny_pyNext_ascii_end (I.ok.hd hc) st (ζζ0X hg) fun h' eb=>⟨rfl,I.turned (t':=s.toks) (fun b o hb e=>eb b o hb e) f0 f1 f3 f4 f5⟩
 self:=fun _ _ _ _ _ st h=>wpAny_pyIter_striter_ascii st h
def ζO12(tl:TE):TI:=fun σ H R=>tl σ H fun x H1=>∃ z:Str,x=.str z/\(z.cps.all fun c=>decide (c<128))=true/\R (Its z) H1
theorem ζi10{l tg:Expr}{tl:TE}(hl:PE X l tl):PI X tg l (ζO12 tl):=by
 intro pins s σ H R I h
 refine thn (hl pins s σ H _ I h) fun v s1 ⟨x,H1,I1,r1,q1⟩=>?_
 obtain⟨z,e,ha,q⟩:=q1
 subst e
 obtain⟨t,rfl⟩:=r1
 refine wpAny_pyIter_ascii ha ?_
 refine⟨s1.heap.objs.size,[s1.heap.objs.size],_,_,H1,rfl,I1.kept (t':=s1.toks) fun b o e=>ζζ3 _ e,ζR6 z t _,⟨_,ζζf _ rfl,rfl,rfl⟩,fun b hb=>?_,q⟩
 have e:b=s1.heap.objs.size:=by simpa using hb
 subst e
 exact I1.fpOk (ζζ5 _) (I1.hok.fresh (ζζ5 _))
def rSlS:V->Option Int->Option Int->Hp->VK->Prop:=fun x lo hi H Q=>∃ z:Str,x=.str z/\(StrLaws.sliceText z lo hi).length<=sizeLine/\Q (.str (StrLaws.sliceText z lo hi)) H
theorem ζO7{v:Value}{o:Option Int}(h:IsPart v o):∃ l:Option (Int × Tok),v=partValue l/\l.map (fun x=>x.fst)=o:=by
 cases h with
 | none=>exact⟨none,rfl,rfl⟩
 | int i t=>exact⟨some (i,t),rfl,rfl⟩
theorem ζ010:SlR X rSlS:=by
 intro pins s σ H x v vl vu lo hi sl Q I rx hs pl pu h
 obtain⟨z,rfl,hz,q⟩:=h
 obtain⟨t,rfl⟩:=rx
 refine⟨"str",_,slot_str_getitem.lookup,ζζ2x s z t,?_⟩
 obtain⟨l,rfl,e1⟩:=ζO7 pl
 obtain⟨u,rfl,e2⟩:=ζO7 pu
 subst e1 e2
 refine wpAny_getItem_str_slice (l:=l) (u:=u) (st:=none) hs (by rfl) ?_
 unfold StrLaws.sliceText at hz q
 unfold sliceMade slicePicked
 show Made.post (if (1 == 1 && (Builtin.Str.strSliceIndices (l.map fun x=>x.fst) (u.map fun x=>x.fst) 1 z.length).length == z.length)=true then _ else _) _ s
 split at hz
 ·rename_i c
  rw[if_pos c]at q
  rw[if_pos c]
  exact⟨.str z,H,I,⟨t,rfl⟩,q⟩
 ·rename_i c
  rw[if_neg c]at q
  rw[if_neg c]
  exact⟨hz,.str _,H,I.tok _,⟨_,rfl⟩,q⟩
end
end L2
namespace My
open PySem L2
section
variable{g:TG}{tt:TT}{te:TE}{o:Nat}{fr:List Nat}{σ:L2.St}{H:Hp}{Q:VK}
theorem ζE10{z:Str}(Pv:Nat->List V->Hp->Prop)(h0:Pv 0 [] H)(hz:z.cps.size<sizeLine)(hl:∀ i ys H,i<=z.cps.size->Pv i ys H->ys.length<=i)
  (hs:∀ i c ys H,z.cps[i]?=some c->Pv i ys H->ζF3 Pv g tt te o fr σ i (.str ⟨#[c]⟩) ys H) (hd:∀ ys H,Pv z.cps.size ys H->∀ p,H p=none->Q (.ref p) (upd H p (.lst ys))):LcR (Its z) g tt te o fr σ H Q:=by
 refine⟨fun i m ys H=>m=z.cps.size - i/\i<=z.cps.size/\Pv i ys H,⟨z.cps.size,by simp,ζζj _,h0⟩,?_⟩
 rintro i m ys H ⟨rfl,hi,p⟩
 have hy:=hl i ys H hi p
 by_cases hlt:i<z.cps.size
 ·refine .inr ⟨hlt,by omega,fun x H' ⟨e,c,hc,y⟩=>?_⟩
  subst e
  subst y
  exact hs i c ys _ hc p (fun j ys H=>∃ m',m'<z.cps.size - i/\m'=z.cps.size - j/\j<=z.cps.size/\Pv j ys H) fun ys H p'=>⟨z.cps.size - (i+1),by omega,rfl,hlt,p'⟩
 ·have e:i=z.cps.size:=by omega
  subst e
  exact .inl ⟨ζζ5 _,by omega,hd ys H p⟩
end
def nT(i:Int):Str:=Str.ofString (toString i)
def dg(m:Nat):List Nat:=(Nat.toDigits 10 m).map Char.toNat
def sgT(i:Int):List Nat:=if i<0 then 45 :: dg i.natAbs else dg i.natAbs
theorem ζo3(i:Int):(nT i).cps.toList=sgT i:=by
 unfold nT sgT
 cases i with
 | ofNat m =>
  rw[if_neg (show ¬ Int.ofNat m<0 from Int.not_lt.mpr (Int.natCast_nonneg m))]
  exact W.KIN.signs_num m
 | negSucc m =>
  rw[if_pos (Int.negSucc_lt_zero m)]
  have e:(Str.ofString (toString ((m+1:Nat):Int))).cps.toList=dg (m+1):=W.KIN.signs_num (m+1)
  rw[Str.ofString_eq_toList]at e ⊢
  have e2:(toString (Int.negSucc m)).toList='-' :: (toString ((m+1:Nat):Int)).toList:=by
   show("-"++toString (m+1)).toList='-' :: (toString (m+1)).toList
   rw[String.toList_append]
   rfl
  rw[e2,ζζF]
  show 45 :: List.map Char.toNat _=45 :: dg (m+1)
  rw[<- e]
theorem dgc{d:Nat}(h:d<10):(Nat.digitChar d).toNat=48+d:=by
 match d,h with
 | 0,_=>rfl
 | 1,_=>rfl
 | 2,_=>rfl
 | 3,_=>rfl
 | 4,_=>rfl
 | 5,_=>rfl
 | 6,_=>rfl
 | 7,_=>rfl
 | 8,_=>rfl
 | 9,_=>rfl
theorem ζm11{m:Nat}(h:m<10):dg m=[48+m]:=by
 unfold dg
 rw[Nat.toDigits_of_lt_base h,ζζ1m,dgc h]
theorem ζn11{m:Nat}(h:10<=m):dg m=dg (m / 10)++[48+m % 10]:=by
 unfold dg
 rw[Nat.toDigits_of_base_le (by decide) h,ζζA,ζζ1m,dgc (Nat.mod_lt _ (by decide))]
theorem ζk5(m:Nat):NumText.AllDigits (dg m):=by
 induction m using Nat.strongRecOn with
 | ind m ih =>
  intro c hc
  by_cases h:m<10
  ·rw[ζm11 h]at hc
   have:=ζζ1.mp hc
   omega
  ·rw[ζn11 (by omega)]at hc
   rcases ζζ9.mp hc with q | q
   ·exact ih (m / 10) (by omega) c q
   ·have:=ζζ1.mp q
    omega
theorem ζl11(m:Nat):dg m≠[]:=by
 by_cases h:m<10
 ·rw[ζm11 h];simp
 ·rw[ζn11 (by omega)];simp
theorem ζ411(m:Nat):NumText.digitsVal (dg m)=m:=by
 induction m using Nat.strongRecOn with
 | ind m ih =>
  by_cases h:m<10
  ·rw[ζm11 h]
   show 0 * 10+(48+m - 48)=m
   omega
  ·rw[ζn11 (by omega),NumText.digitsVal_snoc,ih (m / 10) (by omega)]
   omega
theorem ζ611{m k:Nat}(hk:1<=k)(h:m<10 ^ k):(dg m).length<=k:=by
 unfold dg
 rw[ζζa]
 exact toDigits_len_pow (by decide) hk h
theorem ζ711{m:Nat}(h:0<m):∃ c r,dg m=c :: r/\c≠48:=by
 induction m using Nat.strongRecOn with
 | ind m ih =>
  by_cases c:m<10
  ·exact⟨48+m,[],ζm11 c,by omega⟩
  ·obtain⟨a,r,e,ne⟩:=ih (m / 10) (by omega) (by omega)
   exact⟨a,r++[48+m % 10],by rw[ζn11 (by omega),e];rfl,ne⟩
theorem ζA1(x:Str):x.length=x.cps.toList.length:=by
 show x.cps.size=_
 rw[ζζD]
theorem ζH7{x y:Str}(h:x.cps.toList=y.cps.toList):x=y:=Str.ext' (Array.toList_inj.mp h)
theorem ζD11{i:Int}{k:Nat}(hk:1<=k)(h1:-(10 ^ k)<i)(h2:i<10 ^ k):(sgT i).length<=k+1:=by
 have e:((10 ^ k:Nat):Int)=(10:Int) ^ k:=by rw[Int.natCast_pow];rfl
 rw[<- e]at h1 h2
 have:=ζ611 hk (m:=i.natAbs) (by omega)
 unfold sgT
 split
 ·rw[ζζq];omega
 ·omega
theorem ζX5{i:Int}{k:Nat}(hk:1<=k)(h1:-(10 ^ k)<i)(h2:i<10 ^ k):(nT i).length<=k+1:=by rw[ζA1,ζo3];exact ζD11 hk h1 h2
theorem ζ39{i:Int}{k:Nat}(hk:1<=k)(h4:k<=4000)(h1:-(10 ^ k)<i)(h2:i<10 ^ k):intText? (nT i)=some i:=by
 have hl:=ζX5 hk h1 h2
 have e:=ζo3 i
 unfold sgT at e
 split at e
 ·rw[intText_neg e (ζk5 _) (ζl11 _) (by omega),ζ411]
  congr 1
  omega
 ·rw[intText_digits (by rw[e];exact ζk5 _) (by rw[e];exact ζl11 _) (by omega),e,ζ411]
  congr 1
  omega
def figs(cs:List Nat):List Nat:=if cs.head?=some 45 then cs.tail else cs
def ζf6(cs:List Nat):Bool:=decide (1<=(figs cs).length/\(figs cs).length<=60/\(∀ c∈figs cs,48<=c/\c<=57)/\(cs=[48]\/(figs cs).head?≠some 48))
theorem ζ511(m:Nat):(dg m).head?≠some 45:=fun h=>by
 cases e:dg m with
 | nil=>exact ζl11 m e
 | cons c r =>
  rw[e]at h
  have hc:c=45:=ζζ8 h
  have:=ζk5 m c (by rw[e];exact ζζg)
  omega
theorem ζU10(i:Int):figs (sgT i)=dg i.natAbs:=by
 unfold figs sgT
 split
 ·rfl
 ·rw[if_neg (ζ511 _)]
theorem ζC11{i:Int}(h1:-(10 ^ 60)<i)(h2:i<10 ^ 60):ζf6 (sgT i)=true:=by
 refine ζζd ?_
 rw[ζU10]
 refine⟨List.length_pos_iff.mpr (ζl11 _),ζ611 (k:=60) (by decide) (by omega),ζk5 _,?_⟩
 by_cases c:i=0
 ·subst c
  exact .inl rfl
 ·obtain⟨a,r,e,ne⟩:=ζ711 (m:=i.natAbs) (by omega)
  refine .inr ?_
  rw[e]
  intro q
  exact ne (ζζ8 q)
def jn(c:Nat):List (List Nat)->List Nat
 | []=>[]
 | [a]=>a
 | a :: b :: l=>a++c :: jn c (b :: l)
theorem ζr3(c:Nat):∀ l:List Str,(Str.join ⟨#[c]⟩ l).cps.toList=jn c (l.map fun x=>x.cps.toList)
 | []=>rfl
 | [a]=>rfl
 | a :: b :: l=>by
  have ih:=ζr3 c (b :: l)
  show((a++⟨#[c]⟩++Str.join ⟨#[c]⟩ (b :: l)):Str).cps.toList=a.cps.toList++c :: jn c ((b :: l).map fun x=>x.cps.toList)
  rw[<- ih,Str.cps_append,Str.cps_append,ζζ2g,ζζ2g,ζζ02]
  rfl
theorem ζv3{c:Nat}:∀ {a b x y:List Nat},c∉a->c∉b->a++c :: x=b++c :: y->a=b/\x=y
 | [],[],_,_,_,_,e=>⟨rfl,(ζζ26 e).2⟩
 | [],b :: bs,_,_,_,hb,e=>absurd (ζζg) ((ζζ26 e).1 ▸ hb)
 | a :: as,[],_,_,ha,_,e=>absurd (ζζg) ((ζζ26 e).1 ▸ ha)
 | a :: as,b :: bs,x,y,ha,hb,e=>by
  obtain⟨e1,e2⟩:=ζζ26 e
  obtain⟨h1,h2⟩:=ζv3 (a:=as) (b:=bs) (fun h=>ha (ζζk _ h)) (fun h=>hb (ζζk _ h)) e2
  exact⟨by rw[e1,h1],h2⟩
theorem ζL10{c:Nat}:∀ {A B:List (List Nat)},A≠[]->B≠[]->(∀ a∈A,c∉a)->(∀ b∈B,c∉b)->jn c A=jn c B->A=B
 | [],_,h,_,_,_,_=>absurd rfl h
 | _,[],_,h,_,_,_=>absurd rfl h
 | [a],[b],_,_,_,_,e=>by
  have e:a=b:=e
  rw[e]
 | [a],b :: b' :: B,_,_,ha,_,e=>by
  have e:a=b++c :: jn c (b' :: B):=e
  exact absurd (by rw[e];simp) (ha a ζζg)
 | a :: a' :: A,[b],_,_,_,hb,e=>by
  have e:a++c :: jn c (a' :: A)=b:=e
  exact absurd (by rw[<- e];simp) (hb b ζζg)
 | a :: a' :: A,b :: b' :: B,_,_,ha,hb,e=>by
  obtain⟨e1,e2⟩:=ζv3 (ha a ζζg) (hb b ζζg) (show a++c :: jn c (a' :: A)=b++c :: jn c (b' :: B) from e)
  rw[e1,ζL10 (A:=a' :: A) (B:=b' :: B) (by simp) (by simp) (fun x hx=>ha x (ζζk _ hx)) (fun x hx=>hb x (ζζk _ hx)) e2]
theorem ζx8(x y:Str):Txt.split x y≠[]:=by
 unfold Txt.split
 split
 ·simp
 ·split
  ·simp
  ·rw[StrLaws.partsBetween_eq]
   obtain⟨p,r,e⟩:=StrLaws.partsFrom_ne x y.length 0 (Builtin.Str.occurrences x y 0 x.length (x.length+1))
   rw[e]
   simp
theorem ζ73{c:Nat}{l:List Str}(hl:l≠[])(hf:∀ p∈l,c∉p.cps.toList):Txt.split (Str.join ⟨#[c]⟩ l) ⟨#[c]⟩=l:=by
 have e:=StrLaws.join_split (Str.join ⟨#[c]⟩ l) ⟨#[c]⟩
 have e2:=ζζ0l (fun x:Str=>x.cps.toList) e
 rw[ζr3,ζr3]at e2
 have m:=ζL10 (by simpa using ζx8 _ _) (by simpa using hl) (fun a ha=>by
  obtain⟨p,hp,rfl⟩:=ζζx.mp ha
  exact StrLaws.split_free _ c p hp) (fun a ha=>by
  obtain⟨p,hp,rfl⟩:=ζζx.mp ha
  exact hf p hp) e2
 exact(List.map_inj_right (fun x y h=>ζH7 h)).mp m
theorem const_mkS{K:PySem.W.Frag}{h:Heap}{mg:Str->Option Value}{x:Str}{z:Str}{v:Value}(X:K.In h)(G:h.Ns mainGlobals mg)(a:PySem.W.nsIn K mainGlobals x=some (some v))(e:∃ tk,v=.str z tk):∃ tk,mg x=some (.str z tk):=by
 obtain⟨tk,rfl⟩:=e
 exact⟨tk,ζζ1Y X G a⟩
def ζT1:Str:=Str.ofString " "
def nlS:Str:=Str.ofString "\n"
def ζd5 (p:Int × Int) (l:Int):Str:=Str.join ζT1 [Str.ofString "tie",nT p.1,nT p.2,nT l]
def webT (n:Int) (ps:List (Int × Int)) (ls:List Int):List Str:=(Str.ofString "places "++nT n) :: List.zipWith ζd5 ps ls
def ζq8(n:Int)(ps:List (Int × Int))(ls:List Int):Str:=Str.join nlS (webT n ps ls)
theorem ζp2:ζT1=⟨#[32]⟩:=by rfl
theorem ζZ11:nlS=⟨#[10]⟩:=by rfl
theorem ζr4 (n:Int):Str.ofString "places "++nT n=Str.join ζT1 [Str.ofString "places",nT n]:=by
 have e:Str.ofString "places "=Str.ofString "places"++ζT1:=by rfl
 rw[e]
 rfl
theorem ζn4{i:Int}{c:Nat}(h:c∈sgT i):c=45\/48<=c/\c<=57:=by
 unfold sgT at h
 split at h
 ·rcases ζζb.mp h with e | e
  ·exact .inl e
  ·exact .inr (ζk5 _ c e)
 ·exact .inr (ζk5 _ c h)
theorem ζW7{i:Int}{c:Nat}(h1:c≠45)(h2:c<48\/57<c):c∉(nT i).cps.toList:=fun h=>by
 rw[ζo3]at h
 rcases ζn4 h with e | e <;> omega
theorem ζ49(i:Int):((nT i).cps.all fun c=>decide (c<128))=true:=by
 rw[<- Array.all_toList,ζo3,ζζ0i]
 intro c hc
 refine ζζd ?_
 rcases ζn4 hc with e | e <;> omega
theorem ζJ10{c x:Nat}:∀ {A:List (List Nat)},x∈jn c A->x=c\/∃ a∈A,x∈a
 | [],h=>by cases h
 | [a],h=>.inr ⟨a,ζζg,h⟩
 | a :: b :: A,h=>by
  have h:x∈a++c :: jn c (b :: A):=h
  rcases ζζ9.mp h with h | h
  ·exact .inr ⟨a,ζζg,h⟩
  ·rcases ζζb.mp h with h | h
   ·exact .inl h
   ·rcases ζJ10 h with e | ⟨y,hy,hx⟩
    ·exact .inl e
    ·exact .inr ⟨y,ζζk _ hy,hx⟩
theorem ζK10{c B:Nat}:∀ {A:List (List Nat)},(∀ a∈A,a.length<=B)->(jn c A).length<=A.length * (B+1)
 | [],_=>ζζj _
 | [a],h=>by
  have:=h a ζζg
  show a.length<=1 * (B+1)
  omega
 | a :: b :: A,h=>by
  have h1:=h a ζζg
  have ih:=ζK10 (c:=c) (A:=b :: A) fun x hx=>h x (ζζk _ hx)
  show(a++c :: jn c (b :: A)).length<=_
  rw[ζζ6,ζζq,ζζq,Nat.add_mul]
  omega
theorem ζZ3{c B:Nat}{l:List Str}(h:∀ a∈l,a.length<=B):(Str.join ⟨#[c]⟩ l).length<=l.length * (B+1):=by
 rw[ζA1,ζr3]
 refine ζζO (ζK10 (B:=B) fun a ha=>?_) (by rw[ζζa];exact ζζ5 _)
 obtain⟨p,hp,rfl⟩:=ζζx.mp ha
 rw[<- ζA1]
 exact h p hp
theorem ζ28{c B:Nat}{l:List Str}(h:∀ a∈l,a.length<=B)(hl:l.length * B+l.length<=16777216):JoinOk ⟨#[c]⟩ l=true:=by
 unfold JoinOk
 rw[StrLaws.joinFits h (by show l.length * B+l.length * 1<=_;omega)]
 rfl
def Told(l:List Int):Prop:=∀ z∈l,-(10 ^ 60)<z/\z<(10:Int) ^ 60
theorem ζK3{l:List Int}(h:Told l):∀ a∈l.map nT,a.length<=61:=fun a ha=>by
 obtain⟨z,hz,rfl⟩:=ζζx.mp ha
 exact ζX5 (k:=60) (by decide) (h z hz).1 (h z hz).2
theorem ζn8{name:Str}{l:List Int}(hn:32∉name.cps.toList):Txt.split (Str.join ζT1 (name :: l.map nT)) ζT1=name :: l.map nT:=by
 rw[ζp2]
 refine ζ73 (by simp) fun p hp=>?_
 rcases ζζb.mp hp with e | e
 ·rw[e];exact hn
 ·obtain⟨z,_,rfl⟩:=ζζx.mp e
  exact ζW7 (by decide) (.inl (by decide))
theorem ζU7{name:Str}{l:List Int}(hn:10∉name.cps.toList):10∉(Str.join ζT1 (name :: l.map nT)).cps.toList:=fun h=>by
 rw[ζp2,ζr3]at h
 rcases ζJ10 h with e | ⟨a,ha,hx⟩
 ·cases e
 ·obtain⟨p,hp,rfl⟩:=ζζx.mp ha
  rcases ζζb.mp hp with e | e
  ·rw[e]at hx;exact hn hx
  ·obtain⟨z,_,rfl⟩:=ζζx.mp e
   exact ζW7 (by decide) (.inl (by decide)) hx
theorem ζd9{n:Int}{ps:List (Int × Int)}{ls:List Int}:Txt.split (ζq8 n ps ls) nlS=webT n ps ls:=by
 unfold ζq8
 rw[ζZ11]
 refine ζ73 (by unfold webT;simp) fun p hp=>?_
 rcases ζζb.mp hp with e | e
 ·rw[e,ζr4]
  exact ζU7 (l:=[n]) (by decide)
 ·obtain⟨i,hi,e⟩:=ζζ0R e
  rw[List.getElem_zipWith]at e
  rw[<- e]
  exact ζU7 (l:=[_,_,_]) (by decide)
theorem ζU6 (w:Str):Txt.startswith w (Str.ofString "-")=decide (w.cps.toList.head?=some 45):=by
 have h:=StrLaws.subAt_one w 45 0
 have e:Str.ofString "-"=⟨#[45]⟩:=by rfl
 rw[e]
 unfold Txt.startswith
 rw[List.head?_eq_getElem?]
 by_cases c:w.cps.toList[0]?=some 45
 ·obtain⟨h1,h2⟩:=h.mpr c
  rw[ζζd c,h2,ζζ2p]
  exact ζζd h1
 ·rw[ζζE c]
  refine ζζ1U.mpr fun q=>c (h.mp ?_)
  obtain⟨q1,q2⟩:=Bool.and_eq_true_iff.mp q
  exact⟨ζζs q1,q2⟩
theorem ζH5{w:Str}(h:1<=w.cps.toList.length):(StrLaws.sliceText w (some 1) none).cps.toList=w.cps.toList.tail:=by
 rw[StrLaws.sliceText_from (i:=1) ⟨by decide,by omega⟩]
 show(List.take _ (List.drop 1 _))=_
 rw[List.drop_one]
 refine ζζ06 ?_
 rw[ζζ2A]
 omega
theorem ζv7 (c:Nat):(!(!(Builtin.Str.occurrences (Str.ofString "0123456789") ⟨#[c]⟩ 0 (Str.ofString "0123456789").length 1).isEmpty))=!decide (48<=c/\c<=57):=by
 rw[StrLaws.found_one]
 congr 1
 have e:(Str.ofString "0123456789").cps.toList=[48,49,50,51,52,53,54,55,56,57]:=by rfl
 rw[e]
 refine ζζ1c.mpr ⟨fun h=>?_,fun h=>?_⟩
 ·simp at h
  omega
 ·simp
  omega
theorem ζW9{l:List Str}{i:Nat}{v:V}(h:(TL l)[i]?=some v):∃ x,v=.str x/\l[i]?=some x:=by
 unfold TL at h
 rw[ζζh]at h
 obtain⟨x,hx,rfl⟩:=ζζ0V.mp h
 exact⟨x,rfl,hx⟩
theorem ζo1(l:List Str):(TL l).length=l.length:=by unfold TL;rw[ζζa]
theorem ζV9(l:List Str)(x:Str):TL l++[.str x]=TL (l++[x]):=by unfold TL;rw[ζζA];rfl
theorem ζQ6{n:Int}{ps:List (Int × Int)}{ls:List Int}{i:Nat}{p:Int × Int}{l:Int}(hp:ps[i]?=some p)(hl:ls[i]?=some l):webT n (ps.take (i+1)) (ls.take (i+1))=webT n (ps.take i) (ls.take i)++[ζd5 p l]:=by
 have h1:=(ζζ4.mp hp).1
 have h2:=(ζζ4.mp hl).1
 unfold webT
 rw[ζζK,ζζK,hp,hl]
 rw[List.zipWith_append (by rw[ζζv,ζζv];omega)]
 rfl
theorem ζt5{n:Int}{ps:List (Int × Int)}{ls:List Int}(hl:ls.length=ps.length):(webT n ps ls).length=ps.length+1:=by
 unfold webT
 rw[ζζq,ζζ1e]
 omega
theorem ζe9{p:Int × Int}{l:Int}(h:Told [p.1,p.2,l]):(ζd5 p l).length<=400:=by
 unfold ζd5
 rw[ζp2]
 refine ζζO (ζZ3 (B:=61) (l:=Str.ofString "tie" :: [p.1,p.2,l].map nT) fun a ha=>?_) (show 4 * (61+1)<=400 by decide)
 rcases ζζb.mp ha with e | e
 ·rw[e];decide
 ·exact ζK3 h a e
theorem ζH3{n:Int}{ps:List (Int × Int)}{ls:List Int}(g:ζy n ps)(hT:Told ls){i:Nat}{p:Int × Int}{l:Int}(hp:ps[i]?=some p)(hl:ls[i]?=some l):Told [p.1,p.2,l]:=fun z hz=>by
 have:=g.2.2.2 p (ζζe hp)
 have:=g.2.1
 rcases ζζb.mp hz with e | e
 ·omega
 ·rcases ζζb.mp e with e | e
  ·omega
  ·rw[ζζ1.mp e];exact hT l (ζζe hl)
theorem ζs5{n:Int}{ps:List (Int × Int)}{ls:List Int}(g:ζy n ps)(hT:Told ls):∀ a∈webT n ps ls,a.length<=400:=fun a ha=>by
 rcases ζζb.mp ha with e | e
 ·rw[e,ζA1,Str.cps_append,ζζ2g,ζζ6,<- ζA1,<- ζA1]
  have:=ζX5 (i:=n) (k:=60) (by decide) (by have:=g.1;omega) (by have:=g.2.1;omega)
  have e2:(Str.ofString "places ").length=7:=by decide
  omega
 ·obtain⟨i,hi,e⟩:=ζζ0R e
  rw[List.getElem_zipWith]at e
  rw[<- e]
  rw[ζζ1e]at hi
  exact ζe9 (ζH3 g hT (i:=i) (ζζ0 (by omega)) (ζζ0 (by omega)))
abbrev Tr:=Int × List (Int × Int) × List Int
def OkT(T:Tr):Prop:=ζy T.1 T.2.1/\T.2.2.length=T.2.1.length/\Told T.2.2
def ζh12(C:Addr)(H:Hp)(v:V)(T:Tr):Prop:=∃ t w a,v=.ref t/\H t=some (.tup [.ref w,.ref a])/\WebAt C H w T.1 T.2.1/\H a=some (.lst (IL T.2.2))
def ζU12(H:Hp)(v:V)(T:Tr):Prop:=∃ p l b xs,v=.ref p/\H p=some (.tup [.int T.1,.ref l,.ref b])/\H l=some (.lst xs)/\PairsV H xs T.2.1/\H b=some (.lst (IL T.2.2))
def ζk12 (C:Addr) (H:Hp) (x d:Addr) (zs:List V):Prop:=∃ dx,H x=some (.ins C dx (putF "stages" (.ref d) []))/\H d=some (.lst zs)
structure DSt (CD C:Addr) (H:Hp) (x d pA:Addr) (zs ys:List V) (L M:List Tr):Prop where
 desk:ζk12 CD H x d zs
 st:Bears (ζh12 C H) zs L
 pst:H pA=some (.lst ys)
 past:Bears (ζU12 H) ys M
 okL:∀ T∈L,OkT T
 okM:∀ T∈M,OkT T
 posL:0<L.length
 posM:0<M.length
end My
namespace L2
open PySem PySem.Spec PyProof.Rows
section
variable{H:Hp}{e C:Addr}{fl:Value}{h0:Heap}
structure FlyM (h0:Heap) (H:Hp) (e C:Addr) (fl:Value) (h:Heap):Prop where
 ex:∃ oe vs T oT ts a0,h.get? e=some oe/\oe.cls=.ref C/\oe.data=.fields vs/\vs[0]?=some a0/\vs[1]?=some (.ref T)/\T≠e/\h.get? T=some oT/\oT.data=.fields ts/\ts[3]?=some fl/\h0.get? T=none/\H T=none
 new:h0.get? e=none
 free:H e=none
end
end L2
namespace My
open PySem PySem.W PyProof.Rows
def goT{α:Type}(c:Nat->Nat->Bool):KasT α->α
 | .ret a=>a
 | .ask i j k=>goT c (k (c i j))
theorem ζO1{α β:Type}{c:Nat->Nat->Bool}{f:α->KasT β}:∀ t:KasT α,goT c (t.bind f)=goT c (f (goT c t))
 | .ret _=>rfl
 | .ask i j k=>ζO1 (k (c i j))
section
variable{n:Nat}{key:Nat->Int}
def Ahd(key:Nat->Int)(i j:Nat):Prop:=key i<key j\/(key i=key j/\i<j)
theorem Ahd.trans{i j k:Nat}(h1:Ahd key i j)(h2:Ahd key j k):Ahd key i k:=by
 unfold Ahd at *
 omega
structure Ord (n m:Nat) (p:Array Nat):Prop where
 perm:p.Perm (List.range n).toArray
 suf:∀ i,m<=i->i<n->p.getD i 0=i
theorem Ord.size{m:Nat}{p:Array Nat}(h:Ord n m p):p.size=n:=by rw[h.perm.size_eq];simp
theorem ζk11{p:Array Nat}{i:Nat}(h:i<p.size):p[i]?=some (p.getD i 0):=by
 rw[ζζw,ζζB h]
 rfl
theorem Ord.inj{m:Nat}{p:Array Nat}(h:Ord n m p){i j:Nat}(hi:i<n)(hj:j<n)(e:p.getD i 0=p.getD j 0):i=j:=by
 have hn:p.toList.Nodup:=(ζζ14.mp h.perm).nodup_iff.mpr List.nodup_range
 have hs:=h.size
 have e1:=ζk11 (p:=p) (i:=i) (by omega)
 have e2:=ζk11 (p:=p) (i:=j) (by omega)
 rw[<- ζζN]at e1 e2
 exact(List.getElem?_inj (i:=i) (j:=j) (by rw[ζζD];omega) hn).mp (by rw[e1,e2,e])
theorem Ord.lt{m:Nat}{p:Array Nat}(h:Ord n m p)(hm:m<=n){i:Nat}(hi:i<m):p.getD i 0<m:=by
 by_cases hc:p.getD i 0<m
 ·exact hc
 ·have hs:=h.size
  have hb:p.getD i 0<n:=by
   have e1:=ζk11 (p:=p) (i:=i) (by omega)
   rw[<- ζζN]at e1
   exact ζζy.mp ((ζζ14.mp h.perm).mem_iff.mp (ζζe e1))
  have e:=h.inj (by omega) hb (h.suf _ (by omega) hb).symm
  omega
theorem Ord.mono{m k:Nat}{p:Array Nat}(h:Ord n m p)(hk:m<=k):Ord n k p:=⟨h.perm,fun i hi=>h.suf i (by omega)⟩
theorem ζq2{p:Array Nat}{i j k:Nat}(hj:j<=p.size):(kas_rev p i j).getD k 0=if i<=k/\k<j then p.getD (i+j - 1 - k) 0 else p.getD k 0:=by
 unfold kas_rev
 rw[ζζw,getElem?_mirror_all hj,apply_ite (fun o:Option Nat=>o.getD 0),<- ζζw,<- ζζw]
theorem Ord.rev{m i j:Nat}{p:Array Nat}(h:Ord n m p)(hj:j<=m)(hm:m<=n):Ord n m (kas_rev p i j):=by
 have hs:=h.size
 refine⟨(mirror_perm _ _ _ _).trans h.perm,fun k hk hn=>?_⟩
 rw[ζq2 (by omega),if_neg (by omega)]
 exact h.suf k hk hn
def Asc(key:Nat->Int)(m:Nat)(p:Array Nat):Prop:=∀ i j,i<j->j<m->Ahd key (p.getD i 0) (p.getD j 0)
theorem Asc.more{m:Nat}{p:Array Nat}(hm:1<=m)(h:Asc key m p)(h2:Ahd key (p.getD (m - 1) 0) (p.getD m 0)):Asc key (m+1) p:=fun i j hij hj=>by
 by_cases e:j=m
 ·subst e
  by_cases e2:i=j - 1
  ·rw[e2];exact h2
  ·exact(h i (j - 1) (by omega) (by omega)).trans h2
 ·exact h i j hij (by omega)
theorem ζN9:∀(f m:Nat) (p:Array Nat),m+f=n->1<=m->Ord n m p->Asc key m p->∃ k,goT (fun i j=>decide (key i<key j)) (kas_asc p f m)=k/\m<=k/\k<=n/\Asc key k p/\(k<n->key (p.getD k 0)<key (p.getD (k - 1) 0))
 | 0,m,p,hf,h1,ho,ha=>⟨m,rfl,ζζ5 _,by omega,ha,fun h=>by omega⟩
 | f+1,m,p,hf,h1,ho,ha=>by
  show ∃ k,goT _ (if decide (key (p.getD m 0)<key (p.getD (m - 1) 0))=true then KasT.ret m else kas_asc p f (m+1))=k/\_
  by_cases hc:key (p.getD m 0)<key (p.getD (m - 1) 0)
  ·rw[if_pos (ζζd hc)]
   exact⟨m,rfl,ζζ5 _,by omega,ha,fun _=>hc⟩
  ·rw[if_neg (fun z=>hc (ζζs z))]
   have e:=ho.suf m (ζζ5 _) (by omega)
   have l:=ho.lt (by omega) (i:=m - 1) (by omega)
   obtain⟨k,e1,e2,e3,e4,e5⟩:=ζN9 f (m+1) p (by omega) (by omega) (ho.mono (by omega)) (ha.more h1 (by unfold Ahd;rw[e]at hc ⊢;omega))
   exact⟨k,e1,by omega,e3,e4,e5⟩
structure Dsc (key:Nat->Int) (m g:Nat) (p:Array Nat):Prop where
 le:g+1<=m
 old:∀ i j,i<j->j<m - (g+1)->Ahd key (p.getD j 0) (p.getD i 0)
 mid:∀ i j,i<m - (g+1)->m - (g+1)<=j->j<m->key (p.getD j 0)<key (p.getD i 0)
 own:∀ i j,m - (g+1)<=i->i<j->j<m->key (p.getD i 0)=key (p.getD j 0)/\p.getD i 0<p.getD j 0
def Fall(key:Nat->Int)(m:Nat)(p:Array Nat):Prop:=∀ i j,i<j->j<m->Ahd key (p.getD j 0) (p.getD i 0)
theorem Dsc.turn{m g:Nat}{p:Array Nat}(h:Dsc key m g p)(hs:m<=p.size):Fall key m (kas_rev p (m - (g+1)) m):=fun i j hij hj=>by
 have hl:=h.le
 rw[ζq2 hs,ζq2 hs]
 by_cases c1:m - (g+1)<=j
 ·rw[if_pos ⟨c1,hj⟩]
  by_cases c2:m - (g+1)<=i
  ·rw[if_pos ⟨c2,by omega⟩]
   exact .inr (h.own (m - (g+1)+m - 1 - j) (m - (g+1)+m - 1 - i) (by omega) (by omega) (by omega))
  ·rw[if_neg (by omega)]
   exact .inl (h.mid i _ (by omega) (by omega) (by omega))
 ·rw[if_neg (by omega),if_neg (by omega)]
  exact h.old i j hij (by omega)
theorem Dsc.last{m g:Nat}{p:Array Nat}(h:Dsc key m g p)(hs:m<=p.size):key ((kas_rev p (m - (g+1)) m).getD (m - 1) 0)=key (p.getD (m - 1) 0):=by
 have hl:=h.le
 rw[ζq2 hs,if_pos (by omega)]
 by_cases e:g=0
 ·congr 2
  omega
 ·exact(h.own (m - (g+1)+m - 1 - (m - 1)) (m - 1) (by omega) (by omega) (by omega)).1
theorem Dsc.fall{m:Nat}{p:Array Nat}(h:Dsc key m 0 p):Fall key m p:=fun i j hij hj=>by
 have hl:=h.le
 by_cases e:j<m - (0+1)
 ·exact h.old i j hij e
 ·exact .inl (h.mid i j (by omega) (by omega) hj)
theorem Fall.new{m:Nat}{p:Array Nat}(hm:1<=m)(h:Fall key m p)(hk:key (p.getD m 0)<key (p.getD (m - 1) 0)):Dsc key (m+1) 0 p:=by
 refine⟨by omega,fun i j hij hj=>h i j hij (by omega),fun i j hi h1 h2=>?_,fun i j h1 h2 h3=>by omega⟩
 have e:j=m:=by omega
 subst e
 by_cases c:i=j - 1
 ·rw[c];exact hk
 ·have:=h i (j - 1) (by omega) (by omega)
  unfold Ahd at this
  omega
theorem Fall.rev{m:Nat}{p:Array Nat}(h:Fall key m p)(hs:m<=p.size):Asc key m (kas_rev p 0 m):=fun i j hij hj=>by
 rw[ζq2 hs,ζq2 hs,if_pos ⟨ζζj _,by omega⟩,if_pos ⟨ζζj _,hj⟩]
 exact h _ _ (by omega) (by omega)
theorem Asc.rev{m:Nat}{p:Array Nat}(h:Asc key m p)(hs:m<=p.size):Fall key m (kas_rev p 0 m):=fun i j hij hj=>by
 rw[ζq2 hs,ζq2 hs,if_pos ⟨ζζj _,hj⟩,if_pos ⟨ζζj _,by omega⟩]
 exact h _ _ (by omega) (by omega)
theorem ζQ4:∀(f m g:Nat) (p:Array Nat),m+f=n->Ord n m p->Dsc key m g p->∃ p' m' g',goT (fun i j=>decide (key i<key j)) (kas_desc f p m g)=(p',m',g')/\m<=m'/\m'<=n/\Ord n m' p'/\Dsc key m' g' p'
 | 0,m,g,p,hf,ho,hd=>⟨p,m,g,rfl,ζζ5 _,by omega,ho,hd⟩
 | f+1,m,g,p,hf,ho,hd=>by
  have hl:=hd.le
  have hs:=ho.size
  have em:=ho.suf m (ζζ5 _) (by omega)
  have ll:=ho.lt (by omega) (i:=m - 1) (by omega)
  show ∃ p' m' g',goT _ (if decide (key (p.getD m 0)<key (p.getD (m - 1) 0))=true then (if g > 0 then kas_desc f (kas_rev p (m - (g+1)) m) (m+1) 0 else kas_desc f p (m+1) 0) else KasT.ask (p.getD (m - 1) 0) (p.getD m 0) fun d=>if d=true then .ret (p,m,g) else kas_desc f p (m+1) (g+1))=_/\_
  by_cases hc:key (p.getD m 0)<key (p.getD (m - 1) 0)
  ·rw[if_pos (ζζd hc)]
   by_cases hg:g > 0
   ·rw[if_pos hg]
    have hr:=ho.rev (i:=m - (g+1)) (ζζ5 m) (by omega)
    have em2:=hr.suf m (ζζ5 _) (by omega)
    obtain⟨p',m',g',e1,e2,e3,e4,e5⟩:=ζQ4 f (m+1) 0 (kas_rev p (m - (g+1)) m) (by omega) (hr.mono (by omega)) ((hd.turn (by omega)).new (by omega) (by rw[hd.last (by omega),em2];rw[em]at hc;exact hc))
    exact⟨p',m',g',e1,by omega,e3,e4,e5⟩
   ·rw[if_neg hg]
    obtain rfl:g=0:=by omega
    obtain⟨p',m',g',e1,e2,e3,e4,e5⟩:=ζQ4 f (m+1) 0 p (by omega) (ho.mono (by omega)) (hd.fall.new (by omega) hc)
    exact⟨p',m',g',e1,by omega,e3,e4,e5⟩
  ·rw[if_neg (fun z=>hc (ζζs z))]
   show ∃ p' m' g',goT _ (if decide (key (p.getD (m - 1) 0)<key (p.getD m 0))=true then KasT.ret (p,m,g) else kas_desc f p (m+1) (g+1))=_/\_
   by_cases hc2:key (p.getD (m - 1) 0)<key (p.getD m 0)
   ·rw[if_pos (ζζd hc2)]
    exact⟨p,m,g,rfl,ζζ5 _,by omega,ho,hd⟩
   ·rw[if_neg (fun z=>hc2 (ζζs z))]
    have ek:key (p.getD (m - 1) 0)=key (p.getD m 0):=by omega
    obtain⟨p',m',g',e1,e2,e3,e4,e5⟩:=ζQ4 f (m+1) (g+1) p (by omega) (ho.mono (by omega)) ⟨by omega,fun i j h1 h2=>hd.old i j h1 (by omega),fun i j h1 h2 h3=>by
     by_cases c:j=m
     ·rw[c,<- ek];exact hd.mid i (m - 1) (by omega) (by omega) (by omega)
     ·exact hd.mid i j (by omega) (by omega) (by omega),fun i j h1 h2 h3=>by
     by_cases c:j=m
     ·rw[c]
      by_cases c2:i=m - 1
      ·rw[c2,em];rw[em]at ek;exact⟨ek,ll⟩
      ·have:=hd.own i (m - 1) (by omega) (by omega) (by omega)
       rw[em];rw[em]at ek
       exact⟨this.1.trans ek,by omega⟩
     ·exact hd.own i j (by omega) h2 (by omega)⟩
    exact⟨p',m',g',e1,by omega,e3,e4,e5⟩
theorem ζE7{m:Nat}{p:Array Nat}(hm:1<=m)(hn:m<=n)(ho:Ord n m p)(hf:Fall key m p):∃ k p',goT (fun i j=>decide (key i<key j)) (kas_tail3 m n p)=(k,p')/\1<=k/\k<=n/\Ord n k p'/\Asc key k p':=by
 have hs:=ho.size
 unfold kas_tail3
 rw[ζO1]
 have hr:=ho.rev (i:=0) (ζζ5 m) hn
 obtain⟨k,e1,e2,e3,e4,_⟩:=ζN9 (n - m) m (kas_rev p 0 m) (by omega) hm hr (hf.rev (by omega))
 rw[e1]
 exact⟨k,_,rfl,by omega,e3,hr.mono e2,e4⟩
theorem ζP7{m:Nat}{p:Array Nat}(hm:1<=m)(hn:m<n)(ho:Ord n m p)(hf:Fall key m p)(hk:key (p.getD m 0)<key (p.getD (m - 1) 0)):∃ k p',goT (fun i j=>decide (key i<key j)) (kas_descPart m n p)=(k,p')/\1<=k/\k<=n/\Ord n k p'/\Asc key k p':=by
 unfold kas_descPart
 rw[ζO1]
 obtain⟨p',m',g',e1,e2,e3,e4,e5⟩:=ζQ4 (n - (m+1)) (m+1) 0 p (by omega) (ho.mono (by omega)) (hf.new hm hk)
 rw[e1]
 have hs:=e4.size
 show ∃ k q,goT _ (if g' > 0 then kas_tail3 m' n (kas_rev p' (m' - (g'+1)) m') else kas_tail3 m' n p')=_/\_
 by_cases hg:g' > 0
 ·rw[if_pos hg]
  exact ζE7 (by omega) e3 (e4.rev (ζζ5 _) e3) (e5.turn (by omega))
 ·rw[if_neg hg]
  obtain rfl:g'=0:=by omega
  exact ζE7 (by omega) e3 e4 e5.fall
theorem ζH9{p:Array Nat}(hn:1<=n)(ho:Ord n 1 p):∃ k p',goT (fun i j=>decide (key i<key j)) (kas_count n p)=(k,p')/\1<=k/\k<=n/\Ord n k p'/\Asc key k p':=by
 unfold kas_count
 rw[ζO1]
 obtain⟨k,e1,e2,e3,e4,e5⟩:=ζN9 (key:=key) (n - 1) 1 p (by omega) (ζζ5 _) ho fun i j h1 h2=>by omega
 rw[e1]
 have hs:=ho.size
 have hk:=ho.mono e2
 by_cases c:k=n
 ·rw[if_pos (by rw[c];exact ζζ2y n)]
  exact⟨k,p,rfl,e2,e3,hk,e4⟩
 ·rw[if_neg (fun z=>c (ζζ11.mp z))]
  have hlt:k<n:=by omega
  have h5:=e5 hlt
  by_cases c1:k > 1
  ·rw[if_pos c1]
   show ∃ k' p',goT _ (if decide (key (p.getD 0 0)<key (p.getD (k - 1) 0))=true then KasT.ret (k,p) else kas_descPart k n (kas_rev p 0 k))=_/\_
   by_cases c2:key (p.getD 0 0)<key (p.getD (k - 1) 0)
   ·rw[if_pos (ζζd c2)]
    exact⟨k,p,rfl,e2,e3,hk,e4⟩
   ·rw[if_neg (fun z=>c2 (ζζs z))]
    have a0:=e4 0 (k - 1) (by omega) (by omega)
    have eq:key (p.getD 0 0)=key (p.getD (k - 1) 0):=by
     unfold Ahd at a0
     omega
    have hr:=hk.rev (i:=0) (ζζ5 k) (by omega)
    refine ζP7 e2 hlt hr (e4.rev (by omega)) ?_
    rw[ζq2 (by omega),ζq2 (by omega),if_neg (by omega),if_pos (by omega),show 0+k - 1 - (k - 1)=0 by omega,eq]
    exact h5
  ·rw[if_neg c1]
   obtain rfl:k=1:=by omega
   exact ζP7 (ζζ5 _) hlt hk (fun i j h1 h2=>by omega) h5
theorem ζR3{p:Array Nat}{k:Nat}(hk:Asc key k p):∀(f l r:Nat),r - l<=f->l<=r->r<=k->(∀ i,i<l->¬ key (p.getD k 0)<key (p.getD i 0))->(∀ i,r<=i->i<k->key (p.getD k 0)<key (p.getD i 0))->∃ l',goT (fun i j=>decide (key i<key j)) (kas_place p k f l r)=l'/\l'<=k/\(∀ i,i<l'->¬ key (p.getD k 0)<key (p.getD i 0))/\(∀ i,l'<=i->i<k->key (p.getD k 0)<key (p.getD i 0))
 | 0,l,r,hf,h1,h2,ha,hb=>⟨l,rfl,by omega,ha,fun i hi=>hb i (by omega)⟩
 | f+1,l,r,hf,h1,h2,ha,hb=>by
  have mono:∀ i j,i<=j->j<k->key (p.getD i 0)<=key (p.getD j 0):=fun i j hij hj=>by
   by_cases e:i=j
   ·rw[e];exact ζζ0L _
   ·have:=hk i j (by omega) hj
    unfold Ahd at this
    omega
  unfold kas_place
  by_cases c:l >= r
  ·rw[if_pos c]
   exact⟨l,rfl,by omega,ha,fun i hi=>hb i (by omega)⟩
  ·rw[if_neg c]
   show ∃ l',goT _ (if decide (key (p.getD k 0)<key (p.getD ((l+r) / 2) 0))=true then kas_place p k f l ((l+r) / 2) else kas_place p k f ((l+r) / 2+1) r)=l'/\_
   by_cases c2:key (p.getD k 0)<key (p.getD ((l+r) / 2) 0)
   ·rw[if_pos (ζζd c2)]
    exact ζR3 hk f l ((l+r) / 2) (by omega) (by omega) (by omega) ha fun i hi hik=>by
     have:=mono ((l+r) / 2) i hi hik
     omega
   ·rw[if_neg (fun z=>c2 (ζζs z))]
    exact ζR3 hk f ((l+r) / 2+1) r (by omega) (by omega) (by omega) (fun i hi=>by
     have:=mono i ((l+r) / 2) (by omega) (by omega)
     omega) hb
theorem ζK9{p:Array Nat}{k d x:Nat}(hk:k<p.size)(hd:d<=k):(bubble p k d).getD x 0=if x=k - d then p.getD k 0 else if k - d<x/\x<=k then p.getD (x - 1) 0 else p.getD x 0:=by
 rw[ζζw,getElem?_bubble hk d hd,apply_ite (fun o:Option Nat=>o.getD 0),apply_ite (fun o:Option Nat=>o.getD 0),<- ζζw,<- ζζw,<- ζζw]
theorem ζd11:∀(f k:Nat) (p:Array Nat),k+f=n->Ord n k p->Asc key k p->∃ p',goT (fun i j=>decide (key i<key j)) (kas_bin f p k)=p'/\Ord n n p'/\Asc key n p'
 | 0,k,p,hf,ho,ha=>by
  obtain rfl:k=n:=by omega
  exact⟨p,rfl,ho,ha⟩
 | f+1,k,p,hf,ho,ha=>by
  have hs:=ho.size
  have ek:=ho.suf k (ζζ5 _) (by omega)
  unfold kas_bin
  rw[ζO1]
  obtain⟨l,e1,e2,e3,e4⟩:=ζR3 ha k 0 k (by omega) (by omega) (ζζ5 _) (fun i hi=>by omega) fun i hi hi2=>by omega
  rw[e1]
  refine ζd11 f (k+1) (bubble p k (k - l)) (by omega) ⟨(bubble_perm _ _ _).trans ho.perm,fun i hi hn=>?_⟩ fun i j hij hj=>?_
  ·rw[ζK9 (by omega) (by omega),if_neg (by omega),if_neg (by omega)]
   exact ho.suf i (by omega) hn
  ·have low:∀ x,x<k->p.getD x 0<k:=fun x hx=>ho.lt (by omega) hx
   rw[ζK9 (by omega) (by omega),ζK9 (by omega) (by omega)]
   have ekl:k - (k - l)=l:=by omega
   rw[ekl]
   by_cases c1:i=l
   ·rw[if_pos c1,if_neg (by omega),if_pos (by omega)]
    exact .inl (e4 (j - 1) (by omega) (by omega))
   ·rw[if_neg c1]
    by_cases c2:j=l
    ·rw[if_pos c2,if_neg (by omega)]
     have a:=e3 i (by omega)
     have b:=low i (by omega)
     rw[ek]at a ⊢
     unfold Ahd
     omega
    ·rw[if_neg c2]
     by_cases c3:l<i
     ·rw[if_pos ⟨c3,by omega⟩,if_pos ⟨by omega,by omega⟩]
      exact ha _ _ (by omega) (by omega)
     ·rw[if_neg (by omega)]
      by_cases c4:l<j
      ·rw[if_pos ⟨c4,by omega⟩]
       exact ha _ _ (by omega) (by omega)
      ·rw[if_neg (by omega)]
       exact ha _ _ hij (by omega)
theorem sort_go(hn:1<=n):∃ p,goT (fun i j=>decide (key i<key j)) (kas_sort n)=p/\p.toList.Perm (List.range n)/\p.toList.Pairwise (Ahd key):=by
 have fin:∀ p,Ord n n p->Asc key n p->p.toList.Perm (List.range n)/\p.toList.Pairwise (Ahd key):=fun p ho ha=>by
  have hs:=ho.size
  refine⟨ζζ14.mp ho.perm,ζζ03.mpr fun i j hi hj hij=>?_⟩
  rw[ζζD]at hi hj
  have:=ha i j hij (by omega)
  rw[ζζw,ζζw,ζζB hi,ζζB hj]at this
  exact this
 unfold kas_sort
 rw[ζO1]
 obtain⟨k,p,e1,e2,e3,e4,e5⟩:=ζH9 (key:=key) hn (p:=(List.range n).toArray) ⟨Array.Perm.refl _,fun i _ hi=>by simp[Array.getD,hi]⟩
 rw[e1]
 show ∃ q,goT _ (if k<n then kas_bin (n - max k 1) p (max k 1) else .ret p)=q/\_
 by_cases c:k<n
 ·rw[if_pos c,Nat.max_eq_left e2]
  obtain⟨q,h1,h2,h3⟩:=ζd11 (n - k) k p (by omega) e4 e5
  exact⟨q,h1,fin q h2 h3⟩
 ·rw[if_neg c]
  obtain rfl:k=n:=by omega
  exact⟨p,rfl,fin p e4 e5⟩
end
end My
namespace L2
open PySem PySem.Spec PyProof.Rows
def ζa11(P:Program)(w:World)(K:PySem.W.Frag)(mg:Str->Option Value)(base:Heap)(N:List Str)(qual:Str)(scope:Scope)(f:Addr)(cd:Value)(cl:List (Str × Addr))(A:Around)(outer:List Env)(s:Shared)(H:Hp):Cx where
 prog:=P
 w:=w
 K:=K
 mg:=mg
 base:=base
 A:=A.deeper (PySem.W.envX qual scope s.heap.objs.size f cd cl)
 N:=N
 s₀:=s
 H₀:=H
 env:=PySem.W.envX qual scope s.heap.objs.size f cd cl
 outer:=outer
 stack:=PySem.W.envX qual scope s.heap.objs.size f cd cl :: outer
 ex:=[]
 calm:=true
 fn:=fun _=>false
 pn:=[]
 xe:=fun _ _=>False
structure LamScope (v x:Str) (sc:Scope):Prop where
 kind:sc.kind=.function
 co:sc.isCoroutine=false
 gen:sc.isGenerator=false
 nocell:∀ y∈sc.names,y.2≠.cell
 par:sc.names.lookup v=some .local
 free:sc.names.lookup x=some .free
 only:∀ y,sc.names.lookup y=some .free->y=x
 ne:v≠x
section
variable{P:Program}{w:World}{K:PySem.W.Frag}{mg:Str->Option Value}{base:Heap}{qual name v x:Str}{scope:Scope}{f c c':Addr}{cd pm ctv u ux:Value}{A:Around}{outer:List Env}{s:Shared}{H:Hp}{vv vx:V}{params:Arguments}{body:Expr}{k:Nat}{t:TE}{Q:VK}
theorem ζR2{y:Str}{c2:Addr}(h:List.lookup y [(x,c)]=some c2):y=x/\c2=c:=by
 unfold List.lookup at h
 split at h
 ·rename_i e
  exact⟨ζζ11.mp e,(ζζ8 h).symm⟩
 ·cases h
theorem ζN10(S:LamScope v x scope)(hd:A.handled=none)(e0:Env0 P w K mg base A outer s H)(hc:s.heap.IsCell c (some ux))(rx:RelV vx ux)(hfc:H c=none)(rv:RelV vv u){h1:Heap}{tk:Nat}
  (hns:h1.Ns s.heap.objs.size fun y=>[(v,u)].reverse.lookup y) (hk:∀ b o,s.heap.get? b=some o->h1.get? b=some o) :
  Inv (ζa11 P w K mg base [v,x] qual scope f cd [(x,c)] A outer s H) [] [some vv,some vx] H { s with heap:=h1,toks:=tk }:=by
 have noA:∀ b:Addr,b∉(ζa11 P w K mg base [v,x] qual scope f cd [(x,c)] A outer s H).ex:=fun b z=>absurd (show b∈([]:List Addr) from z) (by simp)
 have hck:h1.IsCell c (some ux):=by
  obtain⟨o,e,d⟩:=hc
  exact⟨o,hk _ _ e,d⟩
 have lk:List.lookup x [(x,c)]=some c:=by
  unfold List.lookup
  rw[ζζ2y]
 refine⟨⟨e0.mod,S.kind,rfl,rfl,ζζ5 _,fun y z c2 h1 h2=>?_,fun y hy=>?_,fun y c2 z _=>(nomatch z),fun _=>hd,Around.frames_deeper e0.frames,.inr ⟨rfl,rfl⟩,fun b z=>absurd z (noA b),e0.bs,e0.bsz,fun b _ _=>noA b,fun b z=>absurd z (noA b),e0.funs,e0.frf⟩,
  rfl,e0.bare,Un.kept hk,⟨_,hns,fun i y v' h1 h2 h3=>?_⟩,fun y c2 h=>?_,e0.hok.fresh (ζζ5 _),fun y c2 h=>?_,fun p hp=>absurd (show p∈([]:List (Addr × Obj)) from hp) (by simp),e0.hok.kept hk,rfl⟩
 ·rw[(ζR2 h1).1,(ζR2 h2).1]
 ·have hy:scope.names.lookup y=some .cell\/scope.names.lookup y=some .free:=hy
  rcases hy with hy | hy
  ·exact absurd rfl (S.nocell _ (ζζ0E hy))
  ·rw[S.only y hy]
   exact⟨c,lk⟩
 ·match i,h1,h2 with
  | 0,h1,h2 =>
   obtain rfl:v=y:=ζζ8 h1
   obtain rfl:vv=v':=ζζ8 (ζζ8 h2)
   refine⟨u,rv,.inl ⟨S.par,?_⟩⟩
   show List.lookup v [(v,u)]=some u
   unfold List.lookup
   rw[ζζ2y]
  | 1,h1,h2 =>
   obtain rfl:x=y:=ζζ8 h1
   obtain rfl:vx=v':=ζζ8 (ζζ8 h2)
   exact⟨ux,rx,.inr ⟨.inr S.free,c,lk,hck⟩⟩
  | i+2,h1,h2=>cases h1
 ·rw[(ζR2 h).2]
  exact⟨_,hck⟩
 ·rw[(ζR2 h).2]
  exact hfc
theorem ζG10(S:LamScope v x scope)(hr:Room (k+1) A)(e0:Env0 P w K mg base A outer s H)(ho:s.heap.get? f=some (PySem.W.kla_obj name qual params body scope [(x,c)] pm c' ctv))(hcd:s.heap.CodeRec (.ref c') qual)
  (hbind:bindArgs (PySem.W.kla_fn name qual params body scope [(x,c)] pm (.ref c') ctv) ⟨[u],[]⟩=pure [(v,u)]) (hc:s.heap.IsCell c (some ux)) (rx:RelV vx ux) (hfc:H c=none) (rv:RelV vv u)
  (hb:PE (ζa11 P w K mg base [v,x] qual scope f (.ref c') [(x,c)] A outer s H) body t) (hq:t [some vv,some vx] H Q) :
  codeAny (model P w) A (.call (.ref f) ⟨[u],[]⟩) (fun r s'=>∃ u',r=.ok (.ret u')/\CE outer P w H s Q u' s') s:=by
 have lim:s.heap.NoLimit:=e0.mod.nolimit.keeps fun b o e=>(e0.bs b o e).1
 refine PySem.W.kla_callFunE hr.depth ho rfl S.co S.gen rfl hcd ?_
 rw[hbind]
 refine ζζl (wpAny_newFunctionEnv S.nocell (fun y hy=>?_) (fun h1 hns hsb=>⟨lim.fresh _ hsb,?_⟩) S.kind)
 ·rw[ζζ1.mp hy]
  exact S.par
 have hk:∀ b o,s.heap.get? b=some o->h1.get? b=some o:=fun b o e=>hsb.extBut b o (ζζr (ζζn e)) (ζζ3 _ e)
 have I:Inv (ζa11 P w K mg base [v,x] qual scope f (.ref c') [(x,c)] A outer s H) [] [some vv,some vx] H { s with heap:=h1,toks:=s.toks+[(v,u)].length }:=ζN10 S hr.hd e0 hc rx hfc rv hns hk
 refine PySem.W.kla_codeExpr (ζζ0I (hb [] _ _ H _ I hq) (fun u' s' h=>?_) fun e s' h=>False.elim h)
 obtain⟨y,H',J,r,q⟩:=h
 exact⟨u',rfl,y,H',J.os,J.bare,J.base,J.hok,r,q⟩
end
end L2
namespace My
open PySem PySem.W PyProof.Rows
def Asks{α:Type}(n:Nat)(R:α->Prop):KasT α->Prop
 | .ret a=>R a
 | .ask i j k=>i<n/\j<n/\∀ b,Asks n R (k b)
theorem Asks.bind{α β:Type}{n:Nat}{R:α->Prop}{S:β->Prop}{f:α->KasT β}:∀ {t:KasT α},Asks n R t->(∀ a,R a->Asks n S (f a))->Asks n S (t.bind f)
 | .ret a,h,hf=>hf a h
 | .ask _ _ _,h,hf=>⟨h.1,h.2.1,fun b=>Asks.bind (h.2.2 b) hf⟩
theorem goT_wp'{α:Type}{n:Nat}{R:α->Prop}{c:Nat->Nat->Bool}{cmp:Nat->Nat->(Bool->Shared->Prop)->Shared->Prop}{J:Shared->Prop}(h:∀ i j C s,i<n->j<n->J s->(∀ s',J s'->C (c i j) s')->cmp i j C s){Q:α->Shared->Prop}:∀(t:KasT α) (s:Shared),Asks n R t->J s->(∀ s',J s'->Q (goT c t) s')->t.kasWp cmp Q s
 | .ret _,s,_,hs,q=>q s hs
 | .ask i j k,s,ha,hs,q=>h i j _ s ha.1 ha.2.1 hs fun s' hs'=>goT_wp' h (k (c i j)) s' (ha.2.2 _) hs' q
section
variable{n:Nat}
def Bd(n:Nat)(p:Array Nat):Prop:=p.Perm (List.range n).toArray
theorem Bd.lt{p:Array Nat}(h:Bd n p)(hn:1<=n)(i:Nat):p.getD i 0<n:=by
 by_cases hi:i<p.size
 ·have e1:=ζk11 (p:=p) hi
  rw[<- ζζN]at e1
  exact ζζy.mp ((ζζ14.mp h).mem_iff.mp (ζζe e1))
 ·rw[ζζw,ζζ0X (by omega)]
  exact hn
theorem Bd.rev{p:Array Nat}(h:Bd n p)(i j:Nat):Bd n (kas_rev p i j):=(mirror_perm _ _ _ _).trans h
theorem ζc4(hn:1<=n){p:Array Nat}(hp:Bd n p):∀ f m:Nat,Asks n (fun _=>True) (kas_asc p f m)
 | 0,m=>trivial
 | f+1,m=>⟨hp.lt hn _,hp.lt hn _,fun b=>by
  cases b with
  | true=>exact trivial
  | false=>exact ζc4 hn hp f (m+1)⟩
theorem ζY1(hn:1<=n):∀(f:Nat) (p:Array Nat) (m q:Nat),Bd n p->Asks n (fun r=>Bd n r.1) (kas_desc f p m q)
 | 0,p,m,q,hp=>hp
 | f+1,p,m,q,hp=>⟨hp.lt hn _,hp.lt hn _,fun b=>by
  cases b with
  | true =>
   show Asks n _ (if q > 0 then kas_desc f (kas_rev p (m - (q+1)) m) (m+1) 0 else kas_desc f p (m+1) 0)
   split
   ·exact ζY1 hn f _ _ _ (hp.rev _ _)
   ·exact ζY1 hn f _ _ _ hp
  | false =>
   refine⟨hp.lt hn _,hp.lt hn _,fun d=>?_⟩
   cases d with
   | true=>exact hp
   | false=>exact ζY1 hn f _ _ _ hp⟩
theorem ζj4(hn:1<=n){p:Array Nat}(hp:Bd n p)(m r:Nat):Asks n (fun z=>Bd n z.2) (kas_tail3 m r p) :=
 (ζc4 hn (hp.rev _ _) _ _).bind fun _ _=>hp.rev _ _
theorem ζx4(hn:1<=n){p:Array Nat}(hp:Bd n p)(m r:Nat):Asks n (fun z=>Bd n z.2) (kas_descPart m r p) :=
 (ζY1 hn _ p _ _ hp).bind fun z hz=>by
  split
  ·exact ζj4 hn (hz.rev _ _) _ _
  ·exact ζj4 hn hz _ _
theorem ζC6(hn:1<=n){p:Array Nat}(hp:Bd n p)(r:Nat):Asks n (fun z=>Bd n z.2) (kas_count r p) :=
 (ζc4 hn hp _ _).bind fun z _=>by
  split
  ·exact hp
  ·split
   ·refine⟨hp.lt hn _,hp.lt hn _,fun b=>?_⟩
    cases b with
    | true=>exact hp
    | false=>exact ζx4 hn (hp.rev _ _) _ _
   ·exact ζx4 hn hp _ _
theorem ζc2(hn:1<=n){p:Array Nat}(hp:Bd n p)(k:Nat):∀ f l r:Nat,Asks n (fun _=>True) (kas_place p k f l r)
 | 0,l,r=>trivial
 | f+1,l,r=>by
  unfold kas_place
  split
  ·exact trivial
  ·refine⟨hp.lt hn _,hp.lt hn _,fun b=>?_⟩
   cases b with
   | true=>exact ζc2 hn hp k f _ _
   | false=>exact ζc2 hn hp k f _ _
theorem ζK6(hn:1<=n):∀(f:Nat) (p:Array Nat) (k:Nat),Bd n p->Asks n (fun z=>Bd n z) (kas_bin f p k)
 | 0,p,k,hp=>hp
 | f+1,p,k,hp=>(ζc2 hn hp k _ _ _).bind fun l _=>ζK6 hn f _ _ ((bubble_perm _ _ _).trans hp)
theorem sort_asks(hn:1<=n):Asks n (fun z=>Bd n z) (kas_sort n) :=
 (ζC6 hn (p:=(List.range n).toArray) (Array.Perm.refl _) n).bind fun z hz=>by
  split
  ·exact ζK6 hn _ _ _ hz
  ·exact hz
end
end My
namespace L2
open PySem PySem.Spec PyProof.Rows PySem.W
def ζQ9(key:Int->Int)(ns ms:List Int):Prop:=∃ p:List Nat,p.Perm (List.range ns.length)/\p.Pairwise (My.Ahd fun i=>key (ns.getD i 0))/\ms=p.map fun i=>ns.getD i 0
section
variable{X:Cx}{pins:List (Addr × Obj)}{σ:St}{H:Hp}{s:Shared}{b:Addr}{o:Obj}
theorem Inv.pin1(I:Inv X pins σ H s)(F:FpOk X pins H b)(e:s.heap.get? b=some o)(hd:∀ v,o.data≠.cell v):Inv X (pins++[(b,o)]) σ H s:=I.pins_of fun p hp=>by
 rcases ζζ9.mp hp with hp | hp
 ·exact I.pin p (ζζc _ hp)
 ·rw[ζζ1.mp hp]
  exact⟨e,F.1,F.2.1,F.2.2.1,hd⟩
theorem FpOk.more{pl:List (Addr × Obj)}(F:FpOk X pins H b)(hn:∀ p∈pl,p.1≠b):FpOk X (pins++pl) H b:=⟨F.1,F.2.1,F.2.2.1,F.2.2.2.1,F.2.2.2.2.1,fun p hp=>by
 rcases ζζ9.mp hp with hp | hp
 ·exact F.2.2.2.2.2 p (ζζo _ hp)
 ·rcases ζζ9.mp hp with hp | hp
  ·exact F.2.2.2.2.2 p (ζζc _ hp)
  ·exact hn p hp⟩
theorem Inv.changed{h':Heap}{t':Nat}(I:Inv X pins σ H s)(F:FpOk X pins H b)(k:∀ c o,c≠b->s.heap.get? c=some o->h'.get? c=some o):Inv X pins σ H { s with heap:=h',toks:=t' } :=
 I.turned k F.1 F.2.1 F.2.2.2.1 F.2.2.2.2.1 F.2.2.2.2.2
theorem Inv.adopt{u:HO}(I:Inv X pins σ H s)(hex:X.ex=[])(F:FpOk X pins H b)(new:ObjOk X.prog X.w (upd H b u) s.heap b u):Inv X pins σ (upd H b u) s:=by
 have f4:X.s₀.heap.objs.size<=b:=F.2.2.2.1.resolve_left (by rw[hex];simp)
 have hn:=F.1
 refine⟨I.ok,I.os,I.bare,⟨I.base.keep,I.base.slot,fun c o e n hc=>?_,I.base.there,fun c xs q=>?_,fun c o w q=>?_,fun c ps q=>?_⟩,I.loc,I.cell,?_,fun x c e=>?_,fun p hp=>?_,fun c w e=>?_,I.len⟩
 ·rw[ζ9 (ζζr (ζζt (ζζn e) f4))]
  exact I.base.free c o e n hc
 ·have:=I.base.tups c xs q
  rw[ζ9 (ζb this hn)];exact this
 ·have:=I.base.frzs c o w q
  rw[ζ9 (ζb this hn)];exact this
 ·obtain⟨m,this⟩:=I.base.tbls c ps q
  exact⟨m,by rw[ζ9 (ζb this hn)];exact this⟩
 ·rw[ζ9 (ζζY F.2.1)];exact I.free
 ·rw[ζ9 (F.2.2.2.2.1 x c e)];exact I.freeC x c e
 ·have:=I.pin p hp
  exact⟨this.1,by rw[ζ9 (F.2.2.2.2.2 p hp)];exact this.2.1,this.2.2⟩
 ·by_cases hb:c=b
  ·subst hb;rw[ζ1]at e;cases e;exact new
  ·rw[ζ9 hb]at e
   exact(I.hok c w e).stay (fun _ _ _ q=>q) (fun d q=>by rw[ζ9 (ζb q hn)];exact q) fun d xs q=>by rw[ζ9 (ζb q hn)];exact q
end
section
variable{X:Cx}{pins:List (Addr × Obj)}{σ:St}{H:Hp}{s:Shared}{a kS:Addr}{A:Around}{E:Value->Shared->Prop}{P:PySem.Fin->Shared->Prop}{kA:Array Value}{e e1:Nat}{f:Value}{key:Int->Int}{ns:List Int}{vs:List Value}
theorem ζd6 {st:SortSt} {out:List Value} (I:Inv X (pins++[(a,seqObj "list" #[] e1),(kS,seqObj "list" kA e)]) σ H s) (Fa:FpOk X pins H a) (Fk:FpOk X pins H kS) (hak:a≠kS) (hz:kA.size<64) (hfl:failedOf st=none)
  (hout:(arrOf st).map (·.2)=out.toArray) (hlen:out.length<64) (h:∀ s' m,Inv X pins σ H s'->s'.heap.get? a=some (seqObj "list" out.toArray m)->P (.done (.ret .none)) s') :
  wpAny (model X.prog X.w) A (ksk_tail a false e1 (.ref kS) st) P E s:=by
 have hsl:sizeLine=16777216:=ζζ0C
 have pa:=(I.pin (a,seqObj "list" #[] e1) (by simp)).1
 have pk:=(I.pin (kS,seqObj "list" kA e) (by simp)).1
 have I0:Inv X pins σ H s:=I.unpinned
 have pa1:(s.heap.update kS (Obj.mapSeq fun _=>(#[]:Array Value))).get? a=some (seqObj "list" #[] e1):=(ζζQ _ _ (ζζY hak)).trans pa
 obtain⟨m,hm⟩:∃ m,((s.heap.update kS (Obj.mapSeq fun _=>(#[]:Array Value))).update a (Obj.mapSeq fun _=>out.toArray)).get? a=some (seqObj "list" out.toArray m):=⟨_,ζζ2M pa1 fun _=>out.toArray⟩
 unfold ksk_tail
 dsimp only
 rw[hout]
 refine ζζ2 (ζζ1K pk rfl ?_ (by omega) (ζζj _))
 refine ζζ2 (ζζ2E ?_)
 refine ζζ2 (seqEpoch_at pa1 rfl ?_)
 refine ζζ2 (ζζ1K pa1 rfl ?_ (ζζj _) (by simp;omega))
 rw[hfl]
 simp only [bne_self_eq_false,ζζ2j,if_false]
 refine ζζl (h _ m ?_ hm)
 have I1:Inv X pins σ H { s with heap:=s.heap.update kS (Obj.mapSeq fun _=>(#[]:Array Value)),toks:=s.toks }:=I0.changed Fk fun c o hc q=>(ζζQ _ _ (ζζY hc)).trans q
 exact I1.changed (t':=s.toks) Fa fun c o hc q=>(ζζQ _ _ (ζζY hc)).trans q
theorem ζF4:∀ {vs:List Value} {ns:List Int},IntsAre vs ns->∀ i,i<ns.length->∃ t,vs[i]?=some (.int (ns.getD i 0) t)
 | _,_,.nil,i,h=>absurd h (ζζ0G _)
 | _,_,.cons n t r,0,h=>⟨t,rfl⟩
 | _,_,.cons n t r,i+1,h=>ζF4 r i (by rw[ζζq]at h;omega)
theorem ζe6(hv:IntsAre vs ns)(hk:IntsAre kA.toList (ns.map key)){i:Nat}(hi:i<ns.length):∃ t u,kas_item (kA.zip vs.toArray) i=(.int (key (ns.getD i 0)) t,.int (ns.getD i 0) u):=by
 obtain⟨u,hu⟩:=ζF4 hv i hi
 obtain⟨t,ht⟩:=ζF4 hk i (by rw[ζζa];exact hi)
 have e:(ns.map key).getD i 0=key (ns.getD i 0):=by
  rw[ζζi,ζζh,ζζi,ζζ0 hi]
  rfl
 rw[e]at ht
 refine⟨t,u,?_⟩
 unfold kas_item
 rw[ζζw,<- ζζN,ksk_zip,(List.getElem?_zip_eq_some (z:=(Value.int (key (ns.getD i 0)) t,Value.int (ns.getD i 0) u))).mpr ⟨ht,hu⟩]
 rfl
theorem ζg6(hv:IntsAre vs ns)(hk:IntsAre kA.toList (ns.map key)):∀ l:List Nat,(∀ i∈l,i<ns.length)->IntsAre (l.map fun i=>(kas_item (kA.zip vs.toArray) i).2) (l.map fun i=>ns.getD i 0)
 | [],_=>.nil
 | i :: l,h=>by
  obtain⟨t,u,e⟩:=ζe6 hv hk (h i ζζg)
  have r:=ζg6 hv hk l fun j hj=>h j (ζζk _ hj)
  rw[ζζF,ζζF,e]
  exact .cons _ u r
theorem ζH10 (I:Inv X (pins++[(a,seqObj "list" #[] e1),(kS,seqObj "list" kA e)]) σ H s) (Fa:FpOk X pins H a) (Fk:FpOk X pins H kS) (hak:a≠kS) (hv:IntsAre vs ns) (h64:ns.length<64) (hk:IntsAre kA.toList (ns.map key))
  (h:∀ s' m out ms,Inv X pins σ H s'->s'.heap.get? a=some (seqObj "list" out m)->IntsAre out.toList ms->ζQ9 key ns ms->P (.done (.ret .none)) s') :
  wpAny (model X.prog X.w) A (ksk_end a false vs.toArray e1 (.ref kS) kA) P E s:=by
 have hvl:=hv.length
 have hkl:=hk.length
 rw[ζζD,ζζa]at hkl
 have hzs:(kA.zip vs.toArray).size=ns.length:=by rw[Array.size_zip,show vs.toArray.size=vs.length from ζζ7];omega
 unfold ksk_end
 dsimp only
 rw[if_neg (by decide)]
 by_cases h2:vs.toArray.size<2
 ·rw[if_pos h2,if_pos h2]
  rw[ζζ7]at h2
  refine ζζ2 (ζζl ?_)
  rw[StateT.run_pure]
  refine ζζ2 (ζζl ?_)
  dsimp only
  refine ζd6 (out:=vs) I Fa Fk hak (by omega) rfl ?_ (by omega) fun s' m J e=>h s' m vs.toArray ns J e (by simpa using hv) ?_
  ·show(if false=true then (kA.zip vs.toArray).reverse else kA.zip vs.toArray).map (·.2)=vs.toArray
   rw[if_neg (by decide),Array.map_snd_zip (by rw[ζζ7];omega)]
  ·refine⟨List.range ns.length,List.Perm.refl _,?_,?_⟩
   ·match ns.length,(show ns.length<2 by omega) with
    | 0,_=>exact List.Pairwise.nil
    | 1,_=>exact ζζZ _ _
   ·match ns,(show ns.length<2 by omega) with
    | [],_=>rfl
    | [x],_=>rfl
 ·rw[if_neg h2,if_neg h2]
  rw[ζζ7]at h2
  rw[ksk_kind hk (by omega)]
  refine ζζ2 (ζζl ?_)
  rw[if_neg (by decide)]
  obtain⟨p,hp1,hp2,hp3⟩:=My.sort_go (n:=ns.length) (key:=fun i=>key (ns.getD i 0)) (by omega)
  have runs:=kas_runs (prog:=X.prog) (w:=X.w) (A:=A) (E:=E) (κ:=oneType') (it:=kA.zip vs.toArray) (n:=ns.length) (s:=s) (Q:=fun _ st s'=>s'=s/\failedOf st=none/\arrOf st=p.map (kas_item (kA.zip vs.toArray)))
   (G:=fun q s'=>s'=s/\q=p) (by omega) h64 (fun q st s' _ e2 e3 e4=>⟨e4.1,e3,by rw[e2,e4.2]⟩)
   (My.goT_wp' (c:=fun i j=>decide (key (ns.getD i 0)<key (ns.getD j 0))) (J:=fun s'=>s'=s) (fun i j C s' hi hj hs hC=>by
    obtain⟨t,u,e⟩:=ζe6 hv hk hi
    obtain⟨t',u',e'⟩:=ζe6 hv hk hj
    unfold kas_cmp
    rw[e,e']
    exact kat_lt_int (hC s' hs)) _ s (My.sort_asks (by omega)) rfl fun s' hs=>⟨hs,hp1⟩)
  unfold kasC kas_st at runs
  rw[<- hzs,kas_range]at runs
  refine ζζ2 (ζζ0I runs ?_ fun _ _ z=>z)
  rintro⟨⟨⟩,st⟩ s' ⟨rfl,hf,ha⟩
  dsimp only
  have hb:∀ i∈p.toList,i<ns.length:=fun i hi=>ζζy.mp (hp2.mem_iff.mp hi)
  have hpl:p.toList.length=ns.length:=by rw[hp2.length_eq,ζζS]
  refine ζd6 (out:=p.toList.map fun i=>(kas_item (kA.zip vs.toArray) i).2) I Fa Fk hak (by omega) hf ?_ (by rw[ζζa];omega) fun s'' m J e=>h s'' m _ _ J e (by simpa using ζg6 hv hk p.toList hb) ⟨p.toList,hp2,hp3,rfl⟩
  have ha:arrOf st=p.map (kas_item (kA.zip vs.toArray)):=ha
  rw[ha,Array.map_map]
  exact Array.toList_inj.mp (by simp)
theorem ζm9 (I:Inv X (pins++[(a,seqObj "list" #[] e1),(kS,seqObj "list" #[] 0)]) σ H s) (Fa:FpOk X pins H a) (Fk:FpOk X pins H kS) (hak:a≠kS) (hv:IntsAre vs ns) (h64:ns.length<64)
  (turn:∀(pl:List (Addr × Obj)) (z:Int) (t:Tok) (s':Shared),z∈ns->Inv X (pins++pl) σ H s'->wpAny (model X.prog X.w) A (call f [.int z t]) (fun v s''=>∃ t',v=.int (key z) t'/\Inv X (pins++pl) σ H s'') (fun _ _=>False) s')
  (h:∀ s' m out ms,Inv X pins σ H s'->s'.heap.get? a=some (seqObj "list" out m)->IntsAre out.toList ms->ζQ9 key ns ms->P (.done (.ret .none)) s') :
  wpAny (model X.prog X.w) A (ksk_rest a f false vs.toArray e1 (.ref kS)) P E s:=by
 have hsl:sizeLine=16777216:=ζζ0C
 have hvl:=hv.length
 unfold ksk_rest
 refine ζζ2 (ζζ2W ?_)
 rw[<- Array.forIn_toList]
 simp only [List.toList_toArray]
 refine ζζ2 (ksk_fold (fun i s'=>∃(kA:Array Value) (e:Nat),Inv X (pins++[(a,seqObj "list" #[] e1),(kS,seqObj "list" kA e)]) σ H s'/\IntsAre kA.toList ((ns.take i).map key)) vs 0 s ⟨#[],0,I,by simpa using IntsAre.nil⟩ ?step ?done)
 case step =>
  rintro j x s' hx ⟨kA,e,J,hk⟩
  rw[Nat.zero_add]at hk ⊢
  have hj:j<ns.length:=by rw[<- hvl];exact(ζζ4.mp hx).1
  obtain⟨t,ht⟩:=ζF4 hv j hj
  rw[hx]at ht
  obtain rfl:=ζζ8 ht
  have hz:kA.size<=j:=by
   have h1:=hk.length
   rw[ζζD,ζζa,ζζv]at h1
   omega
  have eg:ns.getD j 0=ns[j]:=by rw[ζζi,ζζ0 hj];rfl
  have hmem:ns.getD j 0∈ns:=by rw[eg];exact ζζ0K hj
  refine ζζ2 (ζζ1Q (ζζ0I (turn _ _ t s' hmem J) (fun v s'' he=>?_) fun _ _ hF=>hF.elim))
  obtain⟨t2,rfl,J2⟩:=he
  dsimp only
  have pk:=(J2.pin (kS,seqObj "list" kA e) (by simp)).1
  obtain⟨c2,hc2⟩:∃ c2,(s''.heap.update kS (Obj.mapSeq (·.push (.int (key (ns.getD j 0)) t2)))).get? kS=some (seqObj "list" (kA.push (.int (key (ns.getD j 0)) t2)) c2):=⟨_,ζζ2M pk (·.push (.int (key (ns.getD j 0)) t2))⟩
  refine ζζ2 (ζζ1K pk rfl ?_ (by omega) (by rw[Array.size_push];omega))
  refine ζζl ⟨rfl,kA.push (.int (key (ns.getD j 0)) t2),c2,?_,?_⟩
  ·have J3:Inv X (pins++[(a,seqObj "list" #[] e1)]) σ H s'':=J2.pins_of fun p hp=>J2.pin p (ζζc _ (by
    rcases ζζ9.mp hp with hp | hp
    ·exact ζζo _ hp
    ·exact ζζc _ (by rw[ζζ1.mp hp];exact ζζg)))
   have Fk2:FpOk X (pins++[(a,seqObj "list" #[] e1)]) H kS:=Fk.more fun p hp=>by rw [ζζ1.mp hp];exact hak
   have J4:=(J3.changed (t':=s''.toks) Fk2 fun c o hc q=>(ζζQ s''.heap (Obj.mapSeq (·.push (.int (key (ns.getD j 0)) t2))) (ζζY hc)).trans q).pin1 Fk2 hc2 fun v z=>by cases z
   rw[ζζ02]at J4
   exact J4
  ·have ek:(ns.take (j+1)).map key=(ns.take j).map key++[key (ns.getD j 0)]:=by rw[List.take_add_one,ζζ0 hj,ζζA,eg];rfl
   rw[ζζ2s,ek]
   exact ksk_snoc hk
 case done =>
  rintro s' ⟨kA,e,J,hk⟩
  rw[Nat.zero_add,hvl,ζζH]at hk
  have pk:=(J.pin (kS,seqObj "list" kA e) (by simp)).1
  refine ζζ2 (listItems_at pk rfl ?_)
  exact ζH10 J Fa Fk hak hv h64 hk h
theorem ζl9 {n:Nat} (I:Inv X pins σ H s) (Fa:FpOk X pins H a) (ho:s.heap.get? a=some (seqObj "list" vs.toArray n)) (hv:IntsAre vs ns) (h64:ns.length<64)
  (turn:∀(pl:List (Addr × Obj)) (z:Int) (t:Tok) (s':Shared),z∈ns->Inv X (pins++pl) σ H s'->wpAny (model X.prog X.w) A (call f [.int z t]) (fun v s''=>∃ t',v=.int (key z) t'/\Inv X (pins++pl) σ H s'') (fun _ _=>False) s')
  (h:∀ s' m out ms,Inv X pins σ H s'->s'.heap.get? a=some (seqObj "list" out m)->IntsAre out.toList ms->ζQ9 key ns ms->P (.done (.ret .none)) s') :
  wpAny (model X.prog X.w) A (ksk_tree a f false) P E s:=by
 have hsl:sizeLine=16777216:=ζζ0C
 have hvl:=hv.length
 obtain⟨e1,ho1⟩:∃ e1,(s.heap.update a (Obj.mapSeq fun _=>(#[]:Array Value))).get? a=some (seqObj "list" #[] e1):=⟨_,ζζ2M ho fun _=>#[]⟩
 have I1:Inv X pins σ H { s with heap:=s.heap.update a (Obj.mapSeq fun _=>(#[]:Array Value)),toks:=s.toks }:=I.changed Fa fun c o hc q=>(ζζQ _ _ (ζζY hc)).trans q
 have I2:Inv X pins σ H { s with heap:=(s.heap.update a (Obj.mapSeq fun _=>(#[]:Array Value))).push (seqObj "tuple" vs.toArray 0),toks:=s.toks }:=I1.kept fun c o q=>ζζ3 _ q
 have ho2:((s.heap.update a (Obj.mapSeq fun _=>(#[]:Array Value))).push (seqObj "tuple" vs.toArray 0)).get? a=some (seqObj "list" #[] e1):=ζζ3 _ ho1
 unfold ksk_tree
 refine ζζ2 (listItems_at ho rfl ?_)
 refine ζζ2 (ζζ1K ho rfl ?_ (by rw[ζζ7];omega) (ζζj _))
 refine ζζ2 (seqEpoch_at ho1 rfl ?_)
 refine ζζ2 (wpAny_newTuple ?_ (by show vs.length<=_;omega))
 refine ζζ2 (ζζ1x ?_ (ζζj _))
 refine ζζ0x ?_
 have Fk:FpOk X pins H ((s.heap.update a (Obj.mapSeq fun _=>(#[]:Array Value))).push (seqObj "tuple" vs.toArray 0)).objs.size:=I2.fpOk (ζζ5 _) (I2.hok.fresh (ζζ5 _))
 have hak:a≠((s.heap.update a (Obj.mapSeq fun _=>(#[]:Array Value))).push (seqObj "tuple" vs.toArray 0)).objs.size:=ζζr (ζζn ho2)
 have I3:Inv X pins σ H { s with heap:=((s.heap.update a (Obj.mapSeq fun _=>(#[]:Array Value))).push (seqObj "tuple" vs.toArray 0)).push (seqObj "list" #[] 0),toks:=s.toks }:=I2.kept fun c o q=>ζζ3 _ q
 have I4:=(I3.pin1 Fa (ζζ3 _ ho2) fun v z=>by cases z).pin1 (Fk.more (pl:=[(a,seqObj "list" #[] e1)]) fun p hp=>by rw [ζζ1.mp hp];exact hak) (ζζf _ rfl) fun v z=>by cases z
 rw[ζζ02]at I4
 exact ζm9 I4 Fa Fk hak hv h64 turn h
theorem ζG5 {tp q:Addr} {ot:Obj} {m:Nat} {Q:Value->Shared->Prop} (I:Inv X pins σ H s) (ht:s.heap.get? tp=some ot) (hc:ot.cls=.type "tuple") (hd:ot.data=.seq vs.toArray m) (hv:IntsAre vs ns) (h64:ns.length<64)
  (turn:∀(pl:List (Addr × Obj)) (z:Int) (t:Tok) (s':Shared),z∈ns->Inv X (pins++pl) σ H s'->wpAny (model X.prog X.w) A.in1.in1 (call (.ref q) [.int z t]) (fun v s''=>∃ t',v=.int (key z) t'/\Inv X (pins++pl) σ H s'') (fun _ _=>False) s')
  (h:∀ s' a m out ms,FpOk X pins H a->Inv X pins σ H s'->s'.heap.get? a=some (seqObj "list" out m)->IntsAre out.toList ms->ζQ9 key ns ms->Q (.ref a) s') :
  wpAny (model X.prog X.w) A (call (.builtin "sorted") [.ref tp] [(Str.ofString "key",.ref q)]) Q E s:=by
 have hsl:sizeLine=16777216:=ζζ0C
 have hvl:=hv.length
 refine call_function_entry_kw kind_sorted plain_sorted entry_sorted (ksk_s1 _ _) ?_
 unfold Builtin.«sorted»
 refine ζζ2 (m:=checkCount "sorted" 1 1 _) (ζζl ?_)
 refine ζζ2 (ζz2 ht hc hd (by omega) ?_)
 refine ζζ2 (ζζ1x ?_ (by omega))
 have hsz:((s.heap.push (seqObj "list" #[] 0)).update s.heap.objs.size (Obj.mapSeq (·++vs.toArray))).objs.size=s.heap.objs.size+1:=by
  rw[Heap.size_update,size_push']
 have hoL:(((s.heap.push (seqObj "list" #[] 0)).update s.heap.objs.size (Obj.mapSeq (·++vs.toArray))).push (seqObj "list" vs.toArray 0)).get? (s.heap.objs.size+1)=some (seqObj "list" vs.toArray 0):=by
  rw[<- hsz];exact ζζf _ rfl
 have keep:∀ b o,s.heap.get? b=some o->(((s.heap.push (seqObj "list" #[] 0)).update s.heap.objs.size (Obj.mapSeq (·++vs.toArray))).push (seqObj "list" vs.toArray 0)).get? b=some o:=fun b o q=>by
  have hlt:b<s.heap.objs.size:=ζζn q
  exact ζζ3 _ ((ζζQ _ _ (ζζ0H hlt)).trans (ζζ3 _ q))
 show wpAny _ _ _ _ _ { s with heap:=((s.heap.push (seqObj "list" #[] 0)).update s.heap.objs.size (Obj.mapSeq (·++vs.toArray))).push (seqObj "list" vs.toArray 0) }
 rw[hsz]
 have Fa:FpOk X pins H (s.heap.objs.size+1):=I.fpOk (ζζ0w _) (I.hok.fresh (ζζ0w _))
 refine ζζ2 (ζζ0x (wpAny_call_entry_kw slot_list_sort ⟨_,hoL,rfl⟩ entry_list_sort ?body (ksk_l1 _ _)))
 show wpAny (model X.prog X.w) A.in1.in1 (Builtin.«list.sort» ⟨[.ref (s.heap.objs.size+1)],[(Str.ofString "key",.ref q)]⟩) _ _ _
 rw[ksk_t1]
 refine ζl9 (s:={ s with heap:=((s.heap.push (seqObj "list" #[] 0)).update s.heap.objs.size (Obj.mapSeq (·++vs.toArray))).push (seqObj "list" vs.toArray 0),toks:=s.toks }) (I.kept keep) Fa hoL hv h64 turn fun s' m out ms J e hi hs=>⟨_,rfl,?_⟩
 exact ζζl ⟨_,rfl,h s' _ m out ms Fa J e hi hs⟩
end
def CdO(c:Addr)(qual:Str):HO:=.ext fun h=>h.CodeRec (.ref c) qual
def TabH(H:Hp)(Pt:Addr)(pos:Pos)(qual:Str):Prop:=∃ ps:Array Value,H Pt=some (.tbl ps)/\TriplesOk ps.toList/\(codeAmong pos ps.toList=none\/∃ c,codeAmong pos ps.toList=some (.ref c)/\H c=some (CdO c qual))
def SameX(Pt:Addr)(H H':Hp):Prop:=∀ b o,b≠Pt->H b=some o->H' b=some o
theorem ζl2{c:Addr}{qual:Str}(h1 h2:Heap)(r:h1.CodeRec (.ref c) qual)(k:∀ o,h1.get? c=some o->h2.get? c=some o):h2.CodeRec (.ref c) qual:=by
 obtain⟨c2,o,vs,t,e,g,r⟩:=r
 cases e
 exact⟨c,o,vs,t,rfl,k _ g,r⟩
section
variable{X:Cx}{pins:List (Addr × Obj)}{σ:St}{H:Hp}{s:Shared}{c Pt cc:Addr}{x:Str}{params:Arguments}{body:Expr}{scope:Scope}{pos:Pos}{E:Value->Shared->Prop}{Q:Value->Shared->Prop}
theorem Inv.builtinsAt(I:Inv X pins σ H s)(hB:X.base.BuiltinsAt X.mg Pt):s.heap.BuiltinsAt X.mg Pt:=by
 obtain⟨bm,o,h1,h2,h3,h4,h5,h6⟩:=hB
 exact⟨bm,o,h1,h2,h3,h4,I.bk _ _ h5,h6⟩
theorem ζk9 (I:Inv X pins σ H s) (hcode:X.env.code=.ref c) (hC:codeHdIn X.K c Pt=true) (hB:X.base.BuiltinsAt X.mg Pt) (hT:TabH H Pt pos (X.env.qual++Str.ofString "<lambda>")) (hcl:closureFor scope X.env=pure [(x,cc)]) (hdef:defaultsOf params X.env=([],[])) (hPg:mainGlobals≠Pt)
  (h:∀ f c' pm ctv s' H',SameX Pt H H'->TabH H' Pt pos (X.env.qual++Str.ofString "<lambda>")->FpOk X pins H' f->Inv X pins σ H' s'->s'.heap.get? f=some (kla_obj (Str.ofString "<lambda>") (X.env.qual++Str.ofString "<lambda>") params body scope [(x,cc)] pm c' ctv)->H' c'=some (CdO c' (X.env.qual++Str.ofString "<lambda>"))->Q (.ref f) s') :
  wpAny (model X.prog X.w) X.A (eval (.Lambda params body scope pos) X.env) Q E s:=by
 obtain⟨ps,hP,htr,hcase⟩:=hT
 have hPo:s.heap.get? Pt=some (tabObj ps):=I.hok Pt _ hP
 have hns:s.heap.Ns mainGlobals X.mg:=I.mod.glob.keeps I.bk
 have hHd:=codeHd_of_K I.kIn hC
 refine kla_eval hdef ?_
 rcases hcase with hnf | ⟨c',hf,hc'⟩
 ·refine kla_makeFunction hcl I.ok.glob hns hcode hHd hPo htr hnf hPg (I.builtinsAt hB) fun c' ctv h' tk hx hge hlt hrec htb=>?_
  have hPl:Pt<s.heap.objs.size:=ζζn hPo
  have hcn:H c'=none:=I.hok.fresh hge
  have hcP:c'≠Pt:=ζζ0H (ζζt hPl hge)
  have keep:∀ b o,b≠Pt->s.heap.get? b=some o->(h'.push (kla_obj (Str.ofString "<lambda>") (X.env.qual++Str.ofString "<lambda>") params body scope [(x,cc)] ((X.mg "__name__").getD .none) c' ctv)).get? b=some o:=fun b o hb e=>ζζ3 _ (hx b o hb e)
  have sx:SameX Pt H (upd (upd H Pt (.tbl (ps++#[rawInt pos.line,rawInt pos.col,.ref c']))) c' (CdO c' (X.env.qual++Str.ofString "<lambda>"))):=fun b o hb e=>by
   rw[ζ9 (ζb e hcn),ζ9 hb]
   exact e
  have tb:TabH (upd (upd H Pt (.tbl (ps++#[rawInt pos.line,rawInt pos.col,.ref c']))) c' (CdO c' (X.env.qual++Str.ofString "<lambda>"))) Pt pos (X.env.qual++Str.ofString "<lambda>"):=by
   have et:(ps++#[rawInt pos.line,rawInt pos.col,Value.ref c']).toList=ps.toList++[rawInt pos.line,rawInt pos.col,.ref c']:=by simp
   refine⟨ps++#[rawInt pos.line,rawInt pos.col,.ref c'],by rw[ζ9 (ζζY hcP),ζ1],by rw[et];exact TriplesOk_snoc _ _ _ _ htr,.inr ⟨c',by rw[et];exact codeAmong_snoc _ htr hnf,ζ1⟩⟩
  have notP:∀ b,H b=none->b≠Pt:=fun b n z=>by rw[z,hP]at n;cases n
  refine h h'.objs.size c' _ ctv _ _ sx tb ?_ (I.un ⟨fun b o e n _ _=>keep b o (notP b n) e,fun b o e n _ _=>⟨o.slots,keep b o (notP b n) e⟩,fun b o e n _=>?_,fun b o e _=>?_,fun b xs e=>?_,fun b o u e=>?_,fun b qs e=>?_⟩ fun b u e=>?_) (ζζf _ rfl) ζ1
  ·have hfs:s.heap.objs.size<=h'.objs.size:=by omega
   refine I.fpOk hfs ?_
   rw[ζ9 (ζζ0H hlt),ζ9 (ζζ0H (ζζt hPl hfs))]
   exact I.hok.fresh hfs
  ·rw[ζ9 (ζζr (ζζt (ζζn e) hge)),ζ9 (notP b n)]
   exact n
  ·by_cases hb:b=Pt
   ·rw[hb];exact⟨_,ζζ3 _ htb⟩
   ·exact⟨o,keep b o hb e⟩
  ·exact sx b _ (fun z=>by rw[z,hP]at e;cases e) e
  ·exact sx b _ (fun z=>by rw[z,hP]at e;cases e) e
  ·by_cases hb:b=Pt
   ·subst hb
    rw[hP]at e
    obtain rfl:ps=qs:=by cases e;rfl
    exact⟨#[rawInt pos.line,rawInt pos.col,.ref c'],by rw[ζ9 (ζζY hcP),ζ1]⟩
   ·exact⟨#[],by rw[sx b _ hb e];simp⟩
  ·by_cases hb:b=c'
   ·subst hb
    rw[ζ1]at e
    cases e
    refine⟨ζl2 _ _ hrec fun o g=>ζζ3 _ g,?_,ζl2⟩
    obtain⟨c2,o,_,_,e2,g,_⟩:=hrec
    cases e2
    exact⟨o,ζζ3 _ g⟩
   ·rw[ζ9 hb]at e
    by_cases hb2:b=Pt
    ·subst hb2
     rw[ζ1]at e
     cases e
     exact ζζ3 _ htb
    ·rw[ζ9 hb2]at e
     refine(I.hok b u e).stay (fun d o hd g=>keep d o (fun z=>?_) g) (fun d g=>sx d _ (fun z=>by rw[z,hP]at g;cases g) g) fun d xs g=>sx d _ (fun z=>by rw[z,hP]at g;cases g) g
     rcases hd with hd | hd
     ·exact hb2 (hd.symm.trans z)
     ·rw[z,hP]at hd;cases hd
 ·refine kla_makeFunctionHit hcl I.ok.glob hns hcode hHd hPo htr hf (I.builtinsAt hB) fun ctv h' tk hk hsz=>?_
  refine h h'.objs.size c' _ ctv _ H (fun _ _ _ e=>e) ⟨ps,hP,htr,.inr ⟨c',hf,hc'⟩⟩ (I.fpOk hsz (I.hok.fresh hsz)) (I.kept fun b o e=>ζζ3 _ (hk b o e)) (ζζf _ rfl) hc'
end
def ζu11(K:PySem.W.Frag)(Pt:Addr)(lpos:Pos)(qual:Str)(i:Nat)(te tb:TE):TE:=fun σ H Q=>te σ H fun y H1=>∃(p:Addr) (ns:List Int) (vx:V) (key:Int->Int),y=.ref p/\SqT K H1 p (ns.map V.int)/\ns.length<64/\TabH H1 Pt lpos qual/\σ[i]?=some (some vx) /\
 (∀ H2,SameX Pt H1 H2->∀ z∈ns,tb [some (.int z),some vx] H2 fun r H3=>r=.int (key z)/\H3=H2) /\
 ∀(ms:List Int) (l:Addr) (H2:Hp),ζQ9 key ns ms->SameX Pt H1 H2->TabH H2 Pt lpos qual->H2 l=none->Q (.ref l) (upd H2 l (.lst (ms.map V.int)))
section
variable{X:Cx}{p kp pos lpos:Pos}{e body:Expr}{params:Arguments}{scope:Scope}{te tb:TE}{v x:Str}{i k:Nat}{c Pt cc:Addr}
theorem SqT.samex{K:PySem.W.Frag}{H H2:Hp}{a:Addr}{xs:List V}{qual:Str}(h:SqT K H a xs)(t:TabH H Pt lpos qual)(sx:SameX Pt H H2):SqT K H2 a xs:=by
 obtain⟨ps,hP,_⟩:=t
 rcases h with (h | ⟨o,h⟩) | h
 ·exact .inl (.inl (sx _ _ (fun z=>by rw[z,hP]at h;cases h) h))
 ·exact .inl (.inr ⟨o,sx _ _ (fun z=>by rw[z,hP]at h;cases h) h⟩)
 ·exact .inr h
theorem ζR5 (he:PE X e te) (hg:Gl X (Str.ofString "sorted")) (hm:X.mg (Str.ofString "sorted")=none) (hr:Room (k+3) X.A) (hex:X.ex=[]) (hcode:X.env.code=.ref c) (hC:codeHdIn X.K c Pt=true) (hB:X.base.BuiltinsAt X.mg Pt) (hPg:mainGlobals≠Pt)
  (S:LamScope v x scope) (hcl:closureFor scope X.env=pure [(x,cc)]) (hdef:defaultsOf params X.env=([],[])) (hbind:∀(c':Addr) (pm ctv u:Value),bindArgs (kla_fn (Str.ofString "<lambda>") (X.env.qual++Str.ofString "<lambda>") params body scope [(x,cc)] pm (.ref c') ctv) ⟨[u],[]⟩=pure [(v,u)])
  (hi:X.N[i]?=some x) (hkx:X.env.kindOf x=some .cell) (hcx:X.env.cells.lookup x=some cc)
  (hb:∀(f c':Addr) (A:Around) (outer:List Env) (s:Shared) (H:Hp),Room k (A.deeper (envX (X.env.qual++Str.ofString "<lambda>") scope s.heap.objs.size f (.ref c') [(x,cc)]))->PE (ζa11 X.prog X.w X.K X.mg X.base [v,x] (X.env.qual++Str.ofString "<lambda>") scope f (.ref c') [(x,cc)] A outer s H) body tb) (hs:starEach [e] X.env=[(false,eval e X.env)]:=by rfl) :
  PE X (.Call (.Name (Str.ofString "sorted") p) [e] [⟨some (Str.ofString "key"),.Lambda params body scope lpos,kp⟩] pos) (ζu11 X.K Pt lpos (X.env.qual++Str.ofString "<lambda>") i te tb):=by
 intro pins s σ H Q I h
 refine ζζ0N (ζs2 I hg hm Boot.«sorted» ?_ (by decide) (by decide))
 have ha:PA X [e] (ζx11 te tNil):=ζ0 he ζ3 hs
 refine callWith_kw (thn (ha pos pins s σ H (fun vs H1=>match vs with
  | [y]=>∃(p:Addr) (ns:List Int) (vx:V) (key:Int->Int),y=.ref p/\SqT X.K H1 p (ns.map V.int)/\ns.length<64/\TabH H1 Pt lpos (X.env.qual++Str.ofString "<lambda>")/\σ[i]?=some (some vx) /\
   (∀ H2,SameX Pt H1 H2->∀ z∈ns,tb [some (.int z),some vx] H2 fun r H3=>r=.int (key z)/\H3=H2) /\
   ∀(ms:List Int) (l:Addr) (H2:Hp),ζQ9 key ns ms->SameX Pt H1 H2->TabH H2 Pt lpos (X.env.qual++Str.ofString "<lambda>")->H2 l=none->Q (.ref l) (upd H2 l (.lst (ms.map V.int)))
  | _=>False) I h) fun us s1 hh=>?_) (by rw[hs];rfl) (by rw[hs];rfl) rfl rfl
 obtain⟨vs,H1,I1,r,q⟩:=hh
 match vs,r,q with
 | [],_,q=>exact False.elim q
 | _ :: _ :: _,_,q=>exact False.elim q
 | [y],r,q =>
  obtain⟨p2,ns,vx,key,rfl,hq,h64,hT,hσ,hk,q⟩:=q
  obtain⟨u,rfl,ru⟩:=ζ42 r
  obtain rfl:u=Value.ref p2:=ru
  refine kws_cons (ζk9 I1 hcode hC hB hT hcl hdef hPg fun f c' pm ctv s2 H2 sx tab F I2 hf hc'=>kws_nil ?_)
  have I3:=I2.pin1 F hf fun v z=>by cases z
  have hq2:=SqT.samex hq hT sx
  obtain⟨its,rv,⟨ot,g1,g2,m,g3⟩,hz⟩:=I2.tuple hq2
  have hv:=ζx rv
  refine ζG5 I3 g1 g2 g3 hv h64 (key:=key) (fun pl z t s3 hmem J=>?_) fun s3 a m out ms Fa J hg2 hout hst=>?_
  ·-- the lambda called
   have hob:s3.heap.get? f=some (kla_obj (Str.ofString "<lambda>") (X.env.qual++Str.ofString "<lambda>") params body scope [(x,cc)] pm c' ctv):=(J.pin (f,_) (ζζc _ (ζζo _ (ζζc _ ζζg)))).1
   obtain⟨mm,_,hloc⟩:=J.loc
   obtain⟨ux,rx,hlook⟩:=hloc i x vx hi hσ (.inr (.inl hkx))
   have hcell:s3.heap.IsCell cc (some ux):=by
    rcases hlook with ⟨kz,_⟩ | ⟨_,c2,e2,hc2⟩
    ·rw[hkx]at kz;cases kz
    ·rw[hcx]at e2;cases e2;exact hc2
   have hrec:s3.heap.CodeRec (.ref c') (X.env.qual++Str.ofString "<lambda>"):=(J.hok c' _ hc').1
   have hr2:Room (k+1) X.A.in1.in1:=(hr.in1).in1
   refine ζζ2Y (ζζ10 (ζG10 (u:=.int z t) (vv:=.int z) S hr2 J.env0.in1.in1 hob hrec (hbind c' pm ctv _) hcell rx (J.freeC x cc hcx) ⟨t,rfl⟩ (hb f c' _ _ s3 H2 (hr2.deeper _)) (hk H2 sx z hmem)) fun rr s4 hh=>?_)
   obtain⟨u',rfl,ce⟩:=hh
   obtain⟨v',H',J',rv',e1,e2⟩:=J.after ce
   subst e1 e2
   obtain⟨t',rfl⟩:=rv'
   exact⟨t',rfl,J'⟩
  ·have J0:Inv X pins σ H2 s3:=J.unpinned
   have Fa0:FpOk X pins H2 a:=⟨Fa.1,Fa.2.1,Fa.2.2.1,Fa.2.2.2.1,Fa.2.2.2.2.1,fun p hp=>Fa.2.2.2.2.2 p (by
    rcases ζζ9.mp hp with hp | hp
    ·exact ζζo _ hp
    ·exact ζζc _ (ζζo _ hp))⟩
   have hml:ms.length=ns.length:=by
    obtain⟨pp,h1,_,rfl⟩:=hst
    rw[ζζa,h1.length_eq,ζζS]
   refine⟨.ref a,_,J0.adopt hex Fa0 (u:=.lst (ms.map V.int)) ⟨?_,out.toList,m,ζU hout,by simpa using hg2⟩,rfl,q ms a H2 hst sx tab Fa.1⟩
   rw[ζζa,hml]
   have:sizeLine=16777216:=ζζ0C
   omega
end
def ζi12(Pt:Addr)(H:Hp):Prop:=H Pt=some (.tbl #[])/\∀ b,b=Pt\/H b=none\/∃ o xs,H b=some (.frz o (.lst xs))
theorem ζf7{P:Program}{w:World}{K:PySem.W.Frag}{mg mb:Str->Option Value}{CX:CXT}{k:Nat}{fa a Pt c:Addr}{fd:FuncData}{x:Str}{sp:Sp}{s₁:Shared}{vs:List Value}{ns:List Int}
  (KX:K.In s₁.heap) (hns:s₁.heap.Ns mainGlobals mg) (hb:s₁.heap.Ns builtinsNs mb) (hbb:∀ x:Str,x≠"__name__"->mb x=bootBuiltins x) (hlim:s₁.heap.NoLimit) (hg:s₁.gens=#[])
  (hT:s₁.heap.get? Pt=some (tabObj #[])) (hC:codeHdIn K c Pt=true) (hKP:K.lookup Pt=none) (hbm:∃ bm ob,mg (Str.ofString "__builtins__")=some (.ref bm)/\bm≠builtinsNs/\s₁.heap.get? bm=some ob/\ob.cls=.type "module"/\ob.dict=some builtinsNs/\ob.data=.plain)
  (ha:s₁.heap.get? a=some { cls:=.type "list",data:=.seq vs.toArray }) (hi:IntsAre vs ns) (hl:ns.length<=sizeLine) (hr:Room k callerA)
  (F:∀ base:Heap,K.In base->base.Ns mainGlobals mg->base.BuiltinsAt mg Pt->FnOk P w K mg base CX k fa fd [x] sp) (hbind:∀(s:Shared) (u:Value),BindsTo s fd ⟨[u],[]⟩ [(x,u)])
  (hsp:∀ H:Hp,ζi12 Pt H->SqL K H a (ns.map V.int)->sp [.ref a] H (fun v _=>v=.bl true) fun _ _ _=>False)
  (hCX:∀ H e s',CX [] H s₁ (fun _ _ _=>False) e s'->False) :
  codeAny (model P w) callerA (.call (.ref fa) ⟨[.ref a],[]⟩) (fun r s'=>r=.ok (.ret (.bool true))/\OldK s₁.heap s'.heap/\s'.os=s₁.os/\AllBare s'.gens) s₁:=by
 have rv:=ζg4 hi
 have lenV:=hi.length
 have haP:a≠Pt:=fun z=>by rw[z,hT]at ha;cases ha
 have core:∀ H:Hp,ζi12 Pt H->SqL K H a (ns.map V.int)->HOk P w H s₁.heap->(∀ b,H b≠none->b=a\/b=Pt)->(H a≠none->K.lookup a=none) ->
   codeAny (model P w) callerA (.call (.ref fa) ⟨[.ref a],[]⟩) (fun r s'=>r=.ok (.ret (.bool true))/\OldK s₁.heap s'.heap/\s'.os=s₁.os/\AllBare s'.gens) s₁:=by
  intro H hO hS hok hA hK
  have base_of:∀ {b:Addr} {o:Obj},s₁.heap.get? b=some o->H b=none->(hidT s₁.heap H).get? b=some o:=fun e n=>ζp9 e n
  have free:∀ {b:Addr} {o:Obj},s₁.heap.get? b=some o->(∀ its n,o.data≠.seq its n)->(∀ vs,o.data≠.fields vs)->H b=none:=fun {b o} e d1 d2=>by
   cases q:H b with
   | none=>rfl
   | some u =>
    rcases hA b (by rw[q];simp) with e' | e'
    ·subst e'
     rw[ha]at e;cases e
     exact absurd rfl (d1 _ _)
    ·subst e'
     rw[hT]at e;cases e
     exact absurd rfl (d2 _)
  have nsK:∀ {b:Addr} {m:Str->Option Value},s₁.heap.Ns b m->(hidT s₁.heap H).Ns b m:=fun {b m} ⟨o,es,ep,e,d,r⟩=>⟨o,es,ep,base_of e (free e (fun _ _ z=>by rw[d]at z;cases z) fun _ z=>by rw[d]at z;cases z),d,r⟩
  have hKb:K.In (hidT s₁.heap H):=fun b o e=>base_of (KX b o e) (by
   cases q:H b with
   | none=>rfl
   | some u =>
    rcases hA b (by rw[q];simp) with e' | e'
    ·subst e'
     rw[hK (by rw[q];simp)]at e;cases e
    ·subst e'
     rw[hKP]at e;cases e)
  have hM:Mod K mg (hidT s₁.heap H):=⟨hKb,nsK hns,⟨mb,nsK hb,hbb⟩,let ⟨mc,h1,h2⟩:=hlim;⟨mc,nsK h1,h2⟩⟩
  have hB:(hidT s₁.heap H).BuiltinsAt mg Pt:=by
   obtain⟨bm,ob,b1,b2,b3,b4,b5,b6⟩:=hbm
   refine⟨bm,ob,b1,b2,fun z=>?_,fun z=>?_,base_of b3 (free b3 (fun _ _ z=>by rw[b6]at z;cases z) fun _ z=>by rw[b6]at z;cases z),b4,b5,b6⟩
   ·obtain⟨o,es,ep,e,d,_⟩:=hns
    rw[z,e]at b3;cases b3;rw[d]at b6;cases b6
   ·rw[z,hT]at b3;cases b3;cases b4
  have e0:Env0 P w K mg (hidT s₁.heap H) callerA [] s₁ H:=⟨rfl,hM,fun b o e=>ζs10 e,Nat.le_of_eq (ζm7 _ _),trivial,fun b hb=>absurd (show b∈([]:List Addr) from hb) (by simp),hok,.of_eq hg⟩
  refine ζζ10 ((F _ hKb (nsK hns) hB).run callerA [] s₁ H ⟨[.ref a],[]⟩ [.ref a] [.ref a] _ _ hr e0 (hbind s₁ (.ref a)) (.cons rfl .nil) (hsp H hO hS)) fun r s' h=>?_
  cases r with
  | error e=>exact(hCX H e s' h).elim
  | ok fl =>
   cases fl with
   | next=>exact False.elim h
   | brk=>exact False.elim h
   | cont=>exact False.elim h
   | ret u =>
    obtain⟨v,H',os,bare,un,hok',r',q⟩:=h
    have q':v=.bl true:=q
    subst q'
    obtain rfl:u=Value.bool true:=r'
    obtain⟨more,eP⟩:=un.tbls Pt #[] hO.1
    have hP':s'.heap.get? Pt=some { cls:=.none,data:=.fields (#[]++more) }:=hok' Pt _ eP
    have kept:∀ b o,b≠Pt->s₁.heap.get? b=some o->s'.heap.get? b=some o:=fun b o hbP e=>by
     cases q:H b with
     | none=>exact un.keep b o e q (by intro z;exact absurd (show b∈([]:List Addr) from z) (by simp)) (by simp)
     | some u =>
      rcases hO.2 b with z | z | ⟨ob,xs,z⟩
      ·exact absurd z hbP
      ·rw[q]at z;cases z
      ·have z2:=un.frzs b ob _ z
       obtain⟨e1,_⟩:=hok b _ z
       obtain⟨e2,_⟩:=hok' b _ z2
       rw[e]at e1;cases e1
       exact e2
    refine⟨rfl,⟨fun b o e=>?_,fun b o e=>?_⟩,os,bare⟩
    ·by_cases hbP:b=Pt
     ·subst hbP
      rw[hT]at e
      obtain rfl:=ζζ8 e
      obtain⟨oc,vsc,_,_,_,_,_,_,_,c1,c2,c3,c4,_⟩:=codeHd_of_K KX hC
      exact .inr (.inl ⟨⟨c,oc,vsc,c1,c2,c3,c4⟩,rfl,#[],more,rfl,hP'⟩)
     ·exact .inl (kept b o hbP e)
    ·by_cases hbP:b=Pt
     ·rw[hbP];exact⟨_,hP'⟩
     ·exact⟨o,kept b o hbP e⟩
 cases hk:K.lookup a with
 | some o =>
  have e:=KX a o hk
  rw[ha]at e
  cases e
  refine core (fun b=>if b=Pt then some (.tbl #[]) else none) ⟨if_pos rfl,fun b=>?_⟩ (.inr ⟨_,vs.toArray,_,hk,rfl,rfl,rfl,by rw[ζζ7,lenV];exact hl,by simpa using rv⟩) (fun b u z=>?_) (fun b z=>?_) fun z=>absurd (if_neg haP) z
  ·by_cases hbP:b=Pt
   ·exact .inl hbP
   ·exact .inr (.inl (if_neg hbP))
  ·by_cases hbP:b=Pt
   ·have z':=(if_pos hbP).symm.trans z
    cases z'
    subst hbP
    exact hT
   ·have z':=(if_neg hbP).symm.trans z
    cases z'
  ·by_cases hbP:b=Pt
   ·exact .inr hbP
   ·exact absurd (if_neg hbP) z
 | none =>
  refine core (fun b=>if b=Pt then some (.tbl #[]) else if b=a then some (.frz { cls:=.type "list",data:=.seq vs.toArray } (.lst (ns.map V.int))) else none) ⟨if_pos rfl,fun b=>?_⟩ (.inl (.inr ⟨{ cls:=.type "list",data:=.seq vs.toArray },(if_neg haP).trans (if_pos rfl)⟩)) (fun b u z=>?_) (fun b z=>?_) fun _=>hk
  ·by_cases hbP:b=Pt
   ·exact .inl hbP
   ·by_cases hb:b=a
    ·exact .inr (.inr ⟨_,_,(if_neg hbP).trans (if_pos hb)⟩)
    ·exact .inr (.inl ((if_neg hbP).trans (if_neg hb)))
  ·by_cases hbP:b=Pt
   ·have z':=(if_pos hbP).symm.trans z
    cases z'
    subst hbP
    exact hT
   ·by_cases hb:b=a
    ·have z':=((if_neg hbP).trans (if_pos hb)).symm.trans z
     cases z'
     subst hb
     exact⟨ha,by rw[ζζa];exact hl,vs,_,rv,ha⟩
    ·have z':=((if_neg hbP).trans (if_neg hb)).symm.trans z
     cases z'
  ·by_cases hbP:b=Pt
   ·exact .inr hbP
   ·by_cases hb:b=a
    ·exact .inl hb
    ·exact absurd ((if_neg hbP).trans (if_neg hb)) z
theorem walk_ofT{l:PySem.W.OpenLaw}{n k:Nat}{q:Program}{loose:List Str}{XP:(Str->Option Value)->Heap->Prop}{YP:World->Heap->Prop}{d:DefRec}{K:Params->PySem.W.Frag}{CX:CXT}{sp:PySem.W.Frag->Sp}{x:Str}{c Pt:Addr}
  (hn:l.most=some n) (hn2:n<=sizeLine) (hdf:d.params.defaults=[]) (hr:Room k callerA)
  (hY:∀(w:World) (h:Heap),YP w h->(K w.params).In h/\h.get? Pt=some (tabObj #[])) (hC:∀ w:World,codeHdIn (K w.params) c Pt=true) (hKP:∀ w:World,(K w.params).lookup Pt=none)
  (F:∀(w:World) (mg:Str->Option Value) (fa:Addr) (h:Heap),(K w.params).In h->h.Ns mainGlobals mg->mg d.name=some (.ref fa) ->
   ∃ fd:FuncData,(∀(s:Shared) (u:Value),BindsTo s fd ⟨[u],[]⟩ [(x,u)]) /\
    ∀ base:Heap,(K w.params).In base->base.Ns mainGlobals mg->base.BuiltinsAt mg Pt->FnOk l.prog w (K w.params) mg base CX k fa fd [x] (sp (K w.params)))
  (hsp:∀(w:World) (H:Hp) (a:Addr) (ns:List Int),ns.length<=n->ζi12 Pt H->SqL (K w.params) H a (ns.map V.int)->sp (K w.params) [.ref a] H (fun v _=>v=.bl true) fun _ _ _=>False)
  (hCX:∀(H:Hp) (s:Shared) (e:Value) (s':Shared),CX [] H s (fun _ _ _=>False) e s'->False) :
  PySem.W.WalkO q loose XP YP l.row.toRowW d [] (fun f vs=>PySem.call f vs):=by
 refine Att.attach_call hn hdf fun w s₀ s₁ mg mb fa o pm cd doc a vs ns G Y ho hd hcd hmg hobj hints hlen hg=>?_
 obtain⟨KX,hT⟩:=hY w _ Y
 obtain⟨fd,hb,hF⟩:=F w mg fa _ KX G.T.g hmg
 exact ζf7 KX G.T.g G.T.b G.T.builtins G.T.nolimit hg hT (hC w) (hKP w) G.T.bmain hobj hints (ζζO hlen hn2) hr hF hb (fun H hO hS=>hsp w H a ns hlen hO hS) fun H e s'=>hCX H s₁ e s'
def ζw12(K:PySem.W.Frag)(mg:Str->Option Value)(base:Heap)(fd:FuncData)(Pt:Addr):Prop:=∃ c,fd.code=.ref c/\codeHdIn K c Pt=true/\base.BuiltinsAt mg Pt/\mainGlobals≠Pt
theorem LamScope.of{v x:Str}{sc:Scope}(h1:sc.kind=.function)(h2:sc.isCoroutine=false)(h3:sc.isGenerator=false)(h4:sc.names=[(v,.local),(x,.free)]\/sc.names=[(x,.free),(v,.local)])(hn:v≠x):LamScope v x sc:=by
 have b1:(v == x)=false:=ζζ2G hn
 have b2:(x == v)=false:=ζζ2G (ζζY hn)
 refine⟨h1,h2,h3,fun y hy=>?_,?_,?_,fun y hy=>?_,hn⟩
 ·have l1:NameKind.local≠NameKind.cell:=by decide
  have l2:NameKind.free≠NameKind.cell:=by decide
  rcases h4 with e | e <;> rw[e]at hy <;> rcases ζζb.mp hy with rfl | hy
  ·exact l1
  ·rw[ζζ1.mp hy];exact l2
  ·exact l2
  ·rw[ζζ1.mp hy];exact l1
 ·rcases h4 with e | e <;> rw[e] <;> simp[List.lookup,b1,b2]
 ·rcases h4 with e | e <;> rw[e] <;> simp[List.lookup,b1,b2]
 ·rcases h4 with e | e <;> rw[e]at hy <;> simp only [List.lookup]at hy
  ·split at hy
   ·cases hy
   ·split at hy
    ·rename_i q;exact ζζ11.mp q
    ·cases hy
  ·split at hy
   ·rename_i q;exact ζζ11.mp q
   ·split at hy
    ·cases hy
    ·cases hy
section
variable{P:Program}{w:World}{K:PySem.W.Frag}{mg:Str->Option Value}{base:Heap}
theorem Fun.okL{x qual:Str}{st:Stmt}{f c:Addr}{fd:FuncData}{N ps:List Str}{k:Nat}{sp:Sp}(F:Fun K x qual st f fd)(hc:fd.code=.ref c)(S:FnScope N ps (ζ5 st))(len:∀ vs H Q E,sp vs H Q E->vs.length=ps.length)
  (hbody:∀(A:Around) (outer:List Env) (s:Shared) (H:Hp) (vs:List V) (Q:VK) (E:XK),Room k (A.deeper (envOfC qual (ζ5 st) s.heap.objs.size f (.ref c)))->sp vs H Q E ->
   ∃ t,PSs (cxOf CX0 P w K mg base N qual (ζ5 st) f (.ref c) A outer s H E).nox (ζu1 st) t/\t { nx:=fun _ H'=>Q .non H',rt:=Q } (start N vs) H):FnOk P w K mg base CX0 (k+1) f fd ps sp:=by
 obtain⟨oc,od,kV,doc,pm,an,cdv,ct,osl,rfl,lk,hcd⟩:=F.ex
 obtain rfl:cdv=.ref c:=hc
 refine ζt12 lk hcd S len fun A outer s H vs Q E hr hsp=>?_
 obtain⟨t,h,q⟩:=hbody A outer s H vs Q E hr hsp
 exact⟨t,h.nox,q⟩
end
end L2
namespace My
open PySem L2
def FXL(K:PySem.W.Frag)(mg:Str->Option Value)(x qual:Str)(st:Stmt)(Pt:Addr):Prop:=∃(f:Addr) (fd:FuncData) (c:Addr),mg x=some (.ref f)/\Fun K x qual st f fd/\fd.code=.ref c/\PySem.W.codeHdIn K c Pt=true
theorem fxl_mk{K:PySem.W.Frag}{h:Heap}{mg:Str->Option Value}{x:Str}{st:Stmt}{f cA Pt:Addr}{oc:Value}{od an:Option Addr}{osl:Array (Option Value)}{kV doc pm ct:Value}(X:K.In h)(G:h.Ns mainGlobals mg)
  (a:PySem.W.nsIn K mainGlobals x=some (some (.ref f))) (l:K.lookup f=some ⟨oc,od,.func (PySem.W.fnOf x x (ζk2 st) (ζu1 st) (ζ5 st) .none kV doc pm an (.ref cA) ct),osl⟩) (c:PySem.W.codeIn K (.ref cA) x=true) (k:PySem.W.keepIn K (.ref f)=true) (z:PySem.W.codeHdIn K cA Pt=true):FXL K mg x x st Pt :=
 ⟨f,_,cA,ζζ1Y X G a,ζs9 l c k,rfl,z⟩
end My
namespace L2
open PySem PySem.Spec PyProof.Rows PySem.MeetsSeq
theorem ζP8(l:Addr)(xs:Array Value)(n:Nat)(v:Value)(g:Value->Bool)(j:Nat)(hj:j<xs.size)(yes:g xs[j]=true)(hz:xs.size<=sizeLine):∀(k i:Nat),j - i=k->i<=j->(∀ m (hm:m<xs.size),i<=m->m<j->g xs[m]=false) ->
  Meets (Builtin.«list.remove.loop» ⟨[.ref l,v,rawInt i],[]⟩) (fun A R s=>s.heap.get? l=some { cls:=.type "list",dict:=none,data:=.seq xs n,slots:=#[] }/\(∀ y,y∈xs->SeqAt.EqAt A.in1 s y v (g y))/\R (.ok (.ret .none)) { s with heap:=s.heap.update l (Obj.mapSeq fun ys=>ys.eraseIdxIfInBounds j) }):=by
 intro k
 induction k with
 | zero =>
  intro i e1 e2 no prog w A R s h
  obtain⟨hp,gs,d,tk,os⟩:=s
  obtain⟨ho,he,h⟩:=h
  obtain rfl:i=j:=by omega
  wp_walk using (ζζ0Y ho)
  have at_:xs[((i:Nat):Int).toNat]?=some xs[i]:=by simp[hj]
  rw[at_]
  refine ζζ2 (he _ (Array.getElem_mem hj) prog w _ _ ?_)
  rw[yes]
  have hz2:(xs.eraseIdxIfInBounds i).size<=sizeLine+1:=ζζO (size_erased xs _) (Nat.le_succ_of_le hz)
  wp_walk using (ζζ2k ho rfl (hz:=hz) (_hz':=hz2)),(ζζ0Y ho)
  simpa using h
 | succ k ih =>
  intro i e1 e2 no prog w A R s h
  obtain⟨hp,gs,d,tk,os⟩:=s
  obtain⟨ho,he,h⟩:=h
  have lt:i<xs.size:=by omega
  wp_walk using (ζζ0Y ho)
  have at_:xs[((i:Nat):Int).toNat]?=some xs[i]:=by simp[lt]
  have nx:((i:Int)+1)=((i+1:Nat):Int):=by push_cast;rfl
  rw[at_]
  refine ζζ2 (he _ (Array.getElem_mem lt) prog w _ _ ?_)
  rw[no i lt (ζζ5 _) (by omega)]
  wp_walk
  rw[nx]
  refine⟨ζζ0Z plain_remove_loop _,ζζ09 entry_remove_loop ?_⟩
  rw[ζζ0v plain_remove_loop _]
  exact ih (i+1) (by omega) (by omega) (fun m hm a b=>no m hm (by omega) b) prog w A R _ ⟨ho,he,h⟩
theorem ζ07(l:Addr)(xs:Array Value)(n:Nat)(v:Value)(g:Value->Bool)(j:Nat)(hj:j<xs.size)(yes:g xs[j]=true)(no:∀ m (hm:m<xs.size),m<j->g xs[m]=false)(hz:xs.size<=sizeLine) :
  Meets (Builtin.«list.remove» ⟨[.ref l,v],[]⟩) (fun A R s=>s.heap.get? l=some { cls:=.type "list",dict:=none,data:=.seq xs n,slots:=#[] }/\(∀ y,y∈xs->SeqAt.EqAt A.in1 s y v (g y))/\R (.ok (.ret .none)) { s with heap:=s.heap.update l (Obj.mapSeq fun ys=>ys.eraseIdxIfInBounds j) }):=by
 intro prog w A R s h
 obtain⟨hp,gs,d,tk,os⟩:=s
 obtain⟨ho,he,h⟩:=h
 wp_walk using (ζζ0Y ho)
 refine⟨ζζ0Z plain_remove_loop _,ζζ09 entry_remove_loop ?_⟩
 rw[ζζ0v plain_remove_loop _]
 exact ζP8 l xs n v g j hj yes hz _ 0 rfl (ζζj _) (fun m hm _ b=>no m hm b) prog w A R _ ⟨ho,he,h⟩
section
variable{X:Cx}
def ζe10(K:PySem.W.Frag):V->List V->Hp->VK->Prop:=fun x vs H Q=>∃(n:Nat) (l:Addr) (xs:List V) (y:V) (e:Addr->Bool) (j:Nat) (a:Addr),x=.ref l/\vs=[y]/\H l=some (.lst xs)/\n<=6/\(∀ v∈xs,∃ a,v=.ref a/\EqD K H n v y (e a))/\xs[j]?=some (.ref a)/\e a=true/\(∀ m b,m<j->xs[m]?=some (.ref b)->e b=false)/\Q .non (upd H l (.lst (xs.eraseIdx j)))
theorem Vals.erase{xs:List V}{us:List Value}(r:Vals xs us)(j:Nat):Vals (xs.eraseIdx j) (us.eraseIdx j):=by
 rw[ζζ2o,ζζ2o]
 exact(r.take _).append (r.drop _)
theorem ζZ5 (K:PySem.W.Frag) (hu:X.A.units+8<cLine) (hk:X.K=K:=by rfl):MtM X "list.remove" (ζe10 K):=by
 subst hk
 intro pins s σ H x vs v us Q I rx rv h
 obtain⟨n,l,xs,y,e,j,a,rfl,rfl,hH,hn,he,hj,hy,hno,q⟩:=h
 cases rx
 obtain⟨u,rfl,ru⟩:=rv.one
 obtain⟨z,its,m,r,hl,ho⟩:=I.lstM hH
 have hjl:j<xs.length:=(ζζ4.mp hj).1
 have at_:∀(i:Nat) (hi:i<its.toArray.size),∃ b,xs[i]?=some (.ref b)/\its.toArray[i]=.ref b:=fun i hi=>by
  have hi2:i<its.length:=by simpa using hi
  obtain⟨w,ew,rw'⟩:=r.at hi2
  obtain⟨b,rfl,_⟩:=he w (ζζe ew)
  have e3:its[i]=Value.ref b:=rw'
  exact⟨b,ew,by simpa using e3⟩
 have hjs:j<its.toArray.size:=by rw[ζζ7];omega
 refine ζζ1I F.slot_list_remove ⟨_,ho,rfl⟩ F.entry_list_remove (F.args_list_remove_2 _ _) (ζ07 l its.toArray m u (fun w=>match w with | .ref b=>e b | _=>false) j hjs ?_ ?_ (by rw[ζζ7];omega)) ⟨ho,fun w hw=>?_,?_⟩
 ·obtain⟨b,e1,e2⟩:=at_ j hjs
  rw[hj]at e1
  cases e1
  rw[e2]
  exact hy
 ·intro i hi hij
  obtain⟨b,e1,e2⟩:=at_ i hi
  rw[e2]
  exact hno i b hij e1
 ·exact ζ36 I (by show X.A.units+1+n<cLine;omega) ru r he w (by simpa using hw)
 ·refine⟨.non,_,I.lset (its':=its.eraseIdx j) hH ho ?_ (r.erase j) ?_,rfl,q⟩
  ·rw[Array.eraseIdxIfInBounds_eq,dif_pos hjs]
   apply Array.ext'
   simp
  ·rw[ζζ18,if_pos hjl]
   omega
end
end L2
namespace My
open PySem L2
def ClsT(n:Int)(ps:List (Int × Int))(I O W:List Int):Prop:=ζd n ps W/\(∀ z∈I,z∈W)/\∀ z∈O,z∉W
def pl(ls T U:List Int):Prop:=HT.ltP (sumL ls T,T) (sumL ls U,U)=true
theorem pl_iff{ls T U:List Int}:pl ls T U↔sumL ls T<sumL ls U\/(sumL ls T=sumL ls U/\HT.lexLt T U=true):=HT.ltP_iff
theorem pl.trans{ls T U W:List Int}(h1:pl ls T U)(h2:pl ls U W):pl ls T W:=HT.ltP_trans h1 h2
theorem ζp1{ls T:List Int}:¬ pl ls T T:=fun h=>by
 have:=HT.ltP_irrefl (sumL ls T,T)
 unfold pl at h
 rw[this]at h
 cases h
def OrdL(ls:List Int)(m:Nat)(os:List Int):Prop:=os.Perm (rgL m)/\os.Pairwise fun x y=>lnz ls x<lnz ls y\/(lnz ls x=lnz ls y/\x<y)
theorem ζC5{n:Int}{ps:List (Int × Int)}{T W:List Int}(g:ζy n ps)(hT:ζd n ps T)(hW:ζd n ps W)(h:∀ z∈T,z∈W):T=W :=
 ζf11 (ζJ1 hT) (ζJ1 hW) fun z=>(ζB5 g hT hW h).mem_iff
section
variable{n:Int}{ps:List (Int × Int)}{ls os I O ms:List Int}(g:ζy n ps)(ho:OrdL ls ps.length os)
include g ho
theorem ζk3{z:Int}:z∈os↔0<=z/\z<(ps.length:Int):=by rw[ho.1.mem_iff,rgL_mem]
theorem ζp7(hI:∀ z∈I,0<=z/\z<(ps.length:Int)):∀ z∈I++os.filter fun z=>decide (z∉O),0<=z/\z<(ps.length:Int):=fun z hz=>by
 rcases ζζ9.mp hz with hz | hz
 ·exact hI z hz
 ·exact(ζk3 g ho).mp (ζζm.mp hz).1
theorem ζg12{W:List Int}(hW:ClsT n ps I O W):∀ z∈W,z∈I++os.filter fun z=>decide (z∉O):=fun z hz =>
 ζζc _ (ζζm.mpr ⟨(ζk3 g ho).mpr (hW.1.1.all z hz),ζζd fun h=>hW.2.2 z h hz⟩)
theorem ζb8(hI:∀ z∈I,0<=z/\z<(ps.length:Int))(hn:I.Nodup)(h:¬ ((grw n.toNat ps (I++os.filter fun z=>decide (z∉O))).take I.length=I/\¬ ((grw n.toNat ps (I++os.filter fun z=>decide (z∉O))).length:Int)<n - 1))(W:List Int):¬ ClsT n ps I O W:=fun hW =>
 h (ζQ10 g hW.1 hn hW.2.1 (ζg12 g ho hW) (ζp7 g ho hI))
theorem ζn6(hI:∀ z∈I,0<=z/\z<(ps.length:Int))(hIO:∀ z∈I,z∉O)(h1:(grw n.toNat ps (I++os.filter fun z=>decide (z∉O))).take I.length=I)(h2:¬ ((grw n.toNat ps (I++os.filter fun z=>decide (z∉O))).length:Int)<n - 1)
  (hp:ms.Perm (grw n.toNat ps (I++os.filter fun z=>decide (z∉O)))) (hs:ms.Pairwise (·<=·)):ClsT n ps I O ms/\∀ W,ClsT n ps I O W->W=ms\/pl ls ms W:=by
 have hb:=ζp7 (O:=O) g ho hI
 have hT:=ζh5 g hb h2 hp hs
 have hin:∀ z∈ms,z∈I++os.filter fun z=>decide (z∉O):=fun z hz=>(ζx2 _ _ _).subset (hp.mem_iff.mp hz)
 have hIm:∀ z∈I,z∈ms:=fun z hz=>hp.mem_iff.mpr (ζζ17 (h1.symm ▸ hz))
 have hOm:∀ z∈O,z∉ms:=fun z hz hm=>by
  rcases ζζ9.mp (hin z hm) with h | h
  ·exact hIO z h hz
  ·exact ζζs (ζζm.mp h).2 hz
 have before:∀ z y,z∉I->y∉ms->y∉O->exg n ps ms z y->lnz ls z<lnz ls y\/(lnz ls z=lnz ls y/\z<y):=fun z y hzI hym hyO hx=>by
  obtain⟨hzm,_,y0,y1,_⟩:=(ζx3 g hT).mp hx
  have hyd:y∈os.filter fun z=>decide (z∉O):=ζζm.mpr ⟨(ζk3 g ho).mpr ⟨y0,y1⟩,ζζd hyO⟩
  obtain⟨as,bs,ed⟩:=List.append_of_mem hyd
  have hb':∀ z∈I++as,0<=z/\z<(ps.length:Int):=fun z hz=>hb z ((ζζ9.mp hz).elim (fun h=>ζζo _ h) fun h=>ζζc _ (by rw[ed];exact ζζo _ h))
  have hyG:y∉grw n.toNat ps ((I++as)++y :: bs):=by
   rw[ζζ02,<- ed]
   exact fun h=>hym (hp.mem_iff.mpr h)
  have c:=ζr9 g hb' y0 y1 hyG
  have hz2:z∈grw n.toNat ps (I++as):=ζζp fun hno=>(ζX g hT y0 y1).mp hx.2.2 (c.mono (ζu fun x hxx=>wo_mem.mpr ⟨hp.mem_iff.mpr (by
   have:=ζq9 (bs:=y :: bs) hxx
   rw[ζζ02,<- ed]at this
   exact this),fun e=>hno (by rw[<- e];exact hxx)⟩))
  have hza:z∈as:=(ζζ9.mp ((ζx2 _ _ _).subset hz2)).resolve_left hzI
  have pw:=ho.2.sublist (List.filter_sublist (p:=fun z=>decide (z∉O)))
  rw[ed]at pw
  exact(ζζX.mp pw).2.2 z hza y ζζg
 refine⟨⟨hT,hIm,hOm⟩,?_⟩
 have main:∀(k:Nat) (W:List Int),ClsT n ps I O W->(W.filter fun z=>decide (z∉ms)).length=k->W=ms\/pl ls ms W:=by
  intro k
  induction k with
  | zero =>
   intro W hW hk
   have hsub:∀ z∈W,z∈ms:=fun z hz=>ζζp fun hn=>by
    have:z∈W.filter fun z=>decide (z∉ms):=ζζm.mpr ⟨hz,ζζd hn⟩
    rw[ζζ00.mp hk]at this
    cases this
   exact .inl (ζC5 g hW.1 hT hsub)
  | succ k ih =>
   intro W hW hk
   obtain⟨y,hy⟩:∃ y,y∈W.filter fun z=>decide (z∉ms):=ζζ2t (by omega)
   obtain⟨hyW,hym⟩:=ζζm.mp hy
   have hym:=ζζs hym
   obtain⟨z,e1,e2⟩:=ζe2 g hW.1 hT hyW hym
   have hzW:z∉W:=((ζx3 g hW.1).mp e1).2.1
   have hzm:z∈ms:=e2.1
   have hord:=before z y (fun h=>hzW (hW.2.1 z h)) hym (fun h=>hW.2.2 y h hyW) e2
   obtain⟨M,hM1,hM2⟩:=ζ93 (wo W y++[z])
   have tM:=ζP1 g hW.1 e1 hM1 hM2
   have sM:=ζz1 (ls:=ls) hW.1.1.nodup hyW hM1
   have mem:∀ x,x∈M↔(x∈W/\x≠y)\/x=z:=fun x=>ζY10 g hW.1 e1 hM1 hM2
   have cM:ClsT n ps I O M:=⟨tM,fun x hx=>(mem x).mpr (.inl ⟨hW.2.1 x hx,fun e=>hym (e ▸ hIm x hx)⟩),fun x hx h=>by
    rcases(mem x).mp h with h | h
    ·exact hW.2.2 x hx h.1
    ·exact hOm x hx (h ▸ hzm)⟩
   have lM:pl ls M W:=by
    rw[pl_iff]
    rcases hord with h | ⟨h,h'⟩
    ·exact .inl (by omega)
    ·refine .inr ⟨by omega,(ζC4 (isSet_iff.mp tM.1).2 (isSet_iff.mp hW.1.1).2 (by have:=tM.2.1;have:=hW.1.2.1;omega)).mpr ⟨z,(mem z).mpr (.inr rfl),hzW,fun s hs=>?_⟩⟩
     rw[mem]
     constructor
     ·rintro(q | q)
      ·exact q.1
      ·omega
     ·exact fun q=>.inl ⟨q,by omega⟩
   have hk2:(M.filter fun z=>decide (z∉ms)).length=k:=by
    have hx:∀ x,x∈y :: (M.filter fun z=>decide (z∉ms))↔x∈W.filter fun z=>decide (z∉ms):=fun x=>by
     rw[ζζb,ζζm,ζζm,mem]
     constructor
     ·rintro(q | ⟨q | q,q2⟩)
      ·rw[q];exact⟨hyW,ζζd hym⟩
      ·exact⟨q.1,q2⟩
      ·exact absurd (q ▸ hzm) (ζζs q2)
     ·rintro⟨q1,q2⟩
      by_cases c:x=y
      ·exact .inl c
      ·exact .inr ⟨.inl ⟨q1,c⟩,q2⟩
    have nd:(y :: (M.filter fun z=>decide (z∉ms))).Nodup:=ζζ0h.mpr ⟨fun h=>by
     rcases(mem y).mp (ζζm.mp h).1 with q | q
     ·exact q.2 rfl
     ·exact hym (q ▸ hzm),tM.1.nodup.filter _⟩
    have l1:=ζQ1 nd fun x h=>(hx x).mp h
    have l2:=ζQ1 (hW.1.1.nodup.filter fun z=>decide (z∉ms)) fun x h=>(hx x).mpr h
    rw[ζζq]at l1 l2
    omega
   rcases ih M cM hk2 with q | q
   ·exact .inr (q ▸ lM)
   ·exact .inr (q.trans lM)
 exact fun W hW=>main _ W hW rfl
end
structure Ent where
 T:List Int
 I:List Int
 O:List Int
deriving DecidableEq
def ECl(n:Int)(ps:List (Int × Int))(E:Ent)(W:List Int):Prop:=ClsT n ps E.I E.O W
structure EOk (n:Int) (ps:List (Int × Int)) (ls:List Int) (E:Ent):Prop where
 own:ECl n ps E E.T
 min:∀ W,ECl n ps E W->W=E.T\/pl ls E.T W
 iN:E.I.Nodup
 oN:E.O.Nodup
 oR:∀ z∈E.O,0<=z/\z<(ps.length:Int)
def Dsj(n:Int)(ps:List (Int × Int))(E F:Ent):Prop:=∀ W,ECl n ps E W->¬ ECl n ps F W
theorem Dsj.symm{n:Int}{ps:List (Int × Int)}{E F:Ent}(h:Dsj n ps E F):Dsj n ps F E:=fun W a b=>h W b a
theorem EOk.iL{n:Int}{ps:List (Int × Int)}{ls:List Int}{E:Ent}(h:EOk n ps ls E):E.I.length<=E.T.length:=ζQ1 h.iN h.own.2.1
theorem EOk.oL{n:Int}{ps:List (Int × Int)}{ls:List Int}{E:Ent}(h:EOk n ps ls E):E.O.length<=ps.length:=by
 have:=ζQ1 (m:=rgL ps.length) h.oN fun z hz=>rgL_mem.mpr (h.oR z hz)
 rw[ζM]at this
 exact this
structure FB (n:Int) (ps:List (Int × Int)) (ls:List Int) (E:Ent) (l:List Int) (Es:List Ent):Prop where
 ok:∀ F∈Es,EOk n ps ls F
 sub:∀ F∈Es,∀ W,ECl n ps F W->ECl n ps E W
 cov:∀ W,ECl n ps E W->((∃ t∈l,t∉W)↔∃ F∈Es,ECl n ps F W)
 dsj:Es.Pairwise (Dsj n ps)
section
variable{n:Int}{ps:List (Int × Int)}{ls os:List Int}{E:Ent}{l:List Int}{Es:List Ent}{t:Int}
theorem FB.nil:FB n ps ls E [] []:=⟨fun _ h=>(by cases h),fun _ h=>(by cases h),fun _ _=>⟨fun⟨_,h,_⟩=>(by cases h),fun⟨_,h,_⟩=>(by cases h)⟩,.nil⟩
theorem FB.skip(h:FB n ps ls E l Es)(ht:t∈E.I):FB n ps ls E (l++[t]) Es:=⟨h.ok,h.sub,fun W hW=>(by
 rw[<- h.cov W hW]
 constructor
 ·rintro⟨z,hz,hn⟩
  rcases ζζ9.mp hz with hz | hz
  ·exact⟨z,hz,hn⟩
  ·rw[ζζ1.mp hz]at hn
   exact absurd (hW.2.1 t ht) hn
 ·rintro⟨z,hz,hn⟩
  exact⟨z,ζζo _ hz,hn⟩),h.dsj⟩
def insd(E:Ent)(l:List Int):List Int:=E.I++l.filter fun z=>decide (z∉E.I)
theorem insd_mem{z:Int}:z∈insd E l↔z∈E.I\/z∈l:=by
 unfold insd
 rw[ζζ9,ζζm]
 constructor
 ·rintro(h | h)
  ·exact .inl h
  ·exact .inr h.1
 ·rintro(h | h)
  ·exact .inl h
  ·by_cases c:z∈E.I
   ·exact .inl c
   ·exact .inr ⟨h,ζζd c⟩
theorem part_iff{W:List Int}:ClsT n ps (insd E l) (E.O++[t]) W↔ECl n ps E W/\(∀ z∈l,z∈W)/\t∉W:=by
 constructor
 ·rintro⟨h1,h2,h3⟩
  exact⟨⟨h1,fun z hz=>h2 z (insd_mem.mpr (.inl hz)),fun z hz=>h3 z (ζζo _ hz)⟩,fun z hz=>h2 z (insd_mem.mpr (.inr hz)),h3 t (ζζc _ (ζζ1.mpr rfl))⟩
 ·rintro⟨⟨h1,h2,h3⟩,h4,h5⟩
  refine⟨h1,fun z hz=>(insd_mem.mp hz).elim (h2 z) (h4 z),fun z hz=>?_⟩
  rcases ζζ9.mp hz with hz | hz
  ·exact h3 z hz
  ·rw[ζζ1.mp hz];exact h5
theorem FB.none(h:FB n ps ls E l Es)(hno:∀ W,¬ ClsT n ps (insd E l) (E.O++[t]) W):FB n ps ls E (l++[t]) Es:=⟨h.ok,h.sub,fun W hW=>(by
 rw[<- h.cov W hW]
 constructor
 ·rintro⟨z,hz,hn⟩
  refine ζζp fun no=>hno W (part_iff.mpr ⟨hW,fun y hy=>ζζp fun q=>no ⟨y,hy,q⟩,?_⟩)
  rcases ζζ9.mp hz with hz | hz
  ·exact absurd ⟨z,hz,hn⟩ no
  ·rw[<- ζζ1.mp hz];exact hn
 ·rintro⟨z,hz,hn⟩
  exact⟨z,ζζo _ hz,hn⟩),h.dsj⟩
theorem FB.more{ms:List Int}(h:FB n ps ls E l Es)(hF:EOk n ps ls ⟨ms,insd E l,E.O++[t]⟩):FB n ps ls E (l++[t]) (Es++[⟨ms,insd E l,E.O++[t]⟩]) where
 ok:=fun F hF'=>by
  rcases ζζ9.mp hF' with q | q
  ·exact h.ok F q
  ·rw[ζζ1.mp q];exact hF
 sub:=fun F hF' W hW=>by
  rcases ζζ9.mp hF' with q | q
  ·exact h.sub F q W hW
  ·rw[ζζ1.mp q]at hW
   exact(part_iff.mp hW).1
 cov:=fun W hW=>by
  constructor
  ·rintro⟨z,hz,hn⟩
   by_cases c:∃ y∈l,y∉W
   ·obtain⟨F,hF1,hF2⟩:=(h.cov W hW).mp c
    exact⟨F,ζζo _ hF1,hF2⟩
   ·refine⟨_,ζζc _ (ζζ1.mpr rfl),part_iff.mpr ⟨hW,fun y hy=>ζζp fun q=>c ⟨y,hy,q⟩,?_⟩⟩
    rcases ζζ9.mp hz with hz | hz
    ·exact absurd ⟨z,hz,hn⟩ c
    ·rw[<- ζζ1.mp hz];exact hn
  ·rintro⟨F,hF',hW'⟩
   rcases ζζ9.mp hF' with q | q
   ·obtain⟨z,hz,hn⟩:=(h.cov W hW).mpr ⟨F,q,hW'⟩
    exact⟨z,ζζo _ hz,hn⟩
   ·rw[ζζ1.mp q]at hW'
    exact⟨t,ζζc _ (ζζ1.mpr rfl),(part_iff.mp hW').2.2⟩
 dsj:=ζζX.mpr ⟨h.dsj,ζζZ _ _,fun G hG F hF' W a b=>by
  rw[ζζ1.mp hF']at b
  obtain⟨b1,b2,_⟩:=part_iff.mp b
  obtain⟨z,hz,hn⟩:=(h.cov W b1).mpr ⟨G,hG,a⟩
  exact hn (b2 z hz)⟩
theorem FB.all(g:ζy n ps)(hE:EOk n ps ls E)(h:FB n ps ls E E.T Es)(W:List Int)(hW:ECl n ps E W):W≠E.T↔∃ F∈Es,ECl n ps F W:=by
 rw[<- h.cov W hW]
 constructor
 ·intro hn
  refine ζζp fun no=>hn (ζC5 g hE.own.1 hW.1 fun z hz=>ζζp fun q=>no ⟨z,hz,q⟩).symm
 ·rintro⟨z,hz,hn⟩ rfl
  exact hn hz
theorem ζo10{ms:List Int}(g:ζy n ps)(ho:OrdL ls ps.length os)(hE:EOk n ps ls E)(hl:l.Nodup)(hlT:∀ z∈l,z∈E.T)(ht:t∈E.T)(hti:t∉insd E l)
  (h1:(grw n.toNat ps (insd E l++os.filter fun z=>decide (z∉E.O++[t]))).take (insd E l).length=insd E l) (h2:¬ ((grw n.toNat ps (insd E l++os.filter fun z=>decide (z∉E.O++[t]))).length:Int)<n - 1)
  (hp:ms.Perm (grw n.toNat ps (insd E l++os.filter fun z=>decide (z∉E.O++[t])))) (hs:ms.Pairwise (·<=·)):EOk n ps ls ⟨ms,insd E l,E.O++[t]⟩:=by
 have hin:∀ z∈insd E l,z∈E.T:=fun z hz=>(insd_mem.mp hz).elim (hE.own.2.1 z) (hlT z)
 obtain⟨c1,c2⟩:=ζn6 g ho (fun z hz=>hE.own.1.1.all z (hin z hz)) (fun z hz hO=>by
  rcases ζζ9.mp hO with q | q
  ·exact hE.own.2.2 z q (hin z hz)
  ·exact hti ((ζζ1.mp q) ▸ hz)) h1 h2 hp hs
 refine⟨c1,c2,?_,?_,fun z hz=>?_⟩
 ·exact ζζ0c.mpr ⟨hE.iN,hl.filter _,fun a ha b hb e=>ζζs (ζζm.mp hb).2 (e ▸ ha)⟩
 ·exact ζζ0c.mpr ⟨hE.oN,ζζZ _ _,fun a ha b hb e=>hE.own.2.2 a ha (by rw[e,ζζ1.mp hb];exact ht)⟩
 ·rcases ζζ9.mp hz with q | q
  ·exact hE.oR z q
  ·rw[ζζ1.mp q];exact hE.own.1.1.all t ht
end
structure RI (n:Int) (ps:List (Int × Int)) (ls:List Int) (L:List (List Int)) (Es:List Ent):Prop where
 tr:∀ T∈L,ζd n ps T
 asc:L.Pairwise (pl ls)
 ok:∀ E∈Es,EOk n ps ls E
 cov:∀ W,ζd n ps W->W∈L\/∃ E∈Es,ECl n ps E W
 beh:∀ E∈Es,∀ W,ECl n ps E W->∀ T∈L,pl ls T W
 dsj:Es.Pairwise (Dsj n ps)
theorem ζb6:∀ a b:List Int,a.length=b.length->a≠b->HT.lexLt a b=true\/HT.lexLt b a=true
 | [],[],_,h=>absurd rfl h
 | [],_ :: _,h,_=>by cases h
 | _ :: _,[],h,_=>by cases h
 | x :: a,y :: b,hl,h=>by
  rw[HT.lexLt_cons,HT.lexLt_cons]
  by_cases c:x=y
  ·rw[if_pos c,if_pos c.symm]
   exact ζb6 a b (by simpa using hl) fun e=>h (by rw[c,e])
  ·rw[if_neg c,if_neg (fun q=>c q.symm),ζζM,ζζM]
   omega
theorem ζO11{n:Int}{ps:List (Int × Int)}{ls T U:List Int}(hT:ζd n ps T)(hU:ζd n ps U)(h:T≠U):pl ls T U\/pl ls U T:=by
 rw[pl_iff,pl_iff]
 rcases Int.lt_trichotomy (sumL ls T) (sumL ls U) with c | c | c
 ·exact .inl (.inl c)
 ·rcases ζb6 T U (by have:=hT.2.1;have:=hU.2.1;omega) h with q | q
  ·exact .inl (.inr ⟨c,q⟩)
  ·exact .inr (.inr ⟨c.symm,q⟩)
 ·exact .inr (.inl c)
section
variable{n:Int}{ps:List (Int × Int)}{ls:List Int}{L:List (List Int)}{Es Fs:List Ent}
theorem RI.apart(h:RI n ps ls L Es){i j:Nat}{E F:Ent}(hE:Es[i]?=some E)(hF:Es[j]?=some F)(hne:i≠j):Dsj n ps E F:=by
 obtain⟨hi,ei⟩:=ζζ4.mp hE
 obtain⟨hj,ej⟩:=ζζ4.mp hF
 have pw:=ζζ03.mp h.dsj
 by_cases c:i<j
 ·have:=pw i j hi hj c
  rw[ei,ej]at this
  exact this
 ·have:=pw j i hj hi (by omega)
  rw[ei,ej]at this
  exact this.symm
theorem RI.unlike(h:RI n ps ls L Es){i j:Nat}{E F:Ent}(hE:Es[i]?=some E)(hF:Es[j]?=some F)(hne:i≠j):E.T≠F.T:=fun e =>
 h.apart hE hF hne E.T (h.ok E (ζζe hE)).own (e ▸ (h.ok F (ζζe hF)).own)
theorem RI.step(g:ζy n ps)(h:RI n ps ls L Es){j:Nat}{E:Ent}(hE:Es[j]?=some E)(hm:∀ F∈Es,¬ pl ls F.T E.T)(hF:FB n ps ls E E.T Fs):RI n ps ls (L++[E.T]) (Es.eraseIdx j++Fs):=by
 have okE:=h.ok E (ζζe hE)
 have er:∀ F∈Es.eraseIdx j,∃ i,i≠j/\Es[i]?=some F:=fun F hF=>by
  obtain⟨i,hi,e⟩:=ζζ2r.mp hF
  exact⟨i,hi,e⟩
 have all:=hF.all g okE
 refine⟨fun T hT=>?_,?_,fun F hF'=>?_,fun W hW=>?_,fun F hF' W hW T hT=>?_,?_⟩
 ·rcases ζζ9.mp hT with q | q
  ·exact h.tr T q
  ·rw[ζζ1.mp q];exact okE.own.1
 ·refine ζζX.mpr ⟨h.asc,ζζZ _ _,fun T hT U hU=>?_⟩
  rw[ζζ1.mp hU]
  exact h.beh E (ζζe hE) E.T okE.own T hT
 ·rcases ζζ9.mp hF' with q | q
  ·obtain⟨i,_,e⟩:=er F q
   exact h.ok F (ζζe e)
  ·exact hF.ok F q
 ·rcases h.cov W hW with q | ⟨F,q1,q2⟩
  ·exact .inl (ζζo _ q)
  ·obtain⟨i,hi⟩:=ζζ19 q1
   by_cases c:i=j
   ·subst c
    rw[hE]at hi
    obtain rfl:=ζζ8 hi
    by_cases c2:W=E.T
    ·exact .inl (ζζc _ (ζζ1.mpr c2))
    ·obtain⟨G,g1,g2⟩:=(all W q2).mp c2
     exact .inr ⟨G,ζζc _ g1,g2⟩
   ·exact .inr ⟨F,ζζo _ (ζζ2r.mpr ⟨i,c,hi⟩),q2⟩
 ·rcases ζζ9.mp hF' with q | q
  ·obtain⟨i,hi,e⟩:=er F q
   have okF:=h.ok F (ζζe e)
   rcases ζζ9.mp hT with qT | qT
   ·exact h.beh F (ζζe e) W hW T qT
   ·rw[ζζ1.mp qT]
    have less:=(ζO11 (ls:=ls) okF.own.1 okE.own.1 (h.unlike e hE hi)).resolve_left (hm F (ζζe e))
    rcases okF.min W hW with c | c
    ·rw[c];exact less
    ·exact less.trans c
  ·have hWE:=hF.sub F q W hW
   rcases ζζ9.mp hT with qT | qT
   ·exact h.beh E (ζζe hE) W hWE T qT
   ·rw[ζζ1.mp qT]
    exact(okE.min W hWE).resolve_left ((all W hWE).mpr ⟨F,q,hW⟩)
 ·refine ζζX.mpr ⟨h.dsj.sublist (List.eraseIdx_sublist _ _),hF.dsj,fun F q G q2 W a b=>?_⟩
  obtain⟨i,hi,e⟩:=er F q
  exact h.apart e hE hi W a (hF.sub G q2 W b)
end
structure Rkd (n:Int) (ps:List (Int × Int)) (ls:List Int) (most:Nat) (L:List (List Int)):Prop where
 tr:∀ T∈L,ζd n ps T
 asc:L.Pairwise (pl ls)
 few:L.length<=most
 all:∀ W,ζd n ps W->W∈L\/(L.length=most/\∀ T∈L,pl ls T W)
end My
namespace L2
open PySem PySem.Spec PyProof.Rows PySem.W My
theorem SameX.same{Pt:Addr}{H H':Hp}(s:Same H H'):SameX Pt H H':=fun b o _ e=>s b o e
theorem SameX.trans{Pt:Addr}{H H1 H2:Hp}(a:SameX Pt H H1)(b:SameX Pt H1 H2):SameX Pt H H2:=fun c o hc e=>b c o hc (a c o hc e)
theorem TabH.same{H H':Hp}{Pt:Addr}{pos:Pos}{qual:Str}(t:TabH H Pt pos qual)(s:Same H H'):TabH H' Pt pos qual:=by
 obtain⟨ps,h1,h2,h3⟩:=t
 refine⟨ps,s _ _ h1,h2,?_⟩
 rcases h3 with h | ⟨c,h,h'⟩
 ·exact .inl h
 ·exact .inr ⟨c,h,s _ _ h'⟩
theorem TabH.ne{H:Hp}{Pt a:Addr}{pos:Pos}{qual:Str}{o:HO}(t:TabH H Pt pos qual)(h:H a=some o)(hn:∀ ps,o≠.tbl ps):a≠Pt:=fun e=>by
 obtain⟨ps,h1,_⟩:=t
 rw[e,h1]at h
 exact hn ps (ζζ8 h).symm
end L2
namespace My
open PySem L2
theorem ζO3{m i:Nat}(h:i<m):(rgL m).getD i 0=(i:Int):=by
 unfold rgL
 rw[ζζi,ζζh,ζζ0a h]
 rfl
theorem ζt8{ls ms:List Int}{m:Nat}(h:ζQ9 (fun z=>lnz ls z) (rgL m) ms):OrdL ls m ms:=by
 obtain⟨p,hp,hw,rfl⟩:=h
 rw[ζM]at hp
 have hb:∀ i∈p,i<m:=fun i hi=>ζζy.mp (hp.mem_iff.mp hi)
 have e:(p.map fun i=>(rgL m).getD i 0)=p.map fun(i:Nat)=>(i:Int):=ζζ0g fun i hi=>ζO3 (hb i hi)
 rw[e]
 refine⟨hp.map _,?_⟩
 rw[ζζ1R]
 refine hw.imp_of_mem fun {i j} hi hj h=>?_
 have h:lnz ls ((rgL m).getD i 0)<lnz ls ((rgL m).getD j 0)\/(lnz ls ((rgL m).getD i 0)=lnz ls ((rgL m).getD j 0)/\i<j):=h
 rw[ζO3 (hb i hi),ζO3 (hb j hj)]at h
 omega
theorem SqK.samex{kd:Bool}{K:PySem.W.Frag}{H H2:Hp}{a Pt:Addr}{xs:List V}{pos:Pos}{qual:Str}(h:SqK kd K H a xs)(t:TabH H Pt pos qual)(sx:SameX Pt H H2):SqK kd K H2 a xs:=by
 cases kd with
 | true=>exact SqT.samex (show SqT K H a xs from h) t sx
 | false =>
  rcases(show SqL K H a xs from h) with (h | ⟨o,h⟩) | h
  ·exact .inl (.inl (sx _ _ (t.ne h (by simp)) h))
  ·exact .inl (.inr ⟨o,sx _ _ (t.ne h (by simp)) h⟩)
  ·exact .inr h
theorem WebAt.samex{C w Pt:Addr}{H H2:Hp}{n:Int}{ps:List (Int × Int)}{pos:Pos}{qual:Str}(h:WebAt C H w n ps)(t:TabH H Pt pos qual)(sx:SameX Pt H H2):WebAt C H2 w n ps:=by
 obtain⟨dx,tl,xs,h1,h2,h3⟩:=h
 refine⟨dx,tl,xs,sx _ _ (t.ne h1 (by simp)) h1,sx _ _ (t.ne h2 (by simp)) h2,h3.1,fun i p hp=>?_⟩
 obtain⟨x,hx,q,e,hq⟩:=h3.2 i p hp
 exact⟨x,hx,q,e,sx _ _ (t.ne hq (by simp)) hq⟩
def FstT(n:Int)(ps:List (Int × Int))(ls T:List Int):Prop:=ζd n ps T/\∀ W,ζd n ps W->W=T\/pl ls T W
theorem FstT.uniq{n:Int}{ps:List (Int × Int)}{ls T U:List Int}(h1:FstT n ps ls T)(h2:FstT n ps ls U):T=U:=by
 rcases h1.2 U h2.1 with e | e
 ·exact e.symm
 ·rcases h2.2 T h1.1 with f | f
  ·exact f
  ·exact absurd (e.trans f) ζp1
theorem ζT10{n:Int}{ps:List (Int × Int)}{ls U:List Int}(t1:ζd n ps U)(t2:∀ W,ζd n ps W->sumL ls U<=sumL ls W)(t3:∀ W,ζd n ps W->sumL ls U=sumL ls W->HT.lexLt W U=false):FstT n ps ls U:=by
 refine⟨t1,fun W hW=>?_⟩
 by_cases e:W=U
 ·exact .inl e
 ·refine .inr (pl_iff.mpr ?_)
  have h:=t2 W hW
  by_cases c:sumL ls U<sumL ls W
  ·exact .inl c
  ·refine .inr ⟨by omega,?_⟩
   rcases ζb6 U W (by have:=t1.2.1;have:=hW.2.1;omega) (fun h=>e h.symm) with q | q
   ·exact q
   ·rw[t3 W hW (by omega)]at q
    cases q
theorem ζD9{n:Int}{ps:List (Int × Int)}{ls U:List Int}(g:ζy n ps)(hl:ls.length=ps.length)(hU:ζd n (cwT n.toNat ps ls) U)(hm:∀ W,ζd n (cwT n.toNat ps ls) W->HT.lexLt W U=false):FstT n ps ls U:=by
 obtain⟨t1,t2⟩:=(ζz6 g hl).mp hU
 exact ζT10 t1 t2 fun W hW e=>hm W ((ζz6 g hl).mpr ⟨hW,fun V hV=>by have:=t2 V hV;omega⟩)
theorem ζk4(m:Nat)(T:List Int):sumL (List.replicate m 0) T=0:=by
 unfold sumL
 induction T with
 | nil=>rfl
 | cons x T ih =>
  rw[ζζF,ζζ0f,ih]
  show(List.replicate m (0:Int)).getD x.toNat 0+0=0
  rw[ζζi,ζζ1j]
  split <;> rfl
theorem ζR10{n:Int}{ps:List (Int × Int)}{m:Nat}(g:ζy n ps)(h:¬ ((grd n.toNat ps ps.length).length:Int)<n - 1):FstT n ps (List.replicate m 0) (grd n.toNat ps ps.length) :=
 ζT10 (ζ44 g h) (fun W _=>by rw[ζk4,ζk4];exact ζζ0L _) fun W hW _=>ζJ4 g hW
theorem ζJ8{n:Int}{ps:List (Int × Int)}{ls:List Int}{k:Nat}{L M:List (List Int)}(h1:Rkd n ps ls k L)(h2:Rkd n ps ls k M):L=M:=by
 have nd:∀ {R},Rkd n ps ls k R->R.Nodup:=fun h=>h.asc.imp fun q e=>by rw[e]at q;exact ζp1 q
 have key:∀ {L M},Rkd n ps ls k L->Rkd n ps ls k M->∀ W∈L,W∈M:=fun {L M} h1 h2 W hW=>by
  rcases h2.all W (h1.tr W hW) with q | ⟨q1,q2⟩
  ·exact q
  ·refine ζζp fun no=>?_
   by_cases c:∀ T∈M,T∈L
   ·have:=ζQ1 (l:=W :: M) (m:=L) (ζζ0h.mpr ⟨no,nd h2⟩) fun x hx=>(ζζb.mp hx).elim (fun e=>e ▸ hW) (c x)
    rw[ζζq]at this
    have:=h1.few
    omega
   ·obtain⟨T,hT,hn⟩:∃ T,T∈M/\T∉L:=ζζp fun z=>c fun T hT=>ζζp fun hn=>z ⟨T,hT,hn⟩
    have a:=((h1.all T (h2.tr T hT)).resolve_left hn).2 W hW
    exact ζp1 (a.trans (q2 T hT))
 refine List.Perm.eq_of_pairwise (le:=pl ls) (fun a b _ _ x y=>absurd (x.trans y) ζp1) h1.asc h2.asc ?_
 exact(ζζ1F (nd h1) (nd h2)).mpr fun x=>⟨key h1 h2 x,key h2 h1 x⟩
theorem ζL8{n:Int}{ps:List (Int × Int)}{ls U:List Int}{k:Nat}{L:List (List Int)}(hk:0<k)(h:Rkd n ps ls k L)(hU:FstT n ps ls U):L[0]?=some U:=by
 have hm:U∈L:=by
  rcases h.all U hU.1 with q | ⟨q1,q2⟩
  ·exact q
  ·obtain⟨T,hT⟩:∃ T,T∈L:=ζζ2t (by omega)
   rcases hU.2 T (h.tr T hT) with e | e
   ·exact e ▸ hT
   ·exact absurd (e.trans (q2 T hT)) ζp1
 obtain⟨i,hi⟩:=ζζ19 hm
 rcases Nat.eq_zero_or_pos i with z | z
 ·rw[<- z];exact hi
 ·obtain⟨b1,b2⟩:=ζζ4.mp hi
  have:=ζζ03.mp h.asc 0 i (by omega) b1 z
  rw[b2]at this
  rcases hU.2 (L[0]'(by omega)) (h.tr _ (ζζ0K _)) with e | e
  ·rw[ζζ0 (by omega),e]
  ·exact absurd (e.trans this) ζp1
theorem ζm4{ls:List Int}{d:Int}:∀ {T:List Int},(∀ z∈T,0<=z/\z<(ls.length:Int))->sumL (ls.map fun x=>x+d) T=sumL ls T+d * T.length
 | [],_=>by simp[sumL]
 | x :: T,h=>by
  have ih:=ζm4 (d:=d) fun z hz=>h z (ζζk _ hz)
  obtain⟨h0,h1⟩:=h x ζζg
  have e:lnz (ls.map fun x=>x+d) x=lnz ls x+d:=by
   show(ls.map fun x=>x+d).getD x.toNat 0=ls.getD x.toNat 0+d
   rw[ζζi,ζζi,ζζh,ζζ0 (by omega)]
   rfl
  show lnz (ls.map fun x=>x+d) x+sumL (ls.map fun x=>x+d) T=lnz ls x+sumL ls T+d * ((T.length+1:Nat):Int)
  rw[e,ih]
  grind
theorem ζC2{n:Int}{ps:List (Int × Int)}{ls T:List Int}(d:Int)(hl:ls.length=ps.length)(hT:ζd n ps T):sumL (ls.map fun x=>x+d) T=sumL ls T+d * (n - 1):=by
 rw[ζm4 fun z hz=>by rw[hl];exact hT.1.all z hz,hT.2.1]
theorem ζK8{n:Int}{ps:List (Int × Int)}{ls:List Int}{d:Int}{k:Nat}{L:List (List Int)}(hl:ls.length=ps.length)(h:Rkd n ps (ls.map fun x=>x+d) k L):Rkd n ps ls k L:=by
 have key:∀ {T W},ζd n ps T->ζd n ps W->pl (ls.map fun x=>x+d) T W->pl ls T W:=fun hT hW q=>by
  rw[pl_iff,ζC2 d hl hT,ζC2 d hl hW]at q
  rw[pl_iff]
  rcases q with q | q
  ·exact .inl (by omega)
  ·exact .inr ⟨by omega,q.2⟩
 exact⟨h.tr,ζζ1f (fun ha hb q=>key (h.tr _ ha) (h.tr _ hb) q) h.asc,h.few,fun W hW=>(h.all W hW).imp id fun q=>⟨q.1,fun T hT=>key (h.tr T hT) hW (q.2 T hT)⟩⟩
def rkN(ls:List Int)(x:Int):Nat:=(ls.filter fun y=>decide (y<x)).length
theorem ζI11(l:List Int){x y:Int}(h:x<=y):rkN l x<=rkN l y:=by
 unfold rkN
 induction l with
 | nil=>exact ζζ5 _
 | cons a l ih =>
  rw[ζζJ,ζζJ]
  by_cases c:a<x
  ·rw[if_pos (ζζd c),if_pos (ζζd (by omega)),ζζq,ζζq];omega
  ·rw[if_neg (by simpa using c)]
   split
   ·rw[ζζq];omega
   ·exact ih
theorem ζH11{l:List Int}{x y:Int}(h:x<y)(hx:x∈l):rkN l x<rkN l y:=by
 induction l with
 | nil=>cases hx
 | cons a l ih =>
  have:=ζI11 l (Int.le_of_lt h)
  unfold rkN at *
  rw[ζζJ,ζζJ]
  by_cases c:a=x
  ·rw[if_neg (by simp;omega),if_pos (ζζd (by omega)),ζζq];omega
  ·have ih:=ih ((ζζb.mp hx).resolve_left fun e=>c e.symm)
   by_cases c2:a<x
   ·rw[if_pos (ζζd c2),if_pos (ζζd (by omega)),ζζq,ζζq];omega
   ·rw[if_neg (by simpa using c2)]
    split
    ·rw[ζζq];omega
    ·exact ih
def rkL(ls:List Int):List Int:=ls.map fun x=>(rkN ls x:Int)
theorem ζM8{ls:List Int}{z:Int}(h0:0<=z)(h1:z<(ls.length:Int)):lnz (rkL ls) z=(rkN ls (lnz ls z):Int):=by
 show(ls.map fun x=>(rkN ls x:Int)).getD z.toNat 0=(rkN ls (ls.getD z.toNat 0):Int)
 rw[ζζi,ζζi,ζζh,ζζ0 (by omega)]
 rfl
theorem ζJ11{ls:List Int}{o z:Int}(o0:0<=o)(o1:o<(ls.length:Int))(z0:0<=z)(z1:z<(ls.length:Int))(h:lnz ls z<lnz ls o):lnz (rkL ls) z<lnz (rkL ls) o:=by
 rw[ζM8 o0 o1,ζM8 z0 z1]
 have:lnz ls z∈ls:=by
  show ls.getD z.toNat 0∈ls
  rw[ζζi,ζζ0 (by omega)]
  exact ζζ0K _
 have:=ζH11 h this
 omega
theorem ζK5{ls:List Int}:∀ {T:List Int},(∀ z∈T,0<=z/\z<(ls.length:Int))->0<=sumL (rkL ls) T/\sumL (rkL ls) T<=ls.length * T.length
 | [],_=>by simp[sumL]
 | x :: T,h=>by
  obtain⟨i1,i2⟩:=ζK5 fun z hz=>h z (ζζk _ hz)
  obtain⟨h0,h1⟩:=h x ζζg
  have e:=ζM8 h0 h1
  have b:rkN ls (lnz ls x)<=ls.length:=ζζ0n ..
  show 0<=lnz (rkL ls) x+sumL (rkL ls) T/\lnz (rkL ls) x+sumL (rkL ls) T<=ls.length * ((T.length+1:Nat):Int)
  have m:(ls.length:Int) * ((T.length+1:Nat):Int)=ls.length * T.length+ls.length:=by grind
  rw[m]
  omega
def mkL(m:Nat)(T:List Int):List Int:=(rgL m).map fun z=>if z∈T then 1 else 0
theorem ζ69{m:Nat}{T:List Int}{z:Int}(h0:0<=z)(h1:z<(m:Int)):lnz (mkL m T) z=if z∈T then 1 else 0:=by
 show((rgL m).map fun z=>if z∈T then (1:Int) else 0).getD z.toNat 0=_
 have e:=ζa10 (n:=m) (i:=z.toNat) (by omega)
 rw[ζζi,ζζh,e]
 have:((z.toNat:Nat):Int)=z:=by omega
 rw[this]
 rfl
theorem ζu10{m:Nat}{T D:List Int}(hT:IsSet m T)(hDa:D.Pairwise (· < ·))(hD:∀ z,z∈D↔(0<=z/\z<(m:Int))/\z∉T):OrdL (mkL m T) m (D++T):=by
 have hT2:=(isSet_iff.mp hT).2
 have nD:D.Nodup:=hDa.imp fun h e=>by omega
 constructor
 ·refine(ζζ1F (ζζ0c.mpr ⟨nD,hT.nodup,fun a ha b hb e=>((hD a).mp ha).2 (e ▸ hb)⟩) ((ζq4 m).imp fun h e=>by omega)).mpr fun z=>?_
  rw[ζζ9,hD,rgL_mem]
  constructor
  ·rintro(h | h)
   ·exact h.1
   ·exact hT.all z h
  ·intro h
   by_cases c:z∈T
   ·exact .inr c
   ·exact .inl ⟨h,c⟩
 ·have e1:∀ z∈D,lnz (mkL m T) z=0:=fun z hz=>by
   obtain⟨⟨a,b⟩,c⟩:=(hD z).mp hz
   rw[ζ69 a b,if_neg c]
  have e2:∀ z∈T,lnz (mkL m T) z=1:=fun z hz=>by
   obtain⟨a,b⟩:=hT.all z hz
   rw[ζ69 a b,if_pos hz]
  refine ζζX.mpr ⟨ζζ1f (fun {a b} ha hb h=>.inr ⟨by rw[e1 a ha,e1 b hb],h⟩) hDa,ζζ1f (fun {a b} ha hb h=>.inr ⟨by rw[e2 a ha,e2 b hb],h⟩) hT2,fun a ha b hb=>.inl (by rw[e1 a ha,e2 b hb];decide)⟩
theorem ζX7{m:Nat}{T:List Int}:∀ {W:List Int},(∀ z∈W,0<=z/\z<(m:Int))->sumL (mkL m T) W=(W.filter fun z=>decide (z∈T)).length
 | [],_=>rfl
 | x :: W,h=>by
  have ih:=ζX7 (T:=T) fun z hz=>h z (ζζk _ hz)
  obtain⟨h0,h1⟩:=h x ζζg
  show lnz (mkL m T) x+sumL (mkL m T) W=_
  rw[ih,ζ69 h0 h1,ζζJ]
  by_cases c:x∈T
  ·rw[if_pos c,if_pos (ζζd c),ζζq];omega
  ·rw[if_neg c,if_neg (by simpa using c)];omega
theorem ζv10(m:Nat)(T:List Int):(mkL m T).length=m:=by unfold mkL;rw[ζζa,ζM]
theorem ζW10{n:Int}{ps:List (Int × Int)}{T D fs:List Int}(g:ζy n ps)(hT:ζd n ps T)(hDa:D.Pairwise (· < ·))(hD:∀ z,z∈D↔(0<=z/\z<(ps.length:Int))/\z∉T)(hf:fs.Perm (grw n.toNat ps (D++T)))(hF:ζd n ps fs):FstT n ps (mkL ps.length T) fs:=by
 have e:((D++T).filter fun z=>decide (z∉([]:List Int)))=D++T:=ζζ0S.mpr fun z _=>by simp
 have b:=ζn6 (I:=[]) (O:=[]) (ms:=fs) g (ζu10 hT.1 hDa hD) (fun z h=>by cases h) (fun z h=>by cases h) rfl (by
  rw[e,ζζ1G,<- hf.length_eq]
  have:=hF.2.1
  omega) (by rw[e];exact hf) ((isSet_iff.mp hF.1).2.imp fun h=>by omega)
 exact⟨hF,fun W hW=>b.2 W ⟨hW,⟨fun z h=>(by cases h),fun z h=>(by cases h)⟩⟩⟩
theorem ζV10{n:Int}{ps:List (Int × Int)}{T W:List Int}(hT:ζd n ps T)(hW:ζd n ps W):((T.filter fun y=>decide (y∉W)).length:Int)=n - 1 - sumL (mkL ps.length T) W:=by
 rw[ζX7 hW.1.all]
 have l1:(T.filter fun y=>decide (y∈W)).length=(W.filter fun z=>decide (z∈T)).length:=by
  refine List.Perm.length_eq ((ζζ1F (hT.1.nodup.filter _) (hW.1.nodup.filter _)).mpr fun z=>?_)
  rw[ζζm,ζζm]
  exact⟨fun h=>⟨ζζs h.2,ζζd h.1⟩,fun h=>⟨ζζs h.2,ζζd h.1⟩⟩
 have l2:∀ l:List Int,(l.filter fun y=>decide (y∉W)).length+(l.filter fun y=>decide (y∈W)).length=l.length:=fun l=>by
  induction l with
  | nil=>rfl
  | cons a l ih =>
   rw[ζζJ,ζζJ]
   by_cases c:a∈W
   ·rw[if_neg (by simpa using c),if_pos (ζζd c),ζζq,ζζq];omega
   ·rw[if_pos (ζζd c),if_neg (by simpa using c),ζζq,ζζq];omega
 have:=l2 T
 have:=hT.2.1
 omega
end My
namespace My
theorem un1{α:Type}{P:List α->Prop}(h:∀ a,P [a])(l:List α)(e:l.length=1):P l:=by
 obtain⟨a,rfl⟩:=len1 e
 exact h a
theorem un2{α:Type}{P:List α->Prop}(h:∀ a b,P [a,b])(l:List α)(e:l.length=2):P l:=by
 obtain⟨a,b,rfl⟩:=len2 e
 exact h a b
theorem un3{α:Type}{P:List α->Prop}(h:∀ a b c,P [a,b,c])(l:List α)(e:l.length=3):P l:=by
 obtain⟨a,b,c,rfl⟩:=len3 e
 exact h a b c
theorem un4{α:Type}{P:List α->Prop}(h:∀ a b c d,P [a,b,c,d])(l:List α)(e:l.length=4):P l:=by
 obtain⟨a,b,c,d,rfl⟩:=len4 e
 exact h a b c d
end My
namespace My
open PySem L2
def top(i:Nat):Stmt:=PySem.Challenge.pw_spanrow_k95_whole_cheapest_and_papers.main.body.getD i (.Pass ⟨0,0,0,0⟩)
abbrev sζ0:Stmt:=top 14
abbrev sζ1:Stmt:=top 13
abbrev sζ2:Stmt:=ζO10 (top 12) 0
abbrev sζ3:Stmt:=top 15
abbrev sζ4:Stmt:=top 16
abbrev sζ5:Stmt:=top 17
abbrev sζ6:Stmt:=top 18
abbrev sζ7:Stmt:=top 19
abbrev sζ8:Stmt:=top 20
abbrev sζ9:Stmt:=top 21
abbrev sζa:Stmt:=top 22
abbrev sζb:Stmt:=top 23
abbrev sζc:Stmt:=top 24
abbrev sζd:Stmt:=top 25
abbrev sζe:Stmt:=top 27
abbrev sζf:Stmt:=top 28
abbrev sζg:Stmt:=top 29
abbrev sζh:Stmt:=top 30
abbrev sζi:Stmt:=top 31
abbrev sζj:Stmt:=top 32
abbrev sζk:Stmt:=top 33
abbrev sζl:Stmt:=top 35
abbrev sζm:Stmt:=top 36
abbrev sζn:Stmt:=top 37
abbrev sζo:Stmt:=top 38
abbrev sζp:Stmt:=top 39
abbrev sζq:Stmt:=top 41
abbrev sζr:Stmt:=top 42
abbrev sζs:Stmt:=top 44
abbrev sζt:Stmt:=top 45
abbrev sζu:Stmt:=top 46
abbrev sζv:Stmt:=top 50
abbrev sζw:Stmt:=top 51
abbrev sζx:Stmt:=top 52
abbrev sζy:Stmt:=top 53
abbrev sζz:Stmt:=top 55
abbrev sζA:Stmt:=top 56
abbrev sζB:Stmt:=top 57
abbrev sζC:Stmt:=top 58
abbrev sζD:Stmt:=top 59
abbrev sζE:Stmt:=top 60
abbrev sζF:Stmt:=top 61
abbrev sζG:Stmt:=top 62
abbrev sζH:Stmt:=top 63
abbrev sζI:Stmt:=top 64
abbrev sζJ:Stmt:=top 65
structure Adr where
 aζ0:Addr
 dζ0:FuncData
 aζ1:Addr
 dζ1:FuncData
 aζ2:Addr
 dζ2:FuncData
 aζ3:Addr
 dζ3:FuncData
 aζ4:Addr
 dζ4:FuncData
 aζ5:Addr
 dζ5:FuncData
 aζ6:Addr
 dζ6:FuncData
 aζ7:Addr
 dζ7:FuncData
 aζ8:Addr
 dζ8:FuncData
 aζ9:Addr
 dζ9:FuncData
 aζa:Addr
 dζa:FuncData
 aζb:Addr
 dζb:FuncData
 aζc:Addr
 dζc:FuncData
 aζd:Addr
 dζd:FuncData
 aζe:Addr
 dζe:FuncData
 aζf:Addr
 dζf:FuncData
 aζg:Addr
 dζg:FuncData
 aζh:Addr
 dζh:FuncData
 aζi:Addr
 dζi:FuncData
 aζj:Addr
 dζj:FuncData
 aζk:Addr
 dζk:FuncData
 aζl:Addr
 dζl:FuncData
 aζm:Addr
 dζm:FuncData
 aζn:Addr
 dζn:FuncData
 aζo:Addr
 dζo:FuncData
 aζp:Addr
 dζp:FuncData
 aζq:Addr
 dζq:FuncData
 aζr:Addr
 dζr:FuncData
 aζs:Addr
 dζs:FuncData
 aζt:Addr
 dζt:FuncData
 aζu:Addr
 dζu:FuncData
 aζv:Addr
 dζv:FuncData
 aζw:Addr
 dζw:FuncData
 aζx:Addr
 dζx:FuncData
 aζy:Addr
 dζy:FuncData
 aζz:Addr
 dζz:FuncData
 aζA:Addr
 dζA:FuncData
 aζB:Addr
 dζB:FuncData
 aζC:Addr
 dζC:FuncData
 aζD:Addr
 dζD:FuncData
 aζE:Addr
 dζE:FuncData
 aζF:Addr
 dζF:FuncData
 aζG:Addr
 dζG:FuncData
 aζH:Addr
 dζH:FuncData
 aζI:Addr
 dζI:FuncData
 aζJ:Addr
 dζJ:FuncData
 A_Web:Addr
structure Txt (K:PySem.W.Frag) (mg:Str->Option Value) (t:Adr):Prop where
 fζ0:Fun K "is_tie" "is_tie" sζ0 t.aζ0 t.dζ0
 bζ0:Binds K t.dζ0 ["web","number"] []
 mζ0:mg "is_tie"=some (.ref t.aζ0)
 fζ1:Fun K "refuse_bad_web" "refuse_bad_web" sζ1 t.aζ1 t.dζ1
 bζ1:Binds K t.dζ1 ["places","ties"] []
 mζ1:mg "refuse_bad_web"=some (.ref t.aζ1)
 fζ2:Fun K "__init__" "Web.__init__" sζ2 t.aζ2 t.dζ2
 bζ2:Binds K t.dζ2 ["self","places","ties"] []
 fζ3:Fun K "refuse_bad_row" "refuse_bad_row" sζ3 t.aζ3 t.dζ3
 bζ3:Binds K t.dζ3 ["web","numbers"] []
 mζ3:mg "refuse_bad_row"=some (.ref t.aζ3)
 fζ4:Fun K "all_ties" "all_ties" sζ4 t.aζ4 t.dζ4
 bζ4:Binds K t.dζ4 ["web"] []
 mζ4:mg "all_ties"=some (.ref t.aζ4)
 fζ5:Fun K "ties_beside" "ties_beside" sζ5 t.aζ5 t.dζ5
 bζ5:Binds K t.dζ5 ["web","ties"] []
 mζ5:mg "ties_beside"=some (.ref t.aζ5)
 fζ6:Fun K "ties_without" "ties_without" sζ6 t.aζ6 t.dζ6
 bζ6:Binds K t.dζ6 ["ties","left_out"] []
 mζ6:mg "ties_without"=some (.ref t.aζ6)
 fζ7:Fun K "is_set" "is_set" sζ7 t.aζ7 t.dζ7
 bζ7:Binds K t.dζ7 ["web","ties"] []
 mζ7:mg "is_set"=some (.ref t.aζ7)
 fζ8:Fun K "made_set" "made_set" sζ8 t.aζ8 t.dζ8
 bζ8:Binds K t.dζ8 ["web","ties"] []
 mζ8:mg "made_set"=some (.ref t.aζ8)
 fζ9:Fun K "merged_marks" "merged_marks" sζ9 t.aζ9 t.dζ9
 bζ9:Binds K t.dζ9 ["web","marks","ties"] []
 mζ9:mg "merged_marks"=some (.ref t.aζ9)
 fζa:Fun K "piece_marks" "piece_marks" sζa t.aζa t.dζa
 bζa:Binds K t.dζa ["web","ties"] []
 mζa:mg "piece_marks"=some (.ref t.aζa)
 fζb:Fun K "pieces_of" "pieces_of" sζb t.aζb t.dζb
 bζb:Binds K t.dζb ["web","ties"] []
 mζb:mg "pieces_of"=some (.ref t.aζb)
 fζc:Fun K "is_joined" "is_joined" sζc t.aζc t.dζc
 bζc:Binds K t.dζc ["web","ties"] []
 mζc:mg "is_joined"=some (.ref t.aζc)
 fζd:Fun K "refuse_parted" "refuse_parted" sζd t.aζd t.dζd
 bζd:Binds K t.dζd ["web"] []
 mζd:mg "refuse_parted"=some (.ref t.aζd)
 fζe:Fun K "is_tree" "is_tree" sζe t.aζe t.dζe
 bζe:Binds K t.dζe ["web","ties"] []
 mζe:mg "is_tree"=some (.ref t.aζe)
 fζf:Fun K "refuse_no_tree" "refuse_no_tree" sζf t.aζf t.dζf
 bζf:Binds K t.dζf ["web","tree"] []
 mζf:mg "refuse_no_tree"=some (.ref t.aζf)
 fζg:Fun K "grown_tree" "grown_tree" sζg t.aζg t.dζg
 bζg:Binds K t.dζg ["web","inside","order"] []
 mζg:mg "grown_tree"=some (.ref t.aζg)
 fζh:Fun K "least_tree" "least_tree" sζh t.aζh t.dζh
 bζh:Binds K t.dζh ["web"] []
 mζh:mg "least_tree"=some (.ref t.aζh)
 fζi:Fun K "tree_cut" "tree_cut" sζi t.aζi t.dζi
 bζi:Binds K t.dζi ["web","tree","tie"] []
 mζi:mg "tree_cut"=some (.ref t.aζi)
 fζj:Fun K "exchanges_of" "exchanges_of" sζj t.aζj t.dζj
 bζj:Binds K t.dζj ["web","tree"] []
 mζj:mg "exchanges_of"=some (.ref t.aζj)
 fζk:Fun K "exchanged" "exchanged" sζk t.aζk t.dζk
 bζk:Binds K t.dζk ["web","tree","out","into"] []
 mζk:mg "exchanged"=some (.ref t.aζk)
 fζl:Fun K "length_of" "length_of" sζl t.aζl t.dζl
 bζl:Binds K t.dζl ["web","lengths","ties"] []
 mζl:mg "length_of"=some (.ref t.aζl)
 fζm:Fun K "cheapest_web" "cheapest_web" sζm t.aζm t.dζm
 bζm:Binds K t.dζm ["web","lengths"] []
 mζm:mg "cheapest_web"=some (.ref t.aζm)
 fζn:Fun K "cheapest_tree" "cheapest_tree" sζn t.aζn t.dζn
 bζn:Binds K t.dζn ["web","lengths"] []
 mζn:mg "cheapest_tree"=some (.ref t.aζn)
 fζo:Fun K "gains_of" "gains_of" sζo t.aζo t.dζo
 bζo:Binds K t.dζo ["web","lengths","tree"] []
 mζo:mg "gains_of"=some (.ref t.aζo)
 fζp:Fun K "is_cheapest" "is_cheapest" sζp t.aζp t.dζp
 bζp:Binds K t.dζp ["web","lengths","tree"] []
 mζp:mg "is_cheapest"=some (.ref t.aζp)
 fζq:Fun K "differ" "differ" sζq t.aζq t.dζq
 bζq:Binds K t.dζq ["web","one","other"] []
 mζq:mg "differ"=some (.ref t.aζq)
 fζr:Fun K "far_tree" "far_tree" sζr t.aζr t.dζr
 bζr:Binds K t.dζr ["web","tree"] []
 mζr:mg "far_tree"=some (.ref t.aζr)
 fζs:Fun K "first_of" "first_of" sζs t.aζs t.dζs
 bζs:Binds K t.dζs ["web","lengths","order","inside","outside"] []
 mζs:mg "first_of"=some (.ref t.aζs)
 fζt:Fun K "firsts_behind" "firsts_behind" sζt t.aζt t.dζt
 bζt:Binds K t.dζt ["web","lengths","order","taken"] []
 mζt:mg "firsts_behind"=some (.ref t.aζt)
 fζu:Fun K "ranked" "ranked" sζu t.aζu t.dζu
 bζu:Binds K t.dζu ["web","lengths","most"] []
 mζu:mg "ranked"=some (.ref t.aζu)
 fζv:Fun K "is_number" "is_number" sζv t.aζv t.dζv
 bζv:Binds K t.dζv ["word"] []
 mζv:mg "is_number"=some (.ref t.aζv)
 fζw:Fun K "read_number" "read_number" sζw t.aζw t.dζw
 bζw:Binds K t.dζw ["word"] []
 mζw:mg "read_number"=some (.ref t.aζw)
 fζx:Fun K "read_line" "read_line" sζx t.aζx t.dζx
 bζx:Binds K t.dζx ["line","name","many"] []
 mζx:mg "read_line"=some (.ref t.aζx)
 fζy:Fun K "read_web" "read_web" sζy t.aζy t.dζy
 bζy:Binds K t.dζy ["text"] []
 mζy:mg "read_web"=some (.ref t.aζy)
 fζz:Fun K "_law_cell" "_law_cell" sζz t.aζz t.dζz
 bζz:Binds K t.dζz ["script","k"] []
 mζz:mg "_law_cell"=some (.ref t.aζz)
 fζA:Fun K "_law_mixed" "_law_mixed" sζA t.aζA t.dζA
 bζA:Binds K t.dζA ["cell","k"] []
 mζA:mg "_law_mixed"=some (.ref t.aζA)
 fζB:Fun K "_law_draws" "_law_draws" sζB t.aζB t.dζB
 bζB:Binds K t.dζB ["script","start","count","way"] []
 mζB:mg "_law_draws"=some (.ref t.aζB)
 fζC:Fun K "_law_ties" "_law_ties" sζC t.aζC t.dζC
 bζC:Binds K t.dζC ["draws","places","hang"] []
 mζC:mg "_law_ties"=some (.ref t.aζC)
 fζD:Fun K "_law_web" "_law_web" sζD t.aζD t.dζD
 bζD:Binds K t.dζD ["script","most","count"] []
 mζD:mg "_law_web"=some (.ref t.aζD)
 fζE:Fun K "_law_marks" "_law_marks" sζE t.aζE t.dζE
 bζE:Binds K t.dζE ["places","ties","some"] []
 mζE:mg "_law_marks"=some (.ref t.aζE)
 fζF:Fun K "_law_tree_by" "_law_tree_by" sζF t.aζF t.dζF
 bζF:Binds K t.dζF ["places","ties","cell"] []
 mζF:mg "_law_tree_by"=some (.ref t.aζF)
 fζG:Fun K "_law_lengths" "_law_lengths" sζG t.aζG t.dζG
 bζG:Binds K t.dζG ["script","count"] []
 mζG:mg "_law_lengths"=some (.ref t.aζG)
 fζH:Fun K "_law_text" "_law_text" sζH t.aζH t.dζH
 bζH:Binds K t.dζH ["places","ties","lengths"] []
 mζH:mg "_law_text"=some (.ref t.aζH)
 fζI:Fun K "_law_led_down" "_law_led_down" sζI t.aζI t.dζI
 bζI:Binds K t.dζI ["web","lengths","tree","least"] []
 mζI:mg "_law_led_down"=some (.ref t.aζI)
 fζJ:Fun K "law" "law" sζJ t.aζJ t.dζJ
 bζJ:Binds K t.dζJ ["script"] []
 mζJ:mg "law"=some (.ref t.aζJ)
 c_Web:mg "Web"=some (.ref t.A_Web)
 cl_Web:Cls K t.A_Web
 k_Web:Mk K t.A_Web t.aζ2
 n_Web_places:NoAttr K t.A_Web "places"
 n_Web_ties:NoAttr K t.A_Web "ties"
 g_MOST_PLACES:∃ tk,mg "MOST_PLACES"=some (.int 14 tk)
 g_MOST_TIES:∃ tk,mg "MOST_TIES"=some (.int 30 tk)
 g_FIGURES:∃ tk,mg "FIGURES"=some (.str "0123456789" tk)
 g_MOST_FIGURES:∃ tk,mg "MOST_FIGURES"=some (.int 60 tk)
 n_any:mg "any"=none
 n_enumerate:mg "enumerate"=none
 n_int:mg "int"=none
 n_len:mg "len"=none
 n_list:mg "list"=none
 n_max:mg "max"=none
 n_min:mg "min"=none
 n_range:mg "range"=none
 n_set:mg "set"=none
 n_sorted:mg "sorted"=none
 n_str:mg "str"=none
 n_sum:mg "sum"=none
 n_tuple:mg "tuple"=none
 n_zip:mg "zip"=none
end My
namespace My
open PySem L2 PyProof.Rows
set_option maxHeartbeats 4000000
section
variable{P:Program}{w:World}{K:PySem.W.Frag}{mg:Str->Option Value}{base:Heap}{t:Adr}
def spζ0(C:Addr):Sp:=fun vs H Q _=>∃(w:Addr) (n:Int) (ps:List (Int × Int)) (k:Int),vs=[.ref w,.int k]/\WebAt C H w n ps/\Q (.bl (decide (0<=k/\k<(ps.length:Int)))) H
theorem scζ0:FnScope ["web","number"] ["web","number"] (ζ5 sζ0):=⟨rfl,rfl,rfl,by decide +kernel,rfl,by decide +kernel,by decide +kernel⟩
theorem okζ0 (T:Txt K mg t):FnOk P w K mg base CX0 1 t.aζ0 t.dζ0 ["web","number"] (spζ0 t.A_Web):=by
 refine T.fζ0.ok scζ0 (fun vs H Q E h=>?_) (fun cdv A outer s H vs Q E hr h=>?_)
 ·obtain⟨w,n,ps,k,rfl,_⟩:=h
  rfl
 ·obtain⟨w,n,ps,k,rfl,⟨dx,tl,xs,h1,h2,h3⟩,q⟩:=h
  refine⟨_,(ζ7 (ζl (ζW8 ζR7 ζQ7 ζ8 (pv 1) (ζf (ζi K) (by rfl) T.n_len Boot.«len» (ζ0 (ζ51 K (pv 0) rfl) ζ3))))),?_⟩
  refine⟨_,rfl,_,_,rfl,rfl,_,rfl,?_⟩
  refine ite2 (fun hc=>?_) (fun hc=>?_)
  ·refine⟨_,rfl,w,_,dx,_,_,rfl,h1,T.cl_Web,T.n_Web_ties,ζy1 _ _,tl,xs,rfl,.inl (SqL.of h2),_,_,rfl,rfl,?_⟩
   have hc:=ζζs hc
   show Q (.bl (decide (k<(xs.length:Int)))) H
   rw[h3.1,show decide (k<(ps.length:Int))=decide (0<=k/\k<(ps.length:Int)) from by simp[hc]]
   exact q
  ·have hc:¬ (0<=k):=fun z=>hc (ζζd z)
   show Q (.bl false) H
   rw[show(false:Bool)=decide (0<=k/\k<(ps.length:Int)) from by simp;omega]
   exact q
def spζ1(K:PySem.W.Frag):Sp:=fun vs H Q _=>∃(n:Int) (a:Addr) (kd:Bool) (xs:List V) (ps:List (Int × Int)),vs=[.int n,.ref a]/\SqK kd K H a xs/\PairsV H xs ps/\ζy n ps/\Q .non H
theorem scζ1:FnScope ["places","ties","ends","end"] ["places","ties"] (ζ5 sζ1):=⟨rfl,rfl,rfl,by decide +kernel,rfl,by decide +kernel,by decide +kernel⟩
theorem okζ1 (T:Txt K mg t):FnOk P w K mg base CX0 1 t.aζ1 t.dζ1 ["places","ties"] (spζ1 K):=by
 refine T.fζ1.ok scζ1 (fun vs H Q E h=>?_) (fun cdv A outer s H vs Q E hr h=>?_)
 ·obtain⟨n,a,kd,xs,ps,rfl,_⟩:=h
  rfl
 ·obtain⟨n,a,kd,xs,ps,rfl,hS,hp,⟨g1,g2,g3,g4⟩,q⟩:=h
  refine⟨_,(ζ2 (ζh1 (ζr2 (ζP3 ζR7 ζR7 ζ8 (pv 0) (ζv4 (v:=V.int 14) rfl T.g_MOST_PLACES.choose_spec ⟨_,rfl⟩)))
   (ζ7 ζ11)
   ζo)
   (ζ2 (ζh1 (ζj ζX8 (ζf (ζi K) (by rfl) T.n_len Boot.«len» (ζ0 (pv 1) ζ3)) (ζv4 (v:=V.int 30) rfl T.g_MOST_TIES.choose_spec ⟨_,rfl⟩) (ζq _))
   (ζ7 ζ11)
   ζo)
   (ζ7 (ζ41 ζζP rfl (ζR1 K (pv 1)) (ζe (i:=2) scζ1.nd rfl (Or.inl rfl))
   (ζ7 (ζ41 ζζP rfl (ζt4 K (pv 2)) (ζe (i:=3) scζ1.nd rfl (Or.inl rfl))
   (ζ7 (ζh1 (ζr2 (ζP3 ζR7 ζQ7 ζ8 (pv 3) (pv 0)))
   (ζ7 ζ11)
   ζo)))))))),?_⟩
  refine⟨_,rfl,_,_,rfl,rfl,_,rfl,?_⟩
  refine itd g1 ?_
  refine⟨_,_,rfl,rfl,_,rfl,?_⟩
  refine itn g2 ?_
  refine⟨_,rfl,a,xs,rfl,hS.or,_,_,rfl,rfl,_,rfl,?_⟩
  refine itdn (by rw[hp.1];omega) ?_
  refine⟨_,rfl,a,rfl,ζw3 (k:=kd) (K:=K) (xs:=xs) (fun i σ H2=>∃ v v2,σ=[some (.int n),some (.ref a),v,v2]/\H2=H) ⟨none,none,rfl,rfl⟩ (fun i σ H2 _ ⟨_,_,_,e⟩=>e ▸ hS) ?_ ?_⟩
  ·rintro i x σ H2 hi ⟨v,v2,rfl,rfl⟩
   obtain⟨p,hpi,tt,rfl,ht⟩:=hp.at hi
   obtain⟨e1,e2,e3,e4⟩:=g4 p (ζζe hpi)
   refine⟨_,rfl,tt,rfl,⟨_,SqT.of ht⟩,ζu6 (K:=K) (a:=tt) (xs:=[.int p.1,.int p.2]) (fun j σ H3=>∃ v v2,σ=[some (.int n),some (.ref a),v,v2]/\H3=H2) ⟨_,_,rfl,rfl⟩ (fun j σ H3 _ ⟨_,_,_,e⟩=>e ▸ SqT.of ht) ?_ ?_⟩
   ·rintro j y σ H3 hj ⟨v,v2,rfl,rfl⟩
    have hy:∃ z:Int,y=.int z/\0<=z/\z<n:=by
     match j,hj with
     | 0,hj=>exact⟨p.1,(ζζ8 hj).symm,e1,e2⟩
     | 1,hj=>exact⟨p.2,(ζζ8 hj).symm,e3,e4⟩
    obtain⟨z,rfl,z1,z2⟩:=hy
    refine⟨_,rfl,_,_,rfl,rfl,_,rfl,?_⟩
    refine itd z1 ?_
    refine⟨_,rfl,_,_,rfl,rfl,_,rfl,?_⟩
    refine itn z2 ?_
    exact⟨_,_,rfl,rfl⟩
   ·rintro σ H3 ⟨v,v2,rfl,rfl⟩
    exact⟨_,_,rfl,rfl⟩
  ·rintro σ H2 ⟨v,v2,rfl,rfl⟩
   exact q
def ζ65(K:PySem.W.Frag)(C:Addr):Sp:=fun vs H Q _=>∃(w dx:Addr) (n:Int) (a:Addr) (kd:Bool) (xs:List V) (ps:List (Int × Int)),vs=[.ref w,.int n,.ref a]/\H w=some (.ins C dx [])/\(∀ o,SqK kd K (upd H w o) a xs)/\PairsV H xs ps/\ζy n ps /\
 ∀ H':Hp,WebAt C H' w n ps->(∀ b o,H b=some o->b≠w->H' b=some o)->Q .non H'
theorem scζ2:FnScope ["self","places","ties"] ["self","places","ties"] (ζ5 sζ2):=⟨rfl,rfl,rfl,by decide +kernel,rfl,by decide +kernel,by decide +kernel⟩
theorem okζ2 (T:Txt K mg t):FnOk P w K mg base CX0 2 t.aζ2 t.dζ2 ["self","places","ties"] (ζ65 K t.A_Web):=by
 refine T.fζ2.ok scζ2 (fun vs H Q E h=>?_) (fun cdv A outer s H vs Q E hr h=>?_)
 ·obtain⟨w,dx,n,a,kd,xs,ps,rfl,_⟩:=h
  rfl
 ·obtain⟨w,dx,n,a,kd,xs,ps,rfl,hw,hS,hp,g,q⟩:=h
  have eH:upd H w (.ins t.A_Web dx [])=H:=by
   funext b
   by_cases hb:b=w
   ·subst hb;rw[ζ1,hw]
   ·rw[ζ9 hb]
  have hS0:SqK kd K H a xs:=by have z:=hS (.ins t.A_Web dx []);rw[eH]at z;exact z
  refine⟨_,(ζ2 (ζC (ζa (okζ1 T) (hr.mono (by decide)) rfl T.mζ1 T.fζ1.kp T.bζ1 .nil ζw (ζ0 (pv 1) (ζ0 (pv 2) ζ3))))
   (ζ2 (ζg10 (pv 0) (pv 1) rfl)
   (ζ7 (ζg10 (pv 0) (ζu4 rfl (sc0:=ζ5 sζ2) (N0:=["self","places","ties"]) (N':=["ends"]) (o:=1) (fr:=[]) ⟨rfl,by decide +kernel,by decide +kernel,by decide +kernel,rfl,by decide +kernel⟩ (ζR1 K (pv 2)) (ζB (by decide)) (fun _ _ _ _=>(ζe (i:=0) (show List.Nodup (["ends"]:List Str) by decide +kernel) rfl (Or.inl rfl))) (fun _ _ _ _=>ζP) (fun _ _ _ _=>(ζV (ζ0 (ζA (ζE K) (pv 0) ζ8 (fun _ _=>rfl)) (ζ0 (ζA (ζE K) (pv 0) ζ8 (fun _ _=>rfl)) ζ3))))) rfl)))),?_⟩
  refine⟨_,rfl,_,rfl,n,a,kd,xs,ps,rfl,hS0,hp,g,?_⟩
  refine⟨_,rfl,_,rfl,w,_,dx,[],rfl,hw,T.cl_Web,T.n_Web_places,(by show 0<1000;decide),?_⟩
  have hp1:PairsV (upd H w (.ins t.A_Web dx (putF "places" (.int n) []))) xs ps:=⟨hp.1,fun i p e=>by
   obtain⟨v,e1,tt,e2,e3⟩:=hp.2 i p e
   exact⟨v,e1,tt,e2,by rw[ζ9 (ζr5 e3 hw (fun z=>nomatch z))];exact e3⟩⟩
  have sx:xs.length<sizeLine:=ζk (by rw[hp.1];have:=g.2.2.1;omega)
  refine⟨_,rfl,a,rfl,ζi9 (k:=kd) (K:=K) (xs:=xs) (fun i ys H2=>i<=xs.length/\ys.length=i/\Same (upd H w (.ins t.A_Web dx (putF "places" (.int n) []))) H2/\PairsV H2 ys (ps.take i)) ⟨ζζj _,rfl,Same.refl _,PairsV.nil⟩ sx
   (fun i ys H2 _ ⟨_,hl,s2,_⟩=>⟨(hS _).same s2,Nat.le_of_eq hl⟩) ?_ ?_⟩
  ·rintro i x ys H2 hi ⟨h1,hl,s2,hy⟩ S hSS
   obtain⟨p,hpi,tt,rfl,ht⟩:=hp1.at hi
   have ht2:=s2 _ _ ht
   refine nmY ?_
   refine⟨_,rfl,tt,_,0,.int p.1,rfl,rfl,SqT.of ht2,rfl,_,rfl,tt,_,1,.int p.2,rfl,rfl,SqT.of ht2,rfl,(by show 2<=sizeLine;decide),fun q hq=>?_⟩
   have hil:i<xs.length:=(ζζ4.mp hi).1
   refine hSS _ _ ⟨hil,by rw[ζζ6,hl];rfl,ζn s2 hq,?_⟩
   rw[ζζK,hpi]
   exact(hy.same (same_at hq)).snoc ⟨q,rfl,ζ1⟩
  ·rintro ys H2 ⟨_,hl,s2,hy⟩ tl htl
   have hw2:=s2 w _ ζ1
   have nwt:w≠tl:=ζb hw2 htl
   refine⟨_,rfl,w,_,dx,_,rfl,(by rw[ζ9 nwt];exact hw2),T.cl_Web,T.n_Web_ties,(by show 1<1000;decide),?_⟩
   refine q _ ⟨dx,tl,ys,ζ1,by rw[ζ9 (ζζY nwt),ζ1],?_⟩ fun b ob e hb=>?_
   ·have e1:ps.take xs.length=ps:=ζζ06 (by rw[hp.1];exact ζζ5 _)
    rw[e1]at hy
    refine⟨hy.1,fun i p e=>?_⟩
    obtain⟨v,e2,tt,e3,e4⟩:=hy.2 i p e
    exact⟨v,e2,tt,e3,by rw[ζ9 (ζr5 e4 hw2 (fun z=>nomatch z)),ζ9 (ζb e4 htl)];exact e4⟩
   ·have e2:=s2 b ob (by rw[ζ9 hb];exact e)
    rw[ζ9 hb,ζ9 (ζb e2 htl)]
    exact e2
def spζ3(K:PySem.W.Frag)(C:Addr):Sp:=fun vs H Q _=>∃(w a:Addr) (n:Int) (ps:List (Int × Int)) (kd:Bool) (ws:List Int),vs=[.ref w,.ref a]/\WebAt C H w n ps/\SqK kd K H a (IL ws) /\
 (ws.length=ps.length->Q .non H)/\(ws.length≠ps.length->False)
theorem scζ3:FnScope ["web","numbers"] ["web","numbers"] (ζ5 sζ3):=⟨rfl,rfl,rfl,by decide +kernel,rfl,by decide +kernel,by decide +kernel⟩
theorem okζ3 (T:Txt K mg t):FnOk P w K mg base CX0 1 t.aζ3 t.dζ3 ["web","numbers"] (spζ3 K t.A_Web):=by
 refine T.fζ3.ok scζ3 (fun vs H Q E h=>?_) (fun cdv A outer s H vs Q E hr h=>?_)
 ·obtain⟨w,a,n,ps,kd,ws,rfl,_⟩:=h
  rfl
 ·obtain⟨w,a,n,ps,kd,ws,rfl,⟨dx,tl,xs,h1,h2,h3⟩,hS,q,qe⟩:=h
  refine⟨_,(ζ7 (ζh1 (ζj ζ95 (ζf (ζi K) (by rfl) T.n_len Boot.«len» (ζ0 (pv 1) ζ3)) (ζf (ζi K) (by rfl) T.n_len Boot.«len» (ζ0 (ζ51 K (pv 0) rfl) ζ3)) (ζq _))
   (ζ7 ζ11)
   ζo)),?_⟩
  have hl:=h3.1
  refine⟨_,rfl,a,_,rfl,hS.or,_,rfl,w,_,dx,_,_,rfl,h1,T.cl_Web,T.n_Web_ties,ζy1 _ _,tl,xs,rfl,.inl (SqL.of h2),rfl,_,rfl,?_⟩
  rw[ζI,ζ4]
  refine itn2 (fun hc=>?_) (fun hc=>?_)
  ·exact q (by omega)
  ·exact qe (by omega)
def spζ4(K:PySem.W.Frag)(C:Addr):Sp:=fun vs H Q _=>∃(w:Addr) (n:Int) (ps:List (Int × Int)),vs=[.ref w]/\WebAt C H w n ps/\ps.length<=1000 /\
 ∀(r:Addr) (H':Hp),Same H H'->H r=none->H' r=some (.tup (IL (rgL ps.length)))->Q (.ref r) H'
theorem scζ4:FnScope ["web"] ["web"] (ζ5 sζ4):=⟨rfl,rfl,rfl,by decide +kernel,rfl,by decide +kernel,by decide +kernel⟩
theorem okζ4 (T:Txt K mg t):FnOk P w K mg base CX0 1 t.aζ4 t.dζ4 ["web"] (spζ4 K t.A_Web):=by
 refine T.fζ4.ok scζ4 (fun vs H Q E h=>?_) (fun cdv A outer s H vs Q E hr h=>?_)
 ·obtain⟨w,n,ps,rfl,_⟩:=h
  rfl
 ·obtain⟨w,n,ps,rfl,⟨dx,tl,xs,h1,h2,h3⟩,hl,q⟩:=h
  refine⟨_,(ζ7 (ζl (ζg (ζ03 rfl) (by rfl) T.n_tuple Boot.«tuple» (ζ0 (ζg ζG1 (by rfl) T.n_range Boot.«range» (ζ0 (ζf (ζi K) (by rfl) T.n_len Boot.«len» (ζ0 (ζ51 K (pv 0) rfl) ζ3)) ζ3)) ζ3)))),?_⟩
  have hx:=h3.1
  refine⟨_,rfl,w,_,dx,_,_,rfl,h1,T.cl_Web,T.n_Web_ties,ζy1 _ _,tl,xs,rfl,.inl (SqL.of h2),_,rfl,fun r hr=>⟨r,0,_,rfl,ζ1,⟨by decide,by decide,by omega,by omega⟩,by omega,fun l hl=>?_⟩⟩
  refine q l _ (ζn (same_at hr) hl) ((same_at hr).free hl) ?_
  rw[ζ1,hx,ζI8]
def spζ5(K:PySem.W.Frag)(C:Addr):Sp:=fun vs H Q _=>∃(w a:Addr) (n:Int) (ps:List (Int × Int)) (kd:Bool) (T:List Int),vs=[.ref w,.ref a]/\WebAt C H w n ps/\ps.length<=1000/\SqK kd K H a (IL T) /\
 ∀(D:List Int),D.Pairwise (· < ·)->(∀ z,z∈D↔(0<=z/\z<(ps.length:Int))/\z∉T)->∀(r:Addr) (H':Hp),Same H H'->H' r=some (.tup (IL D))->Q (.ref r) H'
theorem scζ5:FnScope ["web","ties"] ["web","ties"] (ζ5 sζ5):=⟨rfl,rfl,rfl,by decide +kernel,rfl,by decide +kernel,by decide +kernel⟩
theorem okζ5 (T:Txt K mg t):FnOk P w K mg base CX0 1 t.aζ5 t.dζ5 ["web","ties"] (spζ5 K t.A_Web):=by
 refine T.fζ5.ok scζ5 (fun vs H Q E h=>?_) (fun cdv A outer s H vs Q E hr h=>?_)
 ·obtain⟨w,a,n,ps,kd,T,rfl,_⟩:=h
  rfl
 ·obtain⟨w,a,n,ps,kd,T',rfl,hW,hl,hA,q⟩:=h
  refine⟨_,(ζ7 (ζl (ζg (ζJ K) (by rfl) T.n_tuple Boot.«tuple» (ζ0 (ζu4 rfl (sc0:=ζ5 sζ5) (N0:=["web","ties"]) (N':=["tie","ties"]) (o:=1) (fr:=[1]) ⟨rfl,by decide +kernel,by decide +kernel,by decide +kernel,rfl,by decide +kernel⟩ (ζH rfl T.n_range (ζ0 (ζf (ζi K) (by rfl) T.n_len Boot.«len» (ζ0 (ζ51 K (pv 0) rfl) ζ3)) ζ3)) (ζB (by decide)) (fun _ _ _ _=>(ζe (i:=0) (show List.Nodup (["tie","ties"]:List Str) by decide +kernel) rfl (Or.inl rfl))) (fun _ _ _ _=>(ζ72 (ζj (ζq1 K) (pv 0) (pv 1) rfl))) (fun _ _ _ _=>(pv 0))) ζ3)))),?_⟩
  obtain⟨dx,tl,xs,h1,h2,h3⟩:=hW
  have hlx:=h3.1
  refine⟨_,rfl,w,_,dx,_,_,rfl,h1,T.cl_Web,T.n_Web_ties,ζy1 _ _,tl,xs,rfl,.inl (SqL.of h2),_,rfl,by omega,by omega,ζQ2 (lo:=0) (n:=(xs.length:Int).toNat) (fun j ys H3=>H3=H/\∃ D:List Int,ys=IL D/\D.length<=j/\D.Pairwise (· < ·)/\∀ z,z∈D↔(0<=z/\z<(j:Int))/\z∉T') ⟨rfl,[],rfl,ζζ5 _,.nil,fun z=>⟨fun h=>(by cases h),fun h=>(by omega)⟩⟩ (ζk (by omega)) (fun j ys H3 _ ⟨_,D,e,hl,_⟩=>by rw[e,ζ4];exact hl) ?_ ?_⟩
  ·rintro j ys H3 hj ⟨rfl,D,rfl,hDl,hp,hm⟩ S hSS
   have lt:∀ z∈D,z<(j:Int):=fun z hz=>((hm z).mp hz).1.2
   refine nm ?_
   refine⟨_,rfl,_,rfl,a,_,rfl,hA.or,rfl,ζd1 _,_,rfl,?_⟩
   rw[ζx1,Int.zero_add]
   refine itn2 (fun hin=>?_) (fun hin=>?_)
   ·refine hSS _ _ ⟨rfl,D,rfl,by omega,hp,fun z=>?_⟩
    rw[hm z]
    refine⟨fun h=>⟨by omega,h.2⟩,fun h=>⟨⟨h.1.1,?_⟩,h.2⟩⟩
    by_cases e:z=(j:Int)
    ·exact absurd (e ▸ hin) h.2
    ·omega
   ·refine⟨_,rfl,hSS _ _ ⟨rfl,D++[(j:Int)],?_,by rw[ζζ6];exact Nat.succ_le_succ hDl,?_,fun z=>?_⟩⟩
    ·rw[ζF]
    ·exact ζζX.mpr ⟨hp,ζζZ _ _,fun a ha b hb=>by rw[ζζ1.mp hb];exact lt a ha⟩
    ·rw[ζζ9,ζζ1,hm z]
     constructor
     ·rintro(⟨f1,f2⟩ | h)
      ·exact⟨by omega,f2⟩
      ·rw[h]
       exact⟨by omega,hin⟩
     ·rintro⟨f1,f2⟩
      by_cases e:z=(j:Int)
      ·exact .inr e
      ·exact .inl ⟨by omega,f2⟩
  rintro ys H3 ⟨rfl,D,rfl,hDl,hp,hm⟩ la hla
  rw[show(((xs.length:Int).toNat:Nat):Int)=(ps.length:Int) by omega]at hm
  refine⟨la,_,rfl,.inl ⟨SqL.of ζ1,fun tp htp=>?_⟩⟩
  exact q D hp hm tp _ ((same_at hla).trans (same_at htp)) ζ1
def spζ6(K:PySem.W.Frag):Sp:=fun vs H Q _=>∃(a:Addr) (kd:Bool) (ns:List Int) (z:Int),vs=[.ref a,.int z]/\SqK kd K H a (IL ns)/\ns.length<=1000 /\
 ∀(r:Addr) (H':Hp),Same H H'->H r=none->H' r=some (.tup (IL (wo ns z)))->Q (.ref r) H'
theorem scζ6:FnScope ["ties","left_out"] ["ties","left_out"] (ζ5 sζ6):=⟨rfl,rfl,rfl,by decide +kernel,rfl,by decide +kernel,by decide +kernel⟩
theorem okζ6 (T:Txt K mg t):FnOk P w K mg base CX0 1 t.aζ6 t.dζ6 ["ties","left_out"] (spζ6 K):=by
 refine T.fζ6.ok scζ6 (fun vs H Q E h=>?_) (fun cdv A outer s H vs Q E hr h=>?_)
 ·obtain⟨a,kd,ns,z,rfl,_⟩:=h
  rfl
 ·obtain⟨a,kd,ns,z,rfl,hS,hn,q⟩:=h
  refine⟨_,(ζ7 (ζl (ζg (ζJ K) (by rfl) T.n_tuple Boot.«tuple» (ζ0 (ζu4 rfl (sc0:=ζ5 sζ6) (N0:=["ties","left_out"]) (N':=["tie","left_out"]) (o:=1) (fr:=[1]) ⟨rfl,by decide +kernel,by decide +kernel,by decide +kernel,rfl,by decide +kernel⟩ (ζR1 K (pv 0)) (ζB (by decide)) (fun _ _ _ _=>(ζe (i:=0) (show List.Nodup (["tie","left_out"]:List Str) by decide +kernel) rfl (Or.inl rfl))) (fun _ _ _ _=>(ζ72 (ζj ζ95 (pv 0) (pv 1) (ζq _)))) (fun _ _ _ _=>(pv 0))) ζ3)))),?_⟩
  refine⟨_,rfl,a,rfl,ζi9 (k:=kd) (K:=K) (xs:=IL ns) (fun i ys H2=>H2=H/\i<=ns.length/\ys=IL (wo (ns.take i) z)) ⟨rfl,ζζj _,rfl⟩ (ζk (by rw[ζ4];omega))
   (fun i ys H2 hi ⟨e,hi2,ey⟩=>⟨e ▸ hS,by rw[ey,ζ4];exact ζζO (ζP6 _ _) (by rw[ζζv];omega)⟩) ?_ ?_⟩
  ·rintro i x ys H2 hi ⟨rfl,hil,rfl⟩ S hSS
   obtain⟨y,rfl,hy⟩:=ζa1 hi
   have hil':i<ns.length:=(ζζ4.mp hy).1
   refine nm ?_
   refine⟨_,rfl,_,rfl,rfl,_,rfl,?_⟩
   rw[ζI]
   refine itn2 (fun he=>?_) (fun he=>?_)
   ·refine hSS _ _ ⟨rfl,hil',?_⟩
    rw[ζ32 hy,if_neg (by simpa using he),ζζ04]
   ·refine⟨_,rfl,hSS _ _ ⟨rfl,hil',?_⟩⟩
    rw[ζ32 hy,if_pos he,ζF]
  ·rintro ys H2 ⟨rfl,_,rfl⟩ p hp
   rw[ζ4,ζζH]
   refine⟨p,_,rfl,.inl ⟨SqL.of ζ1,fun r hr=>?_⟩⟩
   exact q r _ (ζn (same_at hp) hr) ((same_at hp).free hr) ζ1
def spζ7(K:PySem.W.Frag)(C:Addr):Sp:=fun vs H Q _=>∃(w a:Addr) (n:Int) (ps:List (Int × Int)) (kd:Bool) (ns:List Int),vs=[.ref w,.ref a]/\WebAt C H w n ps/\SqK kd K H a (IL ns)/\∀ b:Bool,(b=true↔IsSet ps.length ns)->Q (.bl b) H
theorem scζ7:FnScope ["web","ties","last","tie"] ["web","ties"] (ζ5 sζ7):=⟨rfl,rfl,rfl,by decide +kernel,rfl,by decide +kernel,by decide +kernel⟩
theorem okζ7 (T:Txt K mg t):FnOk P w K mg base CX0 2 t.aζ7 t.dζ7 ["web","ties"] (spζ7 K t.A_Web):=by
 refine T.fζ7.ok scζ7 (fun vs H Q E h=>?_) (fun cdv A outer s H vs Q E hr h=>?_)
 ·obtain⟨w,a,n,ps,kd,ns,rfl,_⟩:=h
  rfl
 ·obtain⟨w,a,n,ps,kd,ns,rfl,hW,hS,q⟩:=h
  refine⟨_,(ζ2 (ζh (i:=2) scζ7.nd rfl (Or.inl rfl) (ζI12 ζs11 ζ8))
   (ζ2 (ζ41 ζζP rfl (ζR1 K (pv 1)) (ζe (i:=3) scζ7.nd rfl (Or.inl rfl))
   (ζ2 (ζh1 (PW.pt (ζ17 (ζj ζR7 (pv 3) (pv 2) (ζq _)) (ζe3 (ζr2 (ζ82 (ζa (okζ0 T) (hr.mono (by decide)) rfl T.mζ0 T.fζ0.kp T.bζ0 .nil ζw (ζ0 (pv 0) (ζ0 (pv 3) ζ3))))))))
   (ζ7 (ζl ζw4))
   ζo)
   (ζ7 (ζh (i:=2) scζ7.nd rfl (Or.inl rfl) (pv 3)))))
   (ζ7 (ζl ζw4)))),?_⟩
  refine⟨_,rfl,?_⟩
  refine⟨_,rfl,a,rfl,ζw3 (k:=kd) (K:=K) (xs:=IL ns) (fun i σ H2=>∃(l:Int) (v:Option V),σ=[some (.ref w),some (.ref a),some (.int l),v]/\H2=H/\(i=0->l=-1)/\(i≠0->ns[i - 1]?=some l)/\∀ j z,j<i->ns[j]?=some z->0<=z/\z<(ps.length:Int)/\∀ y,j≠0->ns[j - 1]?=some y->y<z)
   ⟨-1,none,rfl,rfl,fun _=>rfl,fun z=>absurd rfl z,fun j z hj=>absurd hj (ζζ0G j)⟩ (fun i σ H2 _ ⟨_,_,_,e,_⟩=>e ▸ hS) ?_ ?_⟩
  ·rintro i x σ H2 hi ⟨l,v,rfl,rfl,hl0,hl1,hp⟩
   obtain⟨z,rfl,hz⟩:=ζa1 hi
   refine⟨_,rfl,_,rfl,_,_,rfl,rfl,_,rfl,?_⟩
   refine itd2 (fun hc=>?_) (fun hc=>?_)
   ·-- tie<=last
    refine iteT ?_
    refine q false ⟨fun z=>(nomatch z),fun hs=>?_⟩
    obtain⟨b1,b2,b3⟩:=hs i z hz
    by_cases h0:i=0
    ·have:=hl0 h0;omega
    ·have:=b3 l h0 (hl1 h0);omega
   ·refine⟨_,rfl,_,rfl,w,n,ps,z,rfl,hW,_,rfl,?_⟩
    refine itn2 (fun hc2=>?_) (fun hc2=>?_)
    ·refine⟨_,rfl,?_⟩
     refine⟨z,_,rfl,rfl,fun e=>(nomatch e),fun _=>by simpa using hz,fun j y hj ey=>?_⟩
     by_cases hji:j<i
     ·exact hp j y hji ey
     ·have e:j=i:=by omega
      subst e
      rw[hz]at ey
      cases ey
      refine⟨hc2.1,hc2.2,fun y h0 ey=>?_⟩
      rw[hl1 h0]at ey
      cases ey
      omega
    ·refine q false ⟨fun z=>(nomatch z),fun hs=>?_⟩
     obtain⟨b1,b2,b3⟩:=hs i z hz
     exact absurd ⟨b1,b2⟩ hc2
  ·rintro σ H2 ⟨l,v,rfl,rfl,hl0,hl1,hp⟩
   refine q true ⟨fun _ i z hz=>?_,fun _=>rfl⟩
   have hi:i<(IL ns).length:=by rw[ζ4];exact(ζζ4.mp hz).1
   exact hp i z hi hz
def spζ8(K:PySem.W.Frag)(C:Addr):Sp:=fun vs H Q _=>∃(w a:Addr) (n:Int) (ps:List (Int × Int)) (kd:Bool) (ns:List Int),vs=[.ref w,.ref a]/\WebAt C H w n ps/\SqK kd K H a (IL ns)/\IsSet ps.length ns /\
 ∀(r:Addr) (H':Hp),Same H H'->SqT K H' r (IL ns)->Q (.ref r) H'
theorem scζ8:FnScope ["web","ties"] ["web","ties"] (ζ5 sζ8):=⟨rfl,rfl,rfl,by decide +kernel,rfl,by decide +kernel,by decide +kernel⟩
theorem okζ8 (T:Txt K mg t):FnOk P w K mg base CX0 3 t.aζ8 t.dζ8 ["web","ties"] (spζ8 K t.A_Web):=by
 refine T.fζ8.ok scζ8 (fun vs H Q E h=>?_) (fun cdv A outer s H vs Q E hr h=>?_)
 ·obtain⟨w,a,n,ps,kd,ns,rfl,_⟩:=h
  rfl
 ·obtain⟨w,a,n,ps,kd,ns,rfl,hW,hS,hI,q⟩:=h
  refine⟨_,(ζ2 (ζh1 (ζr2 (ζ82 (ζa (okζ7 T) (hr.mono (by decide)) rfl T.mζ7 T.fζ7.kp T.bζ7 .nil ζw (ζ0 (pv 0) (ζ0 (pv 1) ζ3)))))
   (ζ7 ζ11)
   ζo)
   (ζ7 (ζl (ζg (ζJ K) (by rfl) T.n_tuple Boot.«tuple» (ζ0 (pv 1) ζ3))))),?_⟩
  refine⟨_,rfl,_,rfl,w,a,n,ps,kd,ns,rfl,hW,hS,fun b hb=>⟨_,rfl,?_⟩⟩
  refine itnb (fun _=>?_) (fun z=>?_)
  ·refine⟨_,rfl,a,IL ns,rfl,?_⟩
   cases kd with
   | false=>exact .inl ⟨hS,fun l hl=>q l _ (same_at hl) (SqT.of ζ1)⟩
   | true=>exact .inr ⟨hS,q a H (Same.refl H) hS⟩
  ·rw[hb.mpr hI]at z
   cases z
def spζ9(K:PySem.W.Frag)(C:Addr):Sp:=fun vs H Q _=>∃(w m a:Addr) (n:Int) (ps:List (Int × Int)) (M:List Int) (kd:Bool) (ns:List Int),vs=[.ref w,.ref m,.ref a]/\WebAt C H w n ps/\ζy n ps/\H m=some (.lst (IL M))/\M.length=n.toNat/\SqK kd K H a (IL ns)/\(∀ z∈ns,0<=z/\z<(ps.length:Int)) /\
 ∀(m':Addr) (H':Hp),Same H H'->(m'=m\/H m'=none)->H' m'=some (.lst (IL (pmf M (ζ6 ps ns))))->Q (.ref m') H'
theorem scζ9:FnScope ["web","marks","ties","tie","ends","low","high"] ["web","marks","ties"] (ζ5 sζ9):=⟨rfl,rfl,rfl,by decide +kernel,rfl,by decide +kernel,by decide +kernel⟩
theorem okζ9 (T:Txt K mg t):FnOk P w K mg base CX0 1 t.aζ9 t.dζ9 ["web","marks","ties"] (spζ9 K t.A_Web):=by
 refine T.fζ9.ok scζ9 (fun vs H Q E h=>?_) (fun cdv A outer s H vs Q E hr h=>?_)
 ·obtain⟨w,m,a,n,ps,M,kd,ns,rfl,_⟩:=h
  rfl
 ·obtain⟨w,m0,a,n,ps,M0,kd,ns,rfl,⟨dx,tl,xs,h1,h2,h3⟩,⟨g1,g2,g3,g4⟩,hm,hlM,hS,hI,q⟩:=h
  refine⟨_,(ζ2 (ζ41 ζζP rfl (ζR1 K (pv 2)) (ζe (i:=3) scζ9.nd rfl (Or.inl rfl))
   (ζ2 (ζh (i:=4) scζ9.nd rfl (Or.inl rfl) (ζA (ζc K) (ζ51 K (pv 0) rfl) (pv 3) (fun _ _=>rfl)))
   (ζ2 (ζh (i:=5) scζ9.nd rfl (Or.inr rfl) (ζf (ζW4 rfl) (by rfl) T.n_min Boot.«min» (ζ0 (ζA (ζc K) (pv 1) (ζA (ζE K) (pv 4) ζ8 (fun _ _=>rfl)) (fun _ _=>rfl)) (ζ0 (ζA (ζc K) (pv 1) (ζA (ζE K) (pv 4) ζ8 (fun _ _=>rfl)) (fun _ _=>rfl)) ζ3))))
   (ζ2 (ζh (i:=6) scζ9.nd rfl (Or.inr rfl) (ζf (ζ13 rfl) (by rfl) T.n_max Boot.«max» (ζ0 (ζA (ζc K) (pv 1) (ζA (ζE K) (pv 4) ζ8 (fun _ _=>rfl)) (fun _ _=>rfl)) (ζ0 (ζA (ζc K) (pv 1) (ζA (ζE K) (pv 4) ζ8 (fun _ _=>rfl)) (fun _ _=>rfl)) ζ3))))
   (ζ7 (ζh1 (ζj ζQ7 (pv 5) (pv 6) (ζq _))
   (ζ7 (ζ27 (i:=1) rfl scζ9.nd rfl rfl (sc0:=ζ5 sζ9) (N0:=["web","marks","ties","tie","ends","low","high"]) (N':=["mark","high","low"]) (o:=1) (fr:=[6,5]) ⟨rfl,by decide +kernel,by decide +kernel,by decide +kernel,rfl,by decide +kernel⟩ (ζL K (pv 1)) (ζB (by decide)) (fun _ _ _ _=>(ζe (i:=0) (show List.Nodup (["mark","high","low"]:List Str) by decide +kernel) rfl (Or.inl rfl))) (fun _ _ _ _=>ζP) (fun _ _ _ _=>(ζS3 (ζj ζS5 (pv 0) (pv 1) (ζq _)) (pv 2) (pv 0)))))
   ζo))))))
   (ζ7 (ζl (pv 1)))),?_⟩
  refine⟨_,rfl,a,rfl,ζw3 (k:=kd) (K:=K) (a:=a) (xs:=IL ns) (fun i σ H2=>∃(m:Addr) (v3 v4 v5 v6:Option V),σ=[some (.ref w),some (.ref m),some (.ref a),v3,v4,v5,v6]/\Same H H2/\(m=m0\/H m=none)/\H2 m=some (.lst (IL (pmf M0 (ζ6 ps (ns.take i))))))
   ⟨m0,none,none,none,none,rfl,Same.refl _,.inl rfl,hm⟩ (fun i σ H2 _ ⟨_,_,_,_,_,_,s2,_⟩=>hS.same s2) ?_ ?_⟩
  ·rintro i x σ H2 hi ⟨m,v3,v4,v5,v6,rfl,s2,hm0,hm2⟩
   obtain⟨z,rfl,hz⟩:=ζa1 hi
   obtain⟨z0,z1⟩:=hI z (ζζe hz)
   obtain⟨p,hp⟩:∃ p,ps[z.toNat]?=some p:=⟨_,ζζ0 (by omega)⟩
   obtain⟨v,hv,tt,rfl,htt⟩:=h3.2 z.toNat p hp
   obtain⟨e1,e2,e3,e4⟩:=g4 p (ζζe hp)
   have ed:ps.getD z.toNat (0,0)=p:=getD_of hp
   refine⟨_,rfl,w,_,dx,_,_,rfl,s2 _ _ h1,T.cl_Web,T.n_Web_ties,ζy1 _ _,_,rfl,tl,xs,z,.ref tt,rfl,rfl,SqL.of (s2 _ _ h2),ζv (n:=z.toNat) (by omega) hv,?_⟩
   have ht2:=s2 _ _ htt
   have hl:(pmf M0 (ζ6 ps (ns.take i))).length=n.toNat:=(ζP5 _ _).trans hlM
   generalize hM:pmf M0 (ζ6 ps (ns.take i))=M at *
   have ha:M[p.1.toNat]?=some (mk M p.1.toNat):=ζ71 (by omega)
   have hb:M[p.2.toNat]?=some (mk M p.2.toNat):=ζ71 (by omega)
   have iA:atI (IL M) p.1=some (.int (mk M p.1.toNat)):=ζv (n:=p.1.toNat) (by omega) (by rw[ζζh,ha];rfl)
   have iB:atI (IL M) p.2=some (.int (mk M p.2.toNat)):=ζv (n:=p.2.toNat) (by omega) (by rw[ζζh,hb];rfl)
   have t0:atI ([.int p.1,.int p.2]:List V) 0=some (.int p.1):=rfl
   have t1:atI ([.int p.1,.int p.2]:List V) 1=some (.int p.2):=rfl
   refine⟨_,rfl,_,rfl,tt,_,0,_,rfl,rfl,SqT.of ht2,t0,m,_,p.1,_,rfl,rfl,SqL.of hm2,iA,_,rfl,_,rfl,tt,_,1,_,rfl,rfl,SqT.of ht2,t1,m,_,p.2,_,rfl,rfl,SqL.of hm2,iB,_,_,rfl,?_⟩
   refine⟨_,rfl,_,rfl,tt,_,0,_,rfl,rfl,SqT.of ht2,t0,m,_,p.1,_,rfl,rfl,SqL.of hm2,iA,_,rfl,_,rfl,tt,_,1,_,rfl,rfl,SqT.of ht2,t1,m,_,p.2,_,rfl,rfl,SqL.of hm2,iB,_,_,rfl,?_⟩
   have eL:(if mk M p.2.toNat<mk M p.1.toNat then mk M p.2.toNat else mk M p.1.toNat)=min (mk M p.1.toNat) (mk M p.2.toNat):=by
    rw[Int.min_def];split <;> split <;> omega
   have eH:(if mk M p.2.toNat > mk M p.1.toNat then mk M p.2.toNat else mk M p.1.toNat)=max (mk M p.1.toNat) (mk M p.2.toNat):=by
    rw[Int.max_def];split <;> split <;> omega
   refine⟨_,rfl,_,rfl,_,_,rfl,rfl,_,rfl,?_⟩
   rw[eL,eH]
   have step:pmf M0 (ζ6 ps (ns.take (i+1)))=pm M p.1.toNat p.2.toNat:=by rw[ζy2 hz,ζT8,hM,ed]
   refine itd2 (fun hc=>?_) (fun hc=>?_)
   ·refine⟨_,rfl,m,rfl,⟨_,SqL.of hm2⟩,ζm1 (K:=K) (a:=m) (xs:=IL M) (fun j ys H3=>H3=H2/\j<=M.length/\ys=IL ((M.take j).map fun k=>if k=max (mk M p.1.toNat) (mk M p.2.toNat) then min (mk M p.1.toNat) (mk M p.2.toNat) else k)) ⟨rfl,ζζj _,rfl⟩ (ζk (by rw[ζ4];omega))
     (fun j ys H3 hj ⟨e,hjl,ey⟩=>⟨e ▸ SqL.of hm2,by rw[ey,ζ4,ζζa,ζζv];omega⟩) ?_ ?_⟩
    ·rintro j y ys H3 hj ⟨rfl,hjl,rfl⟩ S hSS
     obtain⟨k,rfl,hk⟩:=ζa1 hj
     refine nmY ?_
     refine⟨_,rfl,_,rfl,rfl,_,rfl,?_⟩
     have hjl':j<M.length:=(ζζ4.mp hk).1
     have app:∀ r:Int,r=(if k=max (mk M p.1.toNat) (mk M p.2.toNat) then min (mk M p.1.toNat) (mk M p.2.toNat) else k) ->
       IL ((M.take j).map fun k=>if k=max (mk M p.1.toNat) (mk M p.2.toNat) then min (mk M p.1.toNat) (mk M p.2.toNat) else k)++[.int r]=IL ((M.take (j+1)).map fun k=>if k=max (mk M p.1.toNat) (mk M p.2.toNat) then min (mk M p.1.toNat) (mk M p.2.toNat) else k):=by
      intro r er
      rw[ζζK,hk,er]
      simp
     refine itd2 (fun he=>?_) (fun he=>?_)
     ·refine⟨_,rfl,hSS _ _ ⟨rfl,hjl',app _ ?_⟩⟩
      rw[if_pos (V.int.inj he)]
     ·refine⟨_,rfl,hSS _ _ ⟨rfl,hjl',app _ ?_⟩⟩
      rw[if_neg fun z=>he (ζζ0l V.int z)]
    ·rintro ys H3 ⟨rfl,_,rfl⟩ p' hp'
     refine⟨p',_,_,_,_,rfl,ζn s2 hp',.inr (s2.free hp'),?_⟩
     rw[ζ1,step,ζ4,ζζH]
     unfold pm
     rw[if_pos hc]
   ·refine⟨m,_,_,_,_,rfl,s2,hm0,?_⟩
    rw[hm2,step]
    unfold pm
    rw[if_neg hc]
  ·rintro σ H2 ⟨m,v3,v4,v5,v6,rfl,s2,hm0,hm2⟩
   rw[ζ4,ζζH]at hm2
   exact⟨_,rfl,q m H2 s2 hm0 hm2⟩
def spζa(K:PySem.W.Frag)(C:Addr):Sp:=fun vs H Q _=>∃(w a:Addr) (n:Int) (ps:List (Int × Int)) (ns:List Int),vs=[.ref w,.ref a]/\WebAt C H w n ps/\ζy n ps/\SqT K H a (IL ns)/\(∀ z∈ns,0<=z/\z<(ps.length:Int)) /\
 ∀(m:Addr) (H':Hp),Same H H'->H m=none->H' m=some (.lst (IL (pms n.toNat (ζ6 ps ns))))->Q (.ref m) H'
theorem scζa:FnScope ["web","ties"] ["web","ties"] (ζ5 sζa):=⟨rfl,rfl,rfl,by decide +kernel,rfl,by decide +kernel,by decide +kernel⟩
theorem okζa (T:Txt K mg t):FnOk P w K mg base CX0 2 t.aζa t.dζa ["web","ties"] (spζa K t.A_Web):=by
 refine T.fζa.ok scζa (fun vs H Q E h=>?_) (fun cdv A outer s H vs Q E hr h=>?_)
 ·obtain⟨w,a,n,ps,ns,rfl,_⟩:=h
  rfl
 ·obtain⟨w,a,n,ps,ns,rfl,hW,hG,hS,hI,q⟩:=h
  refine⟨_,(ζ7 (ζl (ζa (okζ9 T) (hr.mono (by decide)) rfl T.mζ9 T.fζ9.kp T.bζ9 .nil ζw (ζ0 (pv 0) (ζ0 (ζg (ζZ rfl) (by rfl) T.n_list Boot.«list» (ζ0 (ζg ζG1 (by rfl) T.n_range Boot.«range» (ζ0 (ζ51 K (pv 0) rfl) ζ3)) ζ3)) (ζ0 (pv 1) ζ3)))))),?_⟩
  obtain⟨dx,tl,xs,h1,h2,h3⟩:=id hW
  obtain⟨g1,g2,g3,g4⟩:=id hG
  refine⟨_,rfl,_,rfl,w,_,dx,_,_,rfl,h1,T.cl_Web,T.n_Web_places,ζU1 _ _,n,rfl,fun r hr0=>⟨r,0,n,rfl,ζ1,⟨by decide,by decide,by omega,by omega⟩,by omega,fun m hm=>?_⟩⟩
  have sm:Same H (upd (upd H r (.rng 0 n)) m (.lst ((rngI 0 n).map V.int))):=ζn (same_at hr0) hm
  refine⟨_,rfl,w,m,a,n,ps,(List.range n.toNat).map (fun(i:Nat)=>(i:Int)),true,ns,rfl,hW.same sm,hG,?_,by simp,ζD5 sm hS,hI,fun m' H' s' hf hm'=>?_⟩
  ·rw[ζ1,ζG2]
  ·refine q m' H' (sm.trans s') ?_ hm'
   rcases hf with rfl | hf
   ·exact(same_at hr0).free hm
   ·exact sm.free hf
def spζb(K:PySem.W.Frag)(C:Addr):Sp:=fun vs H Q _=>∃(w a:Addr) (n:Int) (ps:List (Int × Int)) (kd:Bool) (ns:List Int),vs=[.ref w,.ref a]/\WebAt C H w n ps/\ζy n ps/\SqK kd K H a (IL ns)/\IsSet ps.length ns /\
 ∀(r:Addr) (as:List Addr) (H':Hp),Same H H'->H r=none->H' r=some (.lst (as.map V.ref))->r∉as->GrpAt H H' (grp (pms n.toNat (ζ6 ps ns))) as->Q (.ref r) H'
theorem scζb:FnScope ["web","ties","pieces","place","mark"] ["web","ties"] (ζ5 sζb):=⟨rfl,rfl,rfl,by decide +kernel,rfl,by decide +kernel,by decide +kernel⟩
theorem okζb (T:Txt K mg t):FnOk P w K mg base CX0 4 t.aζb t.dζb ["web","ties"] (spζb K t.A_Web):=by
 refine T.fζb.ok scζb (fun vs H Q E h=>?_) (fun cdv A outer s H vs Q E hr h=>?_)
 ·obtain⟨w,a,n,ps,kd,ns,rfl,_⟩:=h
  rfl
 ·obtain⟨w,a,n,ps,kd,ns,rfl,hW,hG,hS,hI,q⟩:=h
  refine⟨_,(ζ2 (ζh (i:=2) scζb.nd rfl (Or.inl rfl) ζV8)
   (ζ2 (ζ41 ζζP rfl (ζQ5 K rfl T.n_enumerate (ζ0 (ζa (okζa T) (hr.mono (by decide)) rfl T.mζa T.fζa.kp T.bζa .nil ζw (ζ0 (pv 0) (ζ0 (ζa (okζ8 T) (hr.mono (by decide)) rfl T.mζ8 T.fζ8.kp T.bζ8 .nil ζw (ζ0 (pv 0) (ζ0 (pv 1) ζ3))) ζ3))) ζ3)) (ζj1 (n:=2) K rfl (ζt (ζe (i:=3) scζb.nd rfl (Or.inl rfl)) (ζt (ζe (i:=4) scζb.nd rfl (Or.inl rfl)) ζi1)))
   (ζ7 (ζC (ζ61 K ζζL ζζ08 ζζ07 ζQ (ζ61 K ζζ2T ζζ2z PySem.F.type_dict_setdefault ζp3 (pv 2) (ζ0 (pv 4) (ζ0 (ζe1 ζ3) ζ3))) (ζ0 (pv 3) ζ3)))))
   (ζ7 (ζl (ζg (ζ23 rfl) (by rfl) T.n_list Boot.«list» (ζ0 (ζm10 K ζζ2T ζζ2N PySem.F.type_dict_values ζ97 (pv 2)) ζ3)))))),?_⟩
  intro d hd
  have s0:Same H (upd H d (.dK [])):=same_at hd
  refine⟨_,rfl,_,rfl,_,rfl,w,a,n,ps,kd,ns,rfl,hW.same s0,hS.same s0,hI,fun r H1 s1 hr1=>?_⟩
  refine⟨w,r,n,ps,ns,rfl,(hW.same s0).same s1,hG,hr1,hI.all,fun m H2 s2 hm1 hm2=>?_⟩
  have s02:Same H H2:=(s0.trans s1).trans s2
  have hd2:H2 d=some (.dK []):=s2 _ _ (s1 _ _ ζ1)
  have hl:(pms n.toNat (ζ6 ps ns)).length=n.toNat:=ζm _ _
  generalize hM:pms n.toNat (ζ6 ps ns)=M at *
  have hm0:H m=none:=(s0.trans s1).free hm1
  have n14:M.length<=14:=by have:=hG.2.1;omega
  refine⟨m,rfl,⟨_,SqL.of hm2⟩,?_⟩
  refine ζu9 (K:=K) (a:=m) (xs:=IL M) (fun i σ H3=>∃(as:List Addr) (v3 v4:Option V),σ=[some (.ref w),some (.ref a),some (.ref d),v3,v4]/\i<=M.length/\Same H H3/\H3 m=some (.lst (IL M))/\H3 d=some (.dK (gkv (grpA M i) as))/\d∉as/\m∉as/\GrpAt H H3 (grpA M i) as/\as.length<=i)
   ⟨[],none,none,rfl,ζζj _,s02,hm2,hd2,by simp,by simp,⟨rfl,List.nodup_nil,fun i kv a e=>by simp[grpA]at e,fun a ha=>by simp at ha⟩,ζζ5 _⟩ (fun i σ H3 _ ⟨_,_,_,_,_,_,h,_⟩=>SqL.of h) ?_ ?_
  ·rintro i x σ H3 pt hpt hi ⟨as,v3,v4,rfl,hil,s3,hm3,hd3,nda,nma,gA,hal⟩
   obtain⟨k,rfl,hk⟩:=ζa1 hi
   have hk':mk M i=k:=getD_of hk
   have hil':i<M.length:=(ζζ4.mp hk).1
   have s4:Same H3 (upd H3 pt (.tup [.int i,.int k])):=same_at hpt
   refine⟨pt,_,rfl,SqT.of ζ1,rfl,_,_,rfl,_,_,rfl,rfl,?_⟩
   refine⟨_,rfl,.inr (.inr (.inl ⟨rfl,.inl ⟨_,s4 _ _ hd3⟩⟩)),_,rfl,(by show 0<=sizeLine;exact ζζj _),fun l hl0=>?_⟩
   have s5:Same H3 (upd (upd H3 pt (.tup [.int i,.int k])) l (.lst [])):=ζn s4 hl0
   have hd5:=s5 _ _ hd3
   have hl3:H3 l=none:=s4.free hl0
   have ndl:d≠l:=ζb hd3 hl3
   have gl:=gA.len
   refine⟨d,gkv (grpA M i) as,Sum.inl k,.ref l,rfl,rfl,hd5,?_,fun v hv=>?_,fun hv=>?_⟩
   ·rw[ζr6 gl]
    exact ζk (by omega)
   ·-- the mark has its list
    rcases ζp6 (g:=grpA M i) (as:=as) (k:=k) gl with ⟨h1,_⟩ | ⟨j,kv,b,e1,e2,e3,e4⟩
    ·rw[h1]at hv;cases hv
    ·rw[e4]at hv
     cases hv
     have hb5:=s5 _ _ (gA.at_ j kv b e1 e2)
     have hkm:k∈(grpA M i).map (·.1):=ζζx.mpr ⟨kv,ζζe e1,e3⟩
     have hlen:kv.2.length<=i:=ζ24 (ζζe e1)
     refine⟨.inl ⟨rfl,_,SqL.of hb5⟩,_,rfl,b,_,.int i,rfl,rfl,hb5,?_,?_⟩
     ·rw[ζ4]
      exact ζk (by omega)
     ·have hbas:b∈as:=ζζe e2
      have hdb:d≠b:=fun z=>nda (z ▸ hbas)
      have hmb:m≠b:=fun z=>nma (z ▸ hbas)
      have hb0:=gA.new b hbas
      have ekeys:(grpA M (i+1)).map (·.1)=(grpA M i).map (·.1):=by
       show(ζ04 (grpA M i) (i:Int) (mk M i)).map (·.1)=_
       rw[ζE1,hk',if_pos hkm]
      refine⟨as,_,_,rfl,hil',ζr hb0 (s3.trans s5),by rw[ζ9 hmb];exact s5 _ _ hm3,by rw[ζ9 hdb,hd5,ζs6 ekeys],nda,nma,⟨?_,gA.nd,?_,gA.new⟩,by omega⟩
      ·have:=ζζ0l List.length ekeys
       rw[ζζa,ζζa]at this
       omega
      ·intro i2 kv2 a2 f1 f2
       have f1:(ζ04 (grpA M i) (i:Int) (mk M i))[i2]?=some kv2:=f1
       unfold ζ04 at f1
       rw[hk',if_pos hkm,ζζh]at f1
       cases f3:(grpA M i)[i2]? with
       | none=>rw[f3]at f1;cases f1
       | some kv3 =>
        rw[f3]at f1
        have f1:(if kv3.1=k then (kv3.1,kv3.2++[(i:Int)]) else kv3)=kv2:=ζζ8 f1
        by_cases hj:i2=j
        ·subst hj
         rw[e1]at f3
         cases f3
         rw[e2]at f2
         cases f2
         rw[if_pos e3]at f1
         subst f1
         rw[ζ1]
         simp
        ·have hab:a2≠b:=fun z=>by
          subst z
          exact hj (nodup_get gA.nd f2 e2)
         have hkk:¬ kv3.1=k:=fun z=>hj (nodup_get (ζi2 M i) (by rw[ζζh,f3];exact ζζ0l some z) (by rw[ζζh,e1];exact ζζ0l some e3))
         rw[if_neg hkk]at f1
         subst f1
         rw[ζ9 hab]
         exact s5 _ _ (gA.at_ i2 kv3 a2 f3 f2)
   ·-- a new list
    rcases ζp6 (g:=grpA M i) (as:=as) (k:=k) gl with ⟨h1,hkn⟩ | ⟨j,kv,b,e1,e2,e3,e4⟩
    ·have hl6:(upd (upd (upd H3 pt (.tup [.int i,.int k])) l (.lst [])) d (.dK (gkv (grpA M i) as++[(Sum.inl k,.ref l)]))) l=some (.lst []):=by rw[ζ9 (ζζY ndl),ζ1]
     refine⟨.inl ⟨rfl,_,SqL.of hl6⟩,_,rfl,l,[],.int i,rfl,rfl,hl6,(by show 0<sizeLine;decide),?_⟩
     have hl0':H l=none:=s3.free hl3
     have hlas:l∉as:=fun z=>by
      obtain⟨_,e⟩:=gA.mem z
      rw[hl3]at e
      cases e
     have hml:m≠l:=ζb hm3 hl3
     have hmd:m≠d:=ζr5 hm3 hd3 (fun z=>nomatch z)
     have egr:grpA M (i+1)=grpA M i++[(k,[(i:Int)])]:=by
      show ζ04 (grpA M i) (i:Int) (mk M i)=_
      unfold ζ04
      rw[hk',if_neg hkn]
     have hdH:H d=none:=hd
     refine⟨as++[l],_,_,rfl,hil',ζr hl0' (ζr hdH (s3.trans s5)),by rw[ζ9 hml,ζ9 hmd];exact s5 _ _ hm3,?_,?_,?_,⟨?_,?_,?_,?_⟩,?_⟩
     ·rw[ζ9 ndl,ζ1,egr,ζq6 gl]
     ·rw[ζζ9,ζζ1]
      rintro(z | z)
      ·exact nda z
      ·exact ndl z
     ·rw[ζζ9,ζζ1]
      rintro(z | z)
      ·exact nma z
      ·exact hml z
     ·rw[egr,ζζ6,ζζ6,gl]
      rfl
     ·exact ζW5 gA.nd hlas
     ·intro i2 kv2 a2 f1 f2
      rw[egr]at f1
      by_cases hi2:i2<(grpA M i).length
      ·rw[ζζI hi2]at f1
       rw[ζζI (by omega)]at f2
       have e:=gA.at_ i2 kv2 a2 f1 f2
       have n1:a2≠l:=ζb e hl3
       have n2:a2≠d:=ζr5 e hd3 (fun z=>nomatch z)
       rw[ζ9 n1,ζ9 n2]
       exact s5 _ _ e
      ·have h2:i2=(grpA M i).length:=by
        have:=(ζζ4.mp f1).1
        rw[ζζ6,ζζR]at this
        omega
       subst h2
       rw[ζζz (ζζ5 _),ζζ1l]at f1
       rw[ζζz (by omega),gl,ζζ1l]at f2
       cases f1
       cases f2
       rw[ζ1]
       rfl
     ·intro a2 ha2
      rcases ζζ9.mp ha2 with z | z
      ·exact gA.new a2 z
      ·rw[ζζ1.mp z];exact hl0'
     ·rw[ζζ6,ζζR]
      omega
    ·rw[e4]at hv;cases hv
  ·rintro σ H3 ⟨as,v3,v4,rfl,hil,s3,hm3,hd3,nda,nma,gA,hal⟩
   rw[ζ4]at hd3 gA
   refine⟨_,rfl,.inr (.inr (.inl ⟨rfl,.inl ⟨_,hd3⟩⟩)),d,_,rfl,rfl,hd3,fun p hp=>?_⟩
   have s6:Same H3 (upd H3 p (ζR9 p d)):=same_at hp
   refine⟨p,d,_,rfl,ζ1,s6 _ _ hd3,fun r hr0=>?_⟩
   have s7:Same H3 (upd (upd H3 p (ζR9 p d)) r (.lst ((gkv (grpA M M.length) as).map (·.2)))):=ζn s6 hr0
   refine q r as _ (s3.trans s7) ((s3.trans s6).free hr0) (by rw[ζ1,ζc8 gA.len]) (fun z=>?_) (gA.same s7)
   obtain⟨_,e⟩:=gA.mem z
   rw[s6.free hr0]at e
   cases e
def spζc(K:PySem.W.Frag)(C:Addr):Sp:=fun vs H Q _=>∃(w a:Addr) (n:Int) (ps:List (Int × Int)) (kd:Bool) (ns:List Int),vs=[.ref w,.ref a]/\WebAt C H w n ps/\ζy n ps/\SqK kd K H a (IL ns)/\IsSet ps.length ns /\
 ∀(b:Bool) (H':Hp),Same H H'->(b=true↔(grp (pms n.toNat (ζ6 ps ns))).length=1)->Q (.bl b) H'
theorem scζc:FnScope ["web","ties"] ["web","ties"] (ζ5 sζc):=⟨rfl,rfl,rfl,by decide +kernel,rfl,by decide +kernel,by decide +kernel⟩
theorem okζc (T:Txt K mg t):FnOk P w K mg base CX0 5 t.aζc t.dζc ["web","ties"] (spζc K t.A_Web):=by
 refine T.fζc.ok scζc (fun vs H Q E h=>?_) (fun cdv A outer s H vs Q E hr h=>?_)
 ·obtain⟨w,a,n,ps,kd,ns,rfl,_⟩:=h
  rfl
 ·obtain⟨w,a,n,ps,kd,ns,rfl,hW,hG,hS,hI,q⟩:=h
  refine⟨_,(ζ7 (ζl (ζk1 ζS5 (ζf (ζi K) (by rfl) T.n_len Boot.«len» (ζ0 (ζa (okζb T) (hr.mono (by decide)) rfl T.mζb T.fζb.kp T.bζb .nil ζw (ζ0 (pv 0) (ζ0 (pv 1) ζ3))) ζ3)) ζ8 (ζq _)))),?_⟩
  refine⟨_,rfl,_,rfl,w,a,n,ps,kd,ns,rfl,hW,hG,hS,hI,fun r as H' s1 hr0 hr1 hnr gA=>?_⟩
  refine⟨r,_,rfl,.inl (SqL.of hr1),rfl,?_⟩
  rw[ζζa,gA.len,ζI]
  refine q _ H' s1 ?_
  rw[ζζM]
  omega
def spζd(K:PySem.W.Frag)(C:Addr):Sp:=fun vs H Q _=>∃(w:Addr) (n:Int) (ps:List (Int × Int)),vs=[.ref w]/\WebAt C H w n ps/\ζy n ps /\
 (ζC7 n ps->∀ H':Hp,Same H H'->Q .non H')/\(¬ ζC7 n ps->∀ H':Hp,Same H H'->False)
theorem scζd:FnScope ["web"] ["web"] (ζ5 sζd):=⟨rfl,rfl,rfl,by decide +kernel,rfl,by decide +kernel,by decide +kernel⟩
theorem okζd (T:Txt K mg t):FnOk P w K mg base CX0 6 t.aζd t.dζd ["web"] (spζd K t.A_Web):=by
 refine T.fζd.ok scζd (fun vs H Q E h=>?_) (fun cdv A outer s H vs Q E hr h=>?_)
 ·obtain⟨w,n,ps,rfl,_⟩:=h
  rfl
 ·obtain⟨w,n,ps,rfl,hW,hG,q,qe⟩:=h
  refine⟨_,(ζ7 (ζh1 (ζr2 (ζ82 (ζa (okζc T) (hr.mono (by decide)) rfl T.mζc T.fζc.kp T.bζc .nil ζw (ζ0 (pv 0) (ζ0 (ζa (okζ4 T) (hr.mono (by decide)) rfl T.mζ4 T.fζ4.kp T.bζ4 .nil ζw (ζ0 (pv 0) ζ3)) ζ3)))))
   (ζ7 ζ11)
   ζo)),?_⟩
  refine⟨_,rfl,_,rfl,w,n,ps,rfl,hW,by have:=hG.2.2.1;omega,fun r H1 s1 hr0 hr1=>?_⟩
  refine⟨w,r,n,ps,true,rgL ps.length,rfl,hW.same s1,hG,SqT.of hr1,ζL7 _,fun b H2 s2 hb=>⟨_,rfl,?_⟩⟩
  rw[ζj6 (by have:=hG.1;omega) (ζO hG (ζL7 _).all)]at hb
  refine itnb (fun z=>?_) (fun z=>?_)
  ·exact q (hb.mp z) H2 (s1.trans s2)
  ·exact qe (fun g=>by rw[hb.mpr g]at z;cases z) H2 (s1.trans s2)
def spζe(K:PySem.W.Frag)(C:Addr):Sp:=fun vs H Q _=>∃(w a:Addr) (n:Int) (ps:List (Int × Int)) (kd:Bool) (ns:List Int),vs=[.ref w,.ref a]/\WebAt C H w n ps/\ζy n ps/\SqK kd K H a (IL ns) /\
 ∀(b:Bool) (H':Hp),Same H H'->(b=true↔ζd n ps ns)->Q (.bl b) H'
theorem scζe:FnScope ["web","ties"] ["web","ties"] (ζ5 sζe):=⟨rfl,rfl,rfl,by decide +kernel,rfl,by decide +kernel,by decide +kernel⟩
theorem okζe (T:Txt K mg t):FnOk P w K mg base CX0 6 t.aζe t.dζe ["web","ties"] (spζe K t.A_Web):=by
 refine T.fζe.ok scζe (fun vs H Q E h=>?_) (fun cdv A outer s H vs Q E hr h=>?_)
 ·obtain⟨w,a,n,ps,kd,ns,rfl,_⟩:=h
  rfl
 ·obtain⟨w,a,n,ps,kd,ns,rfl,hW,hG,hS,q⟩:=h
  refine⟨_,(ζ7 (ζl (ζn10 (ζa (okζ7 T) (hr.mono (by decide)) rfl T.mζ7 T.fζ7.kp T.bζ7 .nil ζw (ζ0 (pv 0) (ζ0 (pv 1) ζ3))) (ζn10 (ζk1 ζS5 (ζf (ζi K) (by rfl) T.n_len Boot.«len» (ζ0 (pv 1) ζ3)) (ζp ζf2 (ζ51 K (pv 0) rfl) ζ8) (ζq _)) (ζl10 (ζa (okζc T) (hr.mono (by decide)) rfl T.mζc T.fζc.kp T.bζc .nil ζw (ζ0 (pv 0) (ζ0 (pv 1) ζ3)))))))),?_⟩
  refine⟨_,rfl,_,rfl,w,a,n,ps,kd,ns,rfl,hW,hS,fun b hb=>⟨b,rfl,?_⟩⟩
  refine itb (fun e=>?_) (fun e=>?_)
  ·have hI:=hb.mp e
   obtain⟨dx,tl,xs,h1,h2,h3⟩:=id hW
   refine⟨_,rfl,a,_,rfl,hS.or,_,rfl,w,_,dx,_,_,rfl,h1,T.cl_Web,T.n_Web_places,ζU1 _ _,_,_,rfl,rfl,rfl,_,rfl,?_⟩
   rw[ζ4,ζI]
   refine itd2 (fun hl=>?_) (fun hl=>?_)
   ·refine⟨_,rfl,_,rfl,w,a,n,ps,kd,ns,rfl,hW,hG,hS,hI,fun b2 H' s hb2=>q b2 H' s ?_⟩
    rw[hb2,ζj6 (by have:=hG.1;omega) (ζO hG hI.all)]
    exact⟨fun z=>⟨hI,hl,z⟩,fun z=>z.2.2⟩
   ·exact q false H (Same.refl H) ⟨fun z=>(nomatch z),fun z=>absurd z.2.1 hl⟩
  ·exact q false H (Same.refl H) ⟨fun z=>(nomatch z),fun z=>by rw[hb.mpr z.1]at e;cases e⟩
def spζf(K:PySem.W.Frag)(C:Addr):Sp:=fun vs H Q _=>∃(w a:Addr) (n:Int) (ps:List (Int × Int)) (kd:Bool) (ns:List Int),vs=[.ref w,.ref a]/\WebAt C H w n ps/\ζy n ps/\SqK kd K H a (IL ns) /\
 (ζd n ps ns->∀ H':Hp,Same H H'->Q .non H')/\(¬ ζd n ps ns->∀ H':Hp,Same H H'->False)
theorem scζf:FnScope ["web","tree"] ["web","tree"] (ζ5 sζf):=⟨rfl,rfl,rfl,by decide +kernel,rfl,by decide +kernel,by decide +kernel⟩
theorem okζf (T:Txt K mg t):FnOk P w K mg base CX0 7 t.aζf t.dζf ["web","tree"] (spζf K t.A_Web):=by
 refine T.fζf.ok scζf (fun vs H Q E h=>?_) (fun cdv A outer s H vs Q E hr h=>?_)
 ·obtain⟨w,a,n,ps,kd,ns,rfl,_⟩:=h
  rfl
 ·obtain⟨w,a,n,ps,kd,ns,rfl,hW,hG,hS,q,qe⟩:=h
  refine⟨_,(ζ7 (ζh1 (ζr2 (ζ82 (ζa (okζe T) (hr.mono (by decide)) rfl T.mζe T.fζe.kp T.bζe .nil ζw (ζ0 (pv 0) (ζ0 (pv 1) ζ3)))))
   (ζ7 ζ11)
   ζo)),?_⟩
  refine⟨_,rfl,_,rfl,w,a,n,ps,kd,ns,rfl,hW,hG,hS,fun b H' s hb=>⟨_,rfl,?_⟩⟩
  refine itnb (fun z=>?_) (fun z=>?_)
  ·exact q (hb.mp z) H' s
  ·exact qe (fun g=>by rw[hb.mpr g]at z;cases z) H' s
def spζg(K:PySem.W.Frag)(C:Addr):Sp:=fun vs H Q _=>∃(w a b:Addr) (n:Int) (ps:List (Int × Int)) (ka kb:Bool) (ns os:List Int),vs=[.ref w,.ref a,.ref b]/\WebAt C H w n ps/\ζy n ps/\SqK ka K H a (IL ns)/\SqK kb K H b (IL os)/\ns.length<=1000/\os.length<=1000/\(∀ z∈ns++os,0<=z/\z<(ps.length:Int)) /\
 (((grw n.toNat ps (ns++os)).take ns.length≠ns\/((grw n.toNat ps (ns++os)).length:Int)<n - 1)->∀ H':Hp,Same H H'->Q .non H') /\
 ((grw n.toNat ps (ns++os)).take ns.length=ns->¬ ((grw n.toNat ps (ns++os)).length:Int)<n - 1->∀(r:Addr) (ms:List Int) (H':Hp),ms.Perm (grw n.toNat ps (ns++os))->ms.Pairwise (·<=·)->Same H H'->H r=none->H' r=some (.tup (IL ms))->Q (.ref r) H')
theorem scζg:FnScope ["web","inside","order","marks","grown","tie","ends"] ["web","inside","order"] (ζ5 sζg):=⟨rfl,rfl,rfl,by decide +kernel,rfl,by decide +kernel,by decide +kernel⟩
theorem okζg (T:Txt K mg t):FnOk P w K mg base CX0 3 t.aζg t.dζg ["web","inside","order"] (spζg K t.A_Web):=by
 refine T.fζg.ok scζg (fun vs H Q E h=>?_) (fun cdv A outer s H vs Q E hr h=>?_)
 ·obtain⟨w,a,b,n,ps,ka,kb,ns,os,rfl,_⟩:=h
  rfl
 ·obtain⟨w,a,b,n,ps,ka,kb,ns,os,rfl,hW,hG,hS,hS2,hnl,hol,hI,q0,q1⟩:=h
  refine⟨_,(ζ2 (ζh (i:=3) scζg.nd rfl (Or.inl rfl) (ζa (okζa T) (hr.mono (by decide)) rfl T.mζa T.fζa.kp T.bζa .nil ζw (ζ0 (pv 0) (ζ0 (ζV ζ3) ζ3))))
   (ζ2 (ζh (i:=4) scζg.nd rfl (Or.inl rfl) (ζe1 ζ3))
   (ζ2 (ζ41 ζζP rfl (ζL K (ζp ζZ8 (ζg (ζH1 K) (by rfl) T.n_list Boot.«list» (ζ0 (pv 1) ζ3)) (ζg (ζH1 K) (by rfl) T.n_list Boot.«list» (ζ0 (pv 2) ζ3)))) (ζe (i:=5) scζg.nd rfl (Or.inl rfl))
   (ζ2 (ζh (i:=6) scζg.nd rfl (Or.inl rfl) (ζA (ζc K) (ζ51 K (pv 0) rfl) (pv 5) (fun _ _=>rfl)))
   (ζ7 (ζh1 (ζj ζ95 (ζA (ζc K) (pv 3) (ζA (ζE K) (pv 6) ζ8 (fun _ _=>rfl)) (fun _ _=>rfl)) (ζA (ζc K) (pv 3) (ζA (ζE K) (pv 6) ζ8 (fun _ _=>rfl)) (fun _ _=>rfl)) (ζq _))
   (ζ2 (ζh (i:=3) scζg.nd rfl (Or.inl rfl) (ζa (okζ9 T) (hr.mono (by decide)) rfl T.mζ9 T.fζ9.kp T.bζ9 .nil ζw (ζ0 (pv 0) (ζ0 (pv 3) (ζ0 (ζV (ζ0 (pv 5) ζ3)) ζ3)))))
   (ζ7 (ζC (ζ61 K ζζL ζζ08 ζζ07 ζQ (pv 4) (ζ0 (pv 5) ζ3)))))
   ζo))))
   (ζ2 (ζh1 (PW.pt (ζ17 (ζj (ζm3 K (hu8 hr)) (ζw1 (ζK1 K) (pv 4) ζb2 (ζa2 (ζf (ζi K) (by rfl) T.n_len Boot.«len» (ζ0 (pv 1) ζ3)))) (ζg (ζH1 K) (by rfl) T.n_list Boot.«list» (ζ0 (pv 1) ζ3)) (ζq _)) (ζe3 (ζj ζQ7 (ζf (ζi K) (by rfl) T.n_len Boot.«len» (ζ0 (pv 4) ζ3)) (ζp ζf2 (ζ51 K (pv 0) rfl) ζ8) (ζq _)))))
   (ζ7 (ζl ζ67))
   ζo)
   (ζ7 (ζl (ζg (ζJ K) (by rfl) T.n_tuple Boot.«tuple» (ζ0 (ζf (ζo2 K) (by rfl) T.n_sorted Boot.«sorted» (ζ0 (pv 4) ζ3)) ζ3)))))))),?_⟩
  obtain⟨g1,g2,g3,g4⟩:=id hG
  have one:1<=sizeLine:=by decide
  refine⟨_,rfl,ζζj _,fun r0 hr0=>?_⟩
  have s0:=same_at (o:=.tup []) hr0
  refine⟨w,r0,n,ps,[],rfl,hW.same s0,hG,SqT.of ζ1,fun _ e=>(nomatch e),fun m H1 s1 hm0 hm1=>?_⟩
  have s01:=s0.trans s1
  have hmf:=s0.free hm0
  refine⟨ζζj _,fun gl hgl=>?_⟩
  have s2:=same_at (o:=.lst []) hgl
  have s02:=s01.trans s2
  have hgf:=s01.free hgl
  refine⟨_,rfl,a,_,rfl,(hS.same s02).or,fun l1 hl1=>?_⟩
  have s3:=same_at (o:=.lst (IL ns)) hl1
  have s03:=s02.trans s3
  refine⟨_,rfl,b,_,rfl,(hS2.same s03).or,fun l2 hl2=>?_⟩
  have s4:=same_at (o:=.lst (IL os)) hl2
  have s04:=s03.trans s4
  refine⟨l1,l2,_,_,rfl,rfl,s4 _ _ ζ1,ζ1,ζa3 (by rw[ζ4,ζ4];omega),fun cl hcl=>?_⟩
  have s5:=same_at (o:=.lst (IL ns++IL os)) hcl
  have s05:=s04.trans s5
  have eI:IL ns++IL os=IL (ns++os):=(ζl7 _ _).symm
  have hgl5:=s5 _ _ (s4 _ _ (s3 _ _ (ζ1 (H:=H1) (a:=gl) (o:=.lst []))))
  have hm5:=s5 _ _ (s4 _ _ (s3 _ _ (s2 _ _ hm1)))
  have hcl5:=ζ1 (H:=upd (upd (upd H1 gl (.lst [])) l1 (.lst (IL ns))) l2 (.lst (IL os))) (a:=cl) (o:=.lst (IL ns++IL os))
  have ncg:cl≠gl:=fun e=>by rw[e]at hcl;exact absurd ((s4 _ _ (s3 _ _ (ζ1 (H:=H1) (a:=gl) (o:=.lst [])))).symm.trans hcl) (by simp)
  have nmg:m≠gl:=fun e=>by rw[e]at hm1;exact absurd (hm1.symm.trans hgl) (by simp)
  rw[eI]at s5 s05 hgl5 hm5 hcl5 ⊢
  generalize upd (upd (upd (upd H1 gl (.lst [])) l1 (.lst (IL ns))) l2 (.lst (IL os))) cl (.lst (IL (ns++os)))=H5 at *
  refine⟨cl,rfl,⟨_,SqL.of hcl5⟩,ζW2 (K:=K) (a:=cl) (xs:=IL (ns++os)) (fun i σ H2=>∃(mc:Addr) (v5 v6:Option V),σ=[some (.ref w),some (.ref a),some (.ref b),some (.ref mc),some (.ref gl),v5,v6]/\Same H H2/\mc≠gl /\
    H2 cl=some (.lst (IL (ns++os)))/\H2 mc=some (.lst (IL (pms n.toNat (ζ6 ps (grw n.toNat ps ((ns++os).take i))))))/\H2 gl=some (.lst (IL (grw n.toNat ps ((ns++os).take i)))))
   ⟨m,none,none,rfl,s05,nmg,hcl5,hm5,hgl5⟩ (fun i σ H2 _ ⟨_,_,_,_,_,_,e,_⟩=>SqL.of e) ?_ ?_⟩
  ·rintro i x σ H2 hi ⟨mc,v5,v6,rfl,s2,hne,hc2,hm2,hg2⟩
   obtain⟨z,rfl,hz⟩:=ζa1 hi
   obtain⟨z0,z1⟩:=hI z (ζζe hz)
   have hIt:∀ y∈(ns++os).take i,0<=y/\y<(ps.length:Int):=fun y hy=>hI y (ζζ17 hy)
   have est:(ns++os).take (i+1)=(ns++os).take i++[z]:=by rw[ζζK,hz];rfl
   have eG:grw n.toNat ps ((ns++os).take (i+1))=gst n.toNat ps (grw n.toNat ps ((ns++os).take i)) z:=by rw[est,ζc1]
   have hin:=ζ14 hG hIt
   have hgl14:=ζ68 hG hIt
   generalize grw n.toNat ps ((ns++os).take i)=G at *
   obtain⟨dx,tl,xs,h1,h2,h3⟩:=hW.same s2
   obtain⟨p,hp⟩:∃ p,ps[z.toNat]?=some p:=⟨_,ζζ0 (by omega)⟩
   obtain⟨v,hv,tt,rfl,htt⟩:=h3.2 z.toNat p hp
   obtain⟨e1,e2,e3,e4⟩:=g4 p (ζζe hp)
   have ed:ζz ps z=(p.1.toNat,p.2.toNat):=by unfold ζz;rw[getD_of hp]
   have hl:(pms n.toNat (ζ6 ps G)).length=n.toNat:=ζm _ _
   have iA:atI (IL (pms n.toNat (ζ6 ps G))) p.1=some (.int (mk (pms n.toNat (ζ6 ps G)) p.1.toNat)):=ζv (n:=p.1.toNat) (by omega) (ζT2 (ζ71 (by omega)))
   have iB:atI (IL (pms n.toNat (ζ6 ps G))) p.2=some (.int (mk (pms n.toNat (ζ6 ps G)) p.2.toNat)):=ζv (n:=p.2.toNat) (by omega) (ζT2 (ζ71 (by omega)))
   have t0:atI ([.int p.1,.int p.2]:List V) 0=some (.int p.1):=rfl
   have t1:atI ([.int p.1,.int p.2]:List V) 1=some (.int p.2):=rfl
   have key:mk (pms n.toNat (ζ6 ps G)) p.1.toNat=mk (pms n.toNat (ζ6 ps G)) p.2.toNat↔mk (lms n.toNat (ζ6 ps G)) (ζz ps z).1=mk (lms n.toNat (ζ6 ps G)) (ζz ps z).2:=by
    rw[ed,ζg3 hin (by omega) (by omega),ζN hin (by omega) (by omega)]
   refine⟨_,rfl,w,_,dx,_,_,rfl,h1,T.cl_Web,T.n_Web_ties,ζy1 _ _,_,rfl,tl,xs,z,.ref tt,rfl,rfl,SqL.of h2,ζv (n:=z.toNat) (by omega) hv,?_⟩
   refine⟨_,rfl,_,rfl,tt,_,0,_,rfl,rfl,SqT.of htt,t0,mc,_,p.1,_,rfl,rfl,SqL.of hm2,iA,_,rfl,_,rfl,tt,_,1,_,rfl,rfl,SqT.of htt,t1,mc,_,p.2,_,rfl,rfl,SqL.of hm2,iB,rfl,_,rfl,?_⟩
   rw[ζI]
   refine itn2 (fun he=>?_) (fun he=>?_)
   ·refine⟨mc,_,_,rfl,s2,hne,hc2,?_,?_⟩
    ·rw[eG];unfold gst;rw[if_pos (key.mp he)];exact hm2
    ·rw[eG];unfold gst;rw[if_pos (key.mp he)];exact hg2
   ·have eG2:grw n.toNat ps ((ns++os).take (i+1))=G++[z]:=by rw[eG];unfold gst;rw[if_neg (fun e=>he (key.mpr e))]
    refine⟨_,rfl,_,rfl,_,rfl,one,fun p2 hp2=>?_⟩
    have s6:=same_at (o:=.tup [.int z]) hp2
    refine⟨w,mc,p2,n,ps,_,true,[z],rfl,(hW.same s2).same s6,hG,s6 _ _ hm2,hl,SqT.of ζ1,fun y hy=>by rw[ζζ1.mp hy];exact⟨z0,z1⟩,fun m' H7 s7 hf hm7=>?_⟩
    have s67:=s6.trans s7
    have hg7:=s67 _ _ hg2
    have hc7:=s67 _ _ hc2
    have nm':m'≠gl:=by
     rcases hf with rfl | hf
     ·exact hne
     ·exact fun e=>absurd ((s6 _ _ hg2).symm.trans (e ▸ hf)) (by simp)
    refine⟨_,rfl,.inl ⟨rfl,_,SqL.of hg7⟩,_,rfl,gl,_,_,rfl,rfl,hg7,ζk (by rw[ζ4];omega),?_⟩
    refine⟨m',_,_,rfl,ζr hgf (s2.trans s67),nm',?_,?_,?_⟩
    ·rw[ζ9 ncg];exact hc7
    ·rw[ζ9 nm',hm7,eG2,ζY,ζO5]
     rfl
    ·rw[ζ1,eG2,ζF]
  ·rintro σ H2 ⟨mc,v5,v6,rfl,s2,hne,hc2,hm2,hg2⟩
   rw[ζ4,ζζH]at hg2
   have hgl14:=ζ68 hG hI
   generalize grw n.toNat ps (ns++os)=G at *
   refine⟨_,rfl,_,rfl,a,_,rfl,(hS.same s2).or,_,rfl,gl,_,rfl,SqL.of hg2,fun r1 hr1=>?_⟩
   have ec:cutV (IL G) none (some ((IL ns).length:Int))=IL (G.take ns.length):=by rw[ζF9 (by omega),ζζC,ζ4,ζ58]
   rw[ec]
   have s3:=same_at (o:=.lst (IL (G.take ns.length))) hr1
   refine⟨_,rfl,a,_,rfl,(hS.same (s2.trans s3)).or,fun r2 hr2=>?_⟩
   have s4:=same_at (o:=.lst (IL ns)) hr2
   refine⟨1,_,r1,r2,rfl,rfl,by decide,ζz9 (SqL.of (s4 _ _ ζ1)) (SqL.of ζ1),_,rfl,?_⟩
   have s24:=s2.trans (s3.trans s4)
   refine itn2 (fun he=>?_) (fun he=>?_)
   ·obtain⟨dx,tl,xs,h1,h2,h3⟩:=hW.same s24
    have hg4:=s4 _ _ (s3 _ _ hg2)
    refine⟨_,rfl,gl,_,rfl,.inl (SqL.of hg4),_,rfl,w,_,dx,_,_,rfl,h1,T.cl_Web,T.n_Web_places,ζU1 _ _,_,_,rfl,rfl,_,_,rfl,rfl,_,rfl,?_⟩
    rw[ζ4]
    refine itd2 (fun hc=>?_) (fun hc=>?_)
    ·exact q0 (.inr hc) _ s24
    ·refine⟨_,rfl,gl,G,rfl,SqL.of hg4,by omega,fun ms hp1 hp2 l hl=>?_⟩
     have s5:=same_at (o:=.lst (IL ms)) hl
     refine⟨l,_,rfl,.inl ⟨SqL.of ζ1,fun r hr=>?_⟩⟩
     exact q1 he hc r ms _ hp1 hp2 ((s24.trans s5).trans (same_at hr)) ((s24.trans s5).free hr) ζ1
   ·refine iteT ?_
    exact q0 (.inl he) _ s24
def spζh(K:PySem.W.Frag)(C:Addr):Sp:=fun vs H Q _=>∃(w:Addr) (n:Int) (ps:List (Int × Int)),vs=[.ref w]/\WebAt C H w n ps/\ζy n ps /\
 (¬ ((grd n.toNat ps ps.length).length:Int)<n - 1->∀(r:Addr) (H':Hp),Same H H'->H' r=some (.tup (IL (grd n.toNat ps ps.length)))->Q (.ref r) H') /\
 (((grd n.toNat ps ps.length).length:Int)<n - 1->∀ H':Hp,Same H H'->False)
theorem scζh:FnScope ["web"] ["web"] (ζ5 sζh):=⟨rfl,rfl,rfl,by decide +kernel,rfl,by decide +kernel,by decide +kernel⟩
theorem okζh (T:Txt K mg t):FnOk P w K mg base CX0 7 t.aζh t.dζh ["web"] (spζh K t.A_Web):=by
 refine T.fζh.ok scζh (fun vs H Q E h=>?_) (fun cdv A outer s H vs Q E hr h=>?_)
 ·obtain⟨w,n,ps,rfl,_⟩:=h
  rfl
 ·obtain⟨w,n,ps,rfl,hW,hG,q,q1⟩:=h
  refine⟨_,(ζ2 (ζC (ζa (okζd T) (hr.mono (by decide)) rfl T.mζd T.fζd.kp T.bζd .nil ζw (ζ0 (pv 0) ζ3)))
   (ζ7 (ζl (ζa (okζg T) (hr.mono (by decide)) rfl T.mζg T.fζg.kp T.bζg .nil ζw (ζ0 (pv 0) (ζ0 (ζV ζ3) (ζ0 (ζa (okζ4 T) (hr.mono (by decide)) rfl T.mζ4 T.fζ4.kp T.bζ4 .nil ζw (ζ0 (pv 0) ζ3)) ζ3))))))),?_⟩
  have hall:∀ z∈rgL ps.length,0<=z/\z<(ps.length:Int):=fun z hz=>rgL_mem.mp hz
  have eg:grw n.toNat ps (rgL ps.length)=grd n.toNat ps ps.length:=ζG4 _ _ _
  have hj:=ζl6 hG
  refine⟨_,rfl,w,n,ps,rfl,hW,hG,fun hJ H1 s1=>?_,fun hJ H1 s1=>q1 (by rw[hj]at hJ;omega) H1 s1⟩
  have hf:=hj.mp hJ
  refine⟨_,rfl,ζζj _,fun r0 hr0=>?_⟩
  have s0:=same_at (o:=.tup []) hr0
  have s10:=s1.trans s0
  refine⟨_,rfl,w,n,ps,rfl,hW.same s10,by have:=hG.2.2.1;omega,fun r2 H2 s2 hr20 hr2=>?_⟩
  refine⟨w,r0,r2,n,ps,true,true,[],rgL ps.length,rfl,(hW.same s10).same s2,hG,SqT.of (s2 _ _ ζ1),SqT.of hr2,ζζj _,by rw[ζM];have:=hG.2.2.1;omega,hall,fun hx H3 s3=>?_,fun _ _ r3 ms H3 hp1 hp2 s3 hr30 hr3=>?_⟩
  ·rw[ζζ1G,eg]at hx
   rcases hx with hx | hx
   ·exact absurd rfl hx
   ·exact absurd hx hf
  ·rw[ζζ1G,eg]at hp1
   have e:ms=grd n.toNat ps ps.length:=ζ75 hp1 hp2 ((ζu3 _).imp fun h=>by omega)
   rw[e]at hr3
   exact q hf r3 H3 (s10.trans (s2.trans s3)) hr3
def spζi(K:PySem.W.Frag)(C:Addr):Sp:=fun vs H Q _=>∃(w a:Addr) (n:Int) (ps:List (Int × Int)) (kd:Bool) (ns:List Int) (z:Int),vs=[.ref w,.ref a,.int z]/\WebAt C H w n ps/\ζy n ps/\SqK kd K H a (IL ns)/\IsSet ps.length ns /\
 ∀(r:Addr) (H':Hp),Same H H'->H r=none->H' r=some (.tup (IL (unlike (lms n.toNat (ζ6 ps (wo ns z))) ps ps.length)))->Q (.ref r) H'
theorem scζi:FnScope ["web","tree","tie","marks"] ["web","tree","tie"] (ζ5 sζi):=⟨rfl,rfl,rfl,by decide +kernel,rfl,by decide +kernel,by decide +kernel⟩
theorem okζi (T:Txt K mg t):FnOk P w K mg base CX0 3 t.aζi t.dζi ["web","tree","tie"] (spζi K t.A_Web):=by
 refine T.fζi.ok scζi (fun vs H Q E h=>?_) (fun cdv A outer s H vs Q E hr h=>?_)
 ·obtain⟨w,a,n,ps,kd,ns,z,rfl,_⟩:=h
  rfl
 ·obtain⟨w,a,n,ps,kd,ns,z,rfl,hW,hG,hS,hI,q⟩:=h
  refine⟨_,(ζ2 (ζh (i:=3) scζi.nd rfl (Or.inr rfl) (ζa (okζa T) (hr.mono (by decide)) rfl T.mζa T.fζa.kp T.bζa .nil ζw (ζ0 (pv 0) (ζ0 (ζa (okζ6 T) (hr.mono (by decide)) rfl T.mζ6 T.fζ6.kp T.bζ6 .nil ζw (ζ0 (pv 1) (ζ0 (pv 2) ζ3))) ζ3))))
   (ζ7 (ζl (ζg (ζJ K) (by rfl) T.n_tuple Boot.«tuple» (ζ0 (ζu4 rfl (sc0:=ζ5 sζi) (N0:=["web","tree","tie","marks"]) (N':=["number","ends","marks"]) (o:=2) (fr:=[3]) ⟨rfl,by decide +kernel,by decide +kernel,by decide +kernel,rfl,by decide +kernel⟩ (ζQ5 K rfl T.n_enumerate (ζ0 (ζ51 K (pv 0) rfl) ζ3)) (ζi3 (ζ21 (by decide) (ζ21 (by decide) ζj3))) (fun _ _ _ _=>(ζj1 (n:=2) K rfl (ζt (ζe (i:=0) (show List.Nodup (["number","ends","marks"]:List Str) by decide +kernel) rfl (Or.inl rfl)) (ζt (ζe (i:=1) (show List.Nodup (["number","ends","marks"]:List Str) by decide +kernel) rfl (Or.inl rfl)) ζi1)))) (fun _ _ _ _=>(ζ72 (ζj ζ95 (ζA (ζc K) (pv 2) (ζA (ζE K) (pv 1) ζ8 (fun _ _=>rfl)) (fun _ _=>rfl)) (ζA (ζc K) (pv 2) (ζA (ζE K) (pv 1) ζ8 (fun _ _=>rfl)) (fun _ _=>rfl)) (ζq _)))) (fun _ _ _ _=>(pv 0))) ζ3))))),?_⟩
  obtain⟨g1,g2,g3,g4⟩:=id hG
  have hln:=hI.len
  have hb:∀ y∈wo ns z,0<=y/\y<(ps.length:Int):=fun y hy=>hI.all y (wo_mem.mp hy).1
  refine⟨_,rfl,_,rfl,_,rfl,a,kd,ns,z,rfl,hS,by omega,fun r1 H1 s1 hr0 hr1=>?_⟩
  refine⟨w,r1,n,ps,wo ns z,rfl,hW.same s1,hG,SqT.of hr1,hb,fun m H2 s2 hm0 hm2=>?_⟩
  have hin:=ζO hG hb
  have e0:=ζ35 (M:=pms n.toNat (ζ6 ps (wo ns z))) hG (ζm _ _) (ζN3 hin)
  have hl:(pms n.toNat (ζ6 ps (wo ns z))).length=n.toNat:=ζm _ _
  rw[<- e0]at q
  generalize pms n.toNat (ζ6 ps (wo ns z))=M at *
  have s12:=s1.trans s2
  obtain⟨dx,tl,xs,h1,h2,h3⟩:=hW.same s12
  have hlx:=h3.1
  refine⟨_,rfl,w,_,dx,_,_,rfl,h1,T.cl_Web,T.n_Web_ties,ζy1 _ _,tl,rfl,⟨_,SqL.of h2⟩,ζ18 (K:=K) (a:=tl) (xs:=xs) (fun i ys H3=>Same H2 H3/\i<=xs.length/\ys=IL (unlike M ps i)) ⟨Same.refl _,ζζj _,rfl⟩ (ζk (by omega))
   (fun i ys H3 _ ⟨e,_,ey⟩=>⟨SqL.of (e _ _ h2),by rw[ey,ζ4];exact ζ52 _ _ _⟩) ?_ ?_⟩
  ·rintro i x ys H3 pt hpt hi ⟨s3,hil,rfl⟩ S hSS
   obtain⟨p,hpi,tt,rfl,htt⟩:=h3.at hi
   obtain⟨e1,e2,e3,e4⟩:=g4 p (ζζe hpi)
   have hil':i<xs.length:=(ζζ4.mp hi).1
   have s4:Same H3 (upd H3 pt (.tup [.int i,.ref tt])):=same_at hpt
   have s34:=s3.trans s4
   have htt4:=s34 _ _ htt
   have hm4:=s34 _ _ hm2
   have ed:ps.getD i (0,0)=p:=getD_of hpi
   have t0:atI ([.int p.1,.int p.2]:List V) 0=some (.int p.1):=rfl
   have t1:atI ([.int p.1,.int p.2]:List V) 1=some (.int p.2):=rfl
   have iA:atI (IL M) p.1=some (.int (mk M p.1.toNat)):=ζv (n:=p.1.toNat) (by omega) (ζT2 (ζ71 (by omega)))
   have iB:atI (IL M) p.2=some (.int (mk M p.2.toNat)):=ζv (n:=p.2.toNat) (by omega) (ζT2 (ζ71 (by omega)))
   refine⟨pt,_,rfl,SqT.of ζ1,rfl,_,_,rfl,_,_,rfl,rfl,?_⟩
   refine⟨_,rfl,_,rfl,tt,_,0,_,rfl,rfl,SqT.of htt4,t0,m,_,p.1,_,rfl,rfl,SqL.of hm4,iA,_,rfl,_,rfl,tt,_,1,_,rfl,rfl,SqT.of htt4,t1,m,_,p.2,_,rfl,rfl,SqL.of hm4,iB,rfl,_,rfl,?_⟩
   rw[ζI]
   refine itn2 (fun he=>?_) (fun he=>?_)
   ·refine hSS _ _ ⟨s34,hil',?_⟩
    rw[ζu2,ed,if_neg (by simpa using he),ζζ04]
   ·refine⟨_,rfl,hSS _ _ ⟨s34,hil',?_⟩⟩
    rw[ζu2,ed,if_pos he,ζF]
  ·rintro ys H3 ⟨s3,_,rfl⟩ p hp
   rw[hlx]
   refine⟨p,_,rfl,.inl ⟨SqL.of ζ1,fun r hr=>?_⟩⟩
   exact q r _ (s12.trans (s3.trans (ζn (same_at hp) hr))) ((s12.trans (s3.trans (same_at hp))).free hr) ζ1
def spζj(K:PySem.W.Frag)(C:Addr):Sp:=fun vs H Q _=>∃(w a:Addr) (n:Int) (ps:List (Int × Int)) (kd:Bool) (ns:List Int),vs=[.ref w,.ref a]/\WebAt C H w n ps/\ζy n ps/\SqK kd K H a (IL ns) /\
 (ζd n ps ns->∀(r:Addr) (xs:List V) (H':Hp),Same H H'->H r=none->H' r=some (.lst xs)->PairsV H' xs (exs n ps ns ns)->Q (.ref r) H') /\
 (¬ ζd n ps ns->∀ H':Hp,Same H H'->False)
theorem scζj:FnScope ["web","tree","exchanges","out"] ["web","tree"] (ζ5 sζj):=⟨rfl,rfl,rfl,by decide +kernel,rfl,by decide +kernel,by decide +kernel⟩
theorem okζj (T:Txt K mg t):FnOk P w K mg base CX0 8 t.aζj t.dζj ["web","tree"] (spζj K t.A_Web):=by
 refine T.fζj.ok scζj (fun vs H Q E h=>?_) (fun cdv A outer s H vs Q E hr h=>?_)
 ·obtain⟨w,a,n,ps,kd,ns,rfl,_⟩:=h
  rfl
 ·obtain⟨w,a,n,ps,kd,ns,rfl,hW,hG,hS,q,q2⟩:=h
  refine⟨_,(ζ2 (ζC (ζa (okζf T) (hr.mono (by decide)) rfl T.mζf T.fζf.kp T.bζf .nil ζw (ζ0 (pv 0) (ζ0 (pv 1) ζ3))))
   (ζ2 (ζh (i:=2) scζj.nd rfl (Or.inl rfl) (ζe1 ζ3))
   (ζ2 (ζ41 ζζP rfl (ζR1 K (pv 1)) (ζe (i:=3) scζj.nd rfl (Or.inr rfl))
   (ζ7 (ζC (ζ61 K ζζL ζζ1M ζζ1L ζM2 (pv 2) (ζ0 (ζu4 rfl (sc0:=ζ5 sζj) (N0:=["web","tree","exchanges","out"]) (N':=["into","out"]) (o:=1) (fr:=[3]) ⟨rfl,by decide +kernel,by decide +kernel,by decide +kernel,rfl,by decide +kernel⟩ (ζt4 K (ζa (okζ6 T) (hr.mono (by decide)) rfl T.mζ6 T.fζ6.kp T.bζ6 .nil ζw (ζ0 (ζa (okζi T) (hr.mono (by decide)) rfl T.mζi T.fζi.kp T.bζi .nil ζw (ζ0 (pv 0) (ζ0 (pv 1) (ζ0 (pv 3) ζ3)))) (ζ0 (pv 3) ζ3)))) (ζB (by decide)) (fun _ _ _ _=>(ζe (i:=0) (show List.Nodup (["into","out"]:List Str) by decide +kernel) rfl (Or.inl rfl))) (fun _ _ _ _=>ζP) (fun _ _ _ _=>(ζV (ζ0 (pv 1) (ζ0 (pv 0) ζ3))))) ζ3)))))
   (ζ7 (ζl (pv 2)))))),?_⟩
  refine⟨_,rfl,_,rfl,w,a,n,ps,kd,ns,rfl,hW,hG,hS,fun hT H1 s1=>?_,q2⟩
  have tl:ns.length<=20:=by have:=hT.2.1;have:=hG.2.1;omega
  have pl:ps.length<=30:=hG.2.2.1
  refine⟨ζζj _,fun l hl=>?_⟩
  refine⟨_,rfl,a,rfl,ζw3 (k:=kd) (K:=K) (xs:=IL ns) (fun i σ H2=>∃(xs:List V) (v:Option V),σ=[some (.ref w),some (.ref a),some (.ref l),v]/\Same H1 H2/\H2 l=some (.lst xs)/\PairsV H2 xs (exs n ps ns (ns.take i))) ⟨[],none,rfl,same_at hl,ζ1,PairsV.nil⟩ (fun i σ H2 _ ⟨_,_,_,e,_,_⟩=>(hS.same s1).same e) ?_ ?_⟩
  ·rintro i x σ H2 hi ⟨xs,v,rfl,s2,hl2,hP⟩
   obtain⟨o,rfl,ho⟩:=ζa1 hi
   have s12:=s1.trans s2
   have hil':i<ns.length:=(ζζ4.mp ho).1
   have xl:xs.length<=600:=by
    rw[hP.1]
    have h1:=ζv6 (n:=n) (ps:=ps) (ts:=ns) (ns.take i)
    have h2:(ns.take i).length<=20:=by rw[ζζv];omega
    have h3:ps.length * (ns.take i).length<=30 * 20:=ζζ2O pl h2
    omega
   refine⟨_,rfl,(.inl ⟨rfl,_,SqL.of hl2⟩),?_⟩
   refine⟨_,rfl,_,rfl,_,rfl,w,a,n,ps,kd,ns,o,rfl,hW.same s12,hG,hS.same s12,hT.1,fun r3 H3 s3 hr30 hr3=>?_⟩
   have cl:(cutT n ps ns o).length<=30:=ζζO (ζ52 _ _ _) pl
   refine⟨_,rfl,r3,true,cutT n ps ns o,o,rfl,SqT.of hr3,by omega,fun r4 H4 s4 hr40 hr4=>?_⟩
   have ew:(wo (cutT n ps ns o) o).length<=30:=ζζO (ζP6 _ _) cl
   have s24:=s3.trans s4
   have hl4:=s24 _ _ hl2
   have hP4:=hP.same s24
   refine⟨r4,rfl,⟨_,SqT.of hr4⟩,ζh9 (K:=K) (a:=r4) (xs:=IL (wo (cutT n ps ns o) o)) (fun i ys H5=>Same H4 H5/\i<=(wo (cutT n ps ns o) o).length/\PairsV H5 ys (((wo (cutT n ps ns o) o).take i).map fun z=>(o,z))) ⟨Same.refl _,ζζj _,PairsV.nil⟩ (ζk (by rw[ζ4];omega))
    (fun i ys H5 hi ⟨e,hi2,ey⟩=>⟨SqT.of (e _ _ hr4),by rw[ey.1,ζζa,ζζv];omega⟩) ?_ ?_⟩
   ·rintro j y ys H5 hj ⟨s5,hjl,hP5⟩ S hSS
    obtain⟨z,rfl,hz⟩:=ζa1 hj
    have hj':j<(wo (cutT n ps ns o) o).length:=(ζζ4.mp hz).1
    refine nm ?_
    refine⟨_,rfl,_,rfl,(by show 2<=sizeLine;decide),fun p hp=>hSS _ _ ⟨s5.trans (same_at hp),hj',?_⟩⟩
    rw[ζm8 hz]
    exact(hP5.same (same_at hp)).snoc ⟨p,rfl,ζ1⟩
   ·rintro ys H5 ⟨s5,_,hP5⟩ p hp
    rw[ζ4,ζζH]at hP5
    have s6:=s5.trans (same_at (o:=.lst ys) hp)
    have hl6:=s6 _ _ hl4
    have yl:ys.length<=30:=by rw[hP5.1,ζζa];exact ew
    refine⟨l,p,xs,ys,rfl,rfl,hl6,ζ1,ζa3 (by omega),?_⟩
    refine⟨_,_,rfl,ζr hl ((s2.trans s24).trans s6),ζ1,?_⟩
    rw[ζx9 ho]
    exact(((hP4.same s6).app (hP5.same (same_at hp)))).mut hl6
  ·rintro σ H2 ⟨xs,v,rfl,s2,hl2,hP⟩
   rw[ζ4,ζζH]at hP
   exact⟨_,rfl,q hT l xs H2 (s1.trans s2) (s1.free hl) hl2 hP⟩
def spζk(K:PySem.W.Frag)(C:Addr):Sp:=fun vs H Q _=>∃(w a:Addr) (n:Int) (ps:List (Int × Int)) (kd:Bool) (ns:List Int) (o z:Int),vs=[.ref w,.ref a,.int o,.int z]/\WebAt C H w n ps/\ζy n ps/\SqK kd K H a (IL ns)/\-(10 ^ 70)<o/\o<10 ^ 70/\-(10 ^ 70)<z/\z<10 ^ 70 /\
 (ζd n ps ns->exg n ps ns o z->∀(ms:List Int),ms.Perm (wo ns o++[z])->ms.Pairwise (·<=·)->∀(r:Addr) (H':Hp),Same H H'->H r=none->H' r=some (.tup (IL ms))->Q (.ref r) H') /\
 (ζd n ps ns->¬ exg n ps ns o z->∀ H':Hp,Same H H'->False)/\(¬ ζd n ps ns->∀ H':Hp,Same H H'->False)
theorem scζk:FnScope ["web","tree","out","into"] ["web","tree","out","into"] (ζ5 sζk):=⟨rfl,rfl,rfl,by decide +kernel,rfl,by decide +kernel,by decide +kernel⟩
theorem okζk (T:Txt K mg t):FnOk P w K mg base CX0 8 t.aζk t.dζk ["web","tree","out","into"] (spζk K t.A_Web):=by
 refine T.fζk.ok scζk (fun vs H Q E h=>?_) (fun cdv A outer s H vs Q E hr h=>?_)
 ·obtain⟨w,a,n,ps,kd,ns,o,z,rfl,_⟩:=h
  rfl
 ·obtain⟨w,a,n,ps,kd,ns,o,z,rfl,hW,hG,hS,o0,o1,z0,z1,q,q1,q2⟩:=h
  refine⟨_,(ζ2 (ζC (ζa (okζf T) (hr.mono (by decide)) rfl T.mζf T.fζf.kp T.bζf .nil ζw (ζ0 (pv 0) (ζ0 (pv 1) ζ3))))
   (ζ2 (ζh1 (PW.pt (ζ17 (ζj (ζq1 K) (pv 2) (pv 1) rfl) (ζ17 (ζj ζS5 (pv 3) (pv 2) (ζq _)) (ζe3 (ζj (ζq1 K) (pv 3) (ζa (okζi T) (hr.mono (by decide)) rfl T.mζi T.fζi.kp T.bζi .nil ζw (ζ0 (pv 0) (ζ0 (pv 1) (ζ0 (pv 2) ζ3)))) rfl)))))
   (ζ7 ζ11)
   ζo)
   (ζ7 (ζl (ζg (ζJ K) (by rfl) T.n_tuple Boot.«tuple» (ζ0 (ζf (ζ84 K) (by rfl) T.n_sorted Boot.«sorted» (ζ0 (ζp (ζy4 K) (ζa (okζ6 T) (hr.mono (by decide)) rfl T.mζ6 T.fζ6.kp T.bζ6 .nil ζw (ζ0 (pv 1) (ζ0 (pv 2) ζ3))) (ζV (ζ0 (pv 3) ζ3))) ζ3)) ζ3)))))),?_⟩
  refine⟨_,rfl,_,rfl,w,a,n,ps,kd,ns,rfl,hW,hG,hS,fun hT H1 s1=>?_,q2⟩
  have one:1<=sizeLine:=by decide
  have tl:ns.length<=20:=by have:=hT.2.1;have:=hG.2.1;omega
  refine⟨_,rfl,_,rfl,a,_,rfl,(hS.same s1).or,rfl,ζd1 _,_,rfl,?_⟩
  rw[ζx1]
  refine itn2 (fun ho=>?_) (fun ho=>?_)
  rotate_left
  ·exact iteT (q1 hT (fun h=>ho h.1) H1 s1)
  refine⟨_,rfl,_,rfl,rfl,_,rfl,?_⟩
  rw[ζI]
  refine itd2 (fun he=>?_) (fun he=>?_)
  ·exact iteT (q1 hT (fun h=>h.2.1 he) H1 s1)
  refine⟨_,rfl,_,rfl,_,rfl,_,rfl,w,a,n,ps,kd,ns,o,rfl,hW.same s1,hG,hS.same s1,hT.1,fun r H2 s2 hr0 hr2=>?_⟩
  have s12:=s1.trans s2
  refine⟨r,_,rfl,.inr (SqT.of hr2),rfl,ζd1 _,_,rfl,?_⟩
  rw[ζx1]
  refine itn2 (fun hc=>?_) (fun hc=>?_)
  ·have hx:exg n ps ns o z:=⟨ho,he,hc⟩
   refine⟨_,rfl,_,rfl,a,kd,ns,o,rfl,hS.same s12,by omega,fun r1 H3 s3 hr10 hr13=>?_⟩
   have wl:=ζP6 ns o
   refine⟨_,rfl,one,fun p2 hp2=>?_⟩
   have s4:=same_at (o:=.tup (IL [z])) hp2
   have s14:=(s12.trans s3).trans s4
   refine⟨r1,p2,IL (wo ns o),IL [z],rfl,rfl,SqT.of (s4 _ _ hr13),SqT.of ζ1,ζa3 (by rw[ζ4,ζ4,ζζq,ζζ0Q];omega),fun e=>?_,fun _ e=>(nomatch e),fun _ _ p3 hp3=>?_⟩
   ·have e0:wo ns o=[]:=by cases h:wo ns o with | nil=>rfl | cons x l=>rw[h]at e;cases e
    refine⟨p2,[z],rfl,SqT.of ζ1,by simp,fun ms hpm hpw p4 hp4=>?_⟩
    refine⟨p4,IL ms,rfl,.inl ⟨SqL.of ζ1,fun r9 hr=>?_⟩⟩
    exact q hT hx ms (by rw[e0];exact hpm) hpw r9 _ (s14.trans (ζn (same_at hp4) hr)) ((s14.trans (same_at hp4)).free hr) ζ1
   ·have s15:=s14.trans (same_at (o:=.tup (IL (wo ns o)++IL [z])) hp3)
    refine⟨p3,wo ns o++[z],rfl,SqT.of (by rw[ζ1];congr 2;exact(ζζA ..).symm),by simp only [ζζ6,ζζq,ζζ0Q];omega,fun ms hpm hpw p4 hp4=>?_⟩
    refine⟨p4,IL ms,rfl,.inl ⟨SqL.of ζ1,fun r9 hr=>?_⟩⟩
    exact q hT hx ms hpm hpw r9 _ (s15.trans (ζn (same_at hp4) hr)) ((s15.trans (same_at hp4)).free hr) ζ1
  ·exact q1 hT (fun h=>hc h.2.2) H2 s12
def smW(ls ns:List Int):Int:=(ns.map fun z=>ls.getD z.toNat 0).sum
def spζl(K:PySem.W.Frag)(C:Addr):Sp:=fun vs H Q _=>∃(w a b:Addr) (n:Int) (ps:List (Int × Int)) (kd ke:Bool) (ls ns:List Int),vs=[.ref w,.ref a,.ref b]/\WebAt C H w n ps/\ps.length<=30/\SqK kd K H a (IL ls)/\SqK ke K H b (IL ns) /\
 ls.length=ps.length/\IsSet ps.length ns/\∀ H':Hp,Same H H'->Q (.int (smW ls ns)) H'
theorem scζl:FnScope ["web","lengths","ties"] ["web","lengths","ties"] (ζ5 sζl):=⟨rfl,rfl,rfl,by decide +kernel,rfl,by decide +kernel,by decide +kernel⟩
theorem okζl (T:Txt K mg t):FnOk P w K mg base CX0 4 t.aζl t.dζl ["web","lengths","ties"] (spζl K t.A_Web):=by
 refine T.fζl.ok scζl (fun vs H Q E h=>?_) (fun cdv A outer s H vs Q E hr h=>?_)
 ·obtain⟨w,a,b,n,ps,kd,ke,ls,ns,rfl,_⟩:=h
  rfl
 ·obtain⟨w,a,b,n,ps,kd,ke,ls,ns,rfl,hW,p30,hA,hB,hl,hI,q⟩:=h
  refine⟨_,(ζ2 (ζC (ζa (okζ3 T) (hr.mono (by decide)) rfl T.mζ3 T.fζ3.kp T.bζ3 .nil ζw (ζ0 (pv 0) (ζ0 (pv 1) ζ3))))
   (ζ7 (ζl (ζf (ζ12 K rfl) (by rfl) T.n_sum Boot.«sum» (ζ0 (ζu4 rfl (sc0:=ζ5 sζl) (N0:=["web","lengths","ties"]) (N':=["tie","lengths"]) (o:=1) (fr:=[1]) ⟨rfl,by decide +kernel,by decide +kernel,by decide +kernel,rfl,by decide +kernel⟩ (ζt4 K (ζa (okζ8 T) (hr.mono (by decide)) rfl T.mζ8 T.fζ8.kp T.bζ8 .nil ζw (ζ0 (pv 0) (ζ0 (pv 2) ζ3)))) (ζB (by decide)) (fun _ _ _ _=>(ζe (i:=0) (show List.Nodup (["tie","lengths"]:List Str) by decide +kernel) rfl (Or.inl rfl))) (fun _ _ _ _=>ζP) (fun _ _ _ _=>(ζA (ζE4 K) (pv 1) (pv 0) (fun _ _=>rfl)))) ζ3))))),?_⟩
  refine⟨_,rfl,_,rfl,w,a,n,ps,kd,ls,rfl,hW,hA,fun _=>?_,fun h=>absurd hl h⟩
  refine⟨_,rfl,_,rfl,w,b,n,ps,ke,ns,rfl,hW,hB,hI,fun r H1 s1 hr=>?_⟩
  have hms:=isSet_iff.mp hI
  have hlen:=hI.len
  refine⟨r,rfl,⟨_,hr⟩,ζh9 (K:=K) (a:=r) (xs:=IL ns) (fun i ws H2=>H2=H1/\ws=IL ((ns.take i).map fun z=>ls.getD z.toNat 0)/\i<=ns.length) ⟨rfl,rfl,ζζj _⟩ (ζk (by rw[ζ4];omega)) (fun i ws H2 hi ⟨e,ew,hi2⟩=>⟨e ▸ hr,by rw[ew,ζ4,ζζa,ζζv];omega⟩) ?_ ?_⟩
  ·rintro i v ws H2 hi ⟨rfl,rfl,hil⟩ S hSS
   obtain⟨z,rfl,hz⟩:=ζa1 hi
   obtain⟨z0,z1⟩:=hms.1 z (ζζe hz)
   obtain⟨y,hy⟩:∃ y,ls[z.toNat]?=some y:=⟨_,ζζ0 (by omega)⟩
   refine nm ?_
   refine⟨_,rfl,_,rfl,kd,a,_,_,.int y,rfl,rfl,hA.same s1,ζv (n:=z.toNat) (by omega) (ζT2 hy),?_⟩
   refine hSS _ _ ⟨rfl,?_,(ζζ4.mp hz).1⟩
   have e:ls.getD z.toNat 0=y:=getD_of hy
   rw[ζζK,hz,ζζA,<- e]
   exact(ζF _ _).symm
  ·rintro ws H2 ⟨rfl,rfl,_⟩ lA hlA
   refine⟨lA,_,rfl,SqL.of ζ1,?_⟩
   rw[ζ4,ζζH]
   exact q _ (s1.trans (same_at hlA))
def spζm(K:PySem.W.Frag)(C:Addr):Sp:=fun vs H Q _=>∃(w b:Addr) (kd:Bool) (n:Int) (ps:List (Int × Int)) (ls:List Int),vs=[.ref w,.ref b]/\WebAt C H w n ps/\ζy n ps/\SqK kd K H b (IL ls)/\ls.length=ps.length/\∀(w':Addr) (H':Hp),Same H H'->WebAt C H' w' n (cwT n.toNat ps ls)->Q (.ref w') H'
theorem ζ912{xs:List V}{i:Int}(h0:0<=i)(h1:i<(xs.length:Int)):ixN xs.length i=some i.toNat:=by
 unfold ixN
 rw[if_pos h0,if_pos (by omega)]
theorem scζm:FnScope ["web","lengths","made","marks","length","level","merged","spots","tie","ends"] ["web","lengths"] (ζ5 sζm):=⟨rfl,rfl,rfl,by decide +kernel,rfl,by decide +kernel,by decide +kernel⟩
theorem okζm (T:Txt K mg t):FnOk P w K mg base CX0 4 t.aζm t.dζm ["web","lengths"] (spζm K t.A_Web):=by
 refine T.fζm.ok scζm (fun vs H Q E h=>?_) (fun cdv A outer s H vs Q E hr h=>?_)
 ·obtain⟨w,b,kd,n,ps,ls,rfl,_⟩:=h
  rfl
 ·obtain⟨w,b,kd,n,ps,ls,rfl,hW,hG,hS,hl,q⟩:=h
  refine⟨_,(ζ2 (ζC (ζa (okζ3 T) (hr.mono (by decide)) rfl T.mζ3 T.fζ3.kp T.bζ3 .nil ζw (ζ0 (pv 0) (ζ0 (pv 1) ζ3))))
   (ζ2 (ζh (i:=2) scζm.nd rfl (Or.inl rfl) (ζg (ζH1 K) (by rfl) T.n_list Boot.«list» (ζ0 (ζ51 K (pv 0) rfl) ζ3)))
   (ζ2 (ζh (i:=3) scζm.nd rfl (Or.inl rfl) (ζa (okζa T) (hr.mono (by decide)) rfl T.mζa T.fζa.kp T.bζa .nil ζw (ζ0 (pv 0) (ζ0 (ζV ζ3) ζ3))))
   (ζ2 (ζ41 ζζP rfl (ζL K (ζh3 K rfl rfl T.n_sorted rfl T.n_set (ζ0 (pv 1) ζ3))) (ζe (i:=4) scζm.nd rfl (Or.inr rfl))
   (ζ2 (ζ27 (i:=5) rfl scζm.nd rfl rfl (sc0:=ζ5 sζm) (N0:=["web","lengths","made","marks","length","level","merged","spots","tie","ends"]) (N':=["tie","own","length"]) (o:=2) (fr:=[4]) ⟨rfl,by decide +kernel,by decide +kernel,by decide +kernel,rfl,by decide +kernel⟩ (ζU8 K rfl T.n_enumerate (ζ0 (pv 1) ζ3)) (ζi3 (ζ21 (by decide) (ζ21 (by decide) ζj3))) (fun _ _ _ _=>(ζj1 (n:=2) K rfl (ζt (ζe (i:=0) (show List.Nodup (["tie","own","length"]:List Str) by decide +kernel) rfl (Or.inl rfl)) (ζt (ζe (i:=1) (show List.Nodup (["tie","own","length"]:List Str) by decide +kernel) rfl (Or.inl rfl)) ζi1)))) (fun _ _ _ _=>(ζ72 (ζj ζS5 (pv 1) (pv 2) (ζq _)))) (fun _ _ _ _=>(pv 0)))
   (ζ2 (ζh (i:=6) scζm.nd rfl (Or.inl rfl) (ζa (okζ9 T) (hr.mono (by decide)) rfl T.mζ9 T.fζ9.kp T.bζ9 .nil ζw (ζ0 (pv 0) (ζ0 (pv 3) (ζ0 (pv 5) ζ3)))))
   (ζ2 (ζ27 (i:=7) rfl scζm.nd rfl rfl (sc0:=ζ5 sζm) (N0:=["web","lengths","made","marks","length","level","merged","spots","tie","ends"]) (N':=["mark","later"]) (o:=2) (fr:=[]) ⟨rfl,by decide +kernel,by decide +kernel,by decide +kernel,rfl,by decide +kernel⟩ (ζP11 K rfl T.n_zip (ζ0 (pv 3) (ζ0 (pv 6) ζ3))) (ζi3 (ζ21 (by decide) (ζ21 (by decide) ζj3))) (fun _ _ _ _=>(ζj1 (n:=2) K rfl (ζt (ζe (i:=0) (show List.Nodup (["mark","later"]:List Str) by decide +kernel) rfl (Or.inl rfl)) (ζt (ζe (i:=1) (show List.Nodup (["mark","later"]:List Str) by decide +kernel) rfl (Or.inl rfl)) ζi1)))) (fun _ _ _ _=>ζP) (fun _ _ _ _=>(ζS3 (ζj ζS5 (pv 0) (pv 1) (ζq _)) ζ8 (pv 0))))
   (ζ2 (ζ41 ζζP rfl (ζL K (pv 5)) (ζe (i:=8) scζm.nd rfl (Or.inl rfl))
   (ζ2 (ζh (i:=9) scζm.nd rfl (Or.inl rfl) (ζA (ζc K) (ζ51 K (pv 0) rfl) (pv 8) (fun _ _=>rfl)))
   (ζ7 (ζH2 (ζV (ζ0 (ζA (ζc K) (pv 7) (ζA (ζE K) (pv 9) ζ8 (fun _ _=>rfl)) (fun _ _=>rfl)) (ζ0 (ζA (ζc K) (pv 7) (ζA (ζE K) (pv 9) ζ8 (fun _ _=>rfl)) (fun _ _=>rfl)) ζ3))) (ζ57 (pv 2) (pv 8) ζF2)))))
   (ζ7 (ζh (i:=3) scζm.nd rfl (Or.inl rfl) (pv 6))))))))
   (ζ7 (ζl (ζN7 T.k_Web (okζ2 T) (hr.mono (by decide)) rfl T.c_Web T.bζ2 .nil ζw (ζ0 (ζ51 K (pv 0) rfl) (ζ0 (pv 2) ζ3))))))))),?_⟩
  obtain⟨g1,g2,g3,g4⟩:=id hG
  obtain⟨dx,tl,xs,h1,h2,h3⟩:=id hW
  have hxl:=h3.1
  refine⟨_,rfl,_,rfl,w,b,n,ps,kd,ls,rfl,hW,hS,fun _=>?_,fun h=>absurd hl h⟩
  refine⟨_,rfl,w,_,dx,_,_,rfl,h1,T.cl_Web,T.n_Web_ties,ζy1 _ _,tl,xs,rfl,.inl (SqL.of h2),fun md hmd=>?_⟩
  have u1:=same_at (o:=.lst xs) hmd
  have m1:=ζ1 (H:=H) (a:=md) (o:=.lst xs)
  generalize upd H md (.lst xs)=H1 at *
  refine nm ?_
  dsimp only
  refine⟨_,rfl,ζζj _,fun t0 ht0=>?_⟩
  have u2:=same_at (o:=.tup []) ht0
  refine⟨w,t0,n,ps,[],rfl,hW.same (u1.trans u2),hG,SqT.of ζ1,fun z hz=>(by cases hz),fun m0 H2 s2 hm0 hm2=>?_⟩
  have u3:=u2.trans s2
  have md0:m0≠md:=ζζY (ζb (u2 _ _ m1) hm0)
  have m2:=u3 _ _ m1
  have t2:=u1.trans u3
  have hmd0:H md=none:=hmd
  refine nm ?_
  dsimp only
  refine⟨_,rfl,kd,b,ls,rfl,hS.same t2,by omega,fun Ls hLa hLm lA hlA=>?_⟩
  have u4:=same_at (o:=.lst (IL Ls)) hlA
  have lmd:lA≠md:=ζζY (ζb m2 hlA)
  have hl4:=ζ1 (H:=H2) (a:=lA) (o:=.lst (IL Ls))
  have m4:=u4 _ _ m2
  have hm4:=u4 _ _ hm2
  have t4:=t2.trans u4
  show ∃ _,_
  refine⟨lA,rfl,⟨_,SqL.of hl4⟩,?_⟩
  generalize upd H2 lA (.lst (IL Ls))=H4 at *
  refine ζW2 (K:=K) (a:=lA) (xs:=IL Ls) (fun j σ H5=>∃(m:Addr) (S:List Int) (ys:List V) (v4 v5 v6 v7 v8 v9:Option V),σ=[some (.ref w),some (.ref b),some (.ref md),some (.ref m),v4,v5,v6,v7,v8,v9]/\Same H H5/\m≠md/\H5 m=some (.lst (IL (pms n.toNat (ζ6 ps S))))/\(∀ z,z∈S↔(0<=z/\z<(ps.length:Int))/\lnz ls z∈Ls.take j)/\H5 md=some (.lst ys)/\PairsV H5 ys (mdT n.toNat ps ls fun i=>ls.getD i 0∈Ls.take j)/\H5 lA=some (.lst (IL Ls)))
   ⟨m0,[],xs,none,none,none,none,none,none,rfl,t4,md0,hm4,fun z=>⟨fun h=>(by cases h),fun h=>(by cases h.2)⟩,m4,(by rw[ζ79 fun i _ h=>(by cases h)];exact h3.same t4),hl4⟩ (fun j σ H5 _ ⟨_,_,_,_,_,_,_,_,_,_,_,_,_,_,_,_,e⟩=>SqL.of e) ?_ ?_
  ·rintro j v σ H5 hj ⟨m,S,ys,v4,v5,v6,v7,v8,v9,rfl,s5,mmd,hm5,hSm,hy5,hY5,hl5⟩
   obtain⟨x,rfl,hx⟩:=ζa1 hj
   refine nm ?_
   dsimp only
   refine⟨_,rfl,b,kd,rfl,⟨_,hS.same s5⟩,ζj9 (K:=K) (kd:=kd) (a:=b) (xs:=IL ls) (fun i zs H6=>Same H5 H6/\zs=IL (lvl ls x i)) ⟨Same.refl _,rfl⟩ (ζk (by rw[ζ4];omega)) (fun i zs H6 hi ⟨e,ez⟩=>⟨hS.same (s5.trans e),by rw[ez,ζ4];exact(ζY7 ls x i).len⟩) ?_ ?_⟩
   ·rintro i v zs H6 pt hpt hi ⟨s6,rfl⟩ SS hSS
    obtain⟨y,rfl,hy⟩:=ζa1 hi
    have s7:=same_at (o:=.tup [.int i,.int y]) hpt
    refine⟨pt,_,rfl,SqT.of ζ1,rfl,_,_,rfl,_,_,rfl,rfl,?_⟩
    have s67:=s6.trans s7
    have ey:ls.getD i 0=y:=getD_of hy
    refine⟨_,rfl,_,rfl,rfl,_,rfl,?_⟩
    rw[ζI]
    refine itd2 (fun he=>?_) (fun he=>?_)
    ·refine⟨_,rfl,hSS _ _ ⟨s67,?_⟩⟩
     rw[ζ76,if_pos (ey.trans he)]
     exact(ζF ..).symm
    ·refine hSS _ _ ⟨s67,?_⟩
     rw[ζ76,if_neg (fun h=>he (ey.symm.trans h)),ζζ04]
   rintro zs H6 ⟨s6,rfl⟩ lv hlv
   rw[ζ4,hl]
   have s7:=same_at (o:=.lst (IL (lvl ls x ps.length))) hlv
   have hv7:=ζ1 (H:=H6) (a:=lv) (o:=.lst (IL (lvl ls x ps.length)))
   have hy6:=s6 _ _ hy5
   have lvmd:lv≠md:=ζζY (ζb hy6 hlv)
   have s57:=s6.trans s7
   generalize upd H6 lv (.lst (IL (lvl ls x ps.length)))=H7 at *
   refine nm ?_
   dsimp only
   obtain⟨up1,up2,up3⟩:=ζ89 hG hl hLa hLm hx hSm
   have at1:=ζ99 hG hl hLa hLm hx hSm
   refine⟨_,rfl,_,rfl,_,rfl,w,m,lv,n,ps,_,false,lvl ls x ps.length,rfl,(hW.same s5).same s57,hG,s57 _ _ hm5,ζm _ _,SqL.of hv7,(ζY7 ls x ps.length).all,fun m' H8 s8 hm' hm8=>?_⟩
   rw[up1]at hm8
   have hy7:=s57 _ _ hy5
   have hy8:=s8 _ _ hy7
   have m'md:m'≠md:=by
    rcases hm' with e | e
    ·rw[e];exact mmd
    ·exact ζζY (ζb hy7 e)
   have s58:=s57.trans s8
   have hm58:=s58 _ _ hm5
   refine nm ?_
   dsimp only
   refine⟨_,rfl,_,rfl,m,m',rfl,⟨_,_,SqL.of hm58,SqL.of hm8⟩,ζ112 (K:=K) (a:=m) (b:=m') (xs:=IL (pms n.toNat (ζ6 ps S))) (ys:=IL (pms n.toNat (ζ6 ps (S++lvl ls x ps.length)))) (fun i zs H9=>Same H8 H9/\i<=n.toNat/\zs=IL ((List.range i).map (spt n.toNat ps ls x))) ⟨Same.refl _,ζζj _,rfl⟩ (by rw[ζ4,ζ4,ζm,ζm]) (ζk (by rw[ζ4,ζm];omega))
    (fun i zs H9 hi ⟨e,hi2,ez⟩=>⟨SqL.of (e _ _ hm58),SqL.of (e _ _ hm8),by rw[ez,ζ4,ζζa,ζζS];exact ζζ5 _⟩) ?_ ?_⟩
   ·rintro i u v zs H9 pt hpt hu hv ⟨s9,hil,rfl⟩ SS hSS
    obtain⟨a1,rfl,ha1⟩:=ζa1 hu
    obtain⟨b1,rfl,hb1⟩:=ζa1 hv
    have hil':i<n.toNat:=by have:=(ζζ4.mp ha1).1;rw[ζm]at this;exact this
    have s10:=same_at (o:=.tup [.int a1,.int b1]) hpt
    refine⟨pt,_,rfl,SqT.of ζ1,rfl,_,_,rfl,_,_,rfl,rfl,?_⟩
    have ea:mk (mA n.toNat ps ls x) i=a1:=by rw[<- at1];unfold mk;exact getD_of ha1
    have eb:mk (mB n.toNat ps ls x) i=b1:=by rw[<- up2];unfold mk;exact getD_of hb1
    have es:∀ y:Int,(if a1=b1 then 0 else a1)=y->IL ((List.range i).map (spt n.toNat ps ls x))++[V.int y]=IL ((List.range (i+1)).map (spt n.toNat ps ls x)):=fun y hy=>by
     rw[ζζ0O,ζζA]
     show _=IL (_++[spt n.toNat ps ls x i])
     unfold spt
     rw[ea,eb,hy]
     exact(ζF ..).symm
    refine⟨_,rfl,_,rfl,rfl,_,rfl,?_⟩
    rw[ζI]
    refine itd2 (fun he=>?_) (fun he=>?_)
    ·exact hSS _ _ ⟨s9.trans s10,hil',es 0 (if_pos he)⟩
    ·exact⟨_,rfl,hSS _ _ ⟨s9.trans s10,hil',es a1 (if_neg he)⟩⟩
   rintro zs H9 ⟨s9,_,rfl⟩ sp hsp
   rw[ζ4,ζm]
   have s10:=same_at (o:=.lst (IL ((List.range n.toNat).map (spt n.toNat ps ls x)))) hsp
   have hsp10:=ζ1 (H:=H9) (a:=sp) (o:=.lst (IL ((List.range n.toNat).map (spt n.toNat ps ls x))))
   have hy9:=s9 _ _ hy8
   have spmd:sp≠md:=ζζY (ζb hy9 hsp)
   have s510:=s58.trans (s9.trans s10)
   have s810:=s9.trans s10
   generalize upd H9 sp (.lst (IL ((List.range n.toNat).map (spt n.toNat ps ls x))))=H10 at *
   have hm10:=s810 _ _ hm8
   have hv10:=s810 _ _ (s8 _ _ hv7)
   have hy10:=s810 _ _ hy8
   have hY10:=hY5.same s510
   have hl10:=s510 _ _ hl5
   have t10:=s5.trans s510
   refine nm ?_
   dsimp only
   refine⟨_,rfl,lv,rfl,⟨_,SqL.of hv10⟩,ζW2 (K:=K) (a:=lv) (xs:=IL (lvl ls x ps.length)) (fun k σ H11=>∃(ys:List V) (v8 v9:Option V),σ=[some (.ref w),some (.ref b),some (.ref md),some (.ref m),some (.int x),some (.ref lv),some (.ref m'),some (.ref sp),v8,v9]/\(∀ a o,a≠md->H10 a=some o->H11 a=some o)/\H11 md=some (.lst ys)/\PairsV H11 ys (mdT n.toNat ps ls fun i=>ls.getD i 0∈Ls.take j\/(i:Int)∈(lvl ls x ps.length).take k)) ⟨ys,_,_,rfl,fun _ _ _ h=>h,hy10,(by rw[ζA4 (q:=fun i=>ls.getD i 0∈Ls.take j) fun i _=>⟨fun h=>h.elim id fun h=>(by cases h),.inl⟩];exact hY10)⟩ (fun k σ H11 _ ⟨_,_,_,_,e,_⟩=>SqL.of (e _ _ lvmd hv10)) ?_ ?_⟩
   ·rintro k v σ H11 hk ⟨ys,v8,v9,rfl,kp,hy11,hY11⟩
    obtain⟨z,rfl,hz⟩:=ζa1 hk
    obtain⟨zb,zl⟩:=lvl_mem.mp (ζζe hz)
    have t11:Same H H11:=fun a o e=>kp a o (ζb e hmd0) (t10 a o e)
    obtain⟨p,hp⟩:∃ p,ps[z.toNat]?=some p:=⟨_,ζζ0 (by omega)⟩
    obtain⟨vv,hvv,tt,rfl,htt⟩:=h3.2 z.toNat p hp
    obtain⟨e1,e2,e3,e4⟩:=g4 p (ζζe hp)
    have ed:ps.getD z.toNat (0,0)=p:=getD_of hp
    have hsp11:=kp _ _ spmd hsp10
    have ht11:=t11 _ _ htt
    refine nm ?_
    dsimp only
    refine⟨_,rfl,w,_,dx,_,_,rfl,t11 _ _ h1,T.cl_Web,T.n_Web_ties,ζy1 _ _,_,rfl,tl,xs,z,.ref tt,rfl,rfl,SqL.of (t11 _ _ h2),ζv (n:=z.toNat) (by omega) hvv,?_⟩
    refine nm ?_
    dsimp only
    have at_:∀ y:Int,0<=y->y<n->atI (IL ((List.range n.toNat).map (spt n.toNat ps ls x))) y=some (.int (spt n.toNat ps ls x y.toNat)):=fun y y0 y1=>ζv (n:=y.toNat) (by omega) (by rw[ζζh,ζζh,ζζ0a (by omega)];rfl)
    have c0:atI ([.int p.1,.int p.2]:List V) 0=some (.int p.1):=rfl
    have c1:atI ([.int p.1,.int p.2]:List V) 1=some (.int p.2):=rfl
    refine⟨_,rfl,_,rfl,tt,_,0,_,rfl,rfl,SqT.of ht11,c0,sp,_,p.1,_,rfl,rfl,SqL.of hsp11,at_ p.1 e1 e2,_,rfl,_,rfl,tt,_,1,_,rfl,rfl,SqT.of ht11,c1,sp,_,p.2,_,rfl,rfl,SqL.of hsp11,at_ p.2 e3 e4,(by show 2<=sizeLine;decide),fun tA htA=>?_⟩
    have s12:=same_at (o:=.tup [.int (spt n.toNat ps ls x p.1.toNat),.int (spt n.toNat ps ls x p.2.toNat)]) htA
    have hy12:=s12 _ _ hy11
    have hA12:=ζ1 (H:=H11) (a:=tA) (o:=.tup [.int (spt n.toNat ps ls x p.1.toNat),.int (spt n.toNat ps ls x p.2.toNat)])
    have tmd:tA≠md:=ζζY (ζb hy11 htA)
    have hY12:=hY11.same s12
    have yl:ys.length=ps.length:=by rw[hY12.1,ζy10]
    refine⟨_,rfl,_,rfl,md,_,_,z.toNat,rfl,rfl,hy12,ζ912 zb.1 (by omega),?_⟩
    refine⟨ys.set z.toNat (.ref tA),some (.int z),some (.ref tt),rfl,fun a o ha e=>?_,ζ1,?_⟩
    ·rw[ζ9 ha]
     exact s12 _ _ (kp a o ha e)
    ·have e5:(spt n.toNat ps ls x p.1.toNat,spt n.toNat ps ls x p.2.toNat)=cwP n.toNat ps ls z.toNat:=by
      unfold cwP
      rw[ed,show ls.getD z.toNat 0=x from zl]
     have hP:=(hY12.mut (l:=md) (zs:=ys.set z.toNat (.ref tA)) hy12).set z.toNat (v:=.ref tA) (p:=(spt n.toNat ps ls x p.1.toNat,spt n.toNat ps ls x p.2.toNat)) ⟨tA,rfl,by rw[ζ9 tmd];exact hA12⟩
     rw[e5,ζx10 (q:=fun i=>ls.getD i 0∈Ls.take j\/(i:Int)∈(lvl ls x ps.length).take (k+1)) fun i _=>?_]at hP
     ·exact hP
     ·rw[ζζK,hz]
      show _\/(i:Int)∈(lvl ls x ps.length).take k++[z]↔_
      rw[ζζ9,ζζ1,or_assoc]
      have:(i:Int)=z↔i=z.toNat:=by omega
      rw[this]
   rintro σ H11 ⟨ys',v8,v9,rfl,kp,hy11,hY11⟩
   rw[ζ4,ζζH]at hY11
   have t11:Same H H11:=fun a o e=>kp a o (ζb e hmd0) (t10 a o e)
   refine⟨_,rfl,?_⟩
   refine nm ?_
   refine⟨m',S++lvl ls x ps.length,ys',_,_,_,_,_,_,rfl,t11,m'md,kp _ _ m'md hm10,up3,hy11,?_,kp _ _ lmd hl10⟩
   rw[ζA4 (q:=fun i=>ls.getD i 0∈Ls.take (j+1)) fun i hi=>?_]at hY11
   ·exact hY11
   ·rw[ζζK,hx]
    show _↔ls.getD i 0∈Ls.take j++[x]
    rw[ζζ9,ζζ1,lvl_mem]
    have e:lnz ls (i:Int)=ls.getD i 0:=by unfold lnz;rw[ζζC]
    rw[e]
    constructor
    ·rintro(h | h)
     ·exact .inl h
     ·exact .inr h.2
    ·rintro(h | h)
     ·exact .inl h
     ·exact .inr ⟨⟨by omega,by omega⟩,h⟩
  rintro σ H5 ⟨m,S,ys,v4,v5,v6,v7,v8,v9,rfl,s5,mmd,hm5,hSm,hy5,hY5,hl5⟩
  rw[ζ4,ζζH,ζz10 fun i hi=>(hLm _).mpr (by rw[ζζi,ζζ0 (show i<ls.length by omega)];exact ζζ0K _)]at hY5
  refine⟨_,rfl,w,_,dx,_,_,rfl,s5 _ _ h1,T.cl_Web,T.n_Web_places,ζU1 _ _,_,rfl,fun w2 dx2 nx2 ndx2 nex2=>?_⟩
  have v2:Same H5 (upd (upd H5 dx2 (.own w2)) w2 (.ins t.A_Web dx2 [])):=ζn (same_at ndx2) (by rw[ζ9 (ζζY nex2)];exact nx2)
  refine⟨w2,dx2,n,md,false,ys,_,rfl,ζ1,fun o=>(ζr nx2 v2).seq (SqL.of hy5),hY5.same v2,ζh8 hG hl,fun H6 hW6 k6=>⟨rfl,?_⟩⟩
  have v3:Same H5 H6:=fun b o e=>k6 b o (v2 b o e) (ζb e nx2)
  exact q w2 H6 (s5.trans v3) hW6
def spζn(K:PySem.W.Frag)(C:Addr):Sp:=fun vs H Q _=>∃(w b:Addr) (kd:Bool) (n:Int) (ps:List (Int × Int)) (ls:List Int),vs=[.ref w,.ref b]/\WebAt C H w n ps/\ζy n ps/\SqK kd K H b (IL ls)/\ls.length=ps.length /\
 (∀(U:List Int) (r:Addr) (H':Hp),ζd n (cwT n.toNat ps ls) U->(∀ W,ζd n (cwT n.toNat ps ls) W->HT.lexLt W U=false)->Same H H'->H' r=some (.tup (IL U))->Q (.ref r) H') /\
 ((∀ W,¬ ζd n (cwT n.toNat ps ls) W)->∀ H':Hp,Same H H'->False)
theorem scζn:FnScope ["web","lengths"] ["web","lengths"] (ζ5 sζn):=⟨rfl,rfl,rfl,by decide +kernel,rfl,by decide +kernel,by decide +kernel⟩
theorem okζn (T:Txt K mg t):FnOk P w K mg base CX0 8 t.aζn t.dζn ["web","lengths"] (spζn K t.A_Web):=by
 refine T.fζn.ok scζn (fun vs H Q E h=>?_) (fun cdv A outer s H vs Q E hr h=>?_)
 ·obtain⟨w,b,kd,n,ps,ls,rfl,_⟩:=h
  rfl
 ·obtain⟨w,b,kd,n,ps,ls,rfl,hW,hG,hS,hl,q,qe⟩:=h
  refine⟨_,(ζ7 (ζl (ζa (okζh T) (hr.mono (by decide)) rfl T.mζh T.fζh.kp T.bζh .nil ζw (ζ0 (ζa (okζm T) (hr.mono (by decide)) rfl T.mζm T.fζm.kp T.bζm .nil ζw (ζ0 (pv 0) (ζ0 (pv 1) ζ3))) ζ3)))),?_⟩
  refine⟨_,rfl,_,rfl,w,b,kd,n,ps,ls,rfl,hW,hG,hS,hl,fun w2 H1 s1 hW1=>?_⟩
  have hC:=ζh8 hG hl
  refine⟨w2,n,_,rfl,hW1,hC,fun hf r H2 s2 hr=>?_,fun hf H2 s2=>?_⟩
  ·exact q _ r H2 (ζ44 hC hf) (fun W hV=>ζJ4 hC hV) (s1.trans s2) hr
  ·refine qe (fun W hV=>?_) H2 (s1.trans s2)
   have:=(ζ34 hC hV).2.1
   omega
theorem ζX10{n:Int}{ps:List (Int × Int)}{ts:List Int}{p:Int × Int}(hT:ζd n ps ts)(h:p∈exs n ps ts ts):p.1∈ts/\(0<=p.1/\p.1<(ps.length:Int))/\0<=p.2/\p.2<(ps.length:Int)/\exg n ps ts p.1 p.2:=by
 obtain⟨o,ho,h2⟩:=ζζ1A.mp h
 obtain⟨z,hz,rfl⟩:=ζζx.mp h2
 obtain⟨h3,h4⟩:=wo_mem.mp hz
 obtain⟨z0,z1⟩:=ζ62 h3
 exact⟨ho,hT.1.all o ho,z0,z1,ho,h4,h3⟩
def spζo(K:PySem.W.Frag)(C:Addr):Sp:=fun vs H Q _=>∃(w a b:Addr) (n:Int) (ps:List (Int × Int)) (kd ke:Bool) (ls ts:List Int),vs=[.ref w,.ref a,.ref b]/\WebAt C H w n ps/\ζy n ps/\SqK kd K H a (IL ls)/\SqK ke K H b (IL ts) /\
 (ls.length=ps.length->ζd n ps ts->∀(r:Addr) (xs:List V) (H':Hp),Same H H'->H r=none->H' r=some (.lst xs)->PairsV H' xs (gns n ps ls ts)->Q (.ref r) H')/\(ls.length≠ps.length->False)/\(ls.length=ps.length->¬ ζd n ps ts->∀ H':Hp,Same H H'->False)
theorem scζo:FnScope ["web","lengths","tree"] ["web","lengths","tree"] (ζ5 sζo):=⟨rfl,rfl,rfl,by decide +kernel,rfl,by decide +kernel,by decide +kernel⟩
theorem okζo (T:Txt K mg t):FnOk P w K mg base CX0 9 t.aζo t.dζo ["web","lengths","tree"] (spζo K t.A_Web):=by
 refine T.fζo.ok scζo (fun vs H Q E h=>?_) (fun cdv A outer s H vs Q E hr h=>?_)
 ·obtain⟨w,a,b,n,ps,kd,ke,ls,ts,rfl,_⟩:=h
  rfl
 ·obtain⟨w,a,b,n,ps,kd,ke,ls,ts,rfl,hW,hG,hA,hB,q,q1,q2⟩:=h
  refine⟨_,(ζ2 (ζC (ζa (okζ3 T) (hr.mono (by decide)) rfl T.mζ3 T.fζ3.kp T.bζ3 .nil ζw (ζ0 (pv 0) (ζ0 (pv 1) ζ3))))
   (ζ7 (ζl (ζu4 rfl (sc0:=ζ5 sζo) (N0:=["web","lengths","tree"]) (N':=["out","into","lengths"]) (o:=2) (fr:=[1]) ⟨rfl,by decide +kernel,by decide +kernel,by decide +kernel,rfl,by decide +kernel⟩ (ζL K (ζa (okζj T) (hr.mono (by decide)) rfl T.mζj T.fζj.kp T.bζj .nil ζw (ζ0 (pv 0) (ζ0 (pv 2) ζ3)))) (ζi3 (ζ21 (by decide) (ζ21 (by decide) ζj3))) (fun _ _ _ _=>(ζj1 (n:=2) K rfl (ζt (ζe (i:=0) (show List.Nodup (["out","into","lengths"]:List Str) by decide +kernel) rfl (Or.inl rfl)) (ζt (ζe (i:=1) (show List.Nodup (["out","into","lengths"]:List Str) by decide +kernel) rfl (Or.inl rfl)) ζi1)))) (fun _ _ _ _=>(ζ72 (ζj ζQ7 (ζA (ζE4 K) (pv 2) (pv 1) (fun _ _=>rfl)) (ζA (ζE4 K) (pv 2) (pv 0) (fun _ _=>rfl)) (ζq _)))) (fun _ _ _ _=>(ζV (ζ0 (pv 0) (ζ0 (pv 1) ζ3)))))))),?_⟩
  refine⟨_,rfl,_,rfl,w,a,n,ps,kd,ls,rfl,hW,hA,fun hl=>?_,q1⟩
  refine⟨_,rfl,_,rfl,w,b,n,ps,ke,ts,rfl,hW,hG,hB,fun hT r xs H1 s1 hr0 hr hP=>?_,q2 hl⟩
  have hxl:=hP.1
  have el:(exs n ps ts ts).length<=600:=by
   have h1:=ζv6 (n:=n) (ps:=ps) (ts:=ts) ts
   have h2:ts.length<=20:=by have:=hT.2.1;have:=hG.2.1;omega
   have h3:ps.length * ts.length<=30 * 20:=ζζ2O hG.2.2.1 h2
   omega
  refine⟨r,rfl,⟨_,SqL.of hr⟩,ζm1 (K:=K) (a:=r) (xs:=xs) (fun i ys H2=>Same H1 H2/\i<=xs.length/\PairsV H2 ys (((exs n ps ts ts).take i).filter (gnB ls))) ⟨Same.refl _,ζζj _,PairsV.nil⟩ (ζk (by omega))
   (fun i ys H2 hi ⟨e,hi2,ey⟩=>⟨SqL.of (e _ _ hr),by rw[ey.1];exact ζζO (ζζ0n ..) (by rw[ζζv];omega)⟩) ?_ ?_⟩
  ·rintro i v ys H2 hi ⟨s2,hil,hY⟩ S hSS
   obtain⟨p,hp,tt,rfl,htt⟩:=hP.at hi
   have hil':i<xs.length:=(ζζ4.mp hi).1
   have s12:=s1.trans s2
   obtain⟨_,⟨o0,o1⟩,z0,z1,_⟩:=ζX10 hT (ζζe hp)
   obtain⟨y,hy⟩:∃ y,ls[p.2.toNat]?=some y:=⟨_,ζζ0 (by omega)⟩
   obtain⟨x,hx⟩:∃ x,ls[p.1.toNat]?=some x:=⟨_,ζζ0 (by omega)⟩
   have ey:ls.getD p.2.toNat 0=y:=getD_of hy
   have ex:ls.getD p.1.toNat 0=x:=getD_of hx
   refine⟨tt,_,rfl,SqT.of (s2 _ _ htt),rfl,_,_,rfl,_,_,rfl,rfl,?_⟩
   refine⟨_,rfl,_,rfl,kd,a,_,_,.int y,rfl,rfl,hA.same s12,ζv (n:=p.2.toNat) (by omega) (ζT2 hy),?_⟩
   refine⟨_,rfl,_,rfl,kd,a,_,_,.int x,rfl,rfl,hA.same s12,ζv (n:=p.1.toNat) (by omega) (ζT2 hx),?_⟩
   refine⟨_,_,rfl,rfl,_,rfl,?_⟩
   have tk:(exs n ps ts ts).take (i+1)=(exs n ps ts ts).take i++[p]:=by rw[ζζK,hp];rfl
   refine itd2 (fun hc=>?_) (fun hc=>?_)
   ·refine⟨_,rfl,_,rfl,(by show 2<=sizeLine;decide),fun pa hpa=>hSS _ _ ⟨s2.trans (same_at hpa),hil',?_⟩⟩
    have hb:gnB ls p=true:=ζζd (by rw[ey,ex];exact hc)
    rw[tk,ζζV,ζζ0q hb]
    exact(hY.same (same_at hpa)).snoc ⟨pa,rfl,ζ1⟩
   ·refine hSS _ _ ⟨s2,hil',?_⟩
    have hb:¬ gnB ls p=true:=fun h=>hc (by have:=ζζs h;rw[ey,ex]at this;exact this)
    rw[tk,ζζV,ζζ0r hb]
    rw[ζζ12,ζζ04]
    exact hY
  ·rintro ys H2 ⟨s2,_,hY⟩ d hd
   rw[hxl,ζζH]at hY
   have s3:=s2.trans (same_at (o:=.lst ys) hd)
   exact q hl hT d ys _ (s1.trans s3) ((s1.trans s2).free hd) ζ1 (hY.same (same_at hd))
def spζp(K:PySem.W.Frag)(C:Addr):Sp:=fun vs H Q _=>∃(w a b:Addr) (n:Int) (ps:List (Int × Int)) (kd ke:Bool) (ls ts:List Int),vs=[.ref w,.ref a,.ref b]/\WebAt C H w n ps/\ζy n ps/\SqK kd K H a (IL ls)/\SqK ke K H b (IL ts) /\
 (ls.length=ps.length->ζd n ps ts->∀ H':Hp,Same H H'->Q (.bl (decide (gns n ps ls ts=[]))) H')/\(ls.length≠ps.length->False)/\(ls.length=ps.length->¬ ζd n ps ts->∀ H':Hp,Same H H'->False)
theorem scζp:FnScope ["web","lengths","tree"] ["web","lengths","tree"] (ζ5 sζp):=⟨rfl,rfl,rfl,by decide +kernel,rfl,by decide +kernel,by decide +kernel⟩
theorem okζp (T:Txt K mg t):FnOk P w K mg base CX0 10 t.aζp t.dζp ["web","lengths","tree"] (spζp K t.A_Web):=by
 refine T.fζp.ok scζp (fun vs H Q E h=>?_) (fun cdv A outer s H vs Q E hr h=>?_)
 ·obtain⟨w,a,b,n,ps,kd,ke,ls,ts,rfl,_⟩:=h
  rfl
 ·obtain⟨w,a,b,n,ps,kd,ke,ls,ts,rfl,hW,hG,hA,hB,q,q1,q2⟩:=h
  refine⟨_,(ζ7 (ζl (ζk1 ζS5 (ζf (ζi K) (by rfl) T.n_len Boot.«len» (ζ0 (ζa (okζo T) (hr.mono (by decide)) rfl T.mζo T.fζo.kp T.bζo .nil ζw (ζ0 (pv 0) (ζ0 (pv 1) (ζ0 (pv 2) ζ3)))) ζ3)) ζ8 (ζq _)))),?_⟩
  refine⟨_,rfl,_,rfl,_,rfl,w,a,b,n,ps,kd,ke,ls,ts,rfl,hW,hG,hA,hB,fun hl hT r xs H1 s1 hr0 hr hP=>?_,q1,q2⟩
  refine⟨r,_,rfl,.inl (SqL.of hr),?_⟩
  refine⟨rfl,?_⟩
  show Q (.bl (decide (V.int (xs.length:Int)=V.int 0))) H1
  rw[ζI,hP.1]
  have e:decide (((gns n ps ls ts).length:Int)=0)=decide (gns n ps ls ts=[]):=by
   rw[ζζ1c,<- ζζ00]
   omega
  rw[e]
  exact q hl hT _ s1
def spζq(K:PySem.W.Frag)(C:Addr):Sp:=fun vs H Q _=>∃(w a b:Addr) (n:Int) (ps:List (Int × Int)) (kd ke:Bool) (T W:List Int),vs=[.ref w,.ref a,.ref b]/\WebAt C H w n ps/\ζy n ps/\SqK kd K H a (IL T)/\SqK ke K H b (IL W) /\
 (ζd n ps T->ζd n ps W->∀ H':Hp,Same H H'->Q (.int ((T.filter fun y=>decide (y∉W)).length:Int)) H')/\(¬ (ζd n ps T/\ζd n ps W)->∀ H':Hp,Same H H'->False)
theorem scζq:FnScope ["web","one","other"] ["web","one","other"] (ζ5 sζq):=⟨rfl,rfl,rfl,by decide +kernel,rfl,by decide +kernel,by decide +kernel⟩
theorem okζq (T:Txt K mg t):FnOk P w K mg base CX0 8 t.aζq t.dζq ["web","one","other"] (spζq K t.A_Web):=by
 refine T.fζq.ok scζq (fun vs H Q E h=>?_) (fun cdv A outer s H vs Q E hr h=>?_)
 ·obtain⟨w,a,b,n,ps,kd,ke,T,W,rfl,_⟩:=h
  rfl
 ·obtain⟨w,a,b,n,ps,kd,ke,T',W,rfl,hW,hG,hA,hB,q,qe⟩:=h
  refine⟨_,(ζ2 (ζC (ζa (okζf T) (hr.mono (by decide)) rfl T.mζf T.fζf.kp T.bζf .nil ζw (ζ0 (pv 0) (ζ0 (pv 1) ζ3))))
   (ζ2 (ζC (ζa (okζf T) (hr.mono (by decide)) rfl T.mζf T.fζf.kp T.bζf .nil ζw (ζ0 (pv 0) (ζ0 (pv 2) ζ3))))
   (ζ7 (ζl (ζf (ζi K) (by rfl) T.n_len Boot.«len» (ζ0 (ζu4 rfl (sc0:=ζ5 sζq) (N0:=["web","one","other"]) (N':=["tie","other"]) (o:=1) (fr:=[2]) ⟨rfl,by decide +kernel,by decide +kernel,by decide +kernel,rfl,by decide +kernel⟩ (ζR1 K (pv 1)) (ζB (by decide)) (fun _ _ _ _=>(ζe (i:=0) (show List.Nodup (["tie","other"]:List Str) by decide +kernel) rfl (Or.inl rfl))) (fun _ _ _ _=>(ζ72 (ζj (ζq1 K) (pv 0) (pv 1) rfl))) (fun _ _ _ _=>(pv 0))) ζ3)))))),?_⟩
  refine⟨_,rfl,_,rfl,w,a,n,ps,kd,T',rfl,hW,hG,hA,fun hT H1 s1=>?_,fun h=>qe fun hh=>h hh.1⟩
  refine⟨_,rfl,_,rfl,w,b,n,ps,ke,W,rfl,hW.same s1,hG,hB.same s1,fun hO H2 s2=>?_,fun h H2 s2=>qe (fun hh=>h hh.2) H2 (s1.trans s2)⟩
  have s02:=s1.trans s2
  have tl:T'.length<=20:=by have:=hT.2.1;have:=hG.2.1;omega
  refine⟨_,rfl,a,rfl,ζi9 (k:=kd) (K:=K) (xs:=IL T') (fun j zs H8=>H8=H2/\j<=T'.length/\zs=IL ((T'.take j).filter fun y=>decide (y∉W))) ⟨rfl,ζζj _,rfl⟩ (ζk (by rw[ζ4];omega))
    (fun j zs H8 hj ⟨e,hj2,ey⟩=>⟨e ▸ hA.same s02,by rw[ey,ζ4];exact ζζO (ζζ0n ..) (by rw[ζζv];omega)⟩) ?_ ?_⟩
  ·rintro j x zs H8 hj ⟨rfl,hjl,rfl⟩ S hSS
   obtain⟨y,rfl,hy⟩:=ζa1 hj
   have hjl':j<T'.length:=(ζζ4.mp hy).1
   refine nm ?_
   refine⟨_,rfl,_,rfl,b,_,rfl,(hB.same s02).or,rfl,ζd1 _,_,rfl,?_⟩
   rw[ζx1]
   refine itn2 (fun he=>?_) (fun he=>?_)
   ·refine hSS _ _ ⟨rfl,hjl',?_⟩
    rw[ζN4 hy,if_neg (by simpa using he),ζζ04]
   ·refine⟨_,rfl,hSS _ _ ⟨rfl,hjl',?_⟩⟩
    rw[ζN4 hy,if_pos (ζζd he),ζF]
  rintro zs H8 ⟨rfl,_,rfl⟩ fA hfA
  rw[ζ4,ζζH]
  refine⟨fA,_,rfl,.inl (SqL.of ζ1),?_⟩
  rw[ζ4]
  exact q hT hO _ (s02.trans (same_at hfA))
theorem ζ83{m:List Int}(h:m.Pairwise (·<=·))(nd:m.Nodup):m.Pairwise (· < ·):=(h.and nd).imp fun z=>by
 have:=z.1
 have:=z.2
 omega
def spζr(K:PySem.W.Frag)(C:Addr):Sp:=fun vs H Q _=>∃(w a:Addr) (n:Int) (ps:List (Int × Int)) (T:List Int),vs=[.ref w,.ref a]/\WebAt C H w n ps/\ζy n ps/\(H a=some (.tup (IL T))\/SqL K H a (IL T)) /\
 (ζd n ps T->∀(fs D:List Int),ζd n ps fs->D.Pairwise (· < ·)->(∀ z,z∈D↔(0<=z/\z<(ps.length:Int))/\z∉T)->fs.Perm (grw n.toNat ps (D++T))->∀(r:Addr) (H':Hp),Same H H'->H' r=some (.tup (IL fs))->Q (.ref r) H')/\(¬ ζd n ps T->∀ H':Hp,Same H H'->False)
theorem scζr:FnScope ["web","tree"] ["web","tree"] (ζ5 sζr):=⟨rfl,rfl,rfl,by decide +kernel,rfl,by decide +kernel,by decide +kernel⟩
theorem okζr (T:Txt K mg t):FnOk P w K mg base CX0 8 t.aζr t.dζr ["web","tree"] (spζr K t.A_Web):=by
 refine T.fζr.ok scζr (fun vs H Q E h=>?_) (fun cdv A outer s H vs Q E hr h=>?_)
 ·obtain⟨w,a,n,ps,T,rfl,_⟩:=h
  rfl
 ·obtain⟨w,a,n,ps,T',rfl,hW,hG,hA,q,qe⟩:=h
  refine⟨_,(ζ2 (ζC (ζa (okζf T) (hr.mono (by decide)) rfl T.mζf T.fζf.kp T.bζf .nil ζw (ζ0 (pv 0) (ζ0 (pv 1) ζ3))))
   (ζ7 (ζl (ζa (okζg T) (hr.mono (by decide)) rfl T.mζg T.fζg.kp T.bζg .nil ζw (ζ0 (pv 0) (ζ0 (ζV ζ3) (ζ0 (ζp (ζr10 K) (ζa (okζ5 T) (hr.mono (by decide)) rfl T.mζ5 T.fζ5.kp T.bζ5 .nil ζw (ζ0 (pv 0) (ζ0 (pv 1) ζ3))) (ζg (ζo5 K) (by rfl) T.n_tuple Boot.«tuple» (ζ0 (pv 1) ζ3))) ζ3))))))),?_⟩
  obtain⟨g1,g2,g3,g4⟩:=id hG
  have hAk:∃ kd,SqK kd K H a (IL T'):=hA.elim (fun h=>⟨true,SqT.of h⟩) fun h=>⟨false,h⟩
  obtain⟨kd,hAk⟩:=hAk
  refine⟨_,rfl,_,rfl,w,a,n,ps,kd,T',rfl,hW,hG,hAk,fun hT H1 s1=>?_,qe⟩
  have tl:T'.length<=13:=by have:=hT.2.1;omega
  refine⟨_,rfl,ζζj _,fun e0 he0=>?_⟩
  have s2:=s1.trans (same_at (o:=.tup []) he0)
  refine⟨_,rfl,_,rfl,w,a,n,ps,kd,T',rfl,hW.same s2,by omega,hAk.same s2,fun D hDa hD dA H3 s3 hdA=>?_⟩
  have s03:=s2.trans s3
  have hA3:H3 a=some (.tup (IL T'))\/SqL K H3 a (IL T'):=hA.elim (fun h=>.inl (s03 _ _ h)) fun h=>.inr (s03.seq h)
  refine⟨_,rfl,a,_,rfl,hA3,fun tA H4 s4 htA=>?_⟩
  have hDs:IsSet ps.length D:=isSet_iff.mpr ⟨fun z hz=>((hD z).mp hz).1,hDa⟩
  have dl:D.length<=30:=ζζO hDs.len g3
  refine⟨dA,tA,_,_,rfl,rfl,s4 _ _ hdA,htA,ζa3 (by rw[ζ4,ζ4];omega),fun oA H5 s5 hoA=>?_⟩
  have s05:=s03.trans (s4.trans s5)
  have hoA:H5 oA=some (.tup (IL (D++T'))):=by rw[hoA];exact ζζ0l (fun l=>some (HO.tup l)) (ζζA ..).symm
  have he5:=(s3.trans (s4.trans s5)) _ _ (ζ1 (H:=H1) (a:=e0) (o:=.tup []))
  have hb:∀ z∈D++T',0<=z/\z<(ps.length:Int):=fun z hz=>(ζζ9.mp hz).elim (fun h=>((hD z).mp h).1) (hT.1.all z)
  have hcov:∀ i j,i<n.toNat->j<n.toNat->Conn (ζ6 ps (grw n.toNat ps (D++T'))) i j:=fun i j hi hj=>ζi6 hG _ hb ((hT.2.2 i j hi hj).mono (ζu fun z hz=>ζζc _ hz))
  have h1:=(ζ31 (by omega) (ζ14 hG hb)).mpr hcov
  have h2:=ζt3 hG (D++T') hb
  have nd:(grw n.toNat ps (D++T')).Nodup:=List.Nodup.sublist (ζx2 _ _ _) (ζζ0c.mpr ⟨hDs.nodup,hT.1.nodup,fun a ha b hb' e=>((hD a).mp ha).2 (e ▸ hb')⟩)
  refine⟨w,e0,oA,n,ps,true,true,[],D++T',rfl,hW.same s05,hG,SqT.of he5,SqT.of hoA,ζζj _,by rw[ζζ6];omega,hb,fun h=>?_,fun _ _ r ms H6 hpm hpw s6 hr0 hr=>?_⟩
  ·rcases h with h | h
   ·exact absurd rfl h
   ·have h:((grw n.toNat ps (D++T')).length:Int)<n - 1:=h
    omega
  ·have hpm:ms.Perm (grw n.toNat ps (D++T')):=hpm
   have hM:ζd n ps ms:=by
    refine⟨isSet_iff.mpr ⟨fun z hz=>hb z ((ζx2 _ _ _).subset (hpm.mem_iff.mp hz)),ζ83 hpw (hpm.nodup_iff.mpr nd)⟩,by rw[hpm.length_eq];omega,fun i j hi hj=>?_⟩
    exact(ζT fun y=>hpm.mem_iff).mpr (hcov i j hi hj)
   exact q hT ms D hM hDa hD hpm r H6 (s05.trans s6) hr
def grO(n:Int)(ps:List (Int × Int))(os ins outs:List Int):List Int:=grw n.toNat ps (ins++os.filter fun z=>decide (z∉outs))
def spζs(K:PySem.W.Frag)(C:Addr):Sp:=fun vs H Q _=>∃(w a o i u:Addr) (n:Int) (ps:List (Int × Int)) (kd:Bool) (ls os ins outs:List Int),vs=[.ref w,.ref a,.ref o,.ref i,.ref u]/\WebAt C H w n ps/\ζy n ps/\SqK kd K H a (IL ls)/\ls.length=ps.length/\SqL K H o (IL os)/\os.length<=100/\os.Nodup/\(∀ z∈os,0<=z/\z<(ps.length:Int))/\SqT K H i (IL ins)/\SqT K H u (IL outs)/\ins.length<=100/\outs.length<=10000/\(∀ z∈ins,0<=z/\z<(ps.length:Int))/\(grO n ps os ins outs).Nodup /\
 (¬ ((grO n ps os ins outs).take ins.length=ins/\¬ ((grO n ps os ins outs).length:Int)<n - 1)->∀(r:Addr) (H':Hp),Same H H'->H r=none->H' r=some (.lst [])->Q (.ref r) H') /\
 ((grO n ps os ins outs).take ins.length=ins->¬ ((grO n ps os ins outs).length:Int)<n - 1->∀(ms:List Int) (r tp tr:Addr) (H':Hp),ms.Perm (grO n ps os ins outs)->ms.Pairwise (·<=·)->Same H H'->H r=none->H tp=none->H' r=some (.lst [.ref tp])->H' tp=some (.tup [.int (smW ls ms),.ref tr,.ref i,.ref u])->H' tr=some (.tup (IL ms))->Q (.ref r) H')
theorem scζs:FnScope ["web","lengths","order","inside","outside","tree"] ["web","lengths","order","inside","outside"] (ζ5 sζs):=⟨rfl,rfl,rfl,by decide +kernel,rfl,by decide +kernel,by decide +kernel⟩
theorem okζs (T:Txt K mg t):FnOk P w K mg base CX0 5 t.aζs t.dζs ["web","lengths","order","inside","outside"] (spζs K t.A_Web):=by
 refine T.fζs.ok scζs (fun vs H Q E h=>?_) (fun cdv A outer s H vs Q E hr h=>?_)
 ·obtain⟨w,a,o,i,u,n,ps,kd,ls,os,ins,outs,rfl,_⟩:=h
  rfl
 ·obtain⟨w,a,o,i,u,n,ps,kd,ls,os,ins,outs,rfl,hW,hG,hA,hll,hO,hol,hon,hoz,hI,hU,hil,hul,hiz,hgn,q0,q1⟩:=h
  refine⟨_,(ζ2 (ζh (i:=5) scζs.nd rfl (Or.inl rfl) (ζa (okζg T) (hr.mono (by decide)) rfl T.mζg T.fζg.kp T.bζg .nil ζw (ζ0 (pv 0) (ζ0 (pv 3) (ζ0 (ζu4 rfl (sc0:=ζ5 sζs) (N0:=["web","lengths","order","inside","outside","tree"]) (N':=["tie","outside"]) (o:=1) (fr:=[4]) ⟨rfl,by decide +kernel,by decide +kernel,by decide +kernel,rfl,by decide +kernel⟩ (ζL K (pv 2)) (ζB (by decide)) (fun _ _ _ _=>(ζe (i:=0) (show List.Nodup (["tie","outside"]:List Str) by decide +kernel) rfl (Or.inl rfl))) (fun _ _ _ _=>(ζ72 (ζj (ζq1 K) (pv 0) (pv 1) rfl))) (fun _ _ _ _=>(pv 0))) ζ3)))))
   (ζ2 (ζh1 (ζj ζp10 (pv 5) ζ67 (ζq _))
   (ζ7 (ζl (ζe1 ζ3)))
   ζo)
   (ζ7 (ζl (ζe1 (ζ0 (ζV (ζ0 (ζa (okζl T) (hr.mono (by decide)) rfl T.mζl T.fζl.kp T.bζl .nil ζw (ζ0 (pv 0) (ζ0 (pv 1) (ζ0 (pv 5) ζ3)))) (ζ0 (pv 5) (ζ0 (pv 3) (ζ0 (pv 4) ζ3))))) ζ3)))))),?_⟩
  have one:1<=sizeLine:=by decide
  have four:4<=sizeLine:=by decide
  have fl:∀ l:List Int,(l.filter fun z=>decide (z∉outs)).length<=l.length:=fun l=>ζζ0n _ _
  refine⟨_,rfl,_,rfl,_,rfl,o,rfl,⟨_,hO⟩,ζm1 (K:=K) (a:=o) (xs:=IL os) (fun j ys H2=>H2=H/\j<=os.length/\ys=IL ((os.take j).filter fun z=>decide (z∉outs))) ⟨rfl,ζζj _,rfl⟩ (ζk (by rw[ζ4];omega)) (fun j ys H2 hj ⟨e,hj2,ey⟩=>⟨e ▸ hO,by rw[ey,ζ4];exact ζζO (fl _) (by rw[ζζv];omega)⟩) ?_ ?_⟩
  ·rintro j v ys H2 hj ⟨rfl,hjl,rfl⟩ S hSS
   obtain⟨z,rfl,hz⟩:=ζa1 hj
   have hj':j<os.length:=(ζζ4.mp hz).1
   refine nm ?_
   refine⟨_,rfl,_,rfl,u,_,rfl,.inr hU,rfl,ζd1 outs,_,rfl,?_⟩
   rw[ζx1]
   have et:os.take (j+1)=os.take j++[z]:=by rw[ζζK,hz];rfl
   refine itn2 (fun hc=>?_) (fun hc=>?_)
   ·refine hSS _ _ ⟨rfl,hj',?_⟩
    rw[et,ζζV,ζζ0r (by simp[hc]),ζζ12,ζζ04]
   ·refine⟨_,rfl,hSS _ _ ⟨rfl,hj',?_⟩⟩
    rw[et,ζζV,ζζ0q (by simp[hc]),ζζ12,ζF]
  rintro ys H2 ⟨rfl,_,rfl⟩ d hd
  rw[ζ4,ζζH]
  have s1:=same_at (o:=.lst (IL (os.filter fun z=>decide (z∉outs)))) hd
  have h1:(upd H2 d (.lst (IL (os.filter fun z=>decide (z∉outs))))) d=some (.lst (IL (os.filter fun z=>decide (z∉outs)))):=ζ1
  generalize upd H2 d (.lst (IL (os.filter fun z=>decide (z∉outs))))=H1 at *
  have hall:∀ z∈ins++os.filter fun z=>decide (z∉outs),0<=z/\z<(ps.length:Int):=fun z hz=>by
   rcases ζζ9.mp hz with hz | hz
   ·exact hiz z hz
   ·exact hoz z (ζζm.mp hz).1
  refine⟨w,i,d,n,ps,true,false,ins,os.filter fun z=>decide (z∉outs),rfl,hW.same s1,hG,SqK.same (k:=true) s1 hI,SqL.of h1,by omega,ζζO (fl os) (by omega),hall,fun hno H3 s3=>?_,fun h2 h3 r ms H3 hp hs s3 hr0 hr3=>?_⟩
  ·refine nm ?_
   dsimp only
   refine⟨_,rfl,rfl,_,rfl,?_⟩
   refine itd rfl ?_
   refine⟨ζζj _,fun r hr=>?_⟩
   refine q0 (fun⟨h2,h3⟩=>?_) r _ ((s1.trans s3).trans (same_at hr)) ((s1.trans s3).free hr) ζ1
   rcases hno with h | h
   ·exact h h2
   ·exact h3 h
  ·refine nm ?_
   dsimp only
   refine⟨_,rfl,rfl,_,rfl,?_⟩
   refine itdn (fun z=>by cases z) ?_
   have s13:=s1.trans s3
   have hsub:∀ z∈ms,z∈grO n ps os ins outs:=fun z hz=>hp.mem_iff.mp hz
   have hset:IsSet ps.length ms:=isSet_iff.mpr ⟨fun z hz=>ζ78 hall z (hsub z hz),?_⟩
   ·refine⟨_,rfl,_,rfl,_,rfl,w,a,r,n,ps,kd,true,ls,ms,rfl,hW.same s13,hG.2.2.1,hA.same s13,SqT.of hr3,hll,hset,fun H4 s4=>?_⟩
    refine⟨_,rfl,_,rfl,_,rfl,four,fun tp htp=>?_⟩
    have s14:=s13.trans s4
    have u5:=same_at (o:=.tup [.int (smW ls ms),.ref r,.ref i,.ref u]) htp
    refine⟨one,fun l hl=>?_⟩
    have u6:=same_at (o:=.lst [.ref tp]) hl
    exact q1 h2 h3 ms l tp r _ hp hs ((s14.trans u5).trans u6) ((s14.trans u5).free hl) (s14.free htp) ζ1 (u6 _ _ ζ1) ((u5.trans u6) _ _ (s4 _ _ hr3))
   ·have hnd:ms.Nodup:=hp.nodup_iff.mpr hgn
    exact(hs.and hnd).imp fun⟨x,y⟩=>by omega
def EV(K:PySem.W.Frag)(H:Hp)(ls:List Int)(v:V)(E:Ent):Prop:=∃ tp tr ti to:Addr,v=.ref tp/\H tp=some (.tup [.int (sumL ls E.T),.ref tr,.ref ti,.ref to])/\H tr=some (.tup (IL E.T))/\SqT K H ti (IL E.I)/\SqT K H to (IL E.O)
theorem EV.same{K:PySem.W.Frag}{H H':Hp}{ls:List Int}{v:V}{E:Ent}(s:Same H H')(h:EV K H ls v E):EV K H' ls v E:=by
 obtain⟨tp,tr,ti,to,e,h1,h2,h3,h4⟩:=h
 exact⟨tp,tr,ti,to,e,s _ _ h1,s _ _ h2,SqK.same (k:=true) s h3,SqK.same (k:=true) s h4⟩
theorem ζE5{K:PySem.W.Frag}{H:Hp}{r a:Addr}{xs zs:List V}{o:HO}(hr:H r=some (.lst zs))(h:SqT K H a xs):SqT K (upd H r o) a xs:=by
 rcases h with (h | ⟨u,h⟩) | h
 ·exact .inl (.inl (by rw[ζ9 (ζr5 h hr (by simp))];exact h))
 ·exact .inl (.inr ⟨u,by rw[ζ9 (ζr5 h hr (by simp))];exact h⟩)
 ·exact .inr h
theorem EV.put{K:PySem.W.Frag}{H:Hp}{ls:List Int}{v:V}{E:Ent}{r:Addr}{zs:List V}{o:HO}(hr:H r=some (.lst zs))(h:EV K H ls v E):EV K (upd H r o) ls v E:=by
 obtain⟨tp,tr,ti,to,e,h1,h2,h3,h4⟩:=h
 exact⟨tp,tr,ti,to,e,by rw[ζ9 (ζr5 h1 hr (by simp))];exact h1,by rw[ζ9 (ζr5 h2 hr (by simp))];exact h2,ζE5 hr h3,ζE5 hr h4⟩
theorem ζk8{K:PySem.W.Frag}{H:Hp}{a b:Addr}{xs ys:List V}{Q:VK}(ha:SqT K H a xs)(hb:SqT K H b ys)(hy:ys≠[])(hz:xs.length+ys.length<=sizeLine)(q:∀(p:Addr) (H':Hp),Same H H'->SqT K H' p (xs++ys)->Q (.ref p) H'):ζM11 K (.ref a) (.ref b) H Q :=
 ⟨a,b,xs,ys,rfl,rfl,ha,hb,hz,fun e=>q b H (Same.refl _) (by rw[e];exact hb),fun _ e=>absurd e hy,fun _ _ p hp=>q p _ (same_at hp) (SqT.of ζ1)⟩
def spζt(K:PySem.W.Frag)(C:Addr):Sp:=fun vs H Q _=>∃(w a o tk:Addr) (n:Int) (ps:List (Int × Int)) (kd:Bool) (ls os:List Int) (E:Ent),vs=[.ref w,.ref a,.ref o,.ref tk]/\WebAt C H w n ps/\ζy n ps/\SqK kd K H a (IL ls)/\ls.length=ps.length/\SqL K H o (IL os)/\OrdL ls ps.length os/\EV K H ls (.ref tk) E/\EOk n ps ls E /\
 ∀(ys:List V) (Es:List Ent) (r:Addr) (H':Hp),FB n ps ls E E.T Es->Es.length<=14->Bears (EV K H' ls) ys Es->Same H H'->H r=none->H' r=some (.lst ys)->Q (.ref r) H'
theorem scζt:FnScope ["web","lengths","order","taken","inside","outside","firsts","tie"] ["web","lengths","order","taken"] (ζ5 sζt):=⟨rfl,rfl,rfl,by decide +kernel,rfl,by decide +kernel,by decide +kernel⟩
theorem okζt (T:Txt K mg t):FnOk P w K mg base CX0 6 t.aζt t.dζt ["web","lengths","order","taken"] (spζt K t.A_Web):=by
 refine T.fζt.ok scζt (fun vs H Q E h=>?_) (fun cdv A outer s H vs Q E hr h=>?_)
 ·obtain⟨w,a,o,tk,n,ps,kd,ls,os,E,rfl,_⟩:=h
  rfl
 ·obtain⟨w,a,o,tk,n,ps,kd,ls,os,E,rfl,hW,hG,hA,hll,hO,ho,hV,hE,q⟩:=h
  refine⟨_,(ζ2 (ζh (i:=4) scζt.nd rfl (Or.inl rfl) (ζA (ζE K) (pv 3) ζ8 (fun _ _=>rfl)))
   (ζ2 (ζh (i:=5) scζt.nd rfl (Or.inl rfl) (ζA (ζE K) (pv 3) ζ8 (fun _ _=>rfl)))
   (ζ2 (ζh (i:=6) scζt.nd rfl (Or.inl rfl) (ζe1 ζ3))
   (ζ2 (ζ41 ζζP rfl (ζt4 K (ζA (ζE K) (pv 3) ζ8 (fun _ _=>rfl))) (ζe (i:=7) scζt.nd rfl (Or.inl rfl))
   (ζ7 (ζh1 (ζj (ζq1 K) (pv 7) (pv 4) rfl)
   (ζ2 (ζC (ζ61 K ζζL ζζ1M ζζ1L ζM2 (pv 6) (ζ0 (ζa (okζs T) (hr.mono (by decide)) rfl T.mζs T.fζs.kp T.bζs .nil ζw (ζ0 (pv 0) (ζ0 (pv 1) (ζ0 (pv 2) (ζ0 (pv 4) (ζ0 (ζp (ζy4 K) (pv 5) (ζV (ζ0 (pv 7) ζ3))) ζ3)))))) ζ3)))
   (ζ7 (ζh (i:=4) scζt.nd rfl (Or.inl rfl) (ζp (ζy4 K) (pv 4) (ζV (ζ0 (pv 7) ζ3))))))
   ζo)))
   (ζ7 (ζl (pv 6))))))),?_⟩
  obtain⟨tp,tr,ti,to,e,h1,h2,h3,h4⟩:=hV
  cases e
  refine⟨_,rfl,tk,_,2,.ref ti,rfl,rfl,SqT.of h1,rfl,?_⟩
  refine nm ?_
  dsimp only
  refine⟨_,rfl,tk,_,3,.ref to,rfl,rfl,SqT.of h1,rfl,?_⟩
  refine nm ?_
  dsimp only
  refine⟨ζζj _,fun r hr=>?_⟩
  have u0:=same_at (o:=.lst []) hr
  have hTl:(E.T.length:Int)=n - 1:=hE.own.1.2.1
  have hG2:=hG.2.1
  have hps:=hG.2.2.1
  have one:1<=sizeLine:=by decide
  have z1:100000<=sizeLine:=by decide
  have hnd:E.T.Nodup:=hE.own.1.1.nodup
  have hol:os.length=ps.length:=by rw[ho.1.length_eq,ζM]
  have hon:os.Nodup:=ho.2.imp fun h e=>by rw[e]at h;omega
  refine nm ?_
  dsimp only
  refine⟨_,rfl,tk,_,1,.ref tr,rfl,rfl,SqT.of (u0 _ _ h1),rfl,tr,rfl,⟨_,SqT.of (u0 _ _ h2)⟩,ζu6 (K:=K) (a:=tr) (xs:=IL E.T) (fun j σ H2=>∃(iA:Addr) (v7:Option V) (ys:List V) (Es:List Ent),σ=[some (.ref w),some (.ref a),some (.ref o),some (.ref tk),some (.ref iA),some (.ref to),some (.ref r),v7]/\j<=E.T.length/\Same H H2/\SqT K H2 iA (IL (insd E (E.T.take j)))/\H2 r=some (.lst ys)/\Bears (EV K H2 ls) ys Es/\FB n ps ls E (E.T.take j) Es/\Es.length<=j) ⟨ti,none,[],[],rfl,ζζj _,u0,?_,ζ1,⟨rfl,fun i a h=>by cases h⟩,FB.nil,ζζ5 _⟩ (fun j σ H2 _ ⟨_,_,_,_,_,_,s2,_⟩=>SqT.of (s2 _ _ h2)) ?_ ?_⟩
  ·rw[show insd E (E.T.take 0)=E.I by unfold insd;rw[List.take_zero,ζζ12,ζζ04]]
   exact SqK.same (k:=true) u0 h3
  rotate_left
  ·rintro σ H2 ⟨iA,v7,ys,Es,rfl,_,s2,_,hr2,hB,hF,hlen⟩
   rw[ζ4,ζζH]at hF
   exact⟨_,rfl,q ys Es r H2 hF (by rw[ζ4]at hlen;omega) hB s2 hr hr2⟩
  rintro j v σ H2 hj ⟨iA,v7,ys,Es,rfl,hjl,s2,hiA,hr2,hB,hF,hlen⟩
  obtain⟨z,rfl,hz⟩:=ζa1 hj
  have hj':j<E.T.length:=(ζζ4.mp hz).1
  have et:E.T.take (j+1)=E.T.take j++[z]:=by rw[ζζK,hz];rfl
  have hzT:z∈E.T:=ζζe hz
  have hzl:z∉E.T.take j:=fun hm=>by
   have:=hnd.sublist (ζζ1s (j+1) E.T)
   rw[et]at this
   exact(ζζ0c.mp this).2.2 z hm z (ζζ1.mpr rfl) rfl
  have hb:=hE.own.1.1.all z hzT
  refine nm ?_
  dsimp only
  refine⟨_,rfl,_,rfl,iA,_,rfl,.inr hiA,rfl,ζd1 _,_,rfl,?_⟩
  rw[ζx1]
  refine itn2 (fun hc=>?_) (fun hc=>?_)
  ·have hzI:z∈E.I:=(insd_mem.mp hc).resolve_right hzl
   show(_:Prop)
   refine⟨iA,_,ys,Es,rfl,hj',s2,?_,hr2,hB,?_,by omega⟩
   ·have ei:insd E (E.T.take (j+1))=insd E (E.T.take j):=by
     unfold insd
     rw[et,ζζV,ζζ0r (by simp[hzI]),ζζ12,ζζ04]
    rw[ei]
    exact hiA
   ·rw[et]
    exact hF.skip hzI
  ·have hzI:z∉E.I:=fun h=>hc (insd_mem.mpr (.inl h))
   have ei:insd E (E.T.take (j+1))=insd E (E.T.take j)++[z]:=by
    unfold insd
    rw[et,ζζV,ζζ0q (by simp[hzI]),ζζ12,ζζ02]
   have hIr:∀ y∈insd E (E.T.take j),0<=y/\y<(ps.length:Int):=fun y hy=>hE.own.1.1.all y ((insd_mem.mp hy).elim (hE.own.2.1 y) fun h=>ζζ17 h)
   have hIl:(insd E (E.T.take j)).length<=100:=by
    have:=hE.iL
    unfold insd
    rw[ζζ6]
    have:=ζζ0n (fun z=>decide (z∉E.I)) (E.T.take j)
    rw[ζζv]at this
    omega
   have hOl:=hE.oL
   have fin:∀(zs:List V) (Fs:List Ent) (H4:Hp) (r3:Addr),Same H2 H4->H4 r3=some (.lst zs)->zs.length<=1->Bears (EV K H4 ls) zs Fs->FB n ps ls E (E.T.take j++[z]) (Es++Fs)->Fs.length<=1 ->
     ζM7 (.ref r) [.ref r3] H4 fun _ H5=>tAsg (tOp (ζM11 K) (tVar 4) (tTup (ζx11 (tVar 7) tNil))) (ζd8 4) { nx:=fun σ H'=>∃(iA:Addr) (v7:Option V) (ys:List V) (Es:List Ent),σ=[some (.ref w),some (.ref a),some (.ref o),some (.ref tk),some (.ref iA),some (.ref to),some (.ref r),v7]/\j+1<=E.T.length/\Same H H'/\SqT K H' iA (IL (insd E (E.T.take (j+1))))/\H' r=some (.lst ys)/\Bears (EV K H' ls) ys Es/\FB n ps ls E (E.T.take (j+1)) Es/\Es.length<=j+1,rt:=Q } [some (.ref w),some (.ref a),some (.ref o),some (.ref tk),some (.ref iA),some (.ref to),some (.ref r),some (.int z)] H5:=by
    intro zs Fs H4 r3 s4 hr3 hz1 hBz hF2 hFl
    have hyl:ys.length=Es.length:=hB.1
    refine⟨r,r3,ys,zs,rfl,rfl,s4 _ _ hr2,hr3,by omega,?_⟩
    refine⟨_,rfl,_,rfl,one,fun t2 ht2=>?_⟩
    have hiA4:SqT K (upd H4 r (.lst (ys++zs))) iA (IL (insd E (E.T.take j))):=ζE5 (s4 _ _ hr2) (SqK.same (k:=true) s4 hiA)
    have u2:=same_at (o:=.tup (IL [z])) ht2
    refine ζk8 (SqK.same (k:=true) u2 hiA4) (SqT.of ζ1) (by simp) (by rw[ζ4];show _+1<=_;omega) fun p2 H6 s6 hp2=>?_
    refine nm ?_
    have s5:Same H (upd H4 r (.lst (ys++zs))):=ζr hr (s2.trans s4)
    have s56:=u2.trans s6
    refine⟨p2,_,ys++zs,Es++Fs,rfl,hj',s5.trans s56,?_,s56 _ _ ζ1,?_,by rw[et];exact hF2,by rw[ζζ6];omega⟩
    ·rw[ei,ζF]
     exact hp2
    ·exact((hB.imp fun _ _ h=>h.same s4).app hBz).imp fun _ _ h=>(EV.put (s4 _ _ hr2) h).same s56
   refine⟨_,rfl,.inl ⟨rfl,_,SqL.of hr2⟩,_,rfl,_,rfl,_,rfl,_,rfl,_,rfl,_,rfl,one,fun t1 ht1=>?_⟩
   have u1:=same_at (o:=.tup (IL [z])) ht1
   refine ζk8 (SqK.same (k:=true) (s2.trans u1) h4) (SqT.of ζ1) (by simp) (by rw[ζ4];show _+1<=_;omega) fun p1 H3 s3 hp1=>?_
   have s13:=u1.trans s3
   have s23:=s2.trans s13
   have hp1:SqT K H3 p1 (IL (E.O++[z])):=by rw[ζF];exact hp1
   refine⟨w,a,o,iA,p1,n,ps,kd,ls,os,insd E (E.T.take j),E.O++[z],rfl,hW.same s23,hG,hA.same s23,hll,SqK.same (k:=false) s23 hO,by omega,hon,fun y hy=>(ζk3 hG ho).mp hy,SqK.same (k:=true) s13 hiA,hp1,hIl,by rw[ζζ6];show _+1<=_;omega,hIr,ζU2 hG _ (ζp7 hG ho hIr),fun hno r3 H4 s4 hr30 hr3=>?_,fun g1 g2 ms r3 tp2 tr2 H4 hp hs s4 hr30 htp0 hr3 htp htr=>?_⟩
   ·have hd:insd E (E.T.take j)=_:=rfl
    refine fin [] [] H4 r3 (s13.trans s4) hr3 (ζζj _) ⟨rfl,fun i a h=>by cases h⟩ ?_ (ζζj _)
    rw[ζζ04]
    refine hF.none (ζb8 hG ho hIr ?_ hno)
    exact ζζ0c.mpr ⟨hE.iN,(hnd.sublist (ζζ1s _ _)).filter _,fun a ha b hb e=>ζζs (ζζm.mp hb).2 (e ▸ ha)⟩
   ·refine fin [.ref tp2] [⟨ms,insd E (E.T.take j),E.O++[z]⟩] H4 r3 (s13.trans s4) hr3 (ζζ5 _) ⟨rfl,fun i a h=>?_⟩ (hF.more (ζo10 hG ho hE (hnd.sublist (ζζ1s _ _)) (fun y hy=>ζζ17 hy) hzT hc g1 g2 hp hs)) (ζζ5 _)
    match i,h with
    | 0,h =>
     obtain rfl:=ζζ8 h
     exact⟨_,rfl,tp2,tr2,iA,p1,rfl,htp,htr,SqK.same (k:=true) (s13.trans s4) hiA,SqK.same (k:=true) s4 hp1⟩
    | i+1,h=>cases h
def ζ212(st:Stmt):Pos:=match (ζu1 st).getD 1 (.Pass ⟨0,0,0,0⟩) with
 | .Assign _ (.Call _ _ [k] _) _=>(match k.value with
  | .Lambda _ _ _ p=>p
  | _=>⟨0,0,0,0⟩)
 | _=>⟨0,0,0,0⟩
def ζG12:Str:=Str.ofString "ranked"++Str.ofString ".<locals>."++Str.ofString "<lambda>"
abbrev TabR(H:Hp)(Pt:Addr):Prop:=TabH H Pt (ζ212 sζu) ζG12
def PV(H:Hp)(ls:List Int)(v:V)(T:List Int):Prop:=∃ tp tr:Addr,v=.ref tp/\H tp=some (.tup [.int (sumL ls T),.ref tr])/\H tr=some (.tup (IL T))
theorem PV.same{H H':Hp}{ls:List Int}{v:V}{T:List Int}(s:Same H H')(h:PV H ls v T):PV H' ls v T:=by
 obtain⟨tp,tr,e,h1,h2⟩:=h
 exact⟨tp,tr,e,s _ _ h1,s _ _ h2⟩
theorem PV.put{H:Hp}{ls:List Int}{v:V}{T:List Int}{r:Addr}{zs:List V}{o:HO}(hr:H r=some (.lst zs))(h:PV H ls v T):PV (upd H r o) ls v T:=by
 obtain⟨tp,tr,e,h1,h2⟩:=h
 exact⟨tp,tr,e,by rw[ζ9 (ζr5 h1 hr (by simp))];exact h1,by rw[ζ9 (ζr5 h2 hr (by simp))];exact h2⟩
theorem ζ111{K:PySem.W.Frag}{H:Hp}{ls:List Int}{v u:V}{E F:Ent}(h1:EV K H ls v E)(h2:EV K H ls u F):EqD K H 2 v u (decide (E=F)):=by
 obtain⟨tp,tr,ti,to,rfl,a1,a2,a3,a4⟩:=h1
 obtain⟨tp',tr',ti',to',rfl,b1,b2,b3,b4⟩:=h2
 have e:((List.range (min [V.int (sumL ls E.T),.ref tr,.ref ti,.ref to].length [V.int (sumL ls F.T),.ref tr',.ref ti',.ref to'].length)).all (fun i=>match i with
   | 0=>decide (sumL ls E.T=sumL ls F.T)
   | 1=>decide (E.T=F.T)
   | 2=>decide (E.I=F.I)
   | _=>decide (E.O=F.O)) && [V.int (sumL ls E.T),.ref tr,.ref ti,.ref to].length == [V.int (sumL ls F.T),.ref tr',.ref ti',.ref to'].length)=decide (E=F):=by
  show(decide (sumL ls E.T=sumL ls F.T) && (decide (E.T=F.T) && (decide (E.I=F.I) && (decide (E.O=F.O) && true))) && true)=decide (E=F)
  obtain⟨T1,I1,O1⟩:=E
  obtain⟨T2,I2,O2⟩:=F
  rw[ζζ0j]
  simp only [ζζ2p,ζζ0u,ζζ1r,Ent.mk.injEq]
  constructor
  ·rintro⟨_,h1,h2,h3⟩
   exact⟨h1,h2,h3⟩
  ·rintro⟨h1,h2,h3⟩
   exact⟨by rw[h1],h1,h2,h3⟩
 rw[<- e]
 refine EqD.tups (SqT.of a1) (SqT.of b1) fun i x y hx hy=>?_
 match i,hx,hy with
 | 0,hx,hy =>
  obtain rfl:=ζζ8 hx
  obtain rfl:=ζζ8 hy
  exact ζy3 rfl rfl
 | 1,hx,hy =>
  obtain rfl:=ζζ8 hx
  obtain rfl:=ζζ8 hy
  exact ζs1 (SqT.of a2) (SqT.of b2)
 | 2,hx,hy =>
  obtain rfl:=ζζ8 hx
  obtain rfl:=ζζ8 hy
  exact ζs1 a3 b3
 | 3,hx,hy =>
  obtain rfl:=ζζ8 hx
  obtain rfl:=ζζ8 hy
  exact ζs1 a4 b4
 | i+4,hx,_=>cases hx
def spζu(K:PySem.W.Frag)(C Pt:Addr):Sp:=fun vs H Q _=>∃(w a:Addr) (n most:Int) (ps:List (Int × Int)) (kd:Bool) (ls:List Int),vs=[.ref w,.ref a,.int most]/\WebAt C H w n ps/\ζy n ps/\SqK kd K H a (IL ls)/\ls.length=ps.length/\0<=most/\most<=1000/\TabR H Pt /\
 ∀(ys:List V) (L:List (List Int)) (r:Addr) (H':Hp),Rkd n ps ls most.toNat L->Bears (PV H' ls) ys L->SameX Pt H H'->TabR H' Pt->H r=none->H' r=some (.lst ys)->Q (.ref r) H'
theorem scζu:FnScope ["web","lengths","most","order","waiting","told","taken"] ["web","lengths","most"] (ζ5 sζu):=⟨rfl,rfl,rfl,by decide +kernel,rfl,by decide +kernel,by decide +kernel⟩
theorem okζu {Pt:Addr} (T:Txt K mg t) (hB:ζw12 K mg base t.dζu Pt):FnOk P w K mg base CX0 8 t.aζu t.dζu ["web","lengths","most"] (spζu K t.A_Web Pt):=by
 obtain⟨cA,hcode,hC,hBa,hPg⟩:=hB
 refine T.fζu.okL hcode scζu (fun vs H Q E h=>?_) (fun A outer s H vs Q E hr h=>?_)
 ·obtain⟨w,a,n,most,ps,kd,ls,rfl,_⟩:=h
  rfl
 ·obtain⟨w,a,n,most,ps,kd,ls,rfl,hW,hG,hA,hll,hm0,hm1,hT,q⟩:=h
  refine⟨_,(ζ2 (ζC (ζa (okζ3 T) (hr.mono (by decide)) rfl T.mζ3 T.fζ3.kp T.bζ3 .nil ζw (ζ0 (pv 0) (ζ0 (pv 1) ζ3))))
   (ζ2 (ζh (i:=3) scζu.nd rfl (Or.inl rfl) (ζR5 (k:=0) (i:=1) (v:="tie") (x:="lengths") (ζa (okζ4 T) (hr.mono (by decide)) rfl T.mζ4 T.fζ4.kp T.bζ4 .nil ζw (ζ0 (pv 0) ζ3)) (by rfl) T.n_sorted (hr.mono (by decide)) rfl rfl hC hBa hPg (LamScope.of rfl rfl rfl (by first | exact .inl rfl | exact .inr rfl) (by decide)) rfl rfl (fun _ _ _ _=>rfl) rfl rfl rfl (fun _ _ _ _ _ _ hr=>(ζA (ζE4 K) (pv 1) (pv 0) (fun _ _=>rfl)))))
   (ζ2 (ζh (i:=4) scζu.nd rfl (Or.inl rfl) (ζa (okζs T) (hr.mono (by decide)) rfl T.mζs T.fζs.kp T.bζs .nil ζw (ζ0 (pv 0) (ζ0 (pv 1) (ζ0 (pv 3) (ζ0 (ζV ζ3) (ζ0 (ζV ζ3) ζ3)))))))
   (ζ2 (ζh (i:=5) scζu.nd rfl (Or.inl rfl) (ζe1 ζ3))
   (ζ2 (ζS8 ζζP (PW.pt (ζQ8 (ζj ζX8 (ζf (ζi K) (by rfl) T.n_len Boot.«len» (ζ0 (pv 4) ζ3)) ζ8 (ζq _)) (ζN5 (ζj ζQ7 (ζf (ζi K) (by rfl) T.n_len Boot.«len» (ζ0 (pv 5) ζ3)) (pv 2) (ζq _)))))
   (ζ2 (ζh (i:=6) scζu.nd rfl (Or.inl rfl) (ζf (ζI6 K rfl (hu8 hr)) (by rfl) T.n_min Boot.«min» (ζ0 (pv 4) ζ3)))
   (ζ2 (ζC (ζ61 K ζζL PySem.F.slot_list_remove PySem.F.type_list_remove (ζZ5 K (hu8 hr)) (pv 4) (ζ0 (pv 6) ζ3)))
   (ζ2 (ζC (ζ61 K ζζL ζζ08 ζζ07 ζQ (pv 5) (ζ0 (ζV (ζ0 (ζA (ζE K) (pv 6) ζ8 (fun _ _=>rfl)) (ζ0 (ζA (ζE K) (pv 6) ζ8 (fun _ _=>rfl)) ζ3))) ζ3)))
   (ζ7 (ζC (ζ61 K ζζL ζζ1M ζζ1L ζM2 (pv 4) (ζ0 (ζa (okζt T) (hr.mono (by decide)) rfl T.mζt T.fζt.kp T.bζt .nil ζw (ζ0 (pv 0) (ζ0 (pv 1) (ζ0 (pv 3) (ζ0 (pv 6) ζ3))))) ζ3))))))))
   (ζ7 (ζl (pv 5)))))))),?_⟩
  have hps:=hG.2.2.1
  have hG2:=hG.2.1
  refine⟨_,rfl,_,rfl,w,a,n,ps,kd,ls,rfl,hW,hA,fun _=>?_,fun h=>absurd hll h⟩
  refine⟨_,rfl,w,n,ps,rfl,hW,by omega,fun p1 H1 s1 hp10 hp1=>?_⟩
  have hT1:TabR H1 Pt:=hT.same s1
  refine⟨p1,rgL ps.length,.ref a,fun z=>lnz ls z,rfl,SqT.of hp1,by rw[ζM];omega,hT1,rfl,fun H2 sx z hz=>?_,fun os l H2 hst sx tab hl2=>?_⟩
  ·have hb:=rgL_mem.mp hz
   obtain⟨y,hy⟩:∃ y,ls[z.toNat]?=some y:=⟨_,ζζ0 (by omega)⟩
   have e:lnz ls z=y:=getD_of hy
   refine⟨_,rfl,_,rfl,kd,a,_,_,.int y,rfl,rfl,(hA.same s1).samex hT1 sx,ζv (n:=z.toNat) (by omega) (ζT2 hy),?_,rfl⟩
   show V.int y=V.int (lnz ls z)
   rw[e]
  have hO2:OrdL ls ps.length os:=ζt8 hst
  have s3:=same_at (o:=.lst (IL os)) hl2
  have h3l:(upd H2 l (.lst (IL os))) l=some (.lst (IL os)):=ζ1
  have sx3:SameX Pt H (upd H2 l (.lst (IL os))):=(SameX.same s1).trans (sx.trans (SameX.same s3))
  have tab3:TabR (upd H2 l (.lst (IL os))) Pt:=tab.same s3
  refine nm ?_
  dsimp only
  change tSeq _ _ _ _ (upd H2 l (.lst (IL os)))
  generalize upd H2 l (.lst (IL os))=H3 at *
  have hW3:=hW.samex hT sx3
  have hA3:=hA.samex hT sx3
  have hol:os.length=ps.length:=by rw[hO2.1.length_eq,ζM]
  have hon:os.Nodup:=hO2.2.imp fun h e=>by rw[e]at h;omega
  refine ζv12 (fun σ H4=>∃(wt:Addr) (ys:List V) (Es:List Ent),σ=[some (.ref w),some (.ref a),some (.int most),some (.ref l),some (.ref wt),none,none]/\Same H3 H4/\H3 wt=none/\H4 wt=some (.lst ys)/\Bears (EV K H4 ls) ys Es/\RI n ps ls [] Es/\Es.length<=1) ?_ ?_
  rotate_left
  ·intro K' hK'
   refine⟨_,rfl,_,rfl,_,rfl,ζζj _,fun i0 hi0=>⟨ζζj _,fun u0 hu0=>?_⟩⟩
   have v1:=same_at (o:=.tup (IL [])) hi0
   have v2:=same_at (o:=.tup (IL [])) hu0
   have v12:=v1.trans v2
   refine⟨w,a,l,i0,u0,n,ps,kd,ls,os,[],[],rfl,hW3.same v12,hG,hA3.same v12,hll,SqL.of (v12 _ _ h3l),by omega,hon,fun y hy=>(ζk3 hG hO2).mp hy,SqT.of (v2 _ _ ζ1),SqT.of ζ1,ζζj _,ζζj _,fun y hy=>(by cases hy),ζU2 hG _ (ζp7 hG hO2 fun y hy=>by cases hy),fun hno r H' s' hr0 hr'=>?_,fun g1 g2 ms r tp tr H' hp hs s' hr0 htp0 hr' htp htr=>?_⟩
   ·refine nm ?_
    refine hK' _ _ ⟨r,[],[],rfl,v12.trans s',v12.free hr0,hr',⟨rfl,fun i a h=>by cases h⟩,⟨fun _ h=>(by cases h),.nil,fun _ h=>(by cases h),fun W hW=>?_,fun _ h=>(by cases h),.nil⟩,ζζj _⟩
    exact absurd ⟨hW,fun z hz=>(by cases hz),fun z hz=>(by cases hz)⟩ (ζb8 hG hO2 (I:=[]) (O:=[]) (fun y hy=>by cases hy) .nil hno W)
   ·refine nm ?_
    obtain⟨b1,b2⟩:=ζn6 hG hO2 (I:=[]) (O:=[]) (fun y hy=>by cases hy) (fun y hy=>by cases hy) g1 g2 hp hs
    have eok:EOk n ps ls ⟨ms,[],[]⟩:=⟨b1,b2,.nil,.nil,fun z hz=>by cases hz⟩
    refine hK' _ _ ⟨r,[.ref tp],[⟨ms,[],[]⟩],rfl,v12.trans s',v12.free hr0,hr',⟨rfl,fun i b h=>?_⟩,⟨fun _ h=>(by cases h),.nil,fun F hF=>(by rw[ζζ1.mp hF];exact eok),fun W hW=>.inr ⟨_,ζζ1.mpr rfl,hW,fun z hz=>(by cases hz),fun z hz=>(by cases hz)⟩,fun _ _ _ _ _ h=>(by cases h),ζζZ _ _⟩,ζζ5 _⟩
    match i,h with
    | 0,h =>
     obtain rfl:=ζζ8 h
     exact⟨_,rfl,tp,tr,i0,u0,rfl,htp,htr,SqT.of (s' _ _ (v2 _ _ ζ1)),SqT.of (s' _ _ ζ1)⟩
    | i+1,h=>cases h
  rintro σ H4 ⟨wt,ys,Es,rfl,s4,hwt3,hwt4,hB,hR,hEl⟩
  refine⟨ζζj _,fun td htd=>?_⟩
  refine nm ?_
  dsimp only
  have htd3:H3 td=none:=s4.free htd
  have u5:=same_at (o:=.lst []) htd
  have nwt:wt≠td:=ζb hwt4 htd
  have h5w:(upd H4 td (.lst [])) wt=some (.lst ys):=u5 _ _ hwt4
  refine⟨fun m σ H6=>∃(v6:Option V) (ys zs:List V) (Es:List Ent) (L:List (List Int)),σ=[some (.ref w),some (.ref a),some (.int most),some (.ref l),some (.ref wt),some (.ref td),v6]/\Same H3 H6/\H6 wt=some (.lst ys)/\H6 td=some (.lst zs)/\Bears (EV K H6 ls) ys Es/\Bears (PV H6 ls) zs L/\RI n ps ls L Es/\L.length+m=most.toNat/\Es.length<=1+14 * L.length,⟨most.toNat,none,ys,[],Es,[],rfl,s4.trans u5,h5w,ζ1,hB.imp fun _ _ h=>h.same u5,⟨rfl,fun i a h=>by cases h⟩,hR,by simp,by simpa using hEl⟩,?_⟩
  rintro m σ H6 ⟨v6,ys,zs,Es,L,rfl,s6,hw6,ht6,hBy,hBz,hRI,hm,hEs⟩
  have hyl:ys.length=Es.length:=hBy.1
  have hzl:zs.length=L.length:=hBz.1
  have done:(Es=[]\/L.length=most.toNat)->Q (.ref td) H6:=fun hd=>by
   refine q zs L td H6 ⟨hRI.tr,hRI.asc,by omega,fun W hW=>?_⟩ hBz (sx3.trans (SameX.same s6)) (tab3.same s6) ?_ ht6
   ·rcases hRI.cov W hW with c | ⟨F,c1,c2⟩
    ·exact .inl c
    ·rcases hd with d | d
     ·rw[d]at c1;cases c1
     ·exact .inr ⟨d,hRI.beh F c1 W c2⟩
   ·cases hq:H td with
    | none=>rfl
    | some u =>
     by_cases c:td=Pt
     ·obtain⟨pt,e,_⟩:=tab3
      rw[c,e]at htd3
      cases htd3
     ·have:=sx3 td u c hq
      rw[htd3]at this
      cases this
  refine⟨_,rfl,wt,ys,rfl,.inl (SqL.of hw6),_,_,rfl,rfl,_,rfl,?_⟩
  refine itd2 (fun hc=>?_) (fun hc=>?_)
  rotate_left
  ·refine iteF ?_
   refine⟨_,rfl,done (.inl ?_)⟩
   exact ζζ00.mp (by omega)
  refine⟨_,rfl,td,zs,rfl,.inl (SqL.of ht6),_,rfl,_,_,rfl,rfl,_,rfl,?_⟩
  refine itd2 (fun hc2=>?_) (fun hc2=>?_)
  rotate_left
  ·exact⟨_,rfl,done (.inr (by omega))⟩
  refine⟨_,fun σ' H' h=>h,?_⟩
  have nd:(Es.map fun E=>(sumL ls E.T,E.T)).Nodup:=by
   refine ζζ03.mpr fun i j hi hj hij e=>?_
   rw[List.getElem_map,List.getElem_map]at e
   rw[ζζa]at hi hj
   exact hRI.unlike (ζζ0 hi) (ζζ0 hj) (ζζr hij) (Prod.mk.inj e).2
  refine⟨_,rfl,wt,ys,Es.map fun E=>(sumL ls E.T,E.T),false,rfl,SqL.of hw6,by omega,by rw[ζζa];exact hyl,fun i x hx=>?_,fun _=>nd,fun i tp x hx hy hmin=>?_⟩
  ·rw[ζζh]at hx
   obtain⟨E,hE,rfl⟩:=ζζ0V.mp hx
   obtain⟨v,hv,tp,tr,ti,to,rfl,h1,h2,_⟩:=hBy.2 i E hE
   exact⟨tp,tr,[.ref ti,.ref to],hv,SqT.of h1,SqT.of h2,fun z=>by cases z⟩
  rw[ζζh]at hx
  obtain⟨E,hE,rfl⟩:=ζζ0V.mp hx
  obtain⟨v,hv,hEV⟩:=hBy.2 i E hE
  obtain rfl:v=.ref tp:=ζζ8 (hv.symm.trans hy)
  have hmn:∀ F∈Es,¬ pl ls F.T E.T:=fun F hF h=>by
   have:=hmin _ (ζζx.mpr ⟨F,hF,rfl⟩)
   unfold pl at h
   rw[this]at h
   cases h
  have okE:=hRI.ok E (ζζe hE)
  have il:i<ys.length:=(ζζ4.mp hy).1
  have uniq:∀(k:Nat) (b:Addr) (F:Ent),ys[k]?=some (.ref b)->Es[k]?=some F->b=tp->k=i:=fun k b F hb hF e=>ζζp fun hn=>by
   obtain⟨v',hv',hF'⟩:=hBy.2 k F hF
   obtain rfl:v'=.ref b:=ζζ8 (hv'.symm.trans hb)
   subst e
   obtain⟨_,r1,_,_,e1,a1,a2,_⟩:=hF'
   obtain⟨_,r2,_,_,e2,b1,b2,_⟩:=hEV
   cases e1
   cases e2
   rw[a1]at b1
   have e3:=ζζ8 b1
   injection e3 with e3
   injection e3 with _ e3
   injection e3 with e3 _
   injection e3 with e3
   subst e3
   rw[a2]at b2
   have e4:=ζζ8 b2
   injection e4 with e4
   exact hRI.unlike hF hE hn ((List.map_inj_right (f:=V.int) (fun x y h=>by injection h)).mp e4)
  refine nm ?_
  dsimp only
  refine⟨_,rfl,.inl ⟨rfl,_,SqL.of hw6⟩,_,rfl,2,wt,ys,.ref tp,fun b=>decide (b=tp),i,tp,rfl,rfl,hw6,by decide,fun v hv'=>?_,hy,ζζd rfl,fun k b hk hb=>?_,?_⟩
  ·obtain⟨k,hk⟩:=ζζ19 hv'
   obtain⟨F,hF,hFV⟩:=hBy.at hk
   obtain⟨b,rfl⟩:∃ b,v=.ref b:=let ⟨b,_,_,_,e,_⟩:=hFV;⟨b,e⟩
   refine⟨b,rfl,?_⟩
   have eb:decide (F=E)=decide (b=tp):=by
    rw[ζζ1c]
    constructor
    ·intro e
     have ki:k=i:=ζζp fun hn=>hRI.unlike hF hE hn (by rw[e])
     subst ki
     rw[hy]at hk
     cases hk
     rfl
    ·intro e
     have ki:=uniq k b F hk hF e
     subst ki
     rw[hF]at hE
     exact ζζ8 hE
   show EqD K H6 2 (.ref b) (.ref tp) (decide (b=tp))
   rw[<- eb]
   exact ζ111 hFV hEV
  ·obtain⟨F,hF,_⟩:=hBy.at hb
   refine ζζE fun e=>?_
   have:=uniq k b F hb hF e
   omega
  have s7:Same H3 (upd H6 wt (.lst (ys.eraseIdx i))):=ζr hwt3 s6
  have hw7:(upd H6 wt (.lst (ys.eraseIdx i))) wt=some (.lst (ys.eraseIdx i)):=ζ1
  have ht7:(upd H6 wt (.lst (ys.eraseIdx i))) td=some (.lst zs):=by rw[ζ9 (ζζY nwt)];exact ht6
  have hEV7:=EV.put (o:=.lst (ys.eraseIdx i)) hw6 hEV
  have hBy7:Bears (EV K (upd H6 wt (.lst (ys.eraseIdx i))) ls) (ys.eraseIdx i) (Es.eraseIdx i):=(hBy.erase i).imp fun _ _ h=>EV.put hw6 h
  have hBz7:Bears (PV (upd H6 wt (.lst (ys.eraseIdx i))) ls) zs L:=hBz.imp fun _ _ h=>PV.put hw6 h
  change tSeq _ _ _ _ (upd H6 wt (.lst (ys.eraseIdx i)))
  generalize upd H6 wt (.lst (ys.eraseIdx i))=H7 at *
  obtain⟨_,tr,ti,to,e0,c1,c2,c3,c4⟩:=id hEV7
  cases e0
  refine⟨_,rfl,.inl ⟨rfl,_,SqL.of ht7⟩,_,rfl,tp,_,0,.int (sumL ls E.T),rfl,rfl,SqT.of c1,rfl,_,rfl,tp,_,1,.ref tr,rfl,rfl,SqT.of c1,rfl,(by decide:2<=sizeLine),fun t2 ht2=>?_⟩
  have u8:=same_at (o:=.tup [.int (sumL ls E.T),.ref tr]) ht2
  have ht8:=u8 _ _ ht7
  have z1:100000<=sizeLine:=by decide
  refine⟨td,zs,.ref t2,rfl,rfl,ht8,by omega,?_⟩
  have s9:Same H3 (upd (upd H7 t2 (.tup [.int (sumL ls E.T),.ref tr])) td (.lst (zs++[.ref t2]))):=ζr htd3 (s7.trans u8)
  have hw9:(upd (upd H7 t2 (.tup [.int (sumL ls E.T),.ref tr])) td (.lst (zs++[.ref t2]))) wt=some (.lst (ys.eraseIdx i)):=by rw[ζ9 nwt];exact u8 _ _ hw7
  have ht9:(upd (upd H7 t2 (.tup [.int (sumL ls E.T),.ref tr])) td (.lst (zs++[.ref t2]))) td=some (.lst (zs++[.ref t2])):=ζ1
  have hEV9:=EV.put (o:=.lst (zs++[.ref t2])) ht8 (hEV7.same u8)
  have hBy9:Bears (EV K (upd (upd H7 t2 (.tup [.int (sumL ls E.T),.ref tr])) td (.lst (zs++[.ref t2]))) ls) (ys.eraseIdx i) (Es.eraseIdx i):=hBy7.imp fun _ _ h=>EV.put ht8 (h.same u8)
  have hPV9:PV (upd (upd H7 t2 (.tup [.int (sumL ls E.T),.ref tr])) td (.lst (zs++[.ref t2]))) ls (.ref t2) E.T:=PV.put ht8 ⟨t2,tr,rfl,ζ1,u8 _ _ c2⟩
  have hBz9:Bears (PV (upd (upd H7 t2 (.tup [.int (sumL ls E.T),.ref tr])) td (.lst (zs++[.ref t2]))) ls) (zs++[.ref t2]) (L++[E.T]):=(hBz7.imp fun _ _ h=>PV.put ht8 (h.same u8)).snoc hPV9
  generalize upd (upd H7 t2 (.tup [.int (sumL ls E.T),.ref tr])) td (.lst (zs++[.ref t2]))=H9 at *
  refine⟨_,rfl,.inl ⟨rfl,_,SqL.of hw9⟩,_,rfl,_,rfl,_,rfl,_,rfl,w,a,l,tp,n,ps,kd,ls,os,E,rfl,hW3.same s9,hG,hA3.same s9,hll,SqL.of (s9 _ _ h3l),hO2,hEV9,okE,fun ws Fs r H10 hFB hFl hBw s10 hr0 hr10=>?_⟩
  have hwl:ws.length=Fs.length:=hBw.1
  have hel:(ys.eraseIdx i).length=ys.length - 1:=by rw[ζζ18,if_pos il]
  have hel2:(Es.eraseIdx i).length=Es.length - 1:=by rw[ζζ18,if_pos (by omega)]
  have hw10:=s10 _ _ hw9
  refine⟨wt,r,_,ws,rfl,rfl,hw10,hr10,by omega,?_⟩
  refine⟨m - 1,by omega,_,ys.eraseIdx i++ws,zs++[.ref t2],Es.eraseIdx i++Fs,L++[E.T],rfl,ζr hwt3 (s9.trans s10),ζ1,?_,?_,?_,hRI.step hG hE hmn hFB,?_,?_⟩
  ·rw[ζ9 (ζζY nwt)];exact s10 _ _ ht9
  ·exact((hBy9.imp fun _ _ h=>h.same s10).app hBw).imp fun _ _ h=>EV.put hw10 h
  ·exact hBz9.imp fun _ _ h=>PV.put hw10 (h.same s10)
  ·rw[ζζ6,ζζR];omega
  ·rw[ζζ6,ζζ6,ζζR];omega
def spζv:Sp:=fun vs H Q _=>∃ w:Str,vs=[.str w]/\(w.cps.all fun c=>decide (c<128))=true/\w.length<=100000/\∀ H':Hp,Same H H'->Q (.bl (ζf6 w.cps.toList)) H'
theorem ζe8(x y:Str):decide (V.str x=V.str y)=decide (x.cps.toList=y.cps.toList):=ζζ1c.mpr ⟨fun e=>by cases e;rfl,fun e=>by rw[ζH7 e]⟩
theorem ζv9{cs:List Nat}{c:Nat}(h:c∈figs cs):c∈cs:=by
 unfold figs at h
 split at h
 ·exact List.mem_of_mem_tail h
 ·exact h
theorem ζw9(cs:List Nat):(figs cs).length<=cs.length:=by
 unfold figs
 split
 ·rw[ζζ2A];omega
 ·exact ζζ5 _
theorem any_not{l:List Nat}{f:Nat->Bool}:(l.map fun c=>!f c).any id=false↔∀ c∈l,f c=true:=by
 rw[List.any_eq_false]
 constructor
 ·intro h c hc
  have:=h (!f c) (ζζx.mpr ⟨c,hc,rfl⟩)
  cases e:f c with
  | true=>rfl
  | false=>rw[e]at this;exact absurd rfl this
 ·intro h b hb
  obtain⟨c,hc,rfl⟩:=ζζx.mp hb
  rw[h c hc]
  decide
theorem scζv:FnScope ["word","figures"] ["word"] (ζ5 sζv):=⟨rfl,rfl,rfl,by decide +kernel,rfl,by decide +kernel,by decide +kernel⟩
theorem okζv (T:Txt K mg t):FnOk P w K mg base CX0 1 t.aζv t.dζv ["word"] spζv:=by
 refine T.fζv.ok scζv (fun vs H Q E h=>?_) (fun cdv A outer s H vs Q E hr h=>?_)
 ·obtain⟨w,rfl,_⟩:=h
  rfl
 ·obtain⟨w,rfl,ha,hl,q⟩:=h
  refine⟨_,(ζ2 (ζh (i:=1) scζv.nd rfl (Or.inl rfl) (ζS3 (ζ82 (ζ61 K ζζ0U PySem.F.slot_str_startswith PySem.F.type_str_startswith ζa7 (pv 0) (ζ0 ζd2 ζ3))) (ζw1 ζ010 (pv 0) (ζa2 ζ8) ζb2) (pv 0)))
   (ζ2 (ζh1 (PW.pt (ζ17 (ζr2 (ζP3 ζR7 ζR7 ζ8 (ζf ζa4 (by rfl) T.n_len Boot.«len» (ζ0 (pv 1) ζ3)) (ζv4 (v:=V.int 60) rfl T.g_MOST_FIGURES.choose_spec ⟨_,rfl⟩))) (ζe3 (ζ82 (ζf (ζB7 K rfl) (by rfl) T.n_any Boot.«any» (ζ0 (ζu4 rfl (sc0:=ζ5 sζv) (N0:=["word","figures"]) (N':=["sign"]) (o:=1) (fr:=[]) ⟨rfl,by decide +kernel,by decide +kernel,by decide +kernel,rfl,by decide +kernel⟩ (ζi10 (pv 1)) (ζB (by decide)) (fun _ _ _ _=>(ζe (i:=0) (show List.Nodup (["sign"]:List Str) by decide +kernel) rfl (Or.inl rfl))) (fun _ _ _ _=>ζP) (fun _ _ _ _=>(ζk1 ζT3 (pv 0) (ζv4 (v:=V.str "0123456789") rfl T.g_FIGURES.choose_spec ⟨_,rfl⟩) rfl))) ζ3))))))
   (ζ7 (ζl ζw4))
   ζo)
   (ζ7 (ζl (ζJ12 (ζk1 ζS5 (pv 0) ζd2 (ζq _)) (ζl10 (ζk1 ζ95 (ζA ζ812 (pv 1) ζ8 (fun _ _=>rfl)) ζd2 (ζq _)))))))),?_⟩
  have hw:=ζA1 w
  have z1:100000<=sizeLine:=by decide
  refine ζv12 (fun σ H'=>H'=H/\∃ F:Str,σ=[some (.str w),some (.str F)]/\F.cps.toList=figs w.cps.toList) ?_ ?_
  rotate_left
  ·intro Kn hK
   refine⟨_,rfl,rfl,_,_,rfl,rfl,_,rfl,?_⟩
   rw[ζU6]
   refine itd2 (fun hs=>?_) (fun hs=>?_)
   ·have hpos:1<=w.cps.toList.length:=by
     cases e:w.cps.toList with
     | nil=>rw[e]at hs;cases hs
     | cons c r=>simp
    have et:=ζH5 hpos
    refine⟨_,rfl,_,rfl,w,rfl,?_,hK _ _ ⟨rfl,_,rfl,?_⟩⟩
    ·rw[ζA1,et,ζζ2A];omega
    ·rw[et];unfold figs;rw[if_pos hs]
   ·refine⟨_,rfl,hK _ _ ⟨rfl,_,rfl,?_⟩⟩
    unfold figs;rw[if_neg hs]
  rintro σ H' ⟨rfl,F,rfl,hF⟩
  have hFl:=ζA1 F
  have hfl:=ζw9 w.cps.toList
  have hFs:F.length<=100000:=by rw[hFl,hF];omega
  have hFa:(F.cps.all fun c=>decide (c<128))=true:=by
   rw[<- Array.all_toList,ζζ0i]at ha ⊢
   intro c hc
   rw[hF]at hc
   exact ha c (ζv9 hc)
  have bad:¬ (1<=(figs w.cps.toList).length/\(figs w.cps.toList).length<=60/\∀ c∈figs w.cps.toList,48<=c/\c<=57)->∀ H2:Hp,Same H' H2->Q (.bl false) H2:=fun h H2 s2=>by
   have e:ζf6 w.cps.toList=false:=ζζE fun z=>h ⟨z.1,z.2.1,z.2.2.1⟩
   have:=q H2 s2
   rw[e]at this
   exact this
  refine⟨_,rfl,F,rfl,by omega,_,_,rfl,rfl,_,rfl,?_⟩
  refine itd2 (fun h1=>?_) (fun h1=>?_)
  rotate_left
  ·refine⟨_,rfl,?_⟩
   refine iteT ?_
   refine iteT ?_
   exact bad (fun z=>h1 (by have:=z.1;rw[<- hF,<- hFl]at this;omega)) _ (Same.refl _)
  refine⟨_,_,rfl,rfl,_,rfl,?_⟩
  refine itn2 (fun h60=>?_) (fun h60=>?_)
  rotate_left
  ·refine iteT ?_
   exact bad (fun z=>h60 (by have:=z.2.1;rw[<- hF,<- hFl]at this;omega)) _ (Same.refl _)
  refine⟨_,rfl,F,rfl,hFa,ζE10 (fun i ys H2=>H2=H'/\ys=((F.cps.toList.take i).map fun c=>!decide (48<=c/\c<=57)).map V.bl) ⟨rfl,rfl⟩ (by show F.length<sizeLine;omega) (fun i ys H2 _ ⟨_,e⟩=>by rw[e,ζζa,ζζa,ζζv];omega) ?_ ?_⟩
  ·rintro i c ys H2 hc ⟨rfl,rfl⟩ S hSS
   refine nmY ?_
   refine⟨_,rfl,_,_,rfl,rfl,?_⟩
   rw[ζv7]
   refine hSS _ _ ⟨rfl,?_⟩
   have hc':F.cps.toList[i]?=some c:=by rw[ζζN];exact hc
   rw[ζζK,hc',ζζA,ζζA]
   rfl
  rintro ys H2 ⟨rfl,rfl⟩ p hp
  rw[ζζ06 (by rw[ζζD];exact ζζ5 _)]
  refine⟨p,_,rfl,SqL.of ζ1,_,rfl,?_⟩
  have s3:=same_at (o:=.lst ((F.cps.toList.map fun c=>!decide (48<=c/\c<=57)).map V.bl)) hp
  generalize upd H2 p (.lst ((F.cps.toList.map fun c=>!decide (48<=c/\c<=57)).map V.bl))=H3 at *
  cases hb:(F.cps.toList.map fun c=>!decide (48<=c/\c<=57)).any id with
  | true =>
   refine iteT ?_
   refine bad (fun z=>?_) _ s3
   rw[<- hF]at z
   rw[any_not.mpr fun c hc=>ζζd (z.2.2 c hc)]at hb
   cases hb
  | false =>
   refine iteF ?_
   have hall:=any_not.mp hb
   rw[hF]at hall hFl
   show(_:Prop)
   refine ζa5 ?_
   cases hf:figs w.cps.toList with
   | nil=>rw[hf]at hFl;simp at hFl;omega
   | cons c r =>
    have hF0:atI F.cps.toList 0=some c:=by rw[hF,hf];exact ζv (n:=0) (by decide) rfl
    refine⟨_,rfl,rfl,_,rfl,?_⟩
    rw[ζe8]
    have e0:(Str.ofString "0").cps.toList=[48]:=by rfl
    rw[e0]
    have fin:∀ b:Bool,(b=true↔w.cps.toList=[48]\/c≠48)->Q (.bl b) H3:=fun b hb2=>by
     have e:ζf6 w.cps.toList=b:=by
      rw[ζζ0j,hb2]
      unfold ζf6
      rw[ζζM]
      constructor
      ·rintro⟨_,_,_,h⟩
       rcases h with h | h
       ·exact .inl h
       ·exact .inr fun e=>h (by rw[hf,e];rfl)
      ·intro h
       refine⟨by omega,by omega,fun x hx=>ζζs (hall x hx),?_⟩
       rcases h with h | h
       ·exact .inl h
       ·exact .inr fun e=>h (by rw[hf]at e;exact ζζ8 e)
     have:=q H3 s3
     rw[e]at this
     exact this
    refine itd2 (fun h0=>?_) (fun h0=>?_)
    ·exact fin true ⟨fun _=>.inl h0,fun _=>rfl⟩
    ·refine⟨_,rfl,F,0,c,rfl,rfl,by omega,hF0,rfl,?_⟩
     rw[ζe8,e0]
     refine fin _ ⟨fun h=>.inr fun e=>?_,fun h=>?_⟩
     ·rw[e]at h;exact absurd h (by decide)
     ·rcases h with h | h
      ·exact absurd h h0
      ·rw[ζζE (fun e=>h (ζζ26 e).1)];rfl
def spζw:Sp:=fun vs H Q _=>∃ i:Int,vs=[.str (nT i)]/\-(10 ^ 60)<i/\i<10 ^ 60/\∀ H':Hp,Same H H'->Q (.int i) H'
theorem scζw:FnScope ["word"] ["word"] (ζ5 sζw):=⟨rfl,rfl,rfl,by decide +kernel,rfl,by decide +kernel,by decide +kernel⟩
theorem okζw (T:Txt K mg t):FnOk P w K mg base CX0 2 t.aζw t.dζw ["word"] spζw:=by
 refine T.fζw.ok scζw (fun vs H Q E h=>?_) (fun cdv A outer s H vs Q E hr h=>?_)
 ·obtain⟨i,rfl,_⟩:=h
  rfl
 ·obtain⟨i,rfl,h1,h2,q⟩:=h
  refine⟨_,(ζ2 (ζh1 (ζr2 (ζ82 (ζa (okζv T) (hr.mono (by decide)) rfl T.mζv T.fζv.kp T.bζv .nil ζw (ζ0 (pv 0) ζ3))))
   (ζ7 ζ11)
   ζo)
   (ζ7 (ζl (ζg ζz7 (by rfl) T.n_int Boot.«int» (ζ0 (pv 0) ζ3))))),?_⟩
  have hl:=ζX5 (k:=60) (by decide) h1 h2
  refine⟨_,rfl,nT i,rfl,ζ49 i,by omega,fun H1 s1=>⟨_,rfl,?_⟩⟩
  rw[ζo3,ζC11 h1 h2]
  refine iteF ?_
  show(_:Prop)
  refine ζa5 ?_
  exact⟨_,rfl,nT i,i,rfl,ζ39 (k:=60) (by decide) (by decide) h1 h2,by omega,q H1 s1⟩
def spζx(K:PySem.W.Frag):Sp:=fun vs H Q _=>∃(name:Str) (l:List Int),vs=[.str (Str.join ζT1 (name :: l.map nT)),.str name,.int l.length]/\32∉name.cps.toList/\name.length<=100/\l.length<=10/\Told l/\∀(r:Addr) (H':Hp),Same H H'->H' r=some (.lst (IL l))->Q (.ref r) H'
theorem scζx:FnScope ["line","name","many","words"] ["line","name","many"] (ζ5 sζx):=⟨rfl,rfl,rfl,by decide +kernel,rfl,by decide +kernel,by decide +kernel⟩
theorem okζx (T:Txt K mg t):FnOk P w K mg base CX0 3 t.aζx t.dζx ["line","name","many"] (spζx K):=by
 refine T.fζx.ok scζx (fun vs H Q E h=>?_) (fun cdv A outer s H vs Q E hr h=>?_)
 ·obtain⟨name,l,rfl,_⟩:=h
  rfl
 ·obtain⟨name,l,rfl,hn,hnl,hll,hl,q⟩:=h
  refine⟨_,(ζ2 (ζh (i:=3) scζx.nd rfl (Or.inl rfl) (ζ61 K ζζ0U ζζ0T ζζ31 ζY5 (pv 0) (ζ0 ζd2 ζ3)))
   (ζ2 (ζh1 (PW.pt (ζ17 (ζj ζ95 (ζA (ζc K) (pv 3) ζ8 (fun _ _=>rfl)) (pv 1) (ζq _)) (ζe3 (ζj ζ95 (ζf (ζi K) (by rfl) T.n_len Boot.«len» (ζ0 (pv 3) ζ3)) (ζp ζf1 (pv 2) ζ8) (ζq _)))))
   (ζ7 ζ11)
   ζo)
   (ζ7 (ζl (ζu4 rfl (sc0:=ζ5 sζx) (N0:=["line","name","many","words"]) (N':=["word"]) (o:=1) (fr:=[]) ⟨rfl,by decide +kernel,by decide +kernel,by decide +kernel,rfl,by decide +kernel⟩ (ζL K (ζw1 (ζK1 K) (pv 3) (ζa2 ζ8) ζb2)) (ζB (by decide)) (fun _ _ _ _=>(ζe (i:=0) (show List.Nodup (["word"]:List Str) by decide +kernel) rfl (Or.inl rfl))) (fun _ _ _ _=>ζP) (fun _ _ _ _=>(ζa (okζw T) (hr.mono (by decide)) rfl T.mζw T.fζw.kp T.bζw .nil ζw (ζ0 (pv 0) ζ3)))))))),?_⟩
  have hsp:=ζn8 (l:=l) hn
  have hlen:(Str.join ζT1 (name :: l.map nT)).length<=2000:=by
   rw[ζp2]
   refine ζζO (ζZ3 (B:=100) fun a ha=>?_) (by rw[ζζq,ζζa];omega)
   rcases ζζb.mp ha with e | e
   ·rw[e];exact hnl
   ·have:=ζK3 hl a e;omega
  have z1:2000<=sizeLine:=by decide
  refine⟨_,rfl,rfl,_,_,rfl,rfl,rfl,by omega,?_,fun p hp=>?_⟩
  ·show(Txt.split _ ζT1).length<=_
   rw[hsp,ζζq,ζζa];omega
  have e:Txt.split (Str.join ζT1 (name :: l.map nT)) (Str.ofString " ")=name :: l.map nT:=hsp
  rw[e]
  have u1:=same_at (o:=.lst (TL (name :: l.map nT))) hp
  have hp1:(upd H p (.lst (TL (name :: l.map nT)))) p=some (.lst (TL (name :: l.map nT))):=ζ1
  generalize upd H p (.lst (TL (name :: l.map nT)))=H1 at *
  refine nm ?_
  dsimp only
  refine⟨_,rfl,p,_,0,.str name,rfl,rfl,SqL.of hp1,ζv (n:=0) (by decide) rfl,_,rfl,rfl,_,rfl,?_⟩
  refine itn rfl ?_
  refine⟨_,rfl,p,_,rfl,.inl (SqL.of hp1),_,rfl,_,_,rfl,rfl,rfl,_,rfl,?_⟩
  rw[ζo1,ζζq,ζζa,ζI]
  refine itn (by omega) ?_
  show(_:Prop)
  refine ζa5 ?_
  refine⟨_,rfl,_,rfl,p,_,rfl,SqL.of hp1,fun p2 hp2=>?_⟩
  rw[ζT4 (by decide)]
  have e2:(TL (name :: l.map nT)).drop (1:Int).toNat=TL (l.map nT):=rfl
  rw[e2]
  have u2:=same_at (o:=.lst (TL (l.map nT))) hp2
  have hp3:(upd H1 p2 (.lst (TL (l.map nT)))) p2=some (.lst (TL (l.map nT))):=ζ1
  generalize upd H1 p2 (.lst (TL (l.map nT)))=H2 at *
  refine⟨p2,rfl,⟨_,SqL.of hp3⟩,ζm1 (K:=K) (a:=p2) (xs:=TL (l.map nT)) (fun i ys H3=>Same H2 H3/\ys=IL (l.take i)) ⟨Same.refl _,rfl⟩ (ζk (by rw[ζo1,ζζa];omega)) (fun i ys H3 _ ⟨e,ey⟩=>⟨SqL.of (e _ _ hp3),by rw[ey,ζ4,ζζv];omega⟩) ?_ ?_⟩
  ·rintro i v ys H3 hi ⟨s3,rfl⟩ S hSS
   obtain⟨x,rfl,hx⟩:=ζW9 hi
   rw[ζζh]at hx
   obtain⟨z,hz,rfl⟩:=ζζ0V.mp hx
   have hb:=hl z (ζζe hz)
   refine nmY ?_
   refine⟨_,rfl,z,rfl,hb.1,hb.2,fun H4 s4=>hSS _ _ ⟨s3.trans s4,?_⟩⟩
   rw[ζζK,hz]
   show IL (l.take i)++[V.int z]=IL (l.take i++[z])
   rw[ζF]
  rintro ys H3 ⟨s3,rfl⟩ p3 hp4
  rw[ζo1,ζζa,ζζH]
  exact q p3 _ (u1.trans (u2.trans (s3.trans (same_at hp4)))) ζ1
def spζy(K:PySem.W.Frag)(C:Addr):Sp:=fun vs H Q _=>∃(n:Int) (ps:List (Int × Int)) (ls:List Int),vs=[.str (ζq8 n ps ls)]/\ζy n ps/\ls.length=ps.length/\Told ls/\∀(t w a:Addr) (H':Hp),Same H H'->H a=none->H' t=some (.tup [.ref w,.ref a])->WebAt C H' w n ps->H' a=some (.lst (IL ls))->Q (.ref t) H'
theorem scζy:FnScope ["text","lines","places","ties"] ["text"] (ζ5 sζy):=⟨rfl,rfl,rfl,by decide +kernel,rfl,by decide +kernel,by decide +kernel⟩
theorem okζy (T:Txt K mg t):FnOk P w K mg base CX0 4 t.aζy t.dζy ["text"] (spζy K t.A_Web):=by
 refine T.fζy.ok scζy (fun vs H Q E h=>?_) (fun cdv A outer s H vs Q E hr h=>?_)
 ·obtain⟨n,ps,ls,rfl,_⟩:=h
  rfl
 ·obtain⟨n,ps,ls,rfl,hG,hl,hT,q⟩:=h
  refine⟨_,(ζ2 (ζh (i:=1) scζy.nd rfl (Or.inl rfl) (ζ61 K ζζ0U ζζ0T ζζ31 ζY5 (pv 0) (ζ0 ζd2 ζ3)))
   (ζ2 (ζh (i:=2) scζy.nd rfl (Or.inl rfl) (ζa (okζx T) (hr.mono (by decide)) rfl T.mζx T.fζx.kp T.bζx .nil ζw (ζ0 (ζA (ζc K) (pv 1) ζ8 (fun _ _=>rfl)) (ζ0 ζd2 (ζ0 ζ8 ζ3)))))
   (ζ2 (ζ27 (i:=3) rfl scζy.nd rfl rfl (sc0:=ζ5 sζy) (N0:=["text","lines","places","ties"]) (N':=["line"]) (o:=1) (fr:=[]) ⟨rfl,by decide +kernel,by decide +kernel,by decide +kernel,rfl,by decide +kernel⟩ (ζL K (ζw1 (ζK1 K) (pv 1) (ζa2 ζ8) ζb2)) (ζB (by decide)) (fun _ _ _ _=>(ζe (i:=0) (show List.Nodup (["line"]:List Str) by decide +kernel) rfl (Or.inl rfl))) (fun _ _ _ _=>ζP) (fun _ _ _ _=>(ζa (okζx T) (hr.mono (by decide)) rfl T.mζx T.fζx.kp T.bζx .nil ζw (ζ0 (pv 0) (ζ0 ζd2 (ζ0 ζ8 ζ3))))))
   (ζ7 (ζl (ζV (ζ0 (ζN7 T.k_Web (okζ2 T) (hr.mono (by decide)) rfl T.c_Web T.bζ2 .nil ζw (ζ0 (ζA (ζc K) (pv 2) ζ8 (fun _ _=>rfl)) (ζ0 (ζu4 rfl (sc0:=ζ5 sζy) (N0:=["text","lines","places","ties"]) (N':=["tie"]) (o:=1) (fr:=[]) ⟨rfl,by decide +kernel,by decide +kernel,by decide +kernel,rfl,by decide +kernel⟩ (ζL K (pv 3)) (ζB (by decide)) (fun _ _ _ _=>(ζe (i:=0) (show List.Nodup (["tie"]:List Str) by decide +kernel) rfl (Or.inl rfl))) (fun _ _ _ _=>ζP) (fun _ _ _ _=>(ζV (ζ0 (ζA (ζc K) (pv 0) ζ8 (fun _ _=>rfl)) (ζ0 (ζA (ζc K) (pv 0) ζ8 (fun _ _=>rfl)) ζ3))))) ζ3))) (ζ0 (ζu4 rfl (sc0:=ζ5 sζy) (N0:=["text","lines","places","ties"]) (N':=["tie"]) (o:=1) (fr:=[]) ⟨rfl,by decide +kernel,by decide +kernel,by decide +kernel,rfl,by decide +kernel⟩ (ζL K (pv 3)) (ζB (by decide)) (fun _ _ _ _=>(ζe (i:=0) (show List.Nodup (["tie"]:List Str) by decide +kernel) rfl (Or.inl rfl))) (fun _ _ _ _=>ζP) (fun _ _ _ _=>(ζA (ζc K) (pv 0) ζ8 (fun _ _=>rfl)))) ζ3)))))))),?_⟩
  have hp30:=hG.2.2.1
  have hn1:=hG.1
  have hn2:=hG.2.1
  have two:2<=sizeLine:=by decide
  have z1:100000<=sizeLine:=by decide
  have wl:=ζt5 (n:=n) hl
  have hsp:=ζd9 (n:=n) (ps:=ps) (ls:=ls)
  have tlen:(ζq8 n ps ls).length<=100000:=by
   unfold ζq8
   rw[ζZ11]
   refine ζζO (ζZ3 (B:=400) (ζs5 hG hT)) (by rw[wl];omega)
  refine⟨_,rfl,rfl,_,_,rfl,rfl,rfl,by omega,?_,fun p hp=>?_⟩
  ·show(Txt.split _ nlS).length<=_
   rw[hsp,wl];omega
  have e:Txt.split (ζq8 n ps ls) (Str.ofString "\n")=webT n ps ls:=hsp
  rw[e]
  have u1:=same_at (o:=.lst (TL (webT n ps ls))) hp
  have hp1:(upd H p (.lst (TL (webT n ps ls)))) p=some (.lst (TL (webT n ps ls))):=ζ1
  generalize upd H p (.lst (TL (webT n ps ls)))=H1 at *
  refine nm ?_
  dsimp only
  refine⟨_,rfl,p,_,0,.str (Str.ofString "places "++nT n),rfl,rfl,SqL.of hp1,ζv (n:=0) (by decide) rfl,Str.ofString "places",[n],by rw [ζr4];rfl,by decide,by decide,(show 1<=10 by decide),fun z hz=>by rw [ζζ1.mp hz];omega,fun pA H2 s2 hpA=>?_⟩
  refine nm ?_
  dsimp only
  have hp2:=s2 _ _ hp1
  refine⟨_,rfl,_,rfl,p,_,rfl,SqL.of hp2,fun p2 hp3=>?_⟩
  rw[ζT4 (by decide)]
  have e2:(TL (webT n ps ls)).drop (1:Int).toNat=TL (List.zipWith ζd5 ps ls):=rfl
  rw[e2]
  have u3:=same_at (o:=.lst (TL (List.zipWith ζd5 ps ls))) hp3
  have h3:(upd H2 p2 (.lst (TL (List.zipWith ζd5 ps ls)))) p2=some (.lst (TL (List.zipWith ζd5 ps ls))):=ζ1
  have hpA3:=u3 _ _ hpA
  generalize upd H2 p2 (.lst (TL (List.zipWith ζd5 ps ls)))=H3 at *
  have zl:(List.zipWith ζd5 ps ls).length=ps.length:=by rw[ζζ1e];omega
  obtain⟨R,hR⟩:∃ R,R=List.zipWith (fun(p:Int × Int) l=>[p.1,p.2,l]) ps ls:=⟨_,rfl⟩
  have Rl:R.length=ps.length:=by rw[hR,ζζ1e];omega
  have Rat:∀(i:Nat) (p:Int × Int) (l:Int),ps[i]?=some p->ls[i]?=some l->R[i]?=some [p.1,p.2,l]:=fun i p l h1 h2=>by rw[hR,ζζ3b,h1,h2]
  refine⟨p2,rfl,⟨_,SqL.of h3⟩,ζm1 (K:=K) (a:=p2) (xs:=TL (List.zipWith ζd5 ps ls)) (fun i ys H4=>Same H3 H4/\i<=ps.length/\Bears (ζj12 H4) ys (R.take i)) ⟨Same.refl _,ζζj _,⟨rfl,fun i a e=>by simp at e⟩⟩ (ζk (by rw[ζo1,zl];omega)) (fun i ys H4 _ ⟨e,hi,h⟩=>⟨SqL.of (e _ _ h3),by rw[h.1,ζζv];omega⟩) ?_ ?_⟩
  ·rintro i v ys H4 hi ⟨s4,hil,hB⟩ S hSS
   obtain⟨x,rfl,hx⟩:=ζW9 hi
   have hi2:i<ps.length:=by rw[<- zl];exact(ζζ4.mp hx).1
   obtain⟨pp,hpp⟩:∃ pp,ps[i]?=some pp:=⟨_,ζζ0 hi2⟩
   obtain⟨l,hll⟩:∃ l,ls[i]?=some l:=⟨_,ζζ0 (by omega)⟩
   rw[ζζ3b,hpp,hll]at hx
   obtain rfl:ζd5 pp l=x:=ζζ8 hx
   refine nmY ?_
   refine⟨_,rfl,Str.ofString "tie",[pp.1,pp.2,l],rfl,by decide,by decide,(show 3<=10 by decide),ζH3 hG hT hpp hll,fun r H5 s5 hr=>hSS _ _ ⟨s4.trans s5,hi2,?_⟩⟩
   rw[ζζK,Rat i pp l hpp hll]
   exact(hB.imp fun _ _ ⟨r,e,h⟩=>⟨r,e,s5 _ _ h⟩).snoc ⟨r,rfl,hr⟩
  rintro ys H4 ⟨s4,_,hB⟩ p3 hp4
  rw[ζo1,zl,ζζ06 (by omega)]at hB
  have u5:=same_at (o:=.lst ys) hp4
  have h5:(upd H4 p3 (.lst ys)) p3=some (.lst ys):=ζ1
  have hB5:Bears (ζj12 (upd H4 p3 (.lst ys))) ys R:=hB.imp fun _ _ ⟨r,e,h⟩=>⟨r,e,u5 _ _ h⟩
  have hpA5:=(s4.trans u5) _ _ hpA3
  have sH5:=u1.trans (s2.trans (u3.trans (s4.trans u5)))
  generalize upd H4 p3 (.lst ys)=H5 at *
  have hyl:=hB5.1
  refine nm ?_
  dsimp only
  have Rrow:∀(i:Nat) (row:List Int),R[i]?=some row->∃(p:Int × Int) (l:Int),ps[i]?=some p/\ls[i]?=some l/\row=[p.1,p.2,l]:=fun i row h=>by
   have hi2:i<ps.length:=by rw[<- Rl];exact(ζζ4.mp h).1
   obtain⟨pp,hpp⟩:∃ pp,ps[i]?=some pp:=⟨_,ζζ0 hi2⟩
   obtain⟨l,hll⟩:∃ l,ls[i]?=some l:=⟨_,ζζ0 (by omega)⟩
   rw[Rat i pp l hpp hll]at h
   exact⟨pp,l,hpp,hll,(ζζ8 h).symm⟩
  refine⟨_,rfl,pA,_,0,.int n,rfl,rfl,SqL.of hpA5,ζv (n:=0) (by decide) rfl,_,rfl,p3,rfl,⟨_,SqL.of h5⟩,ζm1 (K:=K) (a:=p3) (xs:=ys) (fun i us H6=>Same H5 H6/\i<=ys.length/\PairsV H6 us (ps.take i)) ⟨Same.refl _,ζζj _,PairsV.nil⟩ (ζk (by omega)) (fun i us H6 _ ⟨e,hi,h⟩=>⟨SqL.of (e _ _ h5),by rw[h.1,ζζv];omega⟩) ?_ ?_⟩
  ·rintro i v us H6 hi ⟨s6,hil,hU⟩ S hSS
   obtain⟨row,hrow,r,rfl,hr⟩:=hB5.at hi
   obtain⟨pp,l,hpp,hll,rfl⟩:=Rrow i row hrow
   have hil':=(ζζ4.mp hi).1
   refine nmY ?_
   refine⟨_,rfl,r,_,0,.int pp.1,rfl,rfl,SqL.of (s6 _ _ hr),ζv (n:=0) (by decide) rfl,_,rfl,r,_,1,.int pp.2,rfl,rfl,SqL.of (s6 _ _ hr),ζv (n:=1) (by decide) rfl,two,fun c hc=>hSS _ _ ⟨s6.trans (same_at hc),hil',?_⟩⟩
   rw[ζζK,hpp]
   exact(hU.same (same_at hc)).snoc ⟨c,rfl,ζ1⟩
  rintro us H6 ⟨s6,_,hU⟩ lA hlA
  rw[hyl,Rl,ζζH]at hU
  have u7:=same_at (o:=.lst us) hlA
  have h7:(upd H6 lA (.lst us)) lA=some (.lst us):=ζ1
  have hU7:=hU.same u7
  have s57:=s6.trans u7
  generalize upd H6 lA (.lst us)=H7 at *
  intro x dx nx ndx nex
  have t1:Same H7 (upd (upd H7 dx (.own x)) x (.ins t.A_Web dx [])):=ζn (same_at ndx) (by rw[ζ9 (ζζY nex)];exact nx)
  refine⟨x,dx,n,lA,false,us,ps,rfl,ζ1,fun o=>?_,hU7.same t1,hG,fun H8 hW k3=>⟨rfl,?_⟩⟩
  ·exact(ζr nx t1).seq (SqL.of h7)
  have s8:Same H7 H8:=fun b o e=>k3 b o (t1 b o e) (ζb e nx)
  have h8:=(s57.trans s8) _ _ h5
  have hB8:Bears (ζj12 H8) ys R:=hB5.imp fun _ _ ⟨r,e,h⟩=>⟨r,e,(s57.trans s8) _ _ h⟩
  refine⟨_,rfl,p3,rfl,⟨_,SqL.of h8⟩,ζm1 (K:=K) (a:=p3) (xs:=ys) (fun i us H9=>H9=H8/\us=IL (ls.take i)) ⟨rfl,rfl⟩ (ζk (by omega)) (fun i us H9 _ ⟨e,h⟩=>⟨e ▸ SqL.of h8,by rw[h,ζ4,ζζv];omega⟩) ?_ ?_⟩
  ·rintro i v us H9 hi ⟨rfl,rfl⟩ S hSS
   obtain⟨row,hrow,r,rfl,hr⟩:=hB8.at hi
   obtain⟨pp,l,hpp,hll,rfl⟩:=Rrow i row hrow
   refine nmY ?_
   refine⟨_,rfl,r,_,2,.int l,rfl,rfl,SqL.of hr,ζv (n:=2) (by decide) rfl,hSS _ _ ⟨rfl,?_⟩⟩
   rw[ζζK,hll]
   show IL (ls.take i)++[V.int l]=IL (ls.take i++[l])
   rw[ζF]
  rintro us9 H9 ⟨rfl,rfl⟩ aA haA
  rw[hyl,Rl,<- hl,ζζH]
  have u9:=same_at (o:=.lst (IL ls)) haA
  have sH9:=sH5.trans (s57.trans s8)
  refine⟨two,fun tA htA=>?_⟩
  have u10:=same_at (o:=.tup [.ref x,.ref aA]) htA
  exact q tA x aA _ (sH9.trans (u9.trans u10)) (sH9.free haA) ζ1 (hW.same (u9.trans u10)) (u10 _ _ ζ1)
def spζz(K:PySem.W.Frag):Sp:=fun vs H Q _=>∃(a:Addr) (ns:List Int) (k:Int),vs=[.ref a,.int k]/\SqL K H a (IL ns)/\0<=k/\∀ r:Int,0<=r->r<10 ^ 60->Q (.int r) H
theorem scζz:FnScope ["script","k"] ["script","k"] (ζ5 sζz):=⟨rfl,rfl,rfl,by decide +kernel,rfl,by decide +kernel,by decide +kernel⟩
theorem okζz (T:Txt K mg t):FnOk P w K mg base CX0 1 t.aζz t.dζz ["script","k"] (spζz K):=by
 refine T.fζz.ok scζz (fun vs H Q E h=>?_) (fun cdv A outer s H vs Q E hr h=>?_)
 ·obtain⟨a,ns,k,rfl,_⟩:=h
  rfl
 ·obtain⟨a,ns,k,rfl,hS,hk,q⟩:=h
  refine⟨_,(ζ2 (ζh1 (ζj ζQ7 (pv 1) (ζf (ζi K) (by rfl) T.n_len Boot.«len» (ζ0 (pv 0) ζ3)) (ζq _))
   (ζ7 (ζl (ζp ζK (ζA (ζc K) (pv 0) (pv 1) (fun _ _=>rfl)) (ζp ζl3 ζ8 ζ8))))
   ζo)
   (ζ7 (ζl ζ8))),?_⟩
  refine⟨_,rfl,_,rfl,a,_,rfl,.inl hS,_,_,rfl,rfl,_,rfl,?_⟩
  refine ite2 (fun hc=>?_) (fun _=>?_)
  ·have hc:=ζζs hc
   rw[ζ4]at hc
   obtain⟨z,hz⟩:∃ z,ns[k.toNat]?=some z:=⟨_,ζζ0 (by omega)⟩
   refine⟨_,rfl,_,rfl,a,_,k,.int z,rfl,rfl,hS,ζv (n:=k.toNat) (by omega) (by rw[ζζh,hz];rfl),_,_,rfl,rfl,⟨by decide,by decide,by decide⟩,_,_,rfl,rfl,?_,?_⟩
   ·show(0:Int)<10 ^ 60
    decide
   ·exact q _ (ζζT _ (by decide)) (ζζW _ (by decide))
  ·exact q 0 (by decide) (by decide)
def spζA:Sp:=fun vs H Q _=>∃(c k:Int),vs=[.int c,.int k]/\∀ r:Int,0<=r->r<2147483587->Q (.int r) H
theorem scζA:FnScope ["cell","k","first","second"] ["cell","k"] (ζ5 sζA):=⟨rfl,rfl,rfl,by decide +kernel,rfl,by decide +kernel,by decide +kernel⟩
theorem okζA (T:Txt K mg t):FnOk P w K mg base CX0 1 t.aζA t.dζA ["cell","k"] spζA:=by
 refine T.fζA.ok scζA (fun vs H Q E h=>?_) (fun cdv A outer s H vs Q E hr h=>?_)
 ·obtain⟨c,k,rfl,_⟩:=h
  rfl
 ·obtain⟨c,k,rfl,q⟩:=h
  refine⟨_,(ζ2 (ζh (i:=2) scζA.nd rfl (Or.inl rfl) (ζp ζK (ζp ζS1 (ζp ζf1 (ζp ζf1 (pv 0) (ζp ζS1 ζ8 (pv 1))) ζ8) ζ8) ζ8))
   (ζ2 (ζh (i:=3) scζA.nd rfl (Or.inl rfl) (ζp ζK (ζp ζf1 (ζp ζf1 (ζp ζS1 (pv 2) (pv 2)) (ζp ζS1 ζ8 (pv 1))) ζ8) ζ8))
   (ζ7 (ζl (ζp ζl1 (ζp ζK (ζp ζS1 (pv 3) (pv 3)) ζ8) ζ8))))),?_⟩
  refine⟨_,rfl,_,rfl,_,_,rfl,rfl,.inl ⟨by decide,by decide⟩,_,_,rfl,rfl,_,_,rfl,rfl,_,_,rfl,rfl,.inr ⟨by decide,by decide⟩,_,_,rfl,rfl,(by show(0:Int)<2147483647;decide),?_⟩
  have f0:0<=((c+7919 * k+1) * 48271) % 2147483647:=ζζT _ (by decide)
  have f1:((c+7919 * k+1) * 48271) % 2147483647<2147483647:=ζζW _ (by decide)
  refine⟨_,rfl,_,rfl,_,_,rfl,rfl,.inl ⟨by omega,by omega⟩,_,rfl,_,_,rfl,rfl,.inl ⟨by decide,by decide⟩,_,_,rfl,rfl,_,_,rfl,rfl,_,_,rfl,rfl,(by show(0:Int)<2147483629;decide),?_⟩
  generalize ((c+7919 * k+1) * 48271) % 2147483647=u at *
  have g0:0<=(u * u+40692 * k+3) % 2147483629:=ζζT _ (by decide)
  have g1:(u * u+40692 * k+3) % 2147483629<2147483629:=ζζW _ (by decide)
  refine⟨_,rfl,_,rfl,_,_,rfl,rfl,.inl ⟨by omega,by omega⟩,_,_,rfl,rfl,(by show(0:Int)<2147483587;decide),_,_,rfl,rfl,⟨by decide,by decide⟩,?_⟩
  generalize (u * u+40692 * k+3) % 2147483629=v at *
  have h0:0<=(v * v) % 2147483587:=ζζT _ (by decide)
  have h1:(v * v) % 2147483587<2147483587:=ζζW _ (by decide)
  generalize (v * v) % 2147483587=x at *
  exact q _ (by omega) (by omega)
theorem ζd4{p:Int->Prop}{l:List Int}{x:Int}(h:∀ z∈l,p z)(hx:p x):∀ z∈l++[x],p z:=fun z hz=>by
 rcases ζζ9.mp hz with q | q
 ·exact h z q
 ·rw[ζζ1.mp q];exact hx
def spζB(K:PySem.W.Frag):Sp:=fun vs H Q _=>∃(a:Addr) (ns:List Int) (st c:Nat) (way:Int),vs=[.ref a,.int st,.int c,.int way]/\SqL K H a (IL ns)/\ns.length<=63/\st<=63/\c<=100 /\
 ∀(l:Addr) (ds:List Int) (H':Hp),Same H H'->H l=none->H' l=some (.lst (IL ds))->ds.length=c->(∀ z∈ds,0<=z)->Q (.ref l) H'
theorem scζB:FnScope ["script","start","count","way","total","folded","k","at","told"] ["script","start","count","way"] (ζ5 sζB):=⟨rfl,rfl,rfl,by decide +kernel,rfl,by decide +kernel,by decide +kernel⟩
theorem okζB (T:Txt K mg t):FnOk P w K mg base CX0 2 t.aζB t.dζB ["script","start","count","way"] (spζB K):=by
 refine T.fζB.ok scζB (fun vs H Q E h=>?_) (fun cdv A outer s H vs Q E hr h=>?_)
 ·obtain⟨a,ns,st,c,way,rfl,_⟩:=h
  rfl
 ·obtain⟨a,ns,st,c,way,rfl,hS,hn,hst,hc,q⟩:=h
  refine⟨_,(ζ2 (ζh (i:=4) scζB.nd rfl (Or.inl rfl) (ζp ζK (ζf (ζ12 K rfl) (by rfl) T.n_sum Boot.«sum» (ζ0 (ζu4 rfl (sc0:=ζ5 sζB) (N0:=["script","start","count","way","total","folded","k","at","told"]) (N':=["cell"]) (o:=1) (fr:=[]) ⟨rfl,by decide +kernel,by decide +kernel,by decide +kernel,rfl,by decide +kernel⟩ (ζL K (ζw1 (ζK1 K) (pv 0) (ζa2 (pv 1)) ζb2)) (ζB (by decide)) (fun _ _ _ _=>(ζe (i:=0) (show List.Nodup (["cell"]:List Str) by decide +kernel) rfl (Or.inl rfl))) (fun _ _ _ _=>ζP) (fun _ _ _ _=>(ζp ζK (pv 0) (ζp ζl3 ζ8 ζ8)))) ζ3)) (ζp ζl3 ζ8 ζ8)))
   (ζ2 (ζ27 (i:=5) rfl scζB.nd rfl rfl (sc0:=ζ5 sζB) (N0:=["script","start","count","way","total","folded","k","at","told"]) (N':=["k"]) (o:=1) (fr:=[]) ⟨rfl,by decide +kernel,by decide +kernel,by decide +kernel,rfl,by decide +kernel⟩ (ζH rfl T.n_range (ζ0 (pv 2) ζ3)) (ζB (by decide)) (fun _ _ _ _=>(ζe (i:=0) (show List.Nodup (["k"]:List Str) by decide +kernel) rfl (Or.inl rfl))) (fun _ _ _ _=>ζP) (fun _ _ _ _=>(ζp ζf1 (ζp ζS1 ζ8 (pv 0)) ζ8)))
   (ζ2 (ζ41 ζζP rfl (ζ47 rfl T.n_range (ζ0 (pv 1) (ζ0 (ζf (ζi K) (by rfl) T.n_len Boot.«len» (ζ0 (pv 0) ζ3)) ζ3))) (ζe (i:=6) scζB.nd rfl (Or.inl rfl))
   (ζ2 (ζh (i:=7) scζB.nd rfl (Or.inl rfl) (ζp ζK (pv 6) (ζf (ζ13 rfl) (by rfl) T.n_max Boot.«max» (ζ0 ζ8 (ζ0 (pv 2) ζ3)))))
   (ζ7 (ζh1 (ζj ζX8 (pv 2) ζ8 (ζq _))
   (ζ7 (ζH2 (ζp ζK (ζp ζf1 (ζp ζS1 (ζA (ζc K) (pv 5) (pv 7) (fun _ _=>rfl)) ζ8) (ζA (ζc K) (pv 0) (pv 6) (fun _ _=>rfl))) (ζp ζl3 ζ8 ζ8)) (ζ57 (pv 5) (pv 7) ζF2)))
   ζo))))
   (ζ2 (ζh (i:=8) scζB.nd rfl (Or.inl rfl) (ζe1 ζ3))
   (ζ2 (ζ41 ζζP rfl (ζH rfl T.n_range (ζ0 (pv 2) ζ3)) (ζe (i:=6) scζB.nd rfl (Or.inl rfl))
   (ζ7 (ζh1 (PW.pt (ζQ8 (ζj ζS5 (pv 3) ζ8 (ζq _)) (ζN5 (ζj ζX8 (pv 4) ζ8 (ζq _)))))
   (ζ2 (ζC (ζ61 K ζζL ζζ08 ζζ07 ζQ (pv 8) (ζ0 (ζp ζK (pv 4) ζ8) ζ3)))
   (ζ7 (ζh (i:=4) scζB.nd rfl (Or.inl rfl) (ζp ζl1 (pv 4) ζ8))))
   (ζ7 (ζC (ζ61 K ζζL ζζ08 ζζ07 ζQ (pv 8) (ζ0 (ζa (okζA T) (hr.mono (by decide)) rfl T.mζA T.fζA.kp T.bζA .nil ζw (ζ0 (ζA (ζc K) (pv 5) (pv 6) (fun _ _=>rfl)) (ζ0 (pv 6) ζ3))) ζ3)))))))
   (ζ7 (ζl (pv 8)))))))),?_⟩
  refine⟨_,rfl,_,rfl,(st:Int),rfl,a,IL ns,rfl,hS,fun l1 hl1=>?_⟩
  have s1:Same H (upd H l1 (.lst (cutV (IL ns) (some (st:Int)) none))):=same_at hl1
  obtain⟨ms,hms,hml⟩:∃ ms:List Int,cutV (IL ns) (some (st:Int)) none=IL ms/\ms.length<=63:=by
   refine⟨(ns.drop (HT.sIx (IL ns).length 0 (some (st:Int)))).take (HT.sIx (IL ns).length (IL ns).length none - HT.sIx (IL ns).length 0 (some (st:Int))),?_,?_⟩
   ·unfold cutV
    rw[ζ58,ζP10]
   ·rw[ζζv,ζζ0A]
    omega
  refine⟨l1,rfl,⟨_,SqL.of ζ1⟩,ζm1 (K:=K) (a:=l1) (xs:=cutV (IL ns) (some (st:Int)) none) (fun i ys H2=>H2=upd H l1 (.lst (cutV (IL ns) (some (st:Int)) none))/\∃ rs:List Int,ys=IL rs/\rs.length=i/\i<=ms.length) ⟨rfl,[],rfl,rfl,ζζj _⟩ (by rw[hms,ζ4];exact ζk (by omega))
   (fun i ys H2 _ ⟨e,rs,ey,el,_⟩=>⟨e ▸ SqL.of ζ1,by rw[ey,ζ4];omega⟩) ?_ ?_⟩
  ·rintro i x ys H2 hi ⟨rfl,rs,rfl,el,hil⟩ S hSS
   rw[hms]at hi
   obtain⟨z,rfl,hz⟩:=ζa1 hi
   have hlt:=(ζζ4.mp hz).1
   refine nmY ?_
   refine⟨_,rfl,_,_,rfl,rfl,⟨by decide,by decide,by decide⟩,_,_,rfl,rfl,(by show(0:Int)<10 ^ 60;decide),?_⟩
   refine hSS _ _ ⟨rfl,rs++[z % 10 ^ 60],?_,?_,hlt⟩
   ·exact(ζF _ _).symm
   ·rw[ζζ6,el];rfl
  ·rintro ys H2 ⟨rfl,rs,rfl,el,_⟩ l2 hl2
   have s2:=ζn (o:=.lst (IL rs)) s1 hl2
   refine⟨l2,rs,rfl,SqL.of ζ1,_,_,rfl,rfl,⟨by decide,by decide,by decide⟩,_,_,rfl,rfl,(by show(0:Int)<10 ^ 60;decide),?_⟩
   have t0:0<=rs.sum % (10:Int) ^ ((60:Int).toNat):=ζζT _ (by decide)
   refine⟨_,rfl,(c:Int),rfl,by omega,by omega,ζQ2 (lo:=0) (n:=((c:Int)).toNat) (fun i ys H3=>H3=upd (upd H l1 (.lst (cutV (IL ns) (some (st:Int)) none))) l2 (.lst (IL rs))/\∃ fs:List Int,ys=IL fs/\fs.length=i) ⟨rfl,[],rfl,rfl⟩ (ζk (by omega))
    (fun i ys H3 _ ⟨_,fs,e,el⟩=>by rw[e,ζ4];omega) ?_ ?_⟩
   ·rintro i ys H3 hi ⟨rfl,fs,rfl,el2⟩ S hSS
    refine nmY ?_
    refine⟨_,rfl,_,_,rfl,rfl,.inl ⟨by decide,by decide⟩,_,_,rfl,rfl,?_⟩
    refine hSS _ _ ⟨rfl,fs++[7 * (0+(i:Int))+5],?_,?_⟩
    ·exact(ζF _ _).symm
    ·rw[ζζ6,el2];rfl
   ·rintro ys H3 ⟨rfl,fs,rfl,el2⟩ l3 hl3
    have s3:=ζn (o:=.lst (IL fs)) s2 hl3
    have hl30:H l3=none:=s2.free hl3
    refine⟨_,rfl,_,rfl,a,_,rfl,.inl (s3.seq hS),(st:Int),((IL ns).length:Int),rfl,⟨by omega,by omega,by omega,by rw[ζ4];omega⟩,?_⟩
    refine ζS (lo:=(st:Int)) (n:=(((IL ns).length:Int) - (st:Int)).toNat) (fun j σ H4=>∃(fs:List Int) (v6 v7:Option V),σ=[some (.ref a),some (.int st),some (.int c),some (.int way),some (.int (rs.sum % (10:Int) ^ ((60:Int).toNat))),some (.ref l3),v6,v7,none]/\Same H H4/\H4 l3=some (.lst (IL fs))/\fs.length=c)
     ⟨fs,none,none,rfl,s3,ζ1,by rw[el2];simp⟩ ?_ ?_
    ·rintro j σ H4 hj ⟨gs,v6,v7,rfl,s4,h4,eg⟩
     rw[ζ4]at hj
     refine⟨_,rfl,_,rfl,_,_,rfl,_,_,rfl,rfl,?_,?_⟩
     ·show(0:Int)<if (c:Int) > 1 then (c:Int) else 1
      split <;> omega
     ·refine⟨_,rfl,_,_,rfl,rfl,_,rfl,?_⟩
      refine itd2 (fun hc0=>?_) (fun hc0=>?_)
      ·have hmax:(if (c:Int) > 1 then (c:Int) else 1)=(c:Int):=by split <;> omega
       have at0:0<=((st:Int)+(j:Int)) % (c:Int):=ζζT _ (by omega)
       have at1:((st:Int)+(j:Int)) % (c:Int)<(c:Int):=ζζW _ hc0
       rw[hmax]
       generalize hat:((st:Int)+(j:Int)) % (c:Int)=at' at *
       obtain⟨f,hf⟩:∃ f,gs[at'.toNat]?=some f:=⟨_,ζζ0 (by omega)⟩
       obtain⟨z,hz⟩:∃ z,ns[st+j]?=some z:=⟨_,ζζ0 (by omega)⟩
       refine⟨_,rfl,_,rfl,l3,_,_,_,rfl,rfl,SqL.of h4,ζv (n:=at'.toNat) (by omega) (by rw[ζζh,hf];rfl),_,_,rfl,rfl,.inr ⟨by decide,by decide⟩,_,rfl,_,rfl,a,_,_,_,rfl,rfl,s4.seq hS,ζv (n:=st+j) (by omega) (by rw[ζζh,hz];rfl),_,_,rfl,rfl,_,_,rfl,rfl,⟨by decide,by decide,by decide⟩,_,_,rfl,rfl,(by show(0:Int)<10 ^ 60;decide),?_⟩
       refine⟨_,rfl,_,rfl,l3,_,_,at'.toNat,rfl,rfl,h4,?_,?_⟩
       ·rw[hat]
        unfold ixN
        rw[if_pos at0,if_pos (by rw[ζ4];omega)]
       ·refine⟨gs.set at'.toNat ((f * 31+z) % (10:Int) ^ ((60:Int).toNat)),_,_,rfl,ζr hl30 s4,?_,by rw[ζζ0P];exact eg⟩
        rw[ζ1,ζo9]
      ·exact⟨gs,_,_,rfl,s4,h4,eg⟩
    ·rintro σ H4 ⟨gs,v6,v7,rfl,s4,h4,eg⟩
     refine⟨ζζj _,fun l5 hl5=>?_⟩
     have hl50:H l5=none:=s4.free hl5
     have n35:l3≠l5:=ζb h4 hl5
     refine⟨_,rfl,(c:Int),rfl,by omega,by omega,ζS (lo:=0) (n:=((c:Int)).toNat) (fun j σ H6=>∃(tot:Int) (ds:List Int) (v6 v7:Option V),σ=[some (.ref a),some (.int st),some (.int c),some (.int way),some (.int tot),some (.ref l3),v6,v7,some (.ref l5)]/\Same H H6/\H6 l3=some (.lst (IL gs))/\H6 l5=some (.lst (IL ds))/\ds.length=j/\(∀ z∈ds,0<=z)/\0<=tot)
      ⟨_,[],_,_,rfl,ζn s4 hl5,by rw[ζ9 n35];exact h4,ζ1,rfl,fun z hz=>(by cases hz),t0⟩ ?_ ?_⟩
     ·rintro j σ H6 hj ⟨tot,ds,w6,w7,rfl,s6,h63,h65,edl,hds,htot⟩
      have jc:j<c:=by omega
      have app:∀ r:Int,(upd H6 l5 (.lst (IL ds++[.int r]))) l5=some (.lst (IL (ds++[r]))):=fun r=>by rw[ζ1,ζF]
      have dlen:(IL ds).length<sizeLine:=by rw[ζ4];exact ζk (by omega)
      obtain⟨f,hf⟩:∃ f,gs[j]?=some f:=⟨_,ζζ0 (by omega)⟩
      refine⟨_,rfl,rfl,_,rfl,?_⟩
      refine itd2 (fun hw=>?_) (fun hw=>?_)
      ·refine⟨_,rfl,_,_,rfl,rfl,_,rfl,?_⟩
       refine itd2 (fun htp=>?_) (fun htp=>?_)
       ·refine⟨_,rfl,.inl ⟨rfl,_,SqL.of h65⟩,_,rfl,_,_,rfl,rfl,(by show(0:Int)<210;decide),l5,_,_,rfl,rfl,h65,dlen,?_⟩
        refine⟨_,rfl,_,_,rfl,rfl,⟨by decide,by decide⟩,?_⟩
        refine⟨_,ds++[tot % 210],_,_,rfl,ζr hl50 s6,by rw[ζ9 n35];exact h63,app _,by rw[ζζ6,edl];rfl,ζd4 hds (ζζT _ (by decide)),?_⟩
        omega
       ·refine⟨_,rfl,.inl ⟨rfl,_,SqL.of h65⟩,_,rfl,_,rfl,l3,_,_,_,rfl,rfl,SqL.of h63,ζv (n:=j) (by omega) (by rw[ζζh,hf];rfl),_,rfl,_,_,rfl,fun r r0 r1=>?_⟩
        refine⟨l5,_,_,rfl,rfl,h65,dlen,?_⟩
        exact⟨_,ds++[r],_,_,rfl,ζr hl50 s6,by rw[ζ9 n35];exact h63,app _,by rw[ζζ6,edl];rfl,ζd4 hds r0,htot⟩
      ·refine⟨_,rfl,.inl ⟨rfl,_,SqL.of h65⟩,_,rfl,_,rfl,l3,_,_,_,rfl,rfl,SqL.of h63,ζv (n:=j) (by omega) (by rw[ζζh,hf];rfl),_,rfl,_,_,rfl,fun r r0 r1=>?_⟩
       refine⟨l5,_,_,rfl,rfl,h65,dlen,?_⟩
       exact⟨_,ds++[r],_,_,rfl,ζr hl50 s6,by rw[ζ9 n35];exact h63,app _,by rw[ζζ6,edl];rfl,ζd4 hds r0,htot⟩
     ·rintro σ H6 ⟨tot,ds,w6,w7,rfl,s6,h63,h65,edl,hds,htot⟩
      exact⟨_,rfl,q l5 ds H6 s6 hl50 h65 (by omega) hds⟩
theorem PairsV.good{H:Hp}{xs:List V}{ps:List (Int × Int)}{v:V}{p:Int × Int}{n:Int}(h:∀ p∈ps,0<=p.1/\p.1<n/\0<=p.2/\p.2<n)(hp:0<=p.1/\p.1<n/\0<=p.2/\p.2<n):∀ q∈ps++[p],0<=q.1/\q.1<n/\0<=q.2/\q.2<n:=fun q hq=>by
 rcases ζζ9.mp hq with z | z
 ·exact h q z
 ·rw[ζζ1.mp z];exact hp
def spζC(K:PySem.W.Frag):Sp:=fun vs H Q _=>∃(a:Addr) (ds:List Int) (n:Int) (hang:Bool),vs=[.ref a,.int n,.bl hang]/\SqL K H a (IL ds)/\ds.length<=100/\(∀ z∈ds,0<=z)/\1<=n/\n<=1000 /\
 ∀(l:Addr) (xs:List V) (ps:List (Int × Int)) (H':Hp),Same H H'->H l=none->H' l=some (.lst xs)->PairsV H' xs ps->ps.length=ds.length->(∀ p∈ps,0<=p.1/\p.1<n/\0<=p.2/\p.2<n)->Q (.ref l) H'
theorem scζC:FnScope ["draws","places","hang","ties","k","one","other","ends","turn"] ["draws","places","hang"] (ζ5 sζC):=⟨rfl,rfl,rfl,by decide +kernel,rfl,by decide +kernel,by decide +kernel⟩
theorem okζC (T:Txt K mg t):FnOk P w K mg base CX0 1 t.aζC t.dζC ["draws","places","hang"] (spζC K):=by
 refine T.fζC.ok scζC (fun vs H Q E h=>?_) (fun cdv A outer s H vs Q E hr h=>?_)
 ·obtain⟨a,ds,n,hang,rfl,_⟩:=h
  rfl
 ·obtain⟨a,ds,n,hang,rfl,hS,hdl,hds,n1,n2,q⟩:=h
  refine⟨_,(ζ2 (ζh (i:=3) scζC.nd rfl (Or.inl rfl) (ζe1 ζ3))
   (ζ2 (ζ41 ζζP rfl (ζH rfl T.n_range (ζ0 (ζf (ζi K) (by rfl) T.n_len Boot.«len» (ζ0 (pv 0) ζ3)) ζ3)) (ζe (i:=4) scζC.nd rfl (Or.inl rfl))
   (ζ2 (ζh (i:=5) scζC.nd rfl (Or.inl rfl) (ζp ζK (ζA (ζc K) (pv 0) (pv 4) (fun _ _=>rfl)) (pv 1)))
   (ζ2 (ζh (i:=6) scζC.nd rfl (Or.inl rfl) (ζp ζK (ζp ζl1 (ζA (ζc K) (pv 0) (pv 4) (fun _ _=>rfl)) (pv 1)) (pv 1)))
   (ζ2 (ζh1 (PW.pt (ζQ8 (ζ82 (pv 2)) (ζN5 (ζj ζQ7 (pv 4) (ζp ζf2 (pv 1) ζ8) (ζq _)))))
   (ζ2 (ζh (i:=7) scζC.nd rfl (Or.inl rfl) (ζV (ζ0 (ζp ζK (ζA (ζc K) (pv 0) (pv 4) (fun _ _=>rfl)) (ζp ζf1 (pv 4) ζ8)) (ζ0 (ζp ζf1 (pv 4) ζ8) ζ3))))
   (ζ2 (ζh (i:=5) scζC.nd rfl (Or.inl rfl) (ζA (ζE K) (pv 7) (ζp ζK (ζp ζl1 (ζA (ζc K) (pv 0) (pv 4) (fun _ _=>rfl)) ζ8) ζ8) (fun _ _=>rfl)))
   (ζ7 (ζh (i:=6) scζC.nd rfl (Or.inl rfl) (ζA (ζE K) (pv 7) (ζp ζf2 ζ8 (ζp ζK (ζp ζl1 (ζA (ζc K) (pv 0) (pv 4) (fun _ _=>rfl)) ζ8) ζ8)) (fun _ _=>rfl))))))
   ζo)
   (ζ7 (ζC (ζ61 K ζζL ζζ08 ζζ07 ζQ (pv 3) (ζ0 (ζV (ζ0 (pv 5) (ζ0 (pv 6) ζ3))) ζ3))))))))
   (ζ2 (ζh (i:=8) scζC.nd rfl (Or.inl rfl) (ζp ζK (ζf (ζ12 K rfl) (by rfl) T.n_sum Boot.«sum» (ζ0 (pv 0) ζ3)) (ζf (ζ13 rfl) (by rfl) T.n_max Boot.«max» (ζ0 ζ8 (ζ0 (ζf (ζi K) (by rfl) T.n_len Boot.«len» (ζ0 (pv 3) ζ3)) ζ3)))))
   (ζ7 (ζl (ζp ζZ8 (ζw1 (ζK1 K) (pv 3) (ζa2 (pv 8)) ζb2) (ζw1 (ζK1 K) (pv 3) ζb2 (ζa2 (pv 8))))))))),?_⟩
  refine⟨ζζj _,fun l hl=>?_⟩
  refine⟨_,rfl,a,_,rfl,.inl ((same_at hl).seq hS),_,rfl,by omega,by rw[ζ4];omega,ζS (lo:=0) (n:=((IL ds).length:Int).toNat) (fun i σ H2=>∃(xs:List V) (ps:List (Int × Int)) (v4 v5 v6 v7:Option V),σ=[some (.ref a),some (.int n),some (.bl hang),some (.ref l),v4,v5,v6,v7,none]/\Same H H2/\H2 l=some (.lst xs)/\PairsV H2 xs ps/\ps.length=i/\∀ p∈ps,0<=p.1/\p.1<n/\0<=p.2/\p.2<n)
   ⟨[],[],none,none,none,none,rfl,same_at hl,ζ1,PairsV.nil,rfl,fun p hp=>(by cases hp)⟩ ?_ ?_⟩
  ·rintro i σ H2 hi ⟨xs,ps,v4,v5,v6,v7,rfl,s2,h2,hP,hlp,hb⟩
   have hi':i<ds.length:=by rw[ζ4]at hi;omega
   obtain⟨d,hd⟩:∃ d,ds[i]?=some d:=⟨_,ζζ0 hi'⟩
   have d0:0<=d:=hds d (ζζe hd)
   have iD:atI (IL ds) (0+(i:Int))=some (.int d):=ζv (n:=i) (by omega) (ζT2 hd)
   have xl:xs.length<sizeLine:=ζk (by rw[hP.1];omega)
   have put:∀(x y:Int) (H3:Hp) (r:Addr),Same H2 H3->H3 r=none->0<=x->x<n->0<=y->y<n->∀ u5 u6 u7:Option V,∃(xs':List V) (ps':List (Int × Int)) (v4 v5 v6 v7:Option V),
     ([some (.ref a),some (.int n),some (.bl hang),some (.ref l),some (.int (0+(i:Int))),u5,u6,u7,none]:List (Option V))=[some (.ref a),some (.int n),some (.bl hang),some (.ref l),v4,v5,v6,v7,none] /\
     Same H (upd (upd H3 r (.tup [.int x,.int y])) l (.lst (xs++[.ref r])))/\(upd (upd H3 r (.tup [.int x,.int y])) l (.lst (xs++[.ref r]))) l=some (.lst xs')/\PairsV (upd (upd H3 r (.tup [.int x,.int y])) l (.lst (xs++[.ref r]))) xs' ps'/\ps'.length=i+1/\∀ p∈ps',0<=p.1/\p.1<n/\0<=p.2/\p.2<n:=by
    intro x y H3 r s3 hr x0 x1 y0 y1 u5 u6 u7
    have h3:=s3 _ _ h2
    have s4:=ζn (o:=.tup [.int x,.int y]) s3 hr
    have nlr:l≠r:=ζb h3 hr
    refine⟨xs++[.ref r],ps++[(x,y)],_,_,_,_,rfl,ζr hl (s2.trans s4),ζ1,?_,by rw[ζζ6,hlp];rfl,PairsV.good (H:=H) (xs:=[]) (v:=.non) hb ⟨x0,x1,y0,y1⟩⟩
    have hP4:PairsV (upd H3 r (.tup [.int x,.int y])) (xs++[.ref r]) (ps++[(x,y)]):=(hP.same s4).snoc ⟨r,rfl,ζ1⟩
    refine⟨hP4.1,fun j p e=>?_⟩
    obtain⟨v,e1,tt,e2,e3⟩:=hP4.2 j p e
    exact⟨v,e1,tt,e2,by rw[ζ9 (ζr5 e3 (s4 _ _ h2) (fun z=>nomatch z))];exact e3⟩
   refine⟨_,rfl,_,rfl,a,_,_,_,rfl,rfl,s2.seq hS,iD,_,rfl,_,_,rfl,rfl,(by show 0<n;omega),?_⟩
   refine⟨_,rfl,_,rfl,a,_,_,_,rfl,rfl,s2.seq hS,iD,_,rfl,_,_,rfl,rfl,⟨by show 0<n;omega,by show n<1073741824;omega⟩,_,rfl,_,_,rfl,rfl,(by show 0<n;omega),?_⟩
   have o0:0<=d % n:=ζζT _ (by omega)
   have o1:d % n<n:=ζζW _ (by omega)
   have q0:0<=d / n % n:=ζζT _ (by omega)
   have q1:d / n % n<n:=ζζW _ (by omega)
   refine⟨_,rfl,_,rfl,?_⟩
   refine itb (fun hh=>?_) (fun hh=>?_)
   ·refine⟨_,rfl,_,rfl,_,_,rfl,rfl,_,_,rfl,rfl,_,rfl,?_⟩
    refine itd2 (fun hk=>?_) (fun hk=>?_)
    ·have k1:(0:Int)<0+(i:Int)+1:=by omega
     have r0:0<=d % (0+(i:Int)+1):=ζζT _ (by omega)
     have r1:d % (0+(i:Int)+1)<0+(i:Int)+1:=ζζW _ k1
     refine⟨_,rfl,_,rfl,a,_,_,_,rfl,rfl,s2.seq hS,iD,_,rfl,_,_,rfl,rfl,_,_,rfl,rfl,k1,_,rfl,_,_,rfl,rfl,(by show 2<=sizeLine;decide),fun e he=>?_⟩
     have se:=same_at (o:=.tup [.int (d % (0+(i:Int)+1)),.int (0+(i:Int)+1)]) he
     have m0:0<=d / 105 % 2:=ζζT _ (by decide)
     have m1:d / 105 % 2<2:=ζζW _ (by decide)
     obtain⟨x,hx,x0,x1⟩:∃ x:Int,atI ([.int (d % (0+(i:Int)+1)),.int (0+(i:Int)+1)]:List V) (d / 105 % 2)=some (.int x)/\0<=x/\x<n:=by
      rcases(by omega:d / 105 % 2=0\/d / 105 % 2=1) with e | e
      ·rw[e];exact⟨_,rfl,r0,by omega⟩
      ·rw[e];exact⟨_,rfl,by omega,by omega⟩
     obtain⟨y,hy,y0,y1⟩:∃ y:Int,atI ([.int (d % (0+(i:Int)+1)),.int (0+(i:Int)+1)]:List V) (1 - d / 105 % 2)=some (.int y)/\0<=y/\y<n:=by
      rcases(by omega:d / 105 % 2=0\/d / 105 % 2=1) with e | e
      ·rw[e];exact⟨_,rfl,by omega,by omega⟩
      ·rw[e];exact⟨_,rfl,r0,by omega⟩
     have c2:CDiv d 105:=⟨by decide,by decide⟩
     refine⟨_,rfl,_,rfl,_,rfl,a,_,_,_,rfl,rfl,(s2.trans se).seq hS,iD,_,_,rfl,rfl,c2,_,_,rfl,rfl,(by show(0:Int)<2;decide),e,_,_,_,rfl,rfl,SqT.of ζ1,hx,?_⟩
     refine⟨_,rfl,_,rfl,_,rfl,a,_,_,_,rfl,rfl,(s2.trans se).seq hS,iD,_,_,rfl,rfl,c2,_,_,rfl,rfl,(by show(0:Int)<2;decide),_,_,rfl,rfl,e,_,_,_,rfl,rfl,SqT.of ζ1,hy,?_⟩
     refine⟨_,rfl,.inl ⟨rfl,_,SqL.of (se _ _ h2)⟩,_,rfl,_,rfl,(by show 2<=sizeLine;decide),fun r hr=>?_⟩
     exact⟨l,xs,_,rfl,rfl,(ζn se hr) _ _ h2,xl,put x y _ r se hr x0 x1 y0 y1 _ _ _⟩
    ·refine⟨_,rfl,.inl ⟨rfl,_,SqL.of h2⟩,_,rfl,_,rfl,(by show 2<=sizeLine;decide),fun r hr=>?_⟩
     exact⟨l,xs,_,rfl,rfl,(same_at hr) _ _ h2,xl,put _ _ _ r (Same.refl _) hr o0 o1 q0 q1 _ _ _⟩
   ·refine⟨_,rfl,.inl ⟨rfl,_,SqL.of h2⟩,_,rfl,_,rfl,(by show 2<=sizeLine;decide),fun r hr=>?_⟩
    exact⟨l,xs,_,rfl,rfl,(same_at hr) _ _ h2,xl,put _ _ _ r (Same.refl _) hr o0 o1 q0 q1 _ _ _⟩
  ·rintro σ H2 ⟨xs,ps,v4,v5,v6,v7,rfl,s2,h2,hP,hlp,hb⟩
   have hlp:ps.length=ds.length:=by rw[hlp,ζ4];simp
   refine⟨_,rfl,a,ds,rfl,s2.seq hS,_,rfl,l,xs,rfl,.inl (SqL.of h2),_,_,rfl,_,_,rfl,rfl,?_,?_⟩
   ·show(0:Int)<if (xs.length:Int) > 1 then (xs.length:Int) else 1
    split <;> omega
   ·generalize hT:ds.sum % (if (xs.length:Int) > 1 then (xs.length:Int) else 1)=T0
    have T1:0<=T0:=by rw[<- hT];exact ζζT _ (by split <;> omega)
    have T2:T0.toNat<=xs.length:=by
     have:T0<(if (xs.length:Int) > 1 then (xs.length:Int) else 1):=by rw[<- hT];exact ζζW _ (by split <;> omega)
     split at this <;> omega
    have e1:cutV xs (some T0) none=xs.drop T0.toNat:=ζG9 T1 T2
    have e2:cutV xs none (some T0)=xs.take T0.toNat:=ζe12 T1 T2
    refine⟨_,rfl,_,rfl,T0,ζζ0l V.int hT,l,xs,rfl,SqL.of h2,fun r1 hr1=>?_⟩
    have s3:=same_at (o:=.lst (cutV xs (some T0) none)) hr1
    refine⟨_,rfl,_,rfl,T0,ζζ0l V.int hT,l,xs,rfl,SqL.of (s3 _ _ h2),fun r2 hr2=>?_⟩
    have s4:=ζn (o:=.lst (cutV xs none (some T0))) s3 hr2
    have n12:r1≠r2:=ζb ζ1 hr2
    refine⟨r1,r2,_,_,rfl,rfl,by rw[ζ9 n12,ζ1],ζ1,?_,fun r hr=>?_⟩
    ·rw[e1,e2,ζζ0A,ζζv]
     exact ζa3 (by rw[hP.1];omega)
    ·have s5:=ζn (o:=.lst (cutV xs (some T0) none++cutV xs none (some T0))) s4 hr
     refine q r _ (ps.drop T0.toNat++ps.take T0.toNat) _ (s2.trans s5) ((s2.trans s4).free hr) ζ1 ?_ ?_ fun p hp=>?_
     ·have z:=((hP.same s5).drop T0.toNat).app ((hP.same s5).take T0.toNat)
      rw[<- e1,<- e2]at z
      exact z
     ·rw[ζζ6,ζζ0A,ζζv,<- hP.1]
      have:=hP.1
      omega
     ·rcases ζζ9.mp hp with z | z
      ·exact hb p (List.mem_of_mem_drop z)
      ·exact hb p (ζζ17 z)
def spζD(K:PySem.W.Frag):Sp:=fun vs H Q _=>∃(a:Addr) (ns:List Int) (most count:Int),vs=[.ref a,.int most,.int count]/\SqL K H a (IL ns)/\ns.length<=63/\1<=most/\most<=14/\0<=count/\count<=30 /\
 ∀(r l:Addr) (n:Int) (xs:List V) (ps:List (Int × Int)) (H':Hp),Same H H'->H' r=some (.tup [.int n,.ref l])->H l=none->H' l=some (.lst xs)->PairsV H' xs ps->ζy n ps->n<=most->(ps.length:Int)<=count->Q (.ref r) H'
theorem scζD:FnScope ["script","most","count","head","places","many","draws"] ["script","most","count"] (ζ5 sζD):=⟨rfl,rfl,rfl,by decide +kernel,rfl,by decide +kernel,by decide +kernel⟩
theorem okζD (T:Txt K mg t):FnOk P w K mg base CX0 3 t.aζD t.dζD ["script","most","count"] (spζD K):=by
 refine T.fζD.ok scζD (fun vs H Q E h=>?_) (fun cdv A outer s H vs Q E hr h=>?_)
 ·obtain⟨a,ns,most,count,rfl,_⟩:=h
  rfl
 ·obtain⟨a,ns,most,count,rfl,hS,hn,m1,m2,c1,c2,q⟩:=h
  refine⟨_,(ζ2 (ζh (i:=3) scζD.nd rfl (Or.inl rfl) (ζa (okζz T) (hr.mono (by decide)) rfl T.mζz T.fζz.kp T.bζz .nil ζw (ζ0 (pv 0) (ζ0 ζ8 ζ3))))
   (ζ2 (ζh (i:=4) scζD.nd rfl (Or.inl rfl) (ζp ζf1 ζ8 (ζp ζK (pv 3) (pv 1))))
   (ζ2 (ζh (i:=5) scζD.nd rfl (Or.inl rfl) (ζf (ζW4 rfl) (by rfl) T.n_min Boot.«min» (ζ0 (pv 2) (ζ0 (ζp ζf1 (ζp ζK (ζp ζl1 (pv 3) (pv 1)) (ζp ζf1 (pv 2) ζ8)) (ζp ζS1 (ζp ζK (ζp ζl1 (pv 3) ζ8) ζ8) (pv 4))) ζ3))))
   (ζ2 (ζh (i:=6) scζD.nd rfl (Or.inl rfl) (ζa (okζB T) (hr.mono (by decide)) rfl T.mζB T.fζB.kp T.bζB .nil ζw (ζ0 (pv 0) (ζ0 ζ8 (ζ0 (pv 5) (ζ0 (ζp ζK (ζp ζl1 (pv 3) ζ8) ζ8) ζ3))))))
   (ζ7 (ζl (ζV (ζ0 (pv 4) (ζ0 (ζa (okζC T) (hr.mono (by decide)) rfl T.mζC T.fζC.kp T.bζC .nil ζw (ζ0 (pv 6) (ζ0 (pv 4) (ζ0 (ζk1 ζX8 (ζp ζK (ζp ζl1 (pv 3) ζ8) ζ8) ζ8 (ζq _)) ζ3)))) ζ3))))))))),?_⟩
  refine⟨_,rfl,a,ns,0,rfl,hS,by decide,fun hd h0 h1=>?_⟩
  have n0:0<=hd % most:=ζζT _ (by omega)
  have n1:hd % most<most:=ζζW _ (by omega)
  refine⟨_,rfl,_,rfl,_,_,rfl,rfl,(by show 0<most;omega),_,_,rfl,rfl,?_⟩
  refine⟨_,rfl,_,rfl,_,rfl,_,_,rfl,rfl,⟨by show 0<most;omega,by show most<1073741824;omega⟩,_,rfl,_,_,rfl,rfl,_,_,rfl,rfl,(by show 0<count+1;omega),_,rfl,_,_,rfl,rfl,⟨by decide,by decide⟩,_,_,rfl,rfl,(by show(0:Int)<2;decide),_,rfl,_,_,rfl,rfl,.inr ⟨by show -(2 ^ 64)<1+hd % most;omega,by show 1+hd % most<2 ^ 64;omega⟩,_,_,rfl,rfl,_,_,rfl,?_⟩
  have e0:0<=hd / most % (count+1):=ζζT _ (by omega)
  have f0:0<=hd / 97 % 2:=ζζT _ (by decide)
  have g0:0<=hd / 97 % 2 * (1+hd % most):=Int.mul_nonneg f0 (by omega)
  obtain⟨c,hc⟩:∃ c:Nat,(if hd / most % (count+1)+hd / 97 % 2 * (1+hd % most)<count then hd / most % (count+1)+hd / 97 % 2 * (1+hd % most) else count)=(c:Int) :=
   ⟨(if hd / most % (count+1)+hd / 97 % 2 * (1+hd % most)<count then hd / most % (count+1)+hd / 97 % 2 * (1+hd % most) else count).toNat,by split <;> omega⟩
  have k1:(c:Int)<=count:=by rw[<- hc];split <;> omega
  refine⟨_,rfl,_,rfl,_,rfl,_,_,rfl,rfl,⟨by decide,by decide⟩,_,_,rfl,rfl,(by show(0:Int)<2;decide),a,ns,1,c,_,ζζ0l (fun z:Int=>[V.ref a,V.int 1,V.int z,V.int (hd / 194 % 2)]) hc,hS,hn,by decide,by omega,fun l ds H1 s1 hl0 hl1 edl hds=>?_⟩
  refine⟨_,rfl,_,rfl,_,rfl,_,rfl,_,_,rfl,rfl,⟨by decide,by decide⟩,_,_,rfl,rfl,(by show(0:Int)<3;decide),_,_,rfl,rfl,l,ds,_,_,rfl,SqL.of hl1,by omega,hds,(by show 1<=1+hd % most;omega),(by show 1+hd % most<=1000;omega),fun l2 xs ps H2 s2 hl20 hl21 hP ePl hb=>?_⟩
  refine⟨(by show 2<=sizeLine;decide),fun r hr=>?_⟩
  have s3:=same_at (o:=.tup [.int (1+hd % most),.ref l2]) hr
  exact q r l2 (1+hd % most) xs ps _ ((s1.trans s2).trans s3) ζ1 (s1.free hl20) (s3 _ _ hl21) (hP.same s3) ⟨by omega,by omega,by omega,hb⟩ (by omega) (by omega)
def spζE(K:PySem.W.Frag):Sp:=fun vs H Q _=>∃(n:Int) (a b:Addr) (xs:List V) (ps:List (Int × Int)) (kd:Bool) (ns:List Int),vs=[.int n,.ref a,.ref b]/\SqL K H a xs/\PairsV H xs ps/\ζy n ps/\SqK kd K H b (IL ns)/\(∀ z∈ns,0<=z/\z<(ps.length:Int)) /\
 ∀(m:Addr) (H':Hp),Same H H'->H m=none->H' m=some (.lst (IL (lms n.toNat (ζ6 ps ns))))->Q (.ref m) H'
theorem scζE:FnScope ["places","ties","some","marks","tie","one","other","gone","kept","place"] ["places","ties","some"] (ζ5 sζE):=⟨rfl,rfl,rfl,by decide +kernel,rfl,by decide +kernel,by decide +kernel⟩
theorem okζE (T:Txt K mg t):FnOk P w K mg base CX0 1 t.aζE t.dζE ["places","ties","some"] (spζE K):=by
 refine T.fζE.ok scζE (fun vs H Q E h=>?_) (fun cdv A outer s H vs Q E hr h=>?_)
 ·obtain⟨n,a,b,xs,ps,kd,ns,rfl,_⟩:=h
  rfl
 ·obtain⟨n,a,b,xs,ps,kd,ns,rfl,hA,h3,⟨g1,g2,g3,g4⟩,hS,hI,q⟩:=h
  refine⟨_,(ζ2 (ζh (i:=3) scζE.nd rfl (Or.inl rfl) (ζg (ζZ rfl) (by rfl) T.n_list Boot.«list» (ζ0 (ζg ζG1 (by rfl) T.n_range Boot.«range» (ζ0 (pv 0) ζ3)) ζ3)))
   (ζ2 (ζ41 ζζP rfl (ζR1 K (pv 2)) (ζe (i:=4) scζE.nd rfl (Or.inl rfl))
   (ζ2 (ζH2 (ζA (ζc K) (pv 1) (pv 4) (fun _ _=>rfl)) (ζj1 (n:=2) K rfl (ζt (ζe (i:=5) scζE.nd rfl (Or.inl rfl)) (ζt (ζe (i:=6) scζE.nd rfl (Or.inl rfl)) ζi1))))
   (ζ7 (ζh1 (ζj ζ95 (ζA (ζc K) (pv 3) (pv 5) (fun _ _=>rfl)) (ζA (ζc K) (pv 3) (pv 6) (fun _ _=>rfl)) (ζq _))
   (ζ2 (ζh (i:=7) scζE.nd rfl (Or.inl rfl) (ζA (ζc K) (pv 3) (pv 6) (fun _ _=>rfl)))
   (ζ2 (ζh (i:=8) scζE.nd rfl (Or.inl rfl) (ζA (ζc K) (pv 3) (pv 5) (fun _ _=>rfl)))
   (ζ7 (ζ41 ζζP rfl (ζH rfl T.n_range (ζ0 (pv 0) ζ3)) (ζe (i:=9) scζE.nd rfl (Or.inl rfl))
   (ζ7 (ζh1 (ζj ζS5 (ζA (ζc K) (pv 3) (pv 9) (fun _ _=>rfl)) (pv 7) (ζq _))
   (ζ7 (ζH2 (pv 8) (ζ57 (pv 3) (pv 9) ζF2)))
   ζo))))))
   ζo))))
   (ζ7 (ζl (pv 3))))),?_⟩
  refine⟨_,rfl,n,rfl,fun r hr0=>⟨r,0,n,rfl,ζ1,⟨by decide,by decide,by omega,by omega⟩,by omega,fun m hm=>?_⟩⟩
  have sm:Same H (upd (upd H r (.rng 0 n)) m (.lst ((rngI 0 n).map V.int))):=ζn (same_at hr0) hm
  have hm0:H m=none:=(same_at hr0).free hm
  refine⟨_,rfl,b,rfl,ζw3 (k:=kd) (K:=K) (a:=b) (xs:=IL ns) (fun i σ H2=>∃(v4 v5 v6 v7 v8 v9:Option V),σ=[some (.int n),some (.ref a),some (.ref b),some (.ref m),v4,v5,v6,v7,v8,v9]/\Same H H2/\H2 m=some (.lst (IL (lms n.toNat (ζ6 ps (ns.take i))))))
   ⟨none,none,none,none,none,none,rfl,sm,?_⟩ (fun i σ H2 _ ⟨_,_,_,_,_,_,_,s2,_⟩=>hS.same s2) ?_ ?_⟩
  ·rw[ζ1,ζG2]
   rfl
  ·rintro i x σ H2 hi ⟨v4,v5,v6,v7,v8,v9,rfl,s2,hm2⟩
   obtain⟨z,rfl,hz⟩:=ζa1 hi
   obtain⟨z0,z1⟩:=hI z (ζζe hz)
   obtain⟨p,hp⟩:∃ p,ps[z.toNat]?=some p:=⟨_,ζζ0 (by omega)⟩
   obtain⟨v,hv,tt,rfl,htt⟩:=h3.2 z.toNat p hp
   obtain⟨e1,e2,e3,e4⟩:=g4 p (ζζe hp)
   have ed:ps.getD z.toNat (0,0)=p:=getD_of hp
   refine⟨_,rfl,_,rfl,a,xs,z,.ref tt,rfl,rfl,s2.seq hA,ζv (n:=z.toNat) (by omega) hv,tt,_,rfl,SqT.of (s2 _ _ htt),rfl,_,_,rfl,_,_,rfl,rfl,?_⟩
   have hl:(lms n.toNat (ζ6 ps (ns.take i))).length=n.toNat:=ζs _ _
   generalize hM:lms n.toNat (ζ6 ps (ns.take i))=M at *
   have ha:M[p.1.toNat]?=some (mk M p.1.toNat):=ζ71 (by omega)
   have hb:M[p.2.toNat]?=some (mk M p.2.toNat):=ζ71 (by omega)
   have iA:atI (IL M) p.1=some (.int (mk M p.1.toNat)):=ζv (n:=p.1.toNat) (by omega) (by rw[ζζh,ha];rfl)
   have iB:atI (IL M) p.2=some (.int (mk M p.2.toNat)):=ζv (n:=p.2.toNat) (by omega) (by rw[ζζh,hb];rfl)
   have step:lms n.toNat (ζ6 ps (ns.take (i+1)))=lm M p.1.toNat p.2.toNat:=by rw[ζy2 hz,ζW,hM,ed]
   refine⟨_,rfl,_,rfl,m,_,p.1,_,rfl,rfl,SqL.of hm2,iA,_,rfl,_,rfl,m,_,p.2,_,rfl,rfl,SqL.of hm2,iB,rfl,_,rfl,?_⟩
   rw[ζI]
   refine itn2 (fun hc=>?_) (fun hc=>?_)
   ·refine⟨_,_,_,_,_,_,rfl,s2,?_⟩
    rw[hm2,step]
    unfold lm
    rw[if_neg (by simpa using hc)]
   ·refine⟨_,rfl,_,rfl,m,_,p.2,_,rfl,rfl,SqL.of hm2,iB,?_⟩
    refine⟨_,rfl,_,rfl,m,_,p.1,_,rfl,rfl,SqL.of hm2,iA,?_⟩
    refine⟨_,rfl,n,rfl,by omega,by omega,ζS (lo:=0) (n:=n.toNat) (fun j σ H3=>∃(v4 v5 v6 v9:Option V),σ=[some (.int n),some (.ref a),some (.ref b),some (.ref m),v4,v5,v6,some (.int (mk M p.2.toNat)),some (.int (mk M p.1.toNat)),v9]/\Same H H3 /\
      H3 m=some (.lst (IL ((M.take j).map (fun k=>if k=mk M p.2.toNat then mk M p.1.toNat else k)++M.drop j)))) ⟨_,_,_,_,rfl,s2,by rw[hm2];rfl⟩ ?_ ?_⟩
    ·rintro j σ H3 hj ⟨w4,w5,w6,w9,rfl,s3,hm3⟩
     have hjM:M[j]?=some (mk M j):=ζ71 (by omega)
     have hlt:((M.take j).map (fun k=>if k=mk M p.2.toNat then mk M p.1.toNat else k)).length=j:=by rw[ζζa,ζζv];omega
     have hjv:((M.take j).map (fun k=>if k=mk M p.2.toNat then mk M p.1.toNat else k)++M.drop j)[j]?=some (mk M j):=by
      rw[ζζz (by omega),hlt,ζζ2i,ζζ1l,Nat.add_zero]
      exact hjM
     have ezj:(0:Int)+(j:Int)=(j:Int):=Int.zero_add _
     have iJ:atI (IL ((M.take j).map (fun k=>if k=mk M p.2.toNat then mk M p.1.toNat else k)++M.drop j)) (0+(j:Int))=some (.int (mk M j)):=ζv (n:=j) ezj (by rw[ζζh,hjv];rfl)
     have dj:M.drop j=mk M j :: M.drop (j+1):=by
      rw[ζζ1J (by omega)]
      congr 1
      have:=hjM
      rw[ζζ0 (by omega)]at this
      exact ζζ8 this
     refine⟨_,rfl,_,rfl,m,_,_,_,rfl,rfl,SqL.of hm3,iJ,_,rfl,rfl,_,rfl,?_⟩
     rw[ζI]
     refine itd2 (fun he=>?_) (fun he=>?_)
     ·refine⟨_,rfl,_,rfl,_,rfl,m,_,_,j,rfl,rfl,hm3,?_,?_⟩
      ·unfold ixN
       rw[if_pos (by omega),if_pos (by rw[ζ4,ζζ6,hlt,ζζ0A];omega)]
       simp
      ·refine⟨_,_,_,_,rfl,ζr hm0 s3,?_⟩
       rw[ζ1,ζζK,hjM]
       congr 2
       rw[<- ζo9,List.set_append_right _ _ (by rw[hlt];exact ζζ5 _),hlt,ζζ1l,dj,ζζA,List.set_cons_zero,ζζ02]
       show IL (_++_ :: _)=IL (_++((if mk M j=mk M p.2.toNat then mk M p.1.toNat else mk M j) :: _))
       rw[if_pos he]
       rfl
     ·refine⟨_,_,_,_,rfl,s3,?_⟩
      rw[hm3,ζζK,hjM,dj]
      congr 2
      rw[ζζA,ζζ02]
      show IL (_++_ :: _)=IL (_++((if mk M j=mk M p.2.toNat then mk M p.1.toNat else mk M j) :: _))
      rw[if_neg he]
      rfl
    ·rintro σ H3 ⟨w4,w5,w6,w9,rfl,s3,hm3⟩
     refine⟨_,_,_,_,_,_,rfl,s3,?_⟩
     rw[hm3,step]
     unfold lm
     rw[if_pos hc,ζζ06 (by omega),ζζ24 (by omega),ζζ04]
  ·rintro σ H2 ⟨v4,v5,v6,v7,v8,v9,rfl,s2,hm2⟩
   rw[ζ4,ζζH]at hm2
   exact⟨_,rfl,q m H2 s2 hm0 hm2⟩
def spζF(K:PySem.W.Frag):Sp:=fun vs H Q _=>∃(n:Int) (a:Addr) (c:Int) (xs:List V) (ps:List (Int × Int)),vs=[.int n,.ref a,.int c]/\SqL K H a xs/\PairsV H xs ps/\ζy n ps /\
 (∀ H':Hp,Same H H'->Q .non H')/\∀(r:Addr) (ms:List Int) (H':Hp),Same H H'->H' r=some (.tup (IL ms))->ζd n ps ms->Q (.ref r) H'
theorem scζF:FnScope ["places","ties","cell","left","some","marks","k","tie","one","other"] ["places","ties","cell"] (ζ5 sζF):=⟨rfl,rfl,rfl,by decide +kernel,rfl,by decide +kernel,by decide +kernel⟩
theorem okζF (T:Txt K mg t):FnOk P w K mg base CX0 2 t.aζF t.dζF ["places","ties","cell"] (spζF K):=by
 refine T.fζF.ok scζF (fun vs H Q E h=>?_) (fun cdv A outer s H vs Q E hr h=>?_)
 ·obtain⟨n,a,c,xs,ps,rfl,_⟩:=h
  rfl
 ·obtain⟨n,a,c,xs,ps,rfl,hA,hP,hG,q1,q2⟩:=h
  refine⟨_,(ζ2 (ζh (i:=3) scζF.nd rfl (Or.inl rfl) (ζg (ζZ rfl) (by rfl) T.n_list Boot.«list» (ζ0 (ζg ζG1 (by rfl) T.n_range Boot.«range» (ζ0 (ζf (ζi K) (by rfl) T.n_len Boot.«len» (ζ0 (pv 1) ζ3)) ζ3)) ζ3)))
   (ζ2 (ζh (i:=4) scζF.nd rfl (Or.inl rfl) (ζe1 ζ3))
   (ζ2 (ζh (i:=5) scζF.nd rfl (Or.inl rfl) (ζg (ζZ rfl) (by rfl) T.n_list Boot.«list» (ζ0 (ζg ζG1 (by rfl) T.n_range Boot.«range» (ζ0 (pv 0) ζ3)) ζ3)))
   (ζ2 (ζ41 ζζP rfl (ζH rfl T.n_range (ζ0 (ζf (ζi K) (by rfl) T.n_len Boot.«len» (ζ0 (pv 1) ζ3)) ζ3)) (ζe (i:=6) scζF.nd rfl (Or.inl rfl))
   (ζ2 (ζh (i:=7) scζF.nd rfl (Or.inl rfl) (ζ61 K ζζL PySem.F.slot_list_pop PySem.F.type_list_pop ζ59 (pv 3) (ζ0 (ζp ζK (ζa (okζA T) (hr.mono (by decide)) rfl T.mζA T.fζA.kp T.bζA .nil ζw (ζ0 (pv 2) (ζ0 (ζp ζf1 ζ8 (pv 6)) ζ3))) (ζf (ζi K) (by rfl) T.n_len Boot.«len» (ζ0 (pv 3) ζ3))) ζ3)))
   (ζ2 (ζH2 (ζA (ζc K) (pv 1) (pv 7) (fun _ _=>rfl)) (ζj1 (n:=2) K rfl (ζt (ζe (i:=8) scζF.nd rfl (Or.inl rfl)) (ζt (ζe (i:=9) scζF.nd rfl (Or.inl rfl)) ζi1))))
   (ζ7 (ζh1 (ζj ζ95 (ζA (ζc K) (pv 5) (pv 8) (fun _ _=>rfl)) (ζA (ζc K) (pv 5) (pv 9) (fun _ _=>rfl)) (ζq _))
   (ζ2 (ζC (ζ61 K ζζL ζζ08 ζζ07 ζQ (pv 4) (ζ0 (pv 7) ζ3)))
   (ζ7 (ζh (i:=5) scζF.nd rfl (Or.inl rfl) (ζa (okζE T) (hr.mono (by decide)) rfl T.mζE T.fζE.kp T.bζE .nil ζw (ζ0 (pv 0) (ζ0 (pv 1) (ζ0 (pv 4) ζ3)))))))
   ζo)))))
   (ζ2 (ζh1 (ζj ζX8 (ζf ζD3 (by rfl) T.n_len Boot.«len» (ζ0 (ζg (ζy7 K rfl) (by rfl) T.n_set Boot.«set» (ζ0 (pv 5) ζ3)) ζ3)) ζ8 (ζq _))
   (ζ7 (ζl ζ67))
   ζo)
   (ζ7 (ζl (ζg (ζJ K) (by rfl) T.n_tuple Boot.«tuple» (ζ0 (ζf (ζo2 K) (by rfl) T.n_sorted Boot.«sorted» (ζ0 (pv 4) ζ3)) ζ3))))))))),?_⟩
  obtain⟨g1,g2,g3,g4⟩:=id hG
  have hl:=hP.1
  refine⟨_,rfl,a,xs,rfl,.inl hA,_,rfl,fun r3 hr3=>⟨r3,0,_,rfl,ζ1,⟨by decide,by decide,by omega,by omega⟩,by omega,fun lf hlf=>?_⟩⟩
  have s1:=ζn (o:=.lst ((rngI 0 (xs.length:Int)).map V.int)) (same_at (o:=.rng 0 (xs.length:Int)) hr3) hlf
  have hlf0:H lf=none:=(same_at hr3).free hlf
  refine⟨ζζj _,fun sm hsm=>?_⟩
  have s2:=ζn (o:=.lst []) s1 hsm
  have hsm0:H sm=none:=s1.free hsm
  have n1:lf≠sm:=ζb ζ1 hsm
  refine⟨_,rfl,n,rfl,fun r4 hr4=>⟨r4,0,n,rfl,ζ1,⟨by decide,by decide,by omega,by omega⟩,by omega,fun m hm=>?_⟩⟩
  have t3:=ζn (o:=.lst ((rngI 0 n).map V.int)) (same_at (o:=.rng 0 n) hr4) hm
  have s3:=s2.trans t3
  have hlf3:=t3 _ _ (same_at (o:=.lst []) hsm _ _ (ζ1 (a:=lf) (o:=.lst ((rngI 0 (xs.length:Int)).map V.int))))
  have hsm3:=t3 _ _ (ζ1 (a:=sm) (o:=.lst []))
  have n2:m≠lf:=ζζY (ζb ((same_at (o:=.rng 0 n) hr4) _ _ (same_at (o:=.lst []) hsm _ _ (ζ1 (a:=lf) (o:=.lst ((rngI 0 (xs.length:Int)).map V.int))))) hm)
  have n3:m≠sm:=ζζY (ζb ((same_at (o:=.rng 0 n) hr4) _ _ (ζ1 (a:=sm) (o:=.lst []))) hm)
  have hfull:∀ z∈rngI 0 (xs.length:Int),0<=z/\z<(ps.length:Int):=fun z hz=>by
   unfold rngI at hz
   obtain⟨j,hj,rfl⟩:=ζζx.mp hz
   have:=ζζy.mp hj
   omega
  have hnd:(rngI 0 (xs.length:Int)).Nodup:=(ζi7 xs.length).nodup
  refine⟨_,rfl,a,_,rfl,.inl (s3.seq hA),_,rfl,by omega,by omega,ζS (lo:=0) (n:=(xs.length:Int).toNat) (fun i σ H2=>∃(sl ll:List Int) (mA:Addr) (v6 v7 v8 v9:Option V),σ=[some (.int n),some (.ref a),some (.int c),some (.ref lf),some (.ref sm),some (.ref mA),v6,v7,v8,v9]/\Same H H2/\mA≠lf/\mA≠sm /\
    H2 lf=some (.lst (IL ll))/\H2 sm=some (.lst (IL sl))/\H2 mA=some (.lst (IL (lms n.toNat (ζ6 ps sl))))/\(sl++ll).Nodup/\(∀ z∈sl++ll,0<=z/\z<(ps.length:Int))/\ll.length+i=ps.length/\sl.length+cnt (lms n.toNat (ζ6 ps sl))=n.toNat)
   ⟨[],rngI 0 (xs.length:Int),m,none,none,none,none,rfl,s3,n2,n3,hlf3,hsm3,?_,hnd,hfull,?_,?_⟩ ?_ ?_⟩
  ·rw[ζ1,ζG2]
   rfl
  ·rw[ζL1];omega
  ·show 0+cnt ((List.range n.toNat).map fun(i:Nat)=>(i:Int))=n.toNat
   rw[ζZ1];omega
  ·rintro i σ H2 hi ⟨sl,ll,mA,v6,v7,v8,v9,rfl,s4,n4,n5,hlf2,hsm2,hmA,nd,hb,hll,hcn⟩
   have hi':i<ps.length:=by omega
   have lpos:(0:Int)<(ll.length:Int):=by omega
   refine⟨_,rfl,.inl ⟨rfl,_,SqL.of hlf2⟩,_,rfl,_,rfl,_,_,rfl,rfl,_,_,rfl,fun u u0 u1=>?_⟩
   have x0:0<=u % (ll.length:Int):=ζζT _ (by omega)
   have x1:u % (ll.length:Int)<(ll.length:Int):=ζζW _ lpos
   obtain⟨z,hz⟩:∃ z,ll[(u % (ll.length:Int)).toNat]?=some z:=⟨_,ζζ0 (by omega)⟩
   refine⟨_,rfl,lf,_,rfl,.inl (SqL.of hlf2),_,_,rfl,rfl,(by rw[ζ4];exact lpos),lf,_,_,(u % (ll.length:Int)).toNat,.int z,rfl,rfl,hlf2,?_,?_,?_,ζT2 hz,?_⟩
   ·rw[ζ4];show -(2 ^ 63)<=u % (ll.length:Int);omega
   ·rw[ζ4];show u % (ll.length:Int)<2 ^ 63;omega
   ·rw[ζ4]
    exact ζE11 x0 x1
   rw[ζh6]
   have pm:=ζb7 (sl:=sl) hz
   have nd':((sl++[z])++ll.eraseIdx (u % (ll.length:Int)).toNat).Nodup:=pm.nodup_iff.mpr nd
   have hb':∀ y∈(sl++[z])++ll.eraseIdx (u % (ll.length:Int)).toNat,0<=y/\y<(ps.length:Int):=fun y hy=>hb y (pm.mem_iff.mp hy)
   have nd2:(sl++ll.eraseIdx (u % (ll.length:Int)).toNat).Nodup:=nd'.sublist (List.Sublist.append (ζζ2P _ _) (List.Sublist.refl _))
   have hb2:∀ y∈sl++ll.eraseIdx (u % (ll.length:Int)).toNat,0<=y/\y<(ps.length:Int):=fun y hy=>hb' y (by
    rcases ζζ9.mp hy with q | q
    ·exact ζζo _ (ζζo _ q)
    ·exact ζζc _ q)
   have lerase:(ll.eraseIdx (u % (ll.length:Int)).toNat).length+(i+1)=ps.length:=by
    rw[ζζ1H (by omega)];omega
   generalize ll.eraseIdx (u % (ll.length:Int)).toNat=lr at *
   obtain⟨z0,z1⟩:=hb z (ζζc _ (ζζe hz))
   have s5:=ζr (o:=.lst (IL lr)) hlf0 s4
   have hsm5:(upd H2 lf (.lst (IL lr))) sm=some (.lst (IL sl)):=by rw[ζ9 (ζζY n1)];exact hsm2
   have hmA5:(upd H2 lf (.lst (IL lr))) mA=some (.lst (IL (lms n.toNat (ζ6 ps sl)))):=by rw[ζ9 n4];exact hmA
   have hlf5:(upd H2 lf (.lst (IL lr))) lf=some (.lst (IL lr)):=ζ1
   generalize upd H2 lf (.lst (IL lr))=H5 at *
   obtain⟨p,hp⟩:∃ p,ps[z.toNat]?=some p:=⟨_,ζζ0 (by omega)⟩
   obtain⟨v,hv,tt,rfl,htt⟩:=(hP.same s5).2 z.toNat p hp
   obtain⟨e1,e2,e3,e4⟩:=g4 p (ζζe hp)
   have ed:ps.getD z.toNat (0,0)=p:=getD_of hp
   refine⟨_,rfl,_,rfl,a,xs,z,.ref tt,rfl,rfl,s5.seq hA,ζv (n:=z.toNat) (by omega) hv,tt,_,rfl,SqT.of htt,rfl,_,_,rfl,_,_,rfl,rfl,?_⟩
   have hlM:(lms n.toNat (ζ6 ps sl)).length=n.toNat:=ζs _ _
   have step:lms n.toNat (ζ6 ps (sl++[z]))=lm (lms n.toNat (ζ6 ps sl)) p.1.toNat p.2.toNat:=by
    rw[show ζ6 ps (sl++[z])=ζ6 ps sl++[(p.1.toNat,p.2.toNat)] by unfold ζ6;rw[ζζA];show _++[((ps.getD z.toNat (0,0)).1.toNat,(ps.getD z.toNat (0,0)).2.toNat)]=_;rw[ed],ζW]
   generalize hM:lms n.toNat (ζ6 ps sl)=M at *
   have ha':M[p.1.toNat]?=some (mk M p.1.toNat):=ζ71 (by omega)
   have hb'':M[p.2.toNat]?=some (mk M p.2.toNat):=ζ71 (by omega)
   refine⟨_,rfl,_,rfl,mA,_,p.1,_,rfl,rfl,SqL.of hmA5,ζv (n:=p.1.toNat) (by omega) (ζT2 ha'),_,rfl,_,rfl,mA,_,p.2,_,rfl,rfl,SqL.of hmA5,ζv (n:=p.2.toNat) (by omega) (ζT2 hb''),rfl,_,rfl,?_⟩
   rw[ζI]
   refine itn2 (fun hc=>?_) (fun hc=>?_)
   ·exact⟨sl,lr,mA,_,_,_,_,rfl,s5,n4,n5,hlf5,hsm5,by rw[hM];exact hmA5,nd2,hb2,by omega,by rw[hM];exact hcn⟩
   ·have sll:sl.length<=30:=by omega
    refine⟨_,rfl,.inl ⟨rfl,_,SqL.of hsm5⟩,_,rfl,sm,_,_,rfl,rfl,hsm5,ζk (by rw[ζ4];omega),?_⟩
    rw[<- ζF]
    have s6:=ζr (o:=.lst (IL (sl++[z]))) hsm0 s5
    have hlf6:(upd H5 sm (.lst (IL (sl++[z])))) lf=some (.lst (IL lr)):=by rw[ζ9 n1];exact hlf5
    have hsm6:(upd H5 sm (.lst (IL (sl++[z])))) sm=some (.lst (IL (sl++[z]))):=ζ1
    generalize upd H5 sm (.lst (IL (sl++[z])))=H6 at *
    refine⟨_,rfl,_,rfl,_,rfl,n,a,sm,xs,ps,false,sl++[z],rfl,s6.seq hA,hP.same s6,hG,SqL.of hsm6,fun y hy=>hb' y (ζζo _ hy),fun m' H7 s7 hm0 hm7=>?_⟩
    refine⟨sl++[z],lr,m',_,_,_,_,rfl,s6.trans s7,ζζY (ζb hlf6 hm0),ζζY (ζb hsm6 hm0),s7 _ _ hlf6,s7 _ _ hsm6,hm7,nd',hb',by omega,?_⟩
    have cs:=ζm2 (m:=M) (a:=p.1.toNat) (b:=p.2.toNat) (by omega) (by omega) hc
    rw[step,ζζ6,ζζR]
    omega
  ·rintro σ H2 ⟨sl,ll,mA,v6,v7,v8,v9,rfl,s4,n4,n5,hlf2,hsm2,hmA,nd,hb,hll,hcn⟩
   have hlM:(lms n.toNat (ζ6 ps sl)).length=n.toNat:=ζs _ _
   have hbs:∀ z∈sl,0<=z/\z<(ps.length:Int):=fun z hz=>hb z (ζζo _ hz)
   have hin:=ζO hG hbs
   have hsn:=ζW6 (by omega) hin
   have hone:=ζi8 (M:=lms n.toNat (ζ6 ps sl)) (by omega)
   rw[ζL2 hin]at hone
   have hsp:=ζE8 (L:=lms n.toNat (ζ6 ps sl)) (by omega)
   have sl1:(L2.seen (lms n.toNat (ζ6 ps sl))).length<=(lms n.toNat (ζ6 ps sl)).length:=PyProof.Rows.firstMet_length_le _ _
   refine⟨_,rfl,mA,lms n.toNat (ζ6 ps sl),rfl,SqL.of hmA,(by show(lms n.toNat (ζ6 ps sl)).length+1<4096;omega),fun st hst=>?_⟩
   have s5:=same_at (o:=.set (fun k=>(L2.seen (lms n.toNat (ζ6 ps sl))).any (· == k)) (L2.seen (lms n.toNat (ζ6 ps sl))).length) hst
   refine⟨st,_,_,rfl,ζ1,by omega,_,_,rfl,rfl,_,rfl,?_⟩
   refine itd2 (fun hc=>?_) (fun hc=>?_)
   ·exact q1 _ (s4.trans s5)
   ·have hcon:=hsn.mp (by omega)
    have hc1:=hone.mpr hcon
    have sll:(sl.length:Int)=n - 1:=by omega
    refine⟨_,rfl,sm,sl,rfl,SqL.of (s5 _ _ hsm2),by omega,fun ms hpm hpw l hl'=>?_⟩
    have s6:=ζn (o:=.lst (ms.map V.int)) s5 hl'
    refine⟨l,IL ms,rfl,.inl ⟨SqL.of ζ1,fun tp htp=>?_⟩⟩
    have s7:=ζn (o:=.tup (IL ms)) s6 htp
    have ndm:ms.Nodup:=hpm.nodup_iff.mpr (ζζ0c.mp nd).1
    refine q2 tp ms _ (s4.trans s7) ζ1 ⟨isSet_iff.mpr ⟨fun z hz=>hbs z (hpm.mem_iff.mp hz),?_⟩,by rw[hpm.length_eq];exact sll,fun i j hi hj=>(ζT fun z=>hpm.mem_iff).mpr (hcon i j hi hj)⟩
    exact(ζζ3a.mpr ⟨hpw,ndm⟩).imp fun {x y} h=>by have:=h.1;have:=h.2;omega
def spζG(K:PySem.W.Frag):Sp:=fun vs H Q _=>∃(a:Addr) (ns:List Int) (c:Nat),vs=[.ref a,.int c]/\SqL K H a (IL ns)/\ns.length<=63/\c<=30 /\
 ∀(r:Addr) (l:List Int) (H':Hp),Same H H'->H r=none->H' r=some (.lst (IL l))->l.length=c->Told l->Q (.ref r) H'
theorem scζG:FnScope ["script","count","folded","k","told","m"] ["script","count"] (ζ5 sζG):=⟨rfl,rfl,rfl,by decide +kernel,rfl,by decide +kernel,by decide +kernel⟩
theorem okζG (T:Txt K mg t):FnOk P w K mg base CX0 2 t.aζG t.dζG ["script","count"] (spζG K):=by
 refine T.fζG.ok scζG (fun vs H Q E h=>?_) (fun cdv A outer s H vs Q E hr h=>?_)
 ·obtain⟨a,ns,c,rfl,_⟩:=h
  rfl
 ·obtain⟨a,ns,c,rfl,hA,hn63,hc,q⟩:=h
  refine⟨_,(ζ2 (ζ27 (i:=2) rfl scζG.nd rfl rfl (sc0:=ζ5 sζG) (N0:=["script","count","folded","k","told","m"]) (N':=["k"]) (o:=1) (fr:=[]) ⟨rfl,by decide +kernel,by decide +kernel,by decide +kernel,rfl,by decide +kernel⟩ (ζH rfl T.n_range (ζ0 (pv 1) ζ3)) (ζB (by decide)) (fun _ _ _ _=>(ζe (i:=0) (show List.Nodup (["k"]:List Str) by decide +kernel) rfl (Or.inl rfl))) (fun _ _ _ _=>ζP) (fun _ _ _ _=>(ζp ζf1 (ζp ζS1 ζ8 (pv 0)) ζ8)))
   (ζ2 (ζ41 ζζP rfl (ζH rfl T.n_range (ζ0 (ζf (ζi K) (by rfl) T.n_len Boot.«len» (ζ0 (pv 0) ζ3)) ζ3)) (ζe (i:=3) scζG.nd rfl (Or.inl rfl))
   (ζ7 (ζh1 (ζj ζX8 (pv 1) ζ8 (ζq _))
   (ζ7 (ζH2 (ζp ζK (ζp ζf1 (ζp ζS1 (ζA (ζc K) (pv 2) (ζp ζK (pv 3) (pv 1)) (fun _ _=>rfl)) ζ8) (ζA (ζc K) (pv 0) (pv 3) (fun _ _=>rfl))) (ζp ζl3 ζ8 ζ8)) (ζ57 (pv 2) (ζp ζK (pv 3) (pv 1)) ζF2)))
   ζo)))
   (ζ2 (ζh (i:=4) scζG.nd rfl (Or.inl rfl) (ζe1 ζ3))
   (ζ2 (ζ41 ζζP rfl (ζH rfl T.n_range (ζ0 (pv 1) ζ3)) (ζe (i:=3) scζG.nd rfl (Or.inl rfl))
   (ζ2 (ζh (i:=5) scζG.nd rfl (Or.inl rfl) (ζa (okζA T) (hr.mono (by decide)) rfl T.mζA T.fζA.kp T.bζA .nil ζw (ζ0 (ζA (ζc K) (pv 2) (pv 3) (fun _ _=>rfl)) (ζ0 (ζp ζf1 ζ8 (pv 3)) ζ3))))
   (ζ7 (ζC (ζ61 K ζζL ζζ08 ζζ07 ζQ (pv 4) (ζ0 (ζA (ζc K) (ζe1 (ζ0 (ζp ζK (ζp ζl1 (pv 5) ζ8) ζ8) (ζ0 (ζp ζf2 (ζp ζK (ζp ζl1 (pv 5) ζ8) ζ8) ζ8) (ζ0 ζ8 (ζ0 (ζp ζf2 (ζp ζK (ζA (ζc K) (pv 2) (pv 3) (fun _ _=>rfl)) (ζp ζS1 ζ8 (ζp ζl3 ζ8 ζ8))) (ζp ζl3 ζ8 ζ8)) ζ3))))) (ζp ζK (pv 5) ζ8) (fun _ _=>rfl)) ζ3))))))
   (ζ7 (ζl (pv 4))))))),?_⟩
  have four:4<=sizeLine:=by decide
  refine⟨_,rfl,(c:Int),rfl,by omega,by omega,ζQ2 (lo:=0) (n:=((c:Int)).toNat) (fun i ys H3=>H3=H/\∃ fs:List Int,ys=IL fs/\fs.length=i) ⟨rfl,[],rfl,rfl⟩ (ζk (by omega)) (fun i ys H3 _ ⟨_,fs,e,el⟩=>by rw[e,ζ4];omega) ?_ ?_⟩
  ·rintro i ys H3 hi ⟨rfl,fs,rfl,el2⟩ S hSS
   refine nmY ?_
   refine⟨_,rfl,_,_,rfl,rfl,.inl ⟨by decide,by decide⟩,_,_,rfl,rfl,?_⟩
   refine hSS _ _ ⟨rfl,fs++[5 * (0+(i:Int))+2],?_,?_⟩
   ·exact(ζF _ _).symm
   ·rw[ζζ6,el2];rfl
  rintro ys H3 ⟨rfl,fs,rfl,el2⟩ l3 hl3
  have s3:=same_at (o:=.lst (IL fs)) hl3
  refine nm ?_
  dsimp only
  refine⟨_,rfl,a,_,rfl,.inl (s3.seq hA),_,rfl,by omega,by rw[ζ4];omega,ζS (lo:=0) (n:=((IL ns).length:Int).toNat) (fun j σ H4=>∃(fs:List Int) (v3:Option V),σ=[some (.ref a),some (.int c),some (.ref l3),v3,none,none]/\Same H3 H4/\H4 l3=some (.lst (IL fs))/\fs.length=c) ⟨fs,none,rfl,s3,ζ1,by rw[el2];omega⟩ ?_ ?_⟩
  ·rintro j σ H4 hj ⟨gs,v3,rfl,s4,h4,eg⟩
   rw[ζ4]at hj
   refine nm ?_
   dsimp only
   refine⟨_,rfl,_,_,rfl,rfl,_,rfl,?_⟩
   refine itd2 (fun hc0=>?_) (fun _=>⟨gs,_,rfl,s4,h4,eg⟩)
   have at0:0<=(0+(j:Int)) % (c:Int):=ζζT _ (by omega)
   have at1:(0+(j:Int)) % (c:Int)<(c:Int):=ζζW _ hc0
   generalize hat:(0+(j:Int)) % (c:Int)=at' at *
   obtain⟨f,hf⟩:∃ f,gs[at'.toNat]?=some f:=⟨_,ζζ0 (by omega)⟩
   obtain⟨z,hz⟩:∃ z,ns[j]?=some z:=⟨_,ζζ0 (by omega)⟩
   refine⟨_,rfl,_,rfl,_,rfl,_,_,rfl,rfl,hc0,l3,_,_,_,rfl,rfl,SqL.of h4,by rw[hat];exact ζv (n:=at'.toNat) (by omega) (ζT2 hf),_,_,rfl,rfl,.inr ⟨by decide,by decide⟩,_,rfl,_,rfl,a,_,_,_,rfl,rfl,s4.seq hA,ζv (n:=j) (by omega) (ζT2 hz),_,_,rfl,rfl,_,_,rfl,rfl,⟨by decide,by decide,by decide⟩,_,_,rfl,rfl,(by show(0:Int)<10 ^ 60;decide),?_⟩
   refine⟨_,rfl,_,rfl,_,rfl,_,_,rfl,rfl,hc0,l3,_,_,at'.toNat,rfl,rfl,h4,?_,?_⟩
   ·rw[hat]
    unfold ixN
    rw[if_pos at0,if_pos (by rw[ζ4];omega)]
   ·refine⟨gs.set at'.toNat ((f * 7+z) % (10:Int) ^ ((60:Int).toNat)),_,rfl,ζr hl3 s4,?_,by rw[ζζ0P];exact eg⟩
    rw[ζ1,ζo9]
  rintro σ H4 ⟨gs,v3,rfl,s4,h4,eg⟩
  refine⟨ζζj _,fun l5 hl5=>?_⟩
  have n35:l3≠l5:=ζb h4 hl5
  have hl50:H3 l5=none:=s4.free hl5
  have u5:=same_at (o:=.lst []) hl5
  have s5:=s4.trans u5
  have h35:=u5 _ _ h4
  have h55:(upd H4 l5 (.lst [])) l5=some (.lst (IL [])):=ζ1
  generalize upd H4 l5 (.lst [])=H5 at *
  refine nm ?_
  dsimp only
  refine⟨_,rfl,_,rfl,by omega,by omega,ζS (lo:=0) (n:=((c:Int)).toNat) (fun j σ H6=>∃(L:List Int) (v3 v5:Option V),σ=[some (.ref a),some (.int c),some (.ref l3),v3,some (.ref l5),v5]/\Same H3 H6/\H6 l3=some (.lst (IL gs))/\H6 l5=some (.lst (IL L))/\L.length=j/\Told L) ⟨[],v3,none,rfl,s5,h35,h55,rfl,fun z hz=>(by cases hz)⟩ ?_ ?_⟩
  rotate_left
  ·rintro σ H6 ⟨L,w3,w5,rfl,s6,_,h56,hL,hT⟩
   exact⟨_,rfl,q l5 L H6 s6 hl50 h56 (by omega) hT⟩
  rintro j σ H6 hj ⟨L,w3,w5,rfl,s6,h36,h56,hL,hT⟩
  obtain⟨f,hf⟩:∃ f,gs[j]?=some f:=⟨_,ζζ0 (by omega)⟩
  have hfa:atI (IL gs) (0+(j:Int))=some (.int f):=ζv (n:=j) (by omega) (ζT2 hf)
  refine nm ?_
  dsimp only
  refine⟨_,rfl,_,rfl,l3,_,_,_,rfl,rfl,SqL.of h36,hfa,_,rfl,_,_,rfl,rfl,_,_,rfl,fun m m0 m1=>?_⟩
  refine nm ?_
  dsimp only
  have d8:0<=m / 8:=by omega
  refine⟨_,rfl,.inl ⟨rfl,_,SqL.of h56⟩,_,rfl,_,_,rfl,rfl,⟨by decide,by decide⟩,_,_,rfl,rfl,(by show(0:Int)<5;decide),_,rfl,_,_,rfl,rfl,⟨by decide,by decide⟩,_,_,rfl,rfl,(by show(0:Int)<19;decide),_,_,rfl,rfl,_,rfl,_,rfl,l3,_,_,_,rfl,rfl,SqL.of h36,hfa,_,_,rfl,rfl,⟨by decide,by decide,by decide⟩,_,_,rfl,rfl,.inl ⟨by decide,by decide⟩,_,_,rfl,rfl,(by show(0:Int)<2 * 10 ^ 59;decide),_,_,rfl,rfl,⟨by decide,by decide,by decide⟩,_,_,rfl,rfl,four,fun c4 hc4=>?_⟩
  obtain⟨x,hx,hxb⟩:∃ x:Int,atI (IL [m / 8 % 5,m / 8 % 19 - 9,1,f % (2 * 10 ^ (59:Int).toNat) - 10 ^ (59:Int).toNat]) (m % 4)=some (.int x)/\(-(10 ^ 60)<x/\x<(10:Int) ^ 60):=by
   have p59:(10:Int) ^ (59:Int).toNat=10 ^ 59:=rfl
   have e4:0<=f % (2 * 10 ^ 59)/\f % (2 * 10 ^ 59)<2 * 10 ^ 59:=⟨ζζT _ (by decide),ζζW _ (by decide)⟩
   rcases(by omega:m % 4=0\/m % 4=1\/m % 4=2\/m % 4=3) with e | e | e | e <;> rw[e]
   ·exact⟨_,rfl,by omega⟩
   ·exact⟨_,rfl,by omega⟩
   ·exact⟨_,rfl,by omega⟩
   ·refine⟨_,rfl,?_⟩
    rw[p59]
    omega
  have w1:=same_at (o:=.lst (IL [m / 8 % 5,m / 8 % 19 - 9,1,f % (2 * 10 ^ (59:Int).toNat) - 10 ^ (59:Int).toNat])) hc4
  refine⟨_,rfl,_,_,rfl,rfl,(by show(0:Int)<4;decide),c4,_,_,.int x,rfl,rfl,SqL.of ζ1,hx,?_⟩
  refine⟨l5,_,_,rfl,rfl,w1 _ _ h56,ζk (by rw[ζ4];omega),L++[x],_,_,rfl,ζr hl50 (s6.trans w1),?_,by rw[ζ1,ζF],by rw[ζζ6,hL];rfl,fun z hz=>(ζζ9.mp hz).elim (hT z) fun h=>by rw[ζζ1.mp h];exact hxb⟩
  rw[ζ9 n35]
  exact w1 _ _ h36
def spζH(K:PySem.W.Frag):Sp:=fun vs H Q _=>∃(n:Int) (a b:Addr) (xs:List V) (ps:List (Int × Int)) (ls:List Int),vs=[.int n,.ref a,.ref b]/\SqL K H a xs/\PairsV H xs ps/\SqL K H b (IL ls)/\ζy n ps/\ls.length=ps.length/\Told ls/\∀ H':Hp,Same H H'->Q (.str (ζq8 n ps ls)) H'
theorem scζH:FnScope ["places","ties","lengths","lines","k","words"] ["places","ties","lengths"] (ζ5 sζH):=⟨rfl,rfl,rfl,by decide +kernel,rfl,by decide +kernel,by decide +kernel⟩
theorem okζH (T:Txt K mg t):FnOk P w K mg base CX0 1 t.aζH t.dζH ["places","ties","lengths"] (spζH K):=by
 refine T.fζH.ok scζH (fun vs H Q E h=>?_) (fun cdv A outer s H vs Q E hr h=>?_)
 ·obtain⟨n,a,b,xs,ps,ls,rfl,_⟩:=h
  rfl
 ·obtain⟨n,a,b,xs,ps,ls,rfl,hA,hP,hB,hG,hl,hT,q⟩:=h
  refine⟨_,(ζ2 (ζh (i:=3) scζH.nd rfl (Or.inl rfl) (ζe1 (ζ0 (ζp ζT5 ζd2 (ζg ζ22 (by rfl) T.n_str Boot.«str» (ζ0 (pv 0) ζ3))) ζ3)))
   (ζ2 (ζ41 ζζP rfl (ζH rfl T.n_range (ζ0 (ζf (ζi K) (by rfl) T.n_len Boot.«len» (ζ0 (pv 1) ζ3)) ζ3)) (ζe (i:=4) scζH.nd rfl (Or.inl rfl))
   (ζ2 (ζh (i:=5) scζH.nd rfl (Or.inl rfl) (ζe1 (ζ0 ζd2 (ζ0 (ζg ζ22 (by rfl) T.n_str Boot.«str» (ζ0 (ζA (ζE K) (ζA (ζc K) (pv 1) (pv 4) (fun _ _=>rfl)) ζ8 (fun _ _=>rfl)) ζ3)) (ζ0 (ζg ζ22 (by rfl) T.n_str Boot.«str» (ζ0 (ζA (ζE K) (ζA (ζc K) (pv 1) (pv 4) (fun _ _=>rfl)) ζ8 (fun _ _=>rfl)) ζ3)) ζ3)))))
   (ζ7 (ζC (ζ61 K ζζL ζζ08 ζζ07 ζQ (pv 3) (ζ0 (ζ61 K ζζ0U ζζ39 ζζ37 (ζ06 K) ζd2 (ζ0 (ζp ζZ8 (pv 5) (ζe1 (ζ0 (ζg ζ22 (by rfl) T.n_str Boot.«str» (ζ0 (ζA (ζc K) (pv 2) (pv 4) (fun _ _=>rfl)) ζ3)) ζ3))) ζ3)) ζ3))))))
   (ζ7 (ζl (ζ61 K ζζ0U ζζ39 ζζ37 (ζ06 K) ζd2 (ζ0 (pv 3) ζ3)))))),?_⟩
  have hxl:=hP.1
  have hp30:=hG.2.2.1
  have hn1:=hG.1
  have hn2:=hG.2.1
  have one:1<=sizeLine:=by decide
  have three:3<=sizeLine:=by decide
  have z1:100000<=sizeLine:=by decide
  have nl:=ζX5 (i:=n) (k:=60) (by decide) (by omega) (by omega)
  refine⟨_,rfl,n,rfl,by omega,by omega,_,_,rfl,rfl,?_,one,fun d hd=>?_⟩
  ·show 7+(nT n).length<=_
   omega
  have u1:=same_at (o:=.lst (TL (webT n (ps.take 0) (ls.take 0)))) hd
  refine nm ?_
  dsimp only
  refine⟨_,rfl,a,_,rfl,.inl (u1.seq hA),_,rfl,by omega,by omega,ζS (lo:=0) (n:=(xs.length:Int).toNat) (fun i σ H4=>∃(v4 v5:Option V),σ=[some (.int n),some (.ref a),some (.ref b),some (.ref d),v4,v5]/\Same H H4/\H4 d=some (.lst (TL (webT n (ps.take i) (ls.take i))))) ⟨none,none,rfl,u1,ζ1⟩ ?_ ?_⟩
  ·rintro i σ H4 hi ⟨v4,v5,rfl,s4,h4⟩
   have hi2:i<ps.length:=by omega
   obtain⟨v,hv⟩:∃ v,xs[i]?=some v:=⟨_,ζζ0 (by omega)⟩
   obtain⟨p,hp,tt,rfl,htt⟩:=hP.at hv
   obtain⟨l,hll⟩:∃ l,ls[i]?=some l:=⟨_,ζζ0 (by omega)⟩
   have htold:=ζH3 hG hT hp hll
   have b1:=htold p.1 (by simp)
   have b2:=htold p.2 (by simp)
   have b3:=htold l (by simp)
   refine nm ?_
   dsimp only
   have ia:atI xs (0+(i:Int))=some (.ref tt):=ζv (n:=i) (by omega) hv
   refine⟨_,rfl,_,rfl,a,_,_,.ref tt,rfl,rfl,s4.seq hA,ia,tt,_,0,.int p.1,rfl,rfl,SqT.of (s4 _ _ htt),rfl,p.1,rfl,by omega,by omega,_,rfl,_,rfl,a,_,_,.ref tt,rfl,rfl,s4.seq hA,ia,tt,_,1,.int p.2,rfl,rfl,SqT.of (s4 _ _ htt),rfl,p.2,rfl,by omega,by omega,three,fun c hc=>?_⟩
   have u2:=same_at (o:=.lst (TL [Str.ofString "tie",nT p.1,nT p.2])) hc
   have s5:=s4.trans u2
   have h5:=u2 _ _ h4
   have hc5:(upd H4 c (.lst (TL [Str.ofString "tie",nT p.1,nT p.2]))) c=some (.lst (TL [Str.ofString "tie",nT p.1,nT p.2])):=ζ1
   refine nm ?_
   dsimp only
   change ζm12 _ _ _ (upd H4 c (.lst (TL [Str.ofString "tie",nT p.1,nT p.2])))
   generalize upd H4 c (.lst (TL [Str.ofString "tie",nT p.1,nT p.2]))=H5 at *
   refine⟨_,rfl,.inl ⟨rfl,_,SqL.of h5⟩,rfl,_,rfl,_,rfl,_,rfl,b,_,_,.int l,rfl,rfl,s5.seq hB,ζv (n:=i) (by omega) (ζT2 hll),l,rfl,by omega,by omega,one,fun c2 hc2=>?_⟩
   have u3:=same_at (o:=.lst (TL [nT l])) hc2
   refine⟨c,c2,_,TL [nT l],rfl,rfl,u3 _ _ hc5,ζ1,(show 3+1<=sizeLine by decide),fun c3 hc3=>?_⟩
   have u4:=same_at (o:=.lst (TL [Str.ofString "tie",nT p.1,nT p.2]++TL [nT l])) hc3
   have u34:=u3.trans u4
   have wl:(webT n (ps.take i) (ls.take i)).length<=31:=by rw[ζt5 (by rw[ζζv,ζζv];omega),ζζv];omega
   refine⟨_,c3,[Str.ofString "tie",nT p.1,nT p.2,nT l],rfl,rfl,SqL.of ζ1,?_,?_⟩
   ·show JoinOk ζT1 _=true
    rw[ζp2]
    refine ζ28 (B:=61) (fun a ha=>?_) (by show 4 * 61+4<=_;decide)
    rcases ζζb.mp ha with e | e
    ·rw[e];decide
    ·exact ζK3 htold a e
   refine⟨d,_,_,rfl,rfl,u34 _ _ h5,ζk (by rw[ζo1];omega),_,_,rfl,ζr hd (s5.trans u34),?_⟩
   rw[ζ1]
   show some (HO.lst (TL (webT n (ps.take i) (ls.take i))++[.str (ζd5 p l)]))=_
   rw[ζV9,ζQ6 hp hll]
  rintro σ H4 ⟨v4,v5,rfl,s4,h4⟩
  rw[show(xs.length:Int).toNat=ps.length by omega,ζζH,<- hl,ζζH]at h4
  refine⟨rfl,_,rfl,_,d,_,rfl,rfl,SqL.of h4,?_,q H4 s4⟩
  show JoinOk nlS _=true
  rw[ζZ11]
  exact ζ28 (B:=400) (ζs5 hG hT) (by rw[ζt5 hl];omega)
def spζI(K:PySem.W.Frag)(C:Addr):Sp:=fun vs H Q _=>∃(w b a:Addr) (n d:Int) (ps:List (Int × Int)) (ls T:List Int),vs=[.ref w,.ref b,.ref a,.int d]/\WebAt C H w n ps/\ζy n ps/\n<=10/\ps.length<=20/\H b=some (.lst (IL ls))/\ls.length=ps.length/\H a=some (.tup (IL T))/\ζd n ps T/\(∃ U,ζd n ps U/\sumL ls U=d)/\(∀ W,ζd n ps W->d<=sumL ls W)/\∀ H':Hp,Same H H'->Q (.bl true) H'
theorem scζI:FnScope ["web","lengths","tree","least","here","turn","gains","done","out","into","further","less"] ["web","lengths","tree","least"] (ζ5 sζI):=⟨rfl,rfl,rfl,by decide +kernel,rfl,by decide +kernel,by decide +kernel⟩
theorem okζI (T:Txt K mg t):FnOk P w K mg base CX0 11 t.aζI t.dζI ["web","lengths","tree","least"] (spζI K t.A_Web):=by
 refine T.fζI.ok scζI (fun vs H Q E h=>?_) (fun cdv A outer s H vs Q E hr h=>?_)
 ·obtain⟨w,b,a,n,d,ps,ls,T,rfl,_⟩:=h
  rfl
 ·obtain⟨w,b,a,n,d,ps,ls,T',rfl,hW,hG,hn10,hp20,hL,hl,hA,hT0,⟨U,hU,hUd⟩,hmin,q⟩:=h
  refine⟨_,(ζ2 (ζh (i:=4) scζI.nd rfl (Or.inl rfl) (pv 2))
   (ζ2 (ζ41 ζζP rfl (ζH rfl T.n_range (ζ0 ζ8 ζ3)) (ζe (i:=5) scζI.nd rfl (Or.inl rfl))
   (ζ2 (ζh (i:=6) scζI.nd rfl (Or.inl rfl) (ζa (okζo T) (hr.mono (by decide)) rfl T.mζo T.fζo.kp T.bζo .nil ζw (ζ0 (pv 0) (ζ0 (pv 1) (ζ0 (pv 4) ζ3)))))
   (ζ2 (ζh (i:=7) scζI.nd rfl (Or.inl rfl) (ζk1 ζS5 (ζa (okζl T) (hr.mono (by decide)) rfl T.mζl T.fζl.kp T.bζl .nil ζw (ζ0 (pv 0) (ζ0 (pv 1) (ζ0 (pv 4) ζ3)))) (pv 3) (ζq _)))
   (ζ2 (ζh1 (PW.pt (ζ17 (ζj ζ95 (ζk1 (ζS7 K (hu8 hr)) (pv 6) (ζe1 ζ3) (ζq _)) (pv 7) (ζq _)) (ζe3 (ζj ζ95 (ζa (okζp T) (hr.mono (by decide)) rfl T.mζp T.fζp.kp T.bζp .nil ζw (ζ0 (pv 0) (ζ0 (pv 1) (ζ0 (pv 4) ζ3)))) (pv 7) (ζq _)))))
   (ζ7 (ζl ζw4))
   ζo)
   (ζ2 (ζh1 (ζ82 (pv 7))
   (ζ7 (ζl ζw4))
   ζo)
   (ζ2 (ζH2 (ζA (ζc K) (pv 6) ζ8 (fun _ _=>rfl)) (ζj1 (n:=2) K rfl (ζt (ζe (i:=8) scζI.nd rfl (Or.inl rfl)) (ζt (ζe (i:=9) scζI.nd rfl (Or.inl rfl)) ζi1))))
   (ζ2 (ζh (i:=10) scζI.nd rfl (Or.inl rfl) (ζa (okζk T) (hr.mono (by decide)) rfl T.mζk T.fζk.kp T.bζk .nil ζw (ζ0 (pv 0) (ζ0 (pv 4) (ζ0 (pv 8) (ζ0 (pv 9) ζ3))))))
   (ζ2 (ζh (i:=11) scζI.nd rfl (Or.inl rfl) (ζp ζf2 (ζA (ζc K) (pv 1) (pv 8) (fun _ _=>rfl)) (ζA (ζc K) (pv 1) (pv 9) (fun _ _=>rfl))))
   (ζ2 (ζh1 (ζj ζR7 (pv 11) ζ8 (ζq _))
   (ζ7 (ζl ζw4))
   ζo)
   (ζ2 (ζh1 (ζj ζ95 (ζa (okζl T) (hr.mono (by decide)) rfl T.mζl T.fζl.kp T.bζl .nil ζw (ζ0 (pv 0) (ζ0 (pv 1) (ζ0 (pv 10) ζ3)))) (ζp ζf2 (ζa (okζl T) (hr.mono (by decide)) rfl T.mζl T.fζl.kp T.bζl .nil ζw (ζ0 (pv 0) (ζ0 (pv 1) (ζ0 (pv 4) ζ3)))) (pv 11)) (ζq _))
   (ζ7 (ζl ζw4))
   ζo)
   (ζ7 (ζh (i:=4) scζI.nd rfl (Or.inl rfl) (pv 10)))))))))))))
   (ζ7 (ζl ζw4)))),?_⟩
  refine⟨_,rfl,?_⟩
  refine nm ?_
  dsimp only
  have hb2:=ζK5 (ls:=ls) (T:=T') fun z hz=>by rw[hl];exact hT0.1.all z hz
  refine⟨400,rfl,by decide,by decide,ζS (lo:=0) (n:=400) (fun i σ H1=>∃(h:Addr) (M:List Int) (v5 v6 v7 v8 v9 v10 v11:Option V),σ=[some (.ref w),some (.ref b),some (.ref a),some (.int d),some (.ref h),v5,v6,v7,v8,v9,v10,v11]/\Same H H1/\H1 h=some (.tup (IL M))/\ζd n ps M/\sumL (rkL ls) M+i<=180) ⟨a,T',none,none,none,none,none,none,none,rfl,Same.refl _,hA,hT0,?_⟩ ?_ ?_⟩
  ·have h9:(T'.length:Int)<=9:=by have:=hT0.2.1;omega
   have:=ζζ2O (show ls.length<=20 by omega) (show T'.length<=9 by omega)
   have e:(ls.length:Int) * T'.length=((ls.length * T'.length:Nat):Int):=by push_cast;rfl
   omega
  rotate_left
  ·rintro σ H1 ⟨h,M,v5,v6,v7,v8,v9,v10,v11,rfl,s1,hh,hM,hpot⟩
   have:=(ζK5 (ls:=ls) (T:=M) fun z hz=>by rw[hl];exact hM.1.all z hz).1
   omega
  rintro i σ H1 hi ⟨h,M,v5,v6,v7,v8,v9,v10,v11,rfl,s1,hh,hM,hpot⟩
  refine nm ?_
  dsimp only
  have hsum:∀ X,smW ls X=sumL ls X:=fun _=>rfl
  refine⟨_,rfl,_,rfl,_,rfl,w,b,h,n,ps,false,true,ls,M,rfl,hW.same s1,hG,SqL.of (s1 _ _ hL),SqT.of hh,fun _ _ r2 fs H2 s2 hr0 hr2 hF=>?_,fun z=>absurd hl z,fun _ z=>absurd hM z⟩
  refine nm ?_
  dsimp only
  have s02:=s1.trans s2
  refine⟨_,rfl,_,rfl,_,rfl,w,b,h,n,ps,false,true,ls,M,rfl,hW.same s02,hG.2.2.1,SqL.of (s02 _ _ hL),SqT.of (s2 _ _ hh),hl,hM.1,fun H3 s3=>?_⟩
  have s03:=s02.trans s3
  refine⟨_,rfl,rfl,?_⟩
  rw[ζI,hsum]
  have hg:decide (sumL ls M=d)=decide (gns n ps ls M=[]):=by
   rw[ζζ1c,ζo6 hG hM]
   constructor
   ·intro e W hW
    have:=hmin W hW
    show sumL ls M<=sumL ls W
    omega
   ·intro e
    have h1:sumL ls M<=sumL ls U:=e U hU
    have:=hmin M hM
    omega
  rw[hg]
  refine nm ?_
  dsimp only
  refine⟨_,rfl,ζζj _,fun ee hee=>?_⟩
  have w2:=same_at (o:=.lst []) hee
  have s3e:=s3.trans w2
  refine⟨2,_,r2,ee,rfl,rfl,by decide,ζO4 (SqL.of (s3e _ _ hr2)) (SqL.of ζ1) (hF.same s3e) PairsV.nil,?_⟩
  refine⟨_,rfl,rfl,_,rfl,?_⟩
  refine itn rfl ?_
  have s04:=s02.trans s3e
  generalize upd H3 ee (.lst [])=H4 at *
  refine⟨_,rfl,_,rfl,_,rfl,w,b,h,n,ps,false,true,ls,M,rfl,hW.same s04,hG,SqL.of (s04 _ _ hL),SqT.of ((s2.trans s3e) _ _ hh),fun _ _ H5 s5=>?_,fun z=>absurd hl z,fun _ z=>absurd hM z⟩
  refine⟨_,rfl,rfl,_,rfl,?_⟩
  refine itn rfl ?_
  show(_:Prop)
  refine ζa5 ?_
  have s05:=s04.trans s5
  have s25:=s3e.trans s5
  by_cases c:gns n ps ls M=[]
  ·rw[ζζd c]
   refine⟨_,rfl,_,rfl,?_⟩
   refine iteT ?_
   exact q _ s05
  rw[ζζE c]
  refine⟨_,rfl,_,rfl,?_⟩
  refine iteF ?_
  show(_:Prop)
  refine ζa5 ?_
  obtain⟨p,G,hp⟩:∃ p G,gns n ps ls M=p :: G:=by
   cases h:gns n ps ls M with
   | nil=>exact absurd h c
   | cons p G=>exact⟨p,G,rfl⟩
  have hF5:=hF.same s25
  obtain⟨v,hv,tt,rfl,htt⟩:=hF5.2 0 p (by rw[hp];rfl)
  have hpm:p∈gns n ps ls M:=by rw[hp];exact ζζg
  obtain⟨hpx,hpb⟩:=ζζm.mp hpm
  obtain⟨po,⟨o0,o1⟩,z0,z1,hx⟩:=ζX10 hM hpx
  have hlt:lnz ls p.2<lnz ls p.1:=ζζs hpb
  refine⟨_,rfl,r2,_,0,.ref tt,rfl,rfl,SqL.of (s25 _ _ hr2),ζv (n:=0) rfl hv,?_⟩
  refine⟨tt,_,rfl,SqT.of htt,rfl,_,_,rfl,_,_,rfl,rfl,?_⟩
  dsimp only [List.set]
  have p30:=hG.2.2.1
  have big:(30:Int)<10 ^ 70:=by decide
  refine⟨_,rfl,_,rfl,_,rfl,_,rfl,w,h,n,ps,true,M,p.1,p.2,rfl,hW.same s05,hG,SqT.of ((s2.trans s25) _ _ hh),by omega,by omega,by omega,by omega,fun _ _ N hN1 hN2 r5 H6 s6 hr50 hr5=>?_,fun _ z=>absurd hx z,fun z=>absurd hM z⟩
  refine nm ?_
  dsimp only [List.set]
  have hNT:=ζP1 hG hM hx hN1 hN2
  have sN:=ζz1 (ls:=ls) hM.1.nodup po hN1
  have sR:=ζz1 (ls:=rkL ls) hM.1.nodup po hN1
  have rl:=ζJ11 (ls:=ls) o0 (by omega) z0 (by omega) hlt
  have s06:=s05.trans s6
  have hL6:=s06 _ _ hL
  obtain⟨y,hy⟩:∃ y,ls[p.2.toNat]?=some y:=⟨_,ζζ0 (by omega)⟩
  obtain⟨x,hx'⟩:∃ x,ls[p.1.toNat]?=some x:=⟨_,ζζ0 (by omega)⟩
  have ey:lnz ls p.2=y:=getD_of hy
  have ex:lnz ls p.1=x:=getD_of hx'
  refine⟨_,rfl,_,rfl,b,_,_,.int x,rfl,rfl,SqL.of hL6,ζv (n:=p.1.toNat) (by omega) (ζT2 hx'),?_⟩
  refine⟨_,rfl,_,rfl,b,_,_,.int y,rfl,rfl,SqL.of hL6,ζv (n:=p.2.toNat) (by omega) (ζT2 hy),?_⟩
  refine⟨_,_,rfl,rfl,?_⟩
  refine nm ?_
  dsimp only [List.set]
  refine⟨_,rfl,_,_,rfl,rfl,_,rfl,?_⟩
  rw[ζζE (by omega)]
  refine iteF ?_
  show(_:Prop)
  refine ζa5 ?_
  refine⟨_,rfl,_,rfl,_,rfl,w,b,r5,n,ps,false,true,ls,N,rfl,hW.same s06,p30,SqL.of hL6,SqT.of hr5,hl,hNT.1,fun H7 s7=>?_⟩
  have s07:=s06.trans s7
  refine⟨_,rfl,_,rfl,_,rfl,w,b,h,n,ps,false,true,ls,M,rfl,hW.same s07,p30,SqL.of (s07 _ _ hL),SqT.of (((s2.trans s25).trans (s6.trans s7)) _ _ hh),hl,hM.1,fun H8 s8=>?_⟩
  refine⟨_,rfl,_,_,rfl,rfl,rfl,_,rfl,?_⟩
  rw[hsum,hsum,ζI]
  refine itn (by omega) ?_
  show(_:Prop)
  refine ζa5 ?_
  refine⟨_,rfl,?_⟩
  exact⟨r5,N,_,_,_,_,_,_,_,rfl,s07.trans s8,(s7.trans s8) _ _ hr5,hNT,by omega⟩
def spζJ(K:PySem.W.Frag)(Pt:Addr):Sp:=fun vs H Q _=>∃(a:Addr) (ns:List Int),vs=[.ref a]/\SqL K H a (IL ns)/\ns.length<=63/\TabR H Pt/\∀ H',Q (.bl true) H'
def RkV(H:Hp)(v:V)(x:Int × List Int):Prop:=∃ a q,v=.ref a/\H a=some (.tup [.int x.1,.ref q])/\H q=some (.tup (IL x.2))
theorem RkV.same{H H':Hp}{v:V}{x:Int × List Int}(s:Same H H')(h:RkV H v x):RkV H' v x:=by
 obtain⟨a,q,e,h1,h2⟩:=h
 exact⟨a,q,e,s _ _ h1,s _ _ h2⟩
theorem RkV.samex{H H':Hp}{Pt:Addr}{v:V}{x:Int × List Int}(t:TabR H Pt)(s:SameX Pt H H')(h:RkV H v x):RkV H' v x:=by
 obtain⟨a,q,e,h1,h2⟩:=h
 exact⟨a,q,e,s _ _ (t.ne h1 (by simp)) h1,s _ _ (t.ne h2 (by simp)) h2⟩
theorem ζ011{K:PySem.W.Frag}{H:Hp}{v u:V}{x y:Int × List Int}(h1:RkV H v x)(h2:RkV H u y):EqD K H 2 v u (decide (x=y)):=by
 obtain⟨tp,tr,rfl,a1,a2⟩:=h1
 obtain⟨tp',tr',rfl,b1,b2⟩:=h2
 have e:((List.range (min [V.int x.1,.ref tr].length [V.int y.1,.ref tr'].length)).all (fun i=>match i with
   | 0=>decide (x.1=y.1)
   | _=>decide (x.2=y.2)) && [V.int x.1,.ref tr].length == [V.int y.1,.ref tr'].length)=decide (x=y):=by
  show(decide (x.1=y.1) && (decide (x.2=y.2) && true) && true)=decide (x=y)
  rw[ζζ0j]
  simp only [ζζ2p,ζζ0u,ζζ1r,Prod.ext_iff]
 rw[<- e]
 refine EqD.tups (SqT.of a1) (SqT.of b1) fun i p q hx hy=>?_
 match i,hx,hy with
 | 0,hx,hy =>
  obtain rfl:=ζζ8 hx
  obtain rfl:=ζζ8 hy
  exact ζy3 rfl rfl
 | 1,hx,hy =>
  obtain rfl:=ζζ8 hx
  obtain rfl:=ζζ8 hy
  exact ζs1 (SqT.of a2) (SqT.of b2)
 | i+2,hx,_=>cases hx
theorem ζZ10{K:PySem.W.Frag}{H:Hp}{p q:Addr}{xs ys:List V}{l m:List (Int × List Int)}(hp:SqL K H p xs)(hq:SqL K H q ys)(h1:Bears (RkV H) xs l)(h2:Bears (RkV H) ys m):EqD K H 3 (.ref p) (.ref q) (decide (l=m)) :=
 ζX2 hp hq h1 h2 fun _ _ _ _ a b=>ζ011 a b
theorem ζo12{H:Hp}{ls:List Int}{ys:List V}{L:List (List Int)}(h:Bears (PV H ls) ys L):Bears (RkV H) ys (L.map fun T=>(sumL ls T,T)):=by
 refine⟨by rw[ζζa];exact h.1,fun i x e=>?_⟩
 rw[ζζh]at e
 obtain⟨T,hT,rfl⟩:=ζζ0V.mp e
 obtain⟨v,hv,r⟩:=h.2 i T hT
 exact⟨v,hv,r⟩
theorem ζj5(k:Nat):(List.replicate k [V.int 0]).flatten=IL (List.replicate k 0):=by
 induction k with
 | zero=>rfl
 | succ k ih=>rw[ζζ0F,ζζ1u,ih,ζζ0F];rfl
theorem scζJ:FnScope ["script","places","ties","web","lengths","total","tree","best","least","more","ranks","longer","marks","far"] ["script"] (ζ5 sζJ):=⟨rfl,rfl,rfl,by decide +kernel,rfl,by decide +kernel,by decide +kernel⟩
theorem okζJ {Pt:Addr} (T:Txt K mg t) (hB:ζw12 K mg base t.dζu Pt):FnOk P w K mg base CX0 12 t.aζJ t.dζJ ["script"] (spζJ K Pt):=by
 refine T.fζJ.ok scζJ (fun vs H Q E h=>?_) (fun cdv A outer s H vs Q E hr h=>?_)
 ·obtain⟨a,ns,rfl,_⟩:=h
  rfl
 ·obtain⟨a,ns,rfl,hS,hn63,hTb,k⟩:=h
  refine⟨_,(ζ2 (ζH2 (ζa (okζD T) (hr.mono (by decide)) rfl T.mζD T.fζD.kp T.bζD .nil ζw (ζ0 (pv 0) (ζ0 ζ8 (ζ0 ζ8 ζ3)))) (ζj1 (n:=2) K rfl (ζt (ζe (i:=1) scζJ.nd rfl (Or.inr rfl)) (ζt (ζe (i:=2) scζJ.nd rfl (Or.inl rfl)) ζi1))))
   (ζ2 (ζH2 (ζa (okζy T) (hr.mono (by decide)) rfl T.mζy T.fζy.kp T.bζy .nil ζw (ζ0 (ζa (okζH T) (hr.mono (by decide)) rfl T.mζH T.fζH.kp T.bζH .nil ζw (ζ0 (pv 1) (ζ0 (pv 2) (ζ0 (ζa (okζG T) (hr.mono (by decide)) rfl T.mζG T.fζG.kp T.bζG .nil ζw (ζ0 (pv 0) (ζ0 (ζf (ζi K) (by rfl) T.n_len Boot.«len» (ζ0 (pv 2) ζ3)) ζ3))) ζ3)))) ζ3)) (ζj1 (n:=2) K rfl (ζt (ζe (i:=3) scζJ.nd rfl (Or.inl rfl)) (ζt (ζe (i:=4) scζJ.nd rfl (Or.inl rfl)) ζi1))))
   (ζ2 (ζh (i:=5) scζJ.nd rfl (Or.inl rfl) (ζp ζK (ζf (ζ12 K rfl) (by rfl) T.n_sum Boot.«sum» (ζ0 (pv 0) ζ3)) (ζp ζl3 ζ8 ζ8)))
   (ζ2 (ζh (i:=6) scζJ.nd rfl (Or.inr rfl) (ζa (okζF T) (hr.mono (by decide)) rfl T.mζF T.fζF.kp T.bζF .nil ζw (ζ0 (pv 1) (ζ0 (pv 2) (ζ0 (pv 5) ζ3)))))
   (ζ2 (ζh1 (ζj ζp10 (pv 6) ζ67 (ζq _))
   (ζ7 (ζl ζw4))
   ζo)
   (ζ2 (ζh (i:=7) scζJ.nd rfl (Or.inl rfl) (ζa (okζn T) (hr.mono (by decide)) rfl T.mζn T.fζn.kp T.bζn .nil ζw (ζ0 (pv 3) (ζ0 (pv 4) ζ3))))
   (ζ2 (ζh (i:=8) scζJ.nd rfl (Or.inl rfl) (ζa (okζl T) (hr.mono (by decide)) rfl T.mζl T.fζl.kp T.bζl .nil ζw (ζ0 (pv 3) (ζ0 (pv 4) (ζ0 (pv 7) ζ3)))))
   (ζ2 (ζh1 (PW.pt (ζ17 (ζj (ζm3 K (hu8 hr)) (ζa (okζo T) (hr.mono (by decide)) rfl T.mζo T.fζo.kp T.bζo .nil ζw (ζ0 (pv 3) (ζ0 (pv 4) (ζ0 (pv 7) ζ3)))) (ζe1 ζ3) (ζq _)) (ζe3 (ζr2 (ζ82 (ζa (okζp T) (hr.mono (by decide)) rfl T.mζp T.fζp.kp T.bζp .nil ζw (ζ0 (pv 3) (ζ0 (pv 4) (ζ0 (pv 7) ζ3)))))))))
   (ζ7 (ζl ζw4))
   ζo)
   (ζ2 (ζh1 (ζr2 (ζ82 (ζa (okζI T) (hr.mono (by decide)) rfl T.mζI T.fζI.kp T.bζI .nil ζw (ζ0 (pv 3) (ζ0 (pv 4) (ζ0 (pv 6) (ζ0 (pv 8) ζ3)))))))
   (ζ7 (ζl ζw4))
   ζo)
   (ζ2 (ζ27 (i:=9) rfl scζJ.nd rfl rfl (sc0:=ζ5 sζJ) (N0:=["script","places","ties","web","lengths","total","tree","best","least","more","ranks","longer","marks","far"]) (N':=["length"]) (o:=1) (fr:=[]) ⟨rfl,by decide +kernel,by decide +kernel,by decide +kernel,rfl,by decide +kernel⟩ (ζL K (pv 4)) (ζB (by decide)) (fun _ _ _ _=>(ζe (i:=0) (show List.Nodup (["length"]:List Str) by decide +kernel) rfl (Or.inl rfl))) (fun _ _ _ _=>ζP) (fun _ _ _ _=>(ζp ζf1 (pv 0) ζ8)))
   (ζ2 (ζh (i:=10) scζJ.nd rfl (Or.inl rfl) (ζa (okζu T hB) (hr.mono (by decide)) rfl T.mζu T.fζu.kp T.bζu .nil ζw (ζ0 (pv 3) (ζ0 (pv 4) (ζ0 ζ8 ζ3)))))
   (ζ2 (ζ27 (i:=11) rfl scζJ.nd rfl rfl (sc0:=ζ5 sζJ) (N0:=["script","places","ties","web","lengths","total","tree","best","least","more","ranks","longer","marks","far"]) (N':=["length","one","places"]) (o:=2) (fr:=[1]) ⟨rfl,by decide +kernel,by decide +kernel,by decide +kernel,rfl,by decide +kernel⟩ (ζL K (pv 10)) (ζi3 (ζ21 (by decide) (ζ21 (by decide) ζj3))) (fun _ _ _ _=>(ζj1 (n:=2) K rfl (ζt (ζe (i:=0) (show List.Nodup (["length","one","places"]:List Str) by decide +kernel) rfl (Or.inl rfl)) (ζt (ζe (i:=1) (show List.Nodup (["length","one","places"]:List Str) by decide +kernel) rfl (Or.inl rfl)) ζi1)))) (fun _ _ _ _=>ζP) (fun _ _ _ _=>(ζV (ζ0 (ζp ζf1 (pv 0) (ζp ζS1 ζ8 (ζp ζf2 (pv 2) ζ8))) (ζ0 (pv 1) ζ3)))))
   (ζ2 (ζh1 (PW.pt (ζ17 (ζj (ζm3 K (hu8 hr)) (ζa (okζu T hB) (hr.mono (by decide)) rfl T.mζu T.fζu.kp T.bζu .nil ζw (ζ0 (pv 3) (ζ0 (pv 9) (ζ0 ζ8 ζ3)))) (pv 11) (ζq _)) (ζe3 (ζj (ζm3 K (hu8 hr)) (ζA (ζc K) (pv 10) ζ8 (fun _ _=>rfl)) (ζV (ζ0 (pv 8) (ζ0 (pv 7) ζ3))) (ζq _)))))
   (ζ7 (ζl ζw4))
   ζo)
   (ζ2 (ζ27 (i:=12) rfl scζJ.nd rfl rfl (sc0:=ζ5 sζJ) (N0:=["script","places","ties","web","lengths","total","tree","best","least","more","ranks","longer","marks","far"]) (N':=["tie","tree"]) (o:=1) (fr:=[6]) ⟨rfl,by decide +kernel,by decide +kernel,by decide +kernel,rfl,by decide +kernel⟩ (ζH rfl T.n_range (ζ0 (ζf (ζi K) (by rfl) T.n_len Boot.«len» (ζ0 (pv 2) ζ3)) ζ3)) (ζB (by decide)) (fun _ _ _ _=>(ζe (i:=0) (show List.Nodup (["tie","tree"]:List Str) by decide +kernel) rfl (Or.inl rfl))) (fun _ _ _ _=>ζP) (fun _ _ _ _=>(ζg ζA7 (by rfl) T.n_int Boot.«int» (ζ0 (ζk1 (ζX11 K) (pv 0) (pv 1) rfl) ζ3))))
   (ζ2 (ζh (i:=13) scζJ.nd rfl (Or.inl rfl) (ζa (okζr T) (hr.mono (by decide)) rfl T.mζr T.fζr.kp T.bζr .nil ζw (ζ0 (pv 3) (ζ0 (pv 6) ζ3))))
   (ζ2 (ζh1 (ζj (ζm3 K (hu8 hr)) (pv 13) (ζa (okζn T) (hr.mono (by decide)) rfl T.mζn T.fζn.kp T.bζn .nil ζw (ζ0 (pv 3) (ζ0 (pv 12) ζ3))) (ζq _))
   (ζ7 (ζl ζw4))
   ζo)
   (ζ2 (ζh1 (ζj ζ95 (ζa (okζq T) (hr.mono (by decide)) rfl T.mζq T.fζq.kp T.bζq .nil ζw (ζ0 (pv 3) (ζ0 (pv 6) (ζ0 (pv 13) ζ3)))) (ζp ζf2 (ζp ζf2 (pv 1) ζ8) (ζa (okζl T) (hr.mono (by decide)) rfl T.mζl T.fζl.kp T.bζl .nil ζw (ζ0 (pv 3) (ζ0 (pv 12) (ζ0 (pv 13) ζ3))))) (ζq _))
   (ζ7 (ζl ζw4))
   ζo)
   (ζ7 (ζl (ζk1 (ζS7 K (hu8 hr)) (ζa (okζn T) (hr.mono (by decide)) rfl T.mζn T.fζn.kp T.bζn .nil ζw (ζ0 (pv 3) (ζ0 (ζp ζV11 (ζe1 (ζ0 ζ8 ζ3)) (ζf (ζi K) (by rfl) T.n_len Boot.«len» (ζ0 (pv 2) ζ3))) ζ3))) (ζa (okζh T) (hr.mono (by decide)) rfl T.mζh T.fζh.kp T.bζh .nil ζw (ζ0 (pv 3) ζ3)) (ζq _))))))))))))))))))))),?_⟩
  have two:2<=sizeLine:=by decide
  have hsum:∀ l X,smW l X=sumL l X:=fun _ _=>rfl
  refine⟨_,rfl,a,ns,10,20,rfl,hS,hn63,by decide,by decide,by decide,by decide,fun r l n xs ps H1 s1 hr1 hl0 hl1 hP hG hnm hcc=>?_⟩
  refine⟨r,_,rfl,SqT.of hr1,rfl,_,_,rfl,_,_,rfl,rfl,?_⟩
  have hlx:=hP.1
  obtain⟨g1,g2,g3,g4⟩:=id hG
  refine⟨_,rfl,_,rfl,_,rfl,_,rfl,l,xs,rfl,.inl (SqL.of hl1),a,ns,xs.length,rfl,s1.seq hS,hn63,by omega,fun b ls H2 s2 _ hb hll hTl=>?_⟩
  have hl:ls.length=ps.length:=by omega
  refine⟨n,l,b,xs,ps,ls,rfl,SqL.of (s2 _ _ hl1),hP.same s2,SqL.of hb,hG,hl,hTl,fun H3 s3=>?_⟩
  have s13:=s2.trans s3
  refine⟨n,ps,ls,rfl,hG,hl,hTl,fun tA x LA H4 s4 ha0 htA hW hLA=>?_⟩
  refine⟨tA,_,rfl,SqT.of htA,rfl,_,_,rfl,_,_,rfl,rfl,?_⟩
  dsimp only [List.set]
  have s14:=s13.trans s4
  have sH4:=s1.trans s14
  have hl4:=s14 _ _ hl1
  have hP4:=hP.same s14
  refine⟨_,rfl,a,ns,rfl,sH4.seq hS,_,_,rfl,rfl,⟨by decide,by decide⟩,_,_,rfl,rfl,(by show(0:Int)<10 ^ Int.toNat 60;decide),?_⟩
  refine nm ?_
  dsimp only [List.set]
  refine⟨_,rfl,_,rfl,_,rfl,n,l,_,xs,ps,rfl,SqL.of hl4,hP4,hG,fun H5 s5=>?_,fun ta T1 H5 s5 hta hT=>?_⟩
  ·refine nm ?_
   dsimp only [List.set]
   refine⟨_,rfl,rfl,_,rfl,?_⟩
   refine iteT ?_
   exact k _
  refine nm ?_
  dsimp only [List.set]
  refine⟨_,rfl,rfl,_,rfl,?_⟩
  refine iteF ?_
  show(_:Prop)
  refine ζa5 ?_
  change tSeq _ _ _ [some (.ref a),some (.int n),some (.ref l),some (.ref x),some (.ref LA),some (.int (ns.sum % 10 ^ Int.toNat 60)),some (.ref ta),none,none,none,none,none,none,none] H5
  have hW5:=hW.same s5
  have hL5:=s5 _ _ hLA
  refine⟨_,rfl,_,rfl,x,LA,false,n,ps,ls,rfl,hW5,hG,SqL.of hL5,hl,fun B ba H6 hB1 hB2 s6 hba=>?_,fun h=>absurd ((ζy6 hG hl).mp ⟨T1,hT⟩) fun⟨W,hW⟩=>h W hW⟩
  refine nm ?_
  dsimp only [List.set]
  have hF:=ζD9 hG hl hB1 hB2
  have hBT:=hF.1
  have hmin:=((ζz6 hG hl).mp hB1).2
  have s56:=s5.trans s6
  refine⟨_,rfl,_,rfl,_,rfl,x,LA,ba,n,ps,false,true,ls,B,rfl,hW.same s56,g3,SqL.of (s56 _ _ hLA),SqT.of hba,hl,hBT.1,fun H7 s7=>?_⟩
  rw[hsum]
  refine nm ?_
  dsimp only [List.set]
  have s47:=s56.trans s7
  have hgn:gns n ps ls B=[]:=(ζo6 hG hBT).mpr hmin
  refine⟨_,rfl,_,rfl,_,rfl,x,LA,ba,n,ps,false,true,ls,B,rfl,hW.same s47,hG,SqL.of (s47 _ _ hLA),SqT.of (s7 _ _ hba),fun _ _ r2 fs H8 s8 hr0 hr2 hF2=>?_,fun z=>absurd hl z,fun _ z=>absurd hBT z⟩
  refine⟨ζζj _,fun ee hee=>?_⟩
  have w2:=same_at (o:=.lst []) hee
  refine⟨2,_,r2,ee,rfl,rfl,by decide,ζO4 (SqL.of (w2 _ _ hr2)) (SqL.of ζ1) (hF2.same w2) PairsV.nil,_,rfl,?_⟩
  rw[ζζd hgn]
  refine iteF ?_
  have s48:=s47.trans (s8.trans w2)
  have s68:=s7.trans (s8.trans w2)
  generalize upd H8 ee (.lst [])=H9 at *
  refine⟨_,rfl,_,rfl,_,rfl,x,LA,ba,n,ps,false,true,ls,B,rfl,hW.same s48,hG,SqL.of (s48 _ _ hLA),SqT.of (s68 _ _ hba),fun _ _ H10 s10=>?_,fun z=>absurd hl z,fun _ z=>absurd hBT z⟩
  rw[ζζd hgn]
  refine⟨_,rfl,?_⟩
  refine iteF ?_
  show(_:Prop)
  refine ζa5 ?_
  have s4A:=s48.trans s10
  have s6A:=s68.trans s10
  have s5A:=s6.trans s6A
  refine⟨_,rfl,_,rfl,_,rfl,_,rfl,x,LA,ta,n,sumL ls B,ps,ls,T1,rfl,hW.same s4A,hG,hnm,by omega,s4A _ _ hLA,hl,s5A _ _ hta,hT,⟨B,hBT,rfl⟩,hmin,fun H11 s11=>?_⟩
  refine⟨_,rfl,?_⟩
  refine iteF ?_
  show(_:Prop)
  refine ζa5 ?_
  have s4B:=s4A.trans s11
  have hLB:=s4B _ _ hLA
  refine⟨_,rfl,LA,rfl,⟨_,SqL.of hLB⟩,ζm1 (K:=K) (a:=LA) (xs:=IL ls) (fun i ws H12=>H12=H11/\ws=IL ((ls.take i).map fun z=>z+5)/\i<=ls.length) ⟨rfl,rfl,ζζj _⟩ (ζk (by rw[ζ4];omega)) (fun i ws H12 hi ⟨e,ew,hi2⟩=>⟨e ▸ SqL.of hLB,by rw[ew,ζ4,ζζa,ζζv];omega⟩) ?_ ?_⟩
  ·rintro i v ws H12 hi ⟨rfl,rfl,hil⟩ S hSS
   obtain⟨z,rfl,hz⟩:=ζa1 hi
   refine nm ?_
   refine⟨_,rfl,_,_,rfl,rfl,?_⟩
   refine hSS _ _ ⟨rfl,?_,(ζζ4.mp hz).1⟩
   rw[ζζK,hz,ζζA]
   exact(ζF _ _).symm
  rintro ws H12 ⟨rfl,rfl,_⟩ mA hmA
  rw[ζ4,ζζH]
  have w3:=same_at (o:=.lst (IL (ls.map fun z=>z+5))) hmA
  have kM:(upd H12 mA (.lst (IL (ls.map fun z=>z+5)))) mA=some (.lst (IL (ls.map fun z=>z+5))):=ζ1
  refine nm ?_
  dsimp only [List.set]
  have s4C:=s4B.trans w3
  have s5C:=s5A.trans (s11.trans w3)
  have s6C:=s6A.trans (s11.trans w3)
  have sHC:=sH4.trans s4C
  change tSeq _ _ _ [some (.ref a),some (.int n),some (.ref l),some (.ref x),some (.ref LA),some (.int (ns.sum % 10 ^ Int.toNat 60)),some (.ref ta),some (.ref ba),some (.int (sumL ls B)),some (.ref mA),none,none,none,none] (upd H12 mA (.lst (IL (ls.map fun z=>z+5))))
  generalize upd H12 mA (.lst (IL (ls.map fun z=>z+5)))=HC at *
  have hWC:=hW.same s4C
  have hLC:=s4C _ _ hLA
  have hlC:=s4C _ _ hl4
  have htC:=s5C _ _ hta
  have hbC:=s6C _ _ hba
  have tabC:TabR HC Pt:=hTb.same sHC
  clear hLB s4B s4A s6A s5A
  refine⟨_,rfl,_,rfl,x,LA,n,12,ps,false,ls,rfl,hWC,hG,SqL.of hLC,hl,by decide,by decide,tabC,fun fs L r3 HD hrk hBf sxD tabD hr30 hr3D=>?_⟩
  refine nm ?_
  dsimp only [List.set]
  have hWD:=hWC.samex tabC sxD
  have hLD:=sxD _ _ (tabC.ne hLC (by simp)) hLC
  have hlD:=sxD _ _ (tabC.ne hlC (by simp)) hlC
  have htD:=sxD _ _ (tabC.ne htC (by simp)) htC
  have hbD:=sxD _ _ (tabC.ne hbC (by simp)) hbC
  have kMD:=sxD _ _ (tabC.ne kM (by simp)) kM
  have hfl:fs.length=L.length:=hBf.1
  have hRk:=ζo12 hBf
  refine⟨_,rfl,r3,rfl,⟨_,SqL.of hr3D⟩,ζm1 (K:=K) (a:=r3) (xs:=fs) (fun i zs H7=>Same HD H7/\i<=fs.length/\Bears (RkV H7) zs ((L.take i).map fun T=>(sumL ls T+5 * (n - 1),T))) ⟨Same.refl _,ζζj _,⟨rfl,fun i l e=>by simp at e⟩⟩ (ζk (by have:=hrk.few;omega))
   (fun i zs H7 hi ⟨e,hi2,ey⟩=>⟨SqL.of (e _ _ hr3D),by rw[ey.1,ζζa,ζζv];omega⟩) ?_ ?_⟩
  ·rintro i v zs H7 hi ⟨s7',hil,hR⟩ S hSS
   obtain⟨W,hWi,tp,tr,rfl,q1,q2⟩:=hBf.at hi
   have hil':i<fs.length:=(ζζ4.mp hi).1
   refine⟨tp,_,rfl,SqT.of (s7' _ _ q1),rfl,_,_,rfl,_,_,rfl,rfl,?_⟩
   refine⟨_,rfl,_,rfl,_,_,rfl,rfl,_,_,rfl,rfl,.inl ⟨by decide,by decide⟩,_,_,rfl,rfl,_,rfl,two,fun pa hpa=>?_⟩
   have u9:=same_at (o:=.tup [.int (sumL ls W+5 * (n - 1)),.ref tr]) hpa
   refine hSS _ _ ⟨s7'.trans u9,hil',?_⟩
   rw[ζζK,hWi,ζζA]
   exact(hR.imp fun _ _ h=>h.same u9).snoc ⟨pa,tr,rfl,ζ1,u9 _ _ (s7' _ _ q2)⟩
  rintro zs H7 ⟨s7',_,hR⟩ gA hgA
  rw[hfl,ζζH]at hR
  have u8:=same_at (o:=.lst zs) hgA
  have sDE:=s7'.trans u8
  have hRE:Bears (RkV (upd H7 gA (.lst zs))) zs (L.map fun T=>(sumL ls T+5 * (n - 1),T)):=hR.imp fun _ _ h=>h.same u8
  have kG:(upd H7 gA (.lst zs)) gA=some (.lst zs):=ζ1
  refine nm ?_
  dsimp only [List.set]
  change tSeq _ _ _ [some (.ref a),some (.int n),some (.ref l),some (.ref x),some (.ref LA),some (.int (ns.sum % 10 ^ Int.toNat 60)),some (.ref ta),some (.ref ba),some (.int (sumL ls B)),some (.ref mA),some (.ref r3),some (.ref gA),none,none] (upd H7 gA (.lst zs))
  generalize upd H7 gA (.lst zs)=HE at *
  have tabE:=tabD.same sDE
  refine⟨_,rfl,_,rfl,x,mA,n,12,ps,false,ls.map fun z=>z+5,rfl,hWD.same sDE,hG,SqL.of (sDE _ _ kMD),by rw[ζζa];exact hl,by decide,by decide,tabE,fun fs2 M r4 HF hrk2 hBf2 sxF tabF hr40 hr4F=>?_⟩
  have eM:=ζJ8 (ζK8 hl hrk2) hrk
  subst eM
  have fwd:∀ {b:Addr} {o:HO},HD b=some o->(∀ d,o≠.tbl d)->HF b=some o:=fun {b o} h ho=>sxF _ _ (tabE.ne (sDE _ _ h) ho) (sDE _ _ h)
  have hRF:Bears (RkV HF) zs (M.map fun T=>(sumL ls T+5 * (n - 1),T)):=hRE.imp fun _ _ h=>RkV.samex tabE sxF h
  refine⟨_,rfl,3,_,r4,gA,rfl,rfl,by decide,ζZ10 (SqL.of hr4F) (SqL.of (sxF _ _ (tabE.ne kG (by simp)) kG)) (ζo12 hBf2) hRF,_,rfl,?_⟩
  rw[ζζd (ζζ0g fun T hT=>by rw[ζC2 5 hl (hrk.tr T hT)])]
  refine iteF ?_
  have hL0:=ζL8 (by decide) hrk hF
  obtain⟨v,hv,tp,tr,rfl,q1,q2⟩:=hBf.2 0 B hL0
  have hr3F:=fwd hr3D (by simp)
  refine⟨_,rfl,r3,_,0,.ref tp,rfl,rfl,SqL.of hr3F,ζv (n:=0) rfl hv,_,rfl,_,rfl,two,fun pa hpa=>?_⟩
  have u9:=same_at (o:=.tup [.int (sumL ls B),.ref ba]) hpa
  refine⟨2,_,tp,pa,rfl,rfl,by decide,ζ011 (x:=(sumL ls B,B)) (y:=(sumL ls B,B)) ⟨tp,tr,rfl,u9 _ _ (fwd q1 (by simp)),u9 _ _ (fwd q2 (by simp))⟩ ⟨pa,ba,rfl,ζ1,u9 _ _ (fwd hbD (by simp))⟩,_,rfl,?_⟩
  rw[ζζd rfl]
  refine iteF ?_
  show(_:Prop)
  refine ζa5 ?_
  have hlF:=u9 _ _ (fwd hlD (by simp))
  have htF:=u9 _ _ (fwd htD (by simp))
  have hWF:=((hWD.same sDE).samex tabE sxF).same u9
  clear hWD hLD hlD htD hbD kMD hRk hRE hRF fwd q1 q2 hr3F
  generalize upd HF pa (.tup [.int (sumL ls B),.ref ba])=HG at *
  refine⟨_,rfl,l,xs,rfl,.inl (SqL.of hlF),_,rfl,by omega,by omega,ζQ2 (lo:=0) (n:=(xs.length:Int).toNat) (fun i zs H2=>H2=HG/\zs=IL ((rgL i).map fun z=>if z∈T1 then 1 else 0)) ⟨rfl,rfl⟩ (ζk (by omega)) (fun i zs H2 _ ⟨_,e⟩=>by rw[e,ζ4,ζζa,ζM];exact ζζ5 _) ?_ ?_⟩
  ·rintro i zs H2 hi ⟨rfl,rfl⟩ S hSS
   refine nm ?_
   refine⟨_,rfl,_,rfl,ta,_,rfl,.inr (SqT.of htF),rfl,ζd1 _,.inr ⟨_,rfl,?_⟩⟩
   refine hSS _ _ ⟨rfl,?_⟩
   rw[ζx1,ζO8,ζζA,Int.zero_add]
   show IL _++[V.int (if decide ((i:Int)∈T1)=true then 1 else 0)]=IL (_++[if (i:Int)∈T1 then 1 else 0])
   rw[ζF]
   congr 3
   simp only [ζζ1r]
  rintro zs H2 ⟨rfl,rfl⟩ kA hkA
  have ek:(rgL (xs.length:Int).toNat).map (fun z=>if z∈T1 then (1:Int) else 0)=mkL ps.length T1:=by rw[ζζC,hlx];rfl
  rw[ek]
  have v1:=same_at (o:=.lst (IL (mkL ps.length T1))) hkA
  have kK:(upd H2 kA (.lst (IL (mkL ps.length T1)))) kA=some (.lst (IL (mkL ps.length T1))):=ζ1
  refine nm ?_
  dsimp only [List.set]
  change tSeq _ _ _ [some (.ref a),some (.int n),some (.ref l),some (.ref x),some (.ref LA),some (.int (ns.sum % 10 ^ Int.toNat 60)),some (.ref ta),some (.ref ba),some (.int (sumL ls B)),some (.ref mA),some (.ref r3),some (.ref gA),some (.ref kA),none] (upd H2 kA (.lst (IL (mkL ps.length T1))))
  generalize upd H2 kA (.lst (IL (mkL ps.length T1)))=HK at *
  have hkl:=ζv10 ps.length T1
  refine⟨_,rfl,_,rfl,x,ta,n,ps,T1,rfl,hWF.same v1,hG,.inl (v1 _ _ htF),fun _ F D hF1 hDa hD hFp fA HL sL hfA=>?_,fun h=>absurd hT h⟩
  refine nm ?_
  dsimp only [List.set]
  have hFf:=ζW10 hG hT hDa hD hFp hF1
  have sKL:=v1.trans sL
  refine⟨_,rfl,_,rfl,_,rfl,x,kA,false,n,ps,mkL ps.length T1,rfl,hWF.same sKL,hG,SqL.of (sL _ _ kK),hkl,fun B2 b2 HM hB1 hB2 sM hb2=>?_,fun h=>absurd ((ζy6 hG hkl).mp ⟨T1,hT⟩) fun⟨W,hW⟩=>h W hW⟩
  have eF:=(ζD9 hG hkl hB1 hB2).uniq hFf
  subst eF
  refine⟨1,_,fA,b2,rfl,rfl,by decide,ζs1 (SqT.of (sM _ _ hfA)) (SqT.of hb2),_,rfl,?_⟩
  rw[ζζd rfl]
  refine iteF ?_
  show(_:Prop)
  refine ζa5 ?_
  have sKM:=sKL.trans sM
  refine⟨_,rfl,_,rfl,_,rfl,x,ta,fA,n,ps,true,true,T1,B2,rfl,hWF.same sKM,hG,SqT.of (sKM _ _ htF),SqT.of (sM _ _ hfA),fun _ _ HN sN=>?_,fun h=>absurd ⟨hT,hF1⟩ h⟩
  have sKN:=sKM.trans sN
  refine⟨_,rfl,_,_,rfl,rfl,_,rfl,_,rfl,_,rfl,x,kA,fA,n,ps,false,true,mkL ps.length T1,B2,rfl,hWF.same sKN,g3,SqL.of ((sL.trans (sM.trans sN)) _ _ kK),SqT.of ((sM.trans sN) _ _ hfA),hkl,hF1.1,fun HO sO=>?_⟩
  refine⟨_,_,rfl,rfl,rfl,_,rfl,?_⟩
  rw[hsum,ζI]
  refine itn (ζV10 hT hF1) ?_
  show(_:Prop)
  refine ζa5 ?_
  have sKO:=sKN.trans sO
  refine⟨_,rfl,Nat.succ_le_of_lt (by decide),fun zA hzA=>?_⟩
  have v2:=same_at (o:=.lst [.int 0]) hzA
  have hlO:=(sKO.trans v2) _ _ hlF
  refine⟨_,rfl,l,xs,rfl,.inl (SqL.of hlO),zA,_,[.int 0],rfl,rfl,ζ1,by omega,by omega,by rw[hlx];show 1 * _<=_;have:100<=sizeLine:=(by decide);omega,fun yA hyA=>?_⟩
  have er:(List.replicate (xs.length:Int).toNat [V.int 0]).flatten=IL (List.replicate ps.length 0):=by
   rw[ζζC,hlx,ζj5]
  rw[er]
  have v3:=same_at (o:=.lst (IL (List.replicate ps.length 0))) hyA
  have sKY:=sKO.trans (v2.trans v3)
  have hzl:(List.replicate ps.length (0:Int)).length=ps.length:=ζζ01
  refine⟨x,yA,false,n,ps,List.replicate ps.length 0,rfl,hWF.same sKY,hG,SqL.of ζ1,hzl,fun B3 b3 HP hC1 hC2 sP hb3=>?_,fun h=>absurd ((ζy6 hG hzl).mp ⟨T1,hT⟩) fun⟨W,hW⟩=>h W hW⟩
  refine⟨_,rfl,x,n,ps,rfl,hWF.same (sKY.trans sP),hG,fun hf r9 HQ sQ hr9=>?_,fun hlt=>absurd hlt (by have:=(ζ34 hG hT).2.1;omega)⟩
  refine⟨1,_,b3,r9,rfl,rfl,by decide,ζs1 (SqT.of (sQ _ _ hb3)) (SqT.of hr9),?_⟩
  rw[ζζd ((ζD9 hG hzl hC1 hC2).uniq (ζR10 hG hf))]
  exact k _
end
end My
namespace My
open PySem L2
theorem law_binds {K:PySem.W.Frag} {f:Addr} {fd:FuncData} (F:Fun K "law" "law" sζJ f fd) (s:Shared) (u:Value):BindsTo s fd ⟨[u],[]⟩ [("script",u)]:=by
 obtain⟨oc,od,kV,doc,pm,an,cdv,ct,osl,rfl,lk,hcd⟩:=F.ex
 exact .of_eq rfl
end My
open PySem PySem.W PyProof.Rows
set_option maxRecDepth 100000 in
set_option maxHeartbeats 0 in
theorem PySem.Challenge.cw_spanrow_k95_whole_cheapest_and_papers_holds : PySem.Challenge.rw_spanrow_k95_whole_cheapest_and_papers.Holds := by
 w_on;o_law;k_head;(case hw=>w_witness2)
 k_fill
 refine L2.walk_ofT (l:=PySem.Challenge.rw_spanrow_k95_whole_cheapest_and_papers) (n:=63) (k:=12) (x:="script") (CX:=L2.CX0) (sp:=fun K=>My.spζJ K 315) (c:=319) (Pt:=315) rfl (by decide) rfl ⟨rfl,by decide,by decide⟩ (fun w h Y=>⟨PySem.W.km_in_of Y,PySem.W.km_tabs_of Y 315 (ζζ1.mpr rfl)⟩) ?C ?P ?F (fun _ H a ns hl hO hS=>⟨a,ns,rfl,hS,hl,⟨#[],hO.1,trivial,.inl rfl⟩,fun _=>rfl⟩) (fun _ _ _ _ z=>z)
 case C=>intro w;kernel_rfl
 case P=>intro w;kernel_rfl
 case F =>
  intro w mg fa h KX G hmg
  obtain⟨aζ0,dζ0,mζ0,fζ0⟩:My.FX (L2.KOf KX) mg "is_tie" "is_tie" My.sζ0:=by dsimp only [L2.KOf];refine' My.fx_mk KX G ?a ?l ?c ?k;case a | l | c | k=>k_is
  obtain⟨aζ1,dζ1,mζ1,fζ1⟩:My.FX (L2.KOf KX) mg "refuse_bad_web" "refuse_bad_web" My.sζ1:=by dsimp only [L2.KOf];refine' My.fx_mk KX G ?a ?l ?c ?k;case a | l | c | k=>k_is
  obtain⟨aζ3,dζ3,mζ3,fζ3⟩:My.FX (L2.KOf KX) mg "refuse_bad_row" "refuse_bad_row" My.sζ3:=by dsimp only [L2.KOf];refine' My.fx_mk KX G ?a ?l ?c ?k;case a | l | c | k=>k_is
  obtain⟨aζ4,dζ4,mζ4,fζ4⟩:My.FX (L2.KOf KX) mg "all_ties" "all_ties" My.sζ4:=by dsimp only [L2.KOf];refine' My.fx_mk KX G ?a ?l ?c ?k;case a | l | c | k=>k_is
  obtain⟨aζ5,dζ5,mζ5,fζ5⟩:My.FX (L2.KOf KX) mg "ties_beside" "ties_beside" My.sζ5:=by dsimp only [L2.KOf];refine' My.fx_mk KX G ?a ?l ?c ?k;case a | l | c | k=>k_is
  obtain⟨aζ6,dζ6,mζ6,fζ6⟩:My.FX (L2.KOf KX) mg "ties_without" "ties_without" My.sζ6:=by dsimp only [L2.KOf];refine' My.fx_mk KX G ?a ?l ?c ?k;case a | l | c | k=>k_is
  obtain⟨aζ7,dζ7,mζ7,fζ7⟩:My.FX (L2.KOf KX) mg "is_set" "is_set" My.sζ7:=by dsimp only [L2.KOf];refine' My.fx_mk KX G ?a ?l ?c ?k;case a | l | c | k=>k_is
  obtain⟨aζ8,dζ8,mζ8,fζ8⟩:My.FX (L2.KOf KX) mg "made_set" "made_set" My.sζ8:=by dsimp only [L2.KOf];refine' My.fx_mk KX G ?a ?l ?c ?k;case a | l | c | k=>k_is
  obtain⟨aζ9,dζ9,mζ9,fζ9⟩:My.FX (L2.KOf KX) mg "merged_marks" "merged_marks" My.sζ9:=by dsimp only [L2.KOf];refine' My.fx_mk KX G ?a ?l ?c ?k;case a | l | c | k=>k_is
  obtain⟨aζa,dζa,mζa,fζa⟩:My.FX (L2.KOf KX) mg "piece_marks" "piece_marks" My.sζa:=by dsimp only [L2.KOf];refine' My.fx_mk KX G ?a ?l ?c ?k;case a | l | c | k=>k_is
  obtain⟨aζb,dζb,mζb,fζb⟩:My.FX (L2.KOf KX) mg "pieces_of" "pieces_of" My.sζb:=by dsimp only [L2.KOf];refine' My.fx_mk KX G ?a ?l ?c ?k;case a | l | c | k=>k_is
  obtain⟨aζc,dζc,mζc,fζc⟩:My.FX (L2.KOf KX) mg "is_joined" "is_joined" My.sζc:=by dsimp only [L2.KOf];refine' My.fx_mk KX G ?a ?l ?c ?k;case a | l | c | k=>k_is
  obtain⟨aζd,dζd,mζd,fζd⟩:My.FX (L2.KOf KX) mg "refuse_parted" "refuse_parted" My.sζd:=by dsimp only [L2.KOf];refine' My.fx_mk KX G ?a ?l ?c ?k;case a | l | c | k=>k_is
  obtain⟨aζe,dζe,mζe,fζe⟩:My.FX (L2.KOf KX) mg "is_tree" "is_tree" My.sζe:=by dsimp only [L2.KOf];refine' My.fx_mk KX G ?a ?l ?c ?k;case a | l | c | k=>k_is
  obtain⟨aζf,dζf,mζf,fζf⟩:My.FX (L2.KOf KX) mg "refuse_no_tree" "refuse_no_tree" My.sζf:=by dsimp only [L2.KOf];refine' My.fx_mk KX G ?a ?l ?c ?k;case a | l | c | k=>k_is
  obtain⟨aζg,dζg,mζg,fζg⟩:My.FX (L2.KOf KX) mg "grown_tree" "grown_tree" My.sζg:=by dsimp only [L2.KOf];refine' My.fx_mk KX G ?a ?l ?c ?k;case a | l | c | k=>k_is
  obtain⟨aζh,dζh,mζh,fζh⟩:My.FX (L2.KOf KX) mg "least_tree" "least_tree" My.sζh:=by dsimp only [L2.KOf];refine' My.fx_mk KX G ?a ?l ?c ?k;case a | l | c | k=>k_is
  obtain⟨aζi,dζi,mζi,fζi⟩:My.FX (L2.KOf KX) mg "tree_cut" "tree_cut" My.sζi:=by dsimp only [L2.KOf];refine' My.fx_mk KX G ?a ?l ?c ?k;case a | l | c | k=>k_is
  obtain⟨aζj,dζj,mζj,fζj⟩:My.FX (L2.KOf KX) mg "exchanges_of" "exchanges_of" My.sζj:=by dsimp only [L2.KOf];refine' My.fx_mk KX G ?a ?l ?c ?k;case a | l | c | k=>k_is
  obtain⟨aζk,dζk,mζk,fζk⟩:My.FX (L2.KOf KX) mg "exchanged" "exchanged" My.sζk:=by dsimp only [L2.KOf];refine' My.fx_mk KX G ?a ?l ?c ?k;case a | l | c | k=>k_is
  obtain⟨aζl,dζl,mζl,fζl⟩:My.FX (L2.KOf KX) mg "length_of" "length_of" My.sζl:=by dsimp only [L2.KOf];refine' My.fx_mk KX G ?a ?l ?c ?k;case a | l | c | k=>k_is
  obtain⟨aζm,dζm,mζm,fζm⟩:My.FX (L2.KOf KX) mg "cheapest_web" "cheapest_web" My.sζm:=by dsimp only [L2.KOf];refine' My.fx_mk KX G ?a ?l ?c ?k;case a | l | c | k=>k_is
  obtain⟨aζn,dζn,mζn,fζn⟩:My.FX (L2.KOf KX) mg "cheapest_tree" "cheapest_tree" My.sζn:=by dsimp only [L2.KOf];refine' My.fx_mk KX G ?a ?l ?c ?k;case a | l | c | k=>k_is
  obtain⟨aζo,dζo,mζo,fζo⟩:My.FX (L2.KOf KX) mg "gains_of" "gains_of" My.sζo:=by dsimp only [L2.KOf];refine' My.fx_mk KX G ?a ?l ?c ?k;case a | l | c | k=>k_is
  obtain⟨aζp,dζp,mζp,fζp⟩:My.FX (L2.KOf KX) mg "is_cheapest" "is_cheapest" My.sζp:=by dsimp only [L2.KOf];refine' My.fx_mk KX G ?a ?l ?c ?k;case a | l | c | k=>k_is
  obtain⟨aζq,dζq,mζq,fζq⟩:My.FX (L2.KOf KX) mg "differ" "differ" My.sζq:=by dsimp only [L2.KOf];refine' My.fx_mk KX G ?a ?l ?c ?k;case a | l | c | k=>k_is
  obtain⟨aζr,dζr,mζr,fζr⟩:My.FX (L2.KOf KX) mg "far_tree" "far_tree" My.sζr:=by dsimp only [L2.KOf];refine' My.fx_mk KX G ?a ?l ?c ?k;case a | l | c | k=>k_is
  obtain⟨aζs,dζs,mζs,fζs⟩:My.FX (L2.KOf KX) mg "first_of" "first_of" My.sζs:=by dsimp only [L2.KOf];refine' My.fx_mk KX G ?a ?l ?c ?k;case a | l | c | k=>k_is
  obtain⟨aζt,dζt,mζt,fζt⟩:My.FX (L2.KOf KX) mg "firsts_behind" "firsts_behind" My.sζt:=by dsimp only [L2.KOf];refine' My.fx_mk KX G ?a ?l ?c ?k;case a | l | c | k=>k_is
  obtain⟨aζu,dζu,c_lam,mζu,fζu,e_lam,z_lam⟩:My.FXL (L2.KOf KX) mg "ranked" "ranked" My.sζu 315:=by dsimp only [L2.KOf];refine' My.fxl_mk KX G ?a ?l ?c ?k ?z;(case a | l | c | k=>k_is);(case z=>kernel_rfl)
  obtain⟨aζv,dζv,mζv,fζv⟩:My.FX (L2.KOf KX) mg "is_number" "is_number" My.sζv:=by dsimp only [L2.KOf];refine' My.fx_mk KX G ?a ?l ?c ?k;case a | l | c | k=>k_is
  obtain⟨aζw,dζw,mζw,fζw⟩:My.FX (L2.KOf KX) mg "read_number" "read_number" My.sζw:=by dsimp only [L2.KOf];refine' My.fx_mk KX G ?a ?l ?c ?k;case a | l | c | k=>k_is
  obtain⟨aζx,dζx,mζx,fζx⟩:My.FX (L2.KOf KX) mg "read_line" "read_line" My.sζx:=by dsimp only [L2.KOf];refine' My.fx_mk KX G ?a ?l ?c ?k;case a | l | c | k=>k_is
  obtain⟨aζy,dζy,mζy,fζy⟩:My.FX (L2.KOf KX) mg "read_web" "read_web" My.sζy:=by dsimp only [L2.KOf];refine' My.fx_mk KX G ?a ?l ?c ?k;case a | l | c | k=>k_is
  obtain⟨aζz,dζz,mζz,fζz⟩:My.FX (L2.KOf KX) mg "_law_cell" "_law_cell" My.sζz:=by dsimp only [L2.KOf];refine' My.fx_mk KX G ?a ?l ?c ?k;case a | l | c | k=>k_is
  obtain⟨aζA,dζA,mζA,fζA⟩:My.FX (L2.KOf KX) mg "_law_mixed" "_law_mixed" My.sζA:=by dsimp only [L2.KOf];refine' My.fx_mk KX G ?a ?l ?c ?k;case a | l | c | k=>k_is
  obtain⟨aζB,dζB,mζB,fζB⟩:My.FX (L2.KOf KX) mg "_law_draws" "_law_draws" My.sζB:=by dsimp only [L2.KOf];refine' My.fx_mk KX G ?a ?l ?c ?k;case a | l | c | k=>k_is
  obtain⟨aζC,dζC,mζC,fζC⟩:My.FX (L2.KOf KX) mg "_law_ties" "_law_ties" My.sζC:=by dsimp only [L2.KOf];refine' My.fx_mk KX G ?a ?l ?c ?k;case a | l | c | k=>k_is
  obtain⟨aζD,dζD,mζD,fζD⟩:My.FX (L2.KOf KX) mg "_law_web" "_law_web" My.sζD:=by dsimp only [L2.KOf];refine' My.fx_mk KX G ?a ?l ?c ?k;case a | l | c | k=>k_is
  obtain⟨aζE,dζE,mζE,fζE⟩:My.FX (L2.KOf KX) mg "_law_marks" "_law_marks" My.sζE:=by dsimp only [L2.KOf];refine' My.fx_mk KX G ?a ?l ?c ?k;case a | l | c | k=>k_is
  obtain⟨aζF,dζF,mζF,fζF⟩:My.FX (L2.KOf KX) mg "_law_tree_by" "_law_tree_by" My.sζF:=by dsimp only [L2.KOf];refine' My.fx_mk KX G ?a ?l ?c ?k;case a | l | c | k=>k_is
  obtain⟨aζG,dζG,mζG,fζG⟩:My.FX (L2.KOf KX) mg "_law_lengths" "_law_lengths" My.sζG:=by dsimp only [L2.KOf];refine' My.fx_mk KX G ?a ?l ?c ?k;case a | l | c | k=>k_is
  obtain⟨aζH,dζH,mζH,fζH⟩:My.FX (L2.KOf KX) mg "_law_text" "_law_text" My.sζH:=by dsimp only [L2.KOf];refine' My.fx_mk KX G ?a ?l ?c ?k;case a | l | c | k=>k_is
  obtain⟨aζI,dζI,mζI,fζI⟩:My.FX (L2.KOf KX) mg "_law_led_down" "_law_led_down" My.sζI:=by dsimp only [L2.KOf];refine' My.fx_mk KX G ?a ?l ?c ?k;case a | l | c | k=>k_is
  obtain⟨aζJ,dζJ,mζJ,fζJ⟩:My.FX (L2.KOf KX) mg "law" "law" My.sζJ:=by dsimp only [L2.KOf];refine' My.fx_mk KX G ?a ?l ?c ?k;case a | l | c | k=>k_is
  have h_Web:My.CXF (L2.KOf KX) mg "Web" "Web.__init__" My.sζ2 ["places","ties"]:=by
   dsimp only [L2.KOf]
   refine' My.cx_mk KX G ?aC ?a ?i ?l ?c ?k ?pg ?hd ?po ?sa ?mk ?kc ?na
   (case aC=>k_is);(case a=>k_is);(case i=>k_is);(case l=>k_is);(case c=>k_is);(case k=>k_is)
   (case pg=>k_is);(case hd=>k_is);(case po=>k_is);(case sa=>k_is);(case mk=>k_is);(case kc=>k_is)
   (case na=>(intro f hf;simp only [ζζb,List.not_mem_nil,or_false]at hf;rcases hf with rfl | rfl <;> k_is))
  have h_MOST_PLACES:∃ tk,mg "MOST_PLACES"=some (.int 14 tk):=by
   refine' My.const_mk KX G ?a ?b
   (case a=>k_is);(case b=>exact⟨_,rfl⟩)
  have h_MOST_TIES:∃ tk,mg "MOST_TIES"=some (.int 30 tk):=by
   refine' My.const_mk KX G ?a ?b
   (case a=>k_is);(case b=>exact⟨_,rfl⟩)
  have h_FIGURES:∃ tk,mg "FIGURES"=some (.str "0123456789" tk):=by
   refine' My.const_mkS KX G ?a ?b
   (case a=>k_is);(case b=>exact⟨_,rfl⟩)
  have h_MOST_FIGURES:∃ tk,mg "MOST_FIGURES"=some (.int 60 tk):=by
   refine' My.const_mk KX G ?a ?b
   (case a=>k_is);(case b=>exact⟨_,rfl⟩)
  have h_any:mg "any"=none:=by refine' ζζU KX G ?a;case a=>k_is
  have h_enumerate:mg "enumerate"=none:=by refine' ζζU KX G ?a;case a=>k_is
  have h_int:mg "int"=none:=by refine' ζζU KX G ?a;case a=>k_is
  have h_len:mg "len"=none:=by refine' ζζU KX G ?a;case a=>k_is
  have h_list:mg "list"=none:=by refine' ζζU KX G ?a;case a=>k_is
  have h_max:mg "max"=none:=by refine' ζζU KX G ?a;case a=>k_is
  have h_min:mg "min"=none:=by refine' ζζU KX G ?a;case a=>k_is
  have h_range:mg "range"=none:=by refine' ζζU KX G ?a;case a=>k_is
  have h_set:mg "set"=none:=by refine' ζζU KX G ?a;case a=>k_is
  have h_sorted:mg "sorted"=none:=by refine' ζζU KX G ?a;case a=>k_is
  have h_str:mg "str"=none:=by refine' ζζU KX G ?a;case a=>k_is
  have h_sum:mg "sum"=none:=by refine' ζζU KX G ?a;case a=>k_is
  have h_tuple:mg "tuple"=none:=by refine' ζζU KX G ?a;case a=>k_is
  have h_zip:mg "zip"=none:=by refine' ζζU KX G ?a;case a=>k_is
  obtain⟨A_Web,aζ2,dζ2,c_Web,fζ2,cl_Web,k_Web,na_Web⟩:=h_Web
  have T:My.Txt (L2.KOf KX) mg ⟨aζ0,dζ0,aζ1,dζ1,aζ2,dζ2,aζ3,dζ3,aζ4,dζ4,aζ5,dζ5,aζ6,dζ6,aζ7,dζ7,aζ8,dζ8,aζ9,dζ9,aζa,dζa,aζb,dζb,aζc,dζc,aζd,dζd,aζe,dζe,aζf,dζf,aζg,dζg,aζh,dζh,aζi,dζi,aζj,dζj,aζk,dζk,aζl,dζl,aζm,dζm,aζn,dζn,aζo,dζo,aζp,dζp,aζq,dζq,aζr,dζr,aζs,dζs,aζt,dζt,aζu,dζu,aζv,dζv,aζw,dζw,aζx,dζx,aζy,dζy,aζz,dζz,aζA,dζA,aζB,dζB,aζC,dζC,aζD,dζD,aζE,dζE,aζF,dζF,aζG,dζG,aζH,dζH,aζI,dζI,aζJ,dζJ,A_Web⟩:=⟨fζ0,fζ0.binds (fun _ _ _ _ _ _=>My.un2 fun _ _=>rfl),mζ0,fζ1,fζ1.binds (fun _ _ _ _ _ _=>My.un2 fun _ _=>rfl),mζ1,fζ2,fζ2.binds (fun _ _ _ _ _ _=>My.un3 fun _ _ _=>rfl),fζ3,fζ3.binds (fun _ _ _ _ _ _=>My.un2 fun _ _=>rfl),mζ3,fζ4,fζ4.binds (fun _ _ _ _ _ _=>My.un1 fun _=>rfl),mζ4,fζ5,fζ5.binds (fun _ _ _ _ _ _=>My.un2 fun _ _=>rfl),mζ5,fζ6,fζ6.binds (fun _ _ _ _ _ _=>My.un2 fun _ _=>rfl),mζ6,fζ7,fζ7.binds (fun _ _ _ _ _ _=>My.un2 fun _ _=>rfl),mζ7,fζ8,fζ8.binds (fun _ _ _ _ _ _=>My.un2 fun _ _=>rfl),mζ8,fζ9,fζ9.binds (fun _ _ _ _ _ _=>My.un3 fun _ _ _=>rfl),mζ9,fζa,fζa.binds (fun _ _ _ _ _ _=>My.un2 fun _ _=>rfl),mζa,fζb,fζb.binds (fun _ _ _ _ _ _=>My.un2 fun _ _=>rfl),mζb,fζc,fζc.binds (fun _ _ _ _ _ _=>My.un2 fun _ _=>rfl),mζc,fζd,fζd.binds (fun _ _ _ _ _ _=>My.un1 fun _=>rfl),mζd,fζe,fζe.binds (fun _ _ _ _ _ _=>My.un2 fun _ _=>rfl),mζe,fζf,fζf.binds (fun _ _ _ _ _ _=>My.un2 fun _ _=>rfl),mζf,fζg,fζg.binds (fun _ _ _ _ _ _=>My.un3 fun _ _ _=>rfl),mζg,fζh,fζh.binds (fun _ _ _ _ _ _=>My.un1 fun _=>rfl),mζh,fζi,fζi.binds (fun _ _ _ _ _ _=>My.un3 fun _ _ _=>rfl),mζi,fζj,fζj.binds (fun _ _ _ _ _ _=>My.un2 fun _ _=>rfl),mζj,fζk,fζk.binds (fun _ _ _ _ _ _=>My.un4 fun _ _ _ _=>rfl),mζk,fζl,fζl.binds (fun _ _ _ _ _ _=>My.un3 fun _ _ _=>rfl),mζl,fζm,fζm.binds (fun _ _ _ _ _ _=>My.un2 fun _ _=>rfl),mζm,fζn,fζn.binds (fun _ _ _ _ _ _=>My.un2 fun _ _=>rfl),mζn,fζo,fζo.binds (fun _ _ _ _ _ _=>My.un3 fun _ _ _=>rfl),mζo,fζp,fζp.binds (fun _ _ _ _ _ _=>My.un3 fun _ _ _=>rfl),mζp,fζq,fζq.binds (fun _ _ _ _ _ _=>My.un3 fun _ _ _=>rfl),mζq,fζr,fζr.binds (fun _ _ _ _ _ _=>My.un2 fun _ _=>rfl),mζr,fζs,fζs.binds (fun _ _ _ _ _ _ us hl=>match us,hl with | [_,_,_,_,_],_=>rfl),mζs,fζt,fζt.binds (fun _ _ _ _ _ _=>My.un4 fun _ _ _ _=>rfl),mζt,fζu,fζu.binds (fun _ _ _ _ _ _=>My.un3 fun _ _ _=>rfl),mζu,fζv,fζv.binds (fun _ _ _ _ _ _=>My.un1 fun _=>rfl),mζv,fζw,fζw.binds (fun _ _ _ _ _ _=>My.un1 fun _=>rfl),mζw,fζx,fζx.binds (fun _ _ _ _ _ _=>My.un3 fun _ _ _=>rfl),mζx,fζy,fζy.binds (fun _ _ _ _ _ _=>My.un1 fun _=>rfl),mζy,fζz,fζz.binds (fun _ _ _ _ _ _=>My.un2 fun _ _=>rfl),mζz,fζA,fζA.binds (fun _ _ _ _ _ _=>My.un2 fun _ _=>rfl),mζA,fζB,fζB.binds (fun _ _ _ _ _ _=>My.un4 fun _ _ _ _=>rfl),mζB,fζC,fζC.binds (fun _ _ _ _ _ _=>My.un3 fun _ _ _=>rfl),mζC,fζD,fζD.binds (fun _ _ _ _ _ _=>My.un3 fun _ _ _=>rfl),mζD,fζE,fζE.binds (fun _ _ _ _ _ _=>My.un3 fun _ _ _=>rfl),mζE,fζF,fζF.binds (fun _ _ _ _ _ _=>My.un3 fun _ _ _=>rfl),mζF,fζG,fζG.binds (fun _ _ _ _ _ _=>My.un2 fun _ _=>rfl),mζG,fζH,fζH.binds (fun _ _ _ _ _ _=>My.un3 fun _ _ _=>rfl),mζH,fζI,fζI.binds (fun _ _ _ _ _ _=>My.un4 fun _ _ _ _=>rfl),mζI,fζJ,fζJ.binds (fun _ _ _ _ _ _=>My.un1 fun _=>rfl),mζJ,c_Web,cl_Web,k_Web,na_Web _ (by simp),na_Web _ (by simp),h_MOST_PLACES,h_MOST_TIES,h_FIGURES,h_MOST_FIGURES,h_any,h_enumerate,h_int,h_len,h_list,h_max,h_min,h_range,h_set,h_sorted,h_str,h_sum,h_tuple,h_zip⟩
  have e0:=hmg.symm.trans mζJ
  cases e0
  exact⟨dζJ,fun s u=>My.law_binds fζJ s u,fun base _ _ HB=>My.okζJ T ⟨c_lam,e_lam,z_lam,HB,by decide⟩⟩
#print axioms PySem.Challenge.cw_spanrow_k95_whole_cheapest_and_papers_holds
