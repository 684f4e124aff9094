import PyProof.Rows.All
import Wide.All
import OpenK.AllK
import Wide.FinOn
import Lean
import PyProof.EqAt
import PyProof.EqKinds
import PyProof.TupleCall
import PySem.Challenge.RW_spanrow_k91_whole_row_step_by_step
set_option Elab.async false
set_option linter.all false
set_option bootstrap.genMatcherCode false
set_option genSizeOf false
set_option maxRecDepth 100000
namespace PySem.W.Fast
def tw8324464429004224408:=Nat
def tw8896160853579051381:=Nat
def tw11337039917546664250:=Nat
def tw15988270471621020531:=Nat
def tw17009435042967265680:=Nat
def tw5311260812224997774:=Nat
def tw5128717900769375023:=Nat
def tw2108381890809064774:=Nat
def tw11530561272853297131:=Nat
def tw11924281629132878547:=Nat
def tw17175199298906564200:=Nat
def tw11446808272535221351:=Nat
def tw5724700993119841146:=Nat
def tw9860956232318997700:=Nat
def tw4561360740577987609:=Nat
def tw10002812700887651619:=Nat
def tw11432904531531197124:=Nat
def tw18137994919403055310:=Nat
def tw8562096201288728981:=Nat
def tw4494002136249247263:=Nat
def tw2062653385649969835:=Nat
def tw16327399897616488723:=Nat
def tw15890295533589188526:=Nat
def tw6222046836275419832:=Nat
def tw17567174663876407637:=Nat
def tw15978584989026774111:=Nat
def tw10397064911132999523:=Nat
def tw15243437523657494218:=Nat
def tw1386708620825399469:=Nat
def tw9452228244560022689:=Nat
def tw4552417489737167986:=Nat
def tw12177304373383944110:=Nat
def tw17292887710879308962:=Nat
def tw1487400495164542589:=Nat
def tw4076999910034277570:=Nat
def tw12540923529179277623:=Nat
def tw16161590674849740035:=Nat
def tw1466567892793823205:=Nat
def tw15752874937922462784:=Nat
def tw4975022212526830581:=Nat
def tw16708751020273236973:=Nat
def tw4300854916514521429:=Nat
def tw2062882345435963504:=Nat
def tw15379765586863865500:=Nat
def tw15860771903550625747:=Nat
def tw6084143244767254155:=Nat
def tw16187610630281156067:=Nat
def tw15948190023336932883:=Nat
def tw9080268992196234198:=Nat
def tw5638527707848887786:=Nat
def tw7494027728434260354:=Nat
def tw6639378289967699386:=Nat
def tw10881856740014853005:=Nat
def tw15919619653681708965:=Nat
def tw4411698327366949113:=Nat
def tw9870595430138037852:=Nat
def tw17643682089230136631:=Nat
def tw14544693466510202390:=Nat
def tw9026565180002730454:=Nat
def tw12567607347651693645:=Nat
def tw5135098907906169413:=Nat
def tw14302882954729098821:=Nat
def tw2984936713898806593:=Nat
def tw16344552096416841887:=Nat
def tw1043400322709802638:=Nat
def tw6221445109169325473:=Nat
def tw2130890981529962049:=Nat
def tw8502543671330158371:=Nat
def tw17108406475350060929:=Nat
def tw3501281089228023411:=Nat
def tw6120061431312301183:=Nat
def tw17908240993339726777:=Nat
def tw13409036892897337192:=Nat
def tw1646011125751918086:=Nat
def tw5107528203633565858:=Nat
def tw9710348389753382882:=Nat
def tw8204833449795282758:=Nat
def tw7546881499297395181:=Nat
def tw3156769785611728043:=Nat
def tw3706014194486389770:=Nat
def tw13650207183932180446:=Nat
def tw14415076727367412603:=Nat
def tw8610098162165206791:=Nat
def tw14380105993877407637:=Nat
def tw1768508499130879832:=Nat
def tw10148031456835952126:=Nat
def tw4971468072448309607:=Nat
def tw18190743394182218042:=Nat
def tw7657905912825845976:=Nat
def tw4816840482334762358:=Nat
def tw13353600492395669381:=Nat
def tw17151946358295987910:=Nat
def tw5973372633924645890:=Nat
def tw17128475800522242647:=Nat
def tw8110719346231516916:=Nat
def tw10353100117944356699:=Nat
def tw13307170235137626846:=Nat
def tw2112716698634427034:=Nat
def tw12308417176105849145:=Nat
def tw4325288094310035464:=Nat
def tw11486709820858664575:=Nat
def tw6314979404974613579:=Nat
def tw15069123487319070383:=Nat
def tw15838174779927228422:=Nat
def tw17236090917970544494:=Nat
def tw13149399968956254227:=Nat
def tw11281596131918625015:=Nat
def tw14050844362207208309:=Nat
def tw14689289680607665646:=Nat
def tw9226805211740075828:=Nat
def tw1334651908649708782:=Nat
def tw17543825866740308002:=Nat
def tw1599442663751279546:=Nat
def tw18063097584581876424:=Nat
def tw14101444016913842673:=Nat
def tw10130708804263498069:=Nat
def tw14254091724904280547:=Nat
def tw17143076335117585617:=Nat
def tw3715150467189288211:=Nat
def tw17446544800377050265:=Nat
def tw15264268417312150282:=Nat
def tw5742641637426811641:=Nat
def tw12283407437201452108:=Nat
def tw13473067813897984376:=Nat
def tw12911269355498442329:=Nat
def tw16767543305271418062:=Nat
def tw9562145440255986031:=Nat
def tw884255602940317685:=Nat
def tw6583625708355957212:=Nat
def tw7208317102885626537:=Nat
def tw3568198135050385409:=Nat
def tw12168142599591257323:=Nat
def tw8429692462637704560:=Nat
def tw11063597155041293760:=Nat
def tw4577588644712282855:=Nat
def tw763330174649628714:=Nat
def tw11394174586482949322:=Nat
def tw2254004128418205495:=Nat
def tw8564170634978736081:=Nat
def tw312917117369790164:=Nat
def tw3347471404203886186:=Nat
def tw12452554405797799872:=Nat
def tw15822152823101277645:=Nat
def tw3470248586421269190:=Nat
def tw9442113583797920726:=Nat
def tw1264303595589295819:=Nat
def tw9196170264268785225:=Nat
def tw4692074667226755067:=Nat
def tw7390397855264233342:=Nat
def tw2269301709172762252:=Nat
def tw3558389185816585394:=Nat
def tw17714836910343014227:=Nat
def tw16839247681148515558:=Nat
def tw5295057336036113694:=Nat
def tw17804943168035826601:=Nat
def tw15580812356055909757:=Nat
def tw4876572157433819024:=Nat
def tw5964344032672607700:=Nat
def tw10804567170037906663:=Nat
def tw13001575343686991946:=Nat
def tw10670107787951392007:=Nat
def tw17385128707133232117:=Nat
def tw16000790917559698938:=Nat
def tw7938010501291063834:=Nat
def tw866985670651492755:=Nat
def tw17153759389043753121:=Nat
def tw14273759519535107671:=Nat
def tw1116090591061088901:=Nat
def tw6776421800436538028:=Nat
def tw7789931388698942050:=Nat
def tw10555848915912263943:=Nat
def tw2870021705179351275:=Nat
def tw3393151846998876120:=Nat
def tw6362310998021229673:=Nat
def tw6171212710051649840:=Nat
def tw3957933813900154056:=Nat
def tw17289049164308529528:=Nat
def tw11818377183197899418:=Nat
def tw2088631740576902473:=Nat
def tw18027799279027645218:=Nat
def tw18293827648162518137:=Nat
def tw12473415209528279133:=Nat
def tw11144855823324128427:=Nat
def tw10934210371243255859:=Nat
def tw5508611098276040677:=Nat
def tw9533423901193771557:=Nat
def tw16096416041517385959:=Nat
def tw13662172174168301895:=Nat
def tw4660791411439090981:=Nat
def tw15263816062696230510:=Nat
def tw13287482041319378990:=Nat
def tw12392985233612754161:=Nat
def tw12132491141460344241:=Nat
def tw11429421207549673807:=Nat
def tw17413455763160481280:=Nat
def tw1176236459564217143:=Nat
def tw3648446802496135017:=Nat
def tw4906794775841916894:=Nat
def tw18120449018207224632:=Nat
def tw4013103015567505242:=Nat
def tw5522288662597427566:=Nat
def tw8704034520692401363:=Nat
def tw1340123915102669776:=Nat
def tw11542648580325089628:=Nat
def tw983168568153206252:=Nat
def tw8355983723187371867:=Nat
def tw6372209052109954629:=Nat
def tw2341022508169269552:=Nat
def tw18146578489911519876:=Nat
def tw13552543352877841808:=Nat
def tw13344606872894266289:=Nat
def tw13253691457459191616:=Nat
def tw6489621398915542814:=Nat
def tw12215703190062909184:=Nat
def tw6741529652699748259:=Nat
def tw11880225357007404852:=Nat
def tw17799991325064746128:=Nat
def tw15717307612171196005:=Nat
def tw6343996793670240344:=Nat
def tw15122233809485961778:=Nat
def tw11291361419476912885:=Nat
def tw6759278014455620926:=Nat
def tw5561277628427469465:=Nat
def tw2016213434963253720:=Nat
def tw15665269077895714833:=Nat
def tw15984455101444938080:=Nat
def tw13610388026779459633:=Nat
def tw10189565626233220774:=Nat
def tw15406464369190472737:=Nat
def tw6643208720626863762:=Nat
def tw6176833443446240771:=Nat
def tw6019929668179205142:=Nat
def tw1912865265322954557:=Nat
def tw1775907468494479540:=Nat
def tw7859502523354636747:=Nat
def tw473204994156291431:=Nat
def tw3324908589010716806:=Nat
def tw6390469540953124654:=Nat
def tw219427823261291871:=Nat
def tw14170534759400616942:=Nat
def tw6825856920563107166:=Nat
def tw10502174512023740434:=Nat
def tw8795072993524502725:=Nat
def tw576324490026983269:=Nat
def tw3253425500655975908:=Nat
def tw17825421503395820341:=Nat
def tw9366189627742774741:=Nat
def tw8763707306794235088:=Nat
def tw7633977418965855230:=Nat
def tw17037611813743404675:=Nat
def tw11846882279356546622:=Nat
def tw7084037379655541161:=Nat
def tw3548657659338755496:=Nat
def tw10058516472037766249:=Nat
def tw17600167750784516976:=Nat
def tw7813317250497892723:=Nat
def tw11788729238307519852:=Nat
def tw5805640358697797810:=Nat
def tw11044973377030081524:=Nat
def tw4894210727053924245:=Nat
def tw6312310866188569184:=Nat
def tw5990323674477316505:=Nat
def tw4424293004388001533:=Nat
def tw12009224486783889327:=Nat
def tw16260275925213133608:=Nat
def tw8747575884734613592:=Nat
def tw8617279628771185279:=Nat
def tw2092665420708413363:=Nat
def tw12419185083422690727:=Nat
def tw10223563889743323331:=Nat
def tw8979962830318755890:=Nat
def tw428355209929929213:=Nat
def tw18016751524794945499:=Nat
def tw8533570272043355054:=Nat
def tw6289590247455981162:=Nat
def tw3765469360675085875:=Nat
def tw10740197172798094798:=Nat
def tw8520621597935692893:=Nat
def tw16505502071330034936:=Nat
def tw14415734950625276448:=Nat
def tw3419554822105613827:=Nat
def tw18278473811695908657:=Nat
def tw12861561488057988333:=Nat
def tw12493077869400902078:=Nat
def tw1085937905846794406:=Nat
def tw12463749784383789263:=Nat
def tw8703091575442888930:=Nat
def tw10956889370982247064:=Nat
def tw17933659423655548130:=Nat
def tw18232589588872639653:=Nat
def tw9245514897269532754:=Nat
def tw7343597814335383355:=Nat
def tw13909950768252364594:=Nat
def tw5945663879501380689:=Nat
def tw5777670141709864120:=Nat
def tw4446285532749048141:=Nat
def tw9136926988080734661:=Nat
def tw17713969726877285132:=Nat
def tw15247959426986866898:=Nat
def tw4289876243189616794:=Nat
def tw1199040432617116535:=Nat
def tw17884575862973265415:=Nat
def tw9995357352853478643:=Nat
def tw4476663627629455086:=Nat
def tw8414746816794741353:=Nat
def tw13216210501820725027:=Nat
def tw4108889891789862734:=Nat
def tw4940671439353804377:=Nat
def tw12789854560894957102:=Nat
def tw5815697492717606957:=Nat
def tw17133629360152359766:=Nat
def tw8906957579594670918:=Nat
def tw14922209357610026446:=Nat
def tw16767903815472008300:=Nat
def tw5686354053837156504:=Nat
def tw1427243328855699045:=Nat
def tw12146264742456444319:=Nat
def tw4384810743860039342:=Nat
def tw15829859817431176580:=Nat
def tw9887912834696911016:=Nat
def tw2003663228160171743:=Nat
def tw17799152193500893883:=Nat
def tw14716348363266053515:=Nat
def tw9707627041727742306:=Nat
def tw5569105874742377291:=Nat
def tw9707659967089837536:=Nat
def tw16699842321367080544:=Nat
def tw15329358711946407861:=Nat
def tw9929986096288306370:=Nat
def tw7958990662603509891:=Nat
def tw4368841587077482433:=Nat
def tw3322563273621162247:=Nat
def tw3019402162578075:=Nat
def tw18381853802871106328:=Nat
def tw14442979028136214870:=Nat
def tw14300413122191714269:=Nat
def tw12723423671343485344:=Nat
def tw4358262639760082230:=Nat
def tw761100690814627416:=Nat
def tw7143900299567373024:=Nat
def tw4104649830631731850:=Nat
def tw13073183827805233780:=Nat
def tw11776354830545250734:=Nat
def tw8809293015497177496:=Nat
def tw8334826569434339506:=Nat
def tw1334186971540836449:=Nat
def tw3867255885485553525:=Nat
def tw3354825369496902463:=Nat
def tw13225427786807117015:=Nat
def tw8691842129282691053:=Nat
def tw7633234274319175156:=Nat
def tw4875103686695603560:=Nat
def tw15179927118099783271:=Nat
def tw9096419518502727156:=Nat
def tw6071160003601205908:=Nat
def tw508291893742987046:=Nat
def tw2536794967578437944:=Nat
def tw16664712977689056054:=Nat
def tw12462914734439570435:=Nat
def tw7680425893670022127:=Nat
def tw7351045190727364346:=Nat
def tw6506162724414169942:=Nat
def tw5930825471798102960:=Nat
def tw448809044917163104:=Nat
def tw3967969360824681193:=Nat
def tw3376702561737604553:=Nat
def tw2931033382033597923:=Nat
def tw17833742456953499163:=Nat
def tw17662230387096751555:=Nat
def tw14057547012766810727:=Nat
def tw6939378770586051579:=Nat
def tw7184129205970674935:=Nat
def tw7060473773853418696:=Nat
def tw4657203117642683518:=Nat
def tw2656009718371985856:=Nat
def tw201944235070247401:=Nat
def tw14429066501002230135:=Nat
def tw13821823814778231524:=Nat
def tw13750076460122461685:=Nat
def tw12988239783774622876:=Nat
def tw12173033447458861359:=Nat
def tw10509597114600890412:=Nat
def tw2799762678986745213:=Nat
def tw4833311550601220168:=Nat
def tw3367826230735717822:=Nat
def tw3111344860229941830:=Nat
def tw1800304936862541788:=Nat
def tw17282153743148597912:=Nat
def tw15815173957051525275:=Nat
def tw15763499417198181661:=Nat
def tw10315503397974830953:=Nat
def tw9084180080547385261:=Nat
def tw7884524010779513267:=Nat
def tw5982885494387124166:=Nat
def tw5743451056850696551:=Nat
def tw3712314889864020344:=Nat
def tw313186006076798852:=Nat
def tw18374243406816985943:=Nat
def tw18214061408420341760:=Nat
def tw17032408979838614675:=Nat
def tw16519796543552745377:=Nat
def tw10678385310530457827:=Nat
def tw9987467413027772604:=Nat
def tw967180209490633684:=Nat
def tw9530021779192817966:=Nat
def tw9467477478369297084:=Nat
def tw9416190705512722645:=Nat
def tw9355104162773142978:=Nat
def tw9277562114912210321:=Nat
def tw9275385737347116477:=Nat
def tw8930728444738739145:=Nat
def tw8855445789370737808:=Nat
def tw880168929204741985:=Nat
def tw8684044541122654968:=Nat
def tw8410352224539543990:=Nat
def tw8059094055446643588:=Nat
def tw7859811613709276853:=Nat
def tw7692687307713839075:=Nat
def tw7491462510869724481:=Nat
def tw738546490237359182:=Nat
def tw7376294292842384606:=Nat
def tw7374387652089722785:=Nat
def tw7319969046545711829:=Nat
def tw728144992315335728:=Nat
def tw7222755391986040015:=Nat
def tw7137885445591772509:=Nat
def tw7136239169613791863:=Nat
def tw7102293350073510978:=Nat
def tw708131815216023205:=Nat
def tw6952988822818658069:=Nat
def tw6829179903149136352:=Nat
def tw6556628084392919457:=Nat
def tw6552439842328076681:=Nat
def tw6432445910509266465:=Nat
def tw6275832194228454952:=Nat
def tw6177339446779574055:=Nat
def tw5992210494297778801:=Nat
def tw583553286735697630:=Nat
def tw5825682679283691102:=Nat
def tw5781427371732212884:=Nat
def tw5584287040278271616:=Nat
def tw5580543822343184615:=Nat
def tw5423600798066145193:=Nat
def tw5032630569771123005:=Nat
def tw5014229841993598142:=Nat
def tw4974956741004098220:=Nat
def tw4701982398193229036:=Nat
def tw4475908392441157759:=Nat
def tw445455135958520436:=Nat
def tw4393540509610636729:=Nat
def tw4018164762720042066:=Nat
def tw3967994984061705577:=Nat
def tw3822391138893735452:=Nat
def tw3635815415461137215:=Nat
def tw36137660078980160:=Nat
def tw3534843820772695198:=Nat
def tw3512212069810745602:=Nat
def tw3163578498727108766:=Nat
def tw3144122244225462594:=Nat
def tw3065137970679129324:=Nat
def tw2856972087015824407:=Nat
def tw2714816531515148135:=Nat
def tw2673510300383302382:=Nat
def tw2597084732638220832:=Nat
def tw2521201918010775205:=Nat
def tw2366689966309130508:=Nat
def tw2360371588247338918:=Nat
def tw2250245416984089967:=Nat
def tw2095318170101958981:=Nat
def tw187518335520566549:=Nat
def tw18049686525968110312:=Nat
def tw18040670363450797785:=Nat
def tw178302574307050493:=Nat
def tw17815857044456116093:=Nat
def tw1745797585825084470:=Nat
def tw17455015020667845193:=Nat
def tw17332636018659076997:=Nat
def tw17235033594109349367:=Nat
def tw17202477637842482421:=Nat
def tw17165896825953722625:=Nat
def tw17160898489538697704:=Nat
def tw17014975957841806393:=Nat
def tw16886785956428787076:=Nat
def tw16885510208591152168:=Nat
def tw16751215499799911841:=Nat
def tw16741282120662695803:=Nat
def tw16416947428751161940:=Nat
def tw16399628924287019252:=Nat
def tw1605499472386360362:=Nat
def tw15971061960530163819:=Nat
def tw15875415201360905073:=Nat
def tw15770050199233457519:=Nat
def tw15759969814641068774:=Nat
def tw15644871582939277999:=Nat
def tw15512771785992562208:=Nat
def tw15274650647987522777:=Nat
def tw15033374729744587964:=Nat
def tw14906885115823890856:=Nat
def tw14720909316060114154:=Nat
def tw14611121609030519279:=Nat
def tw14592008752844995446:=Nat
def tw14585965364009260604:=Nat
def tw14461939021911227792:=Nat
def tw14327476853058161207:=Nat
def tw14315104531197309995:=Nat
def tw14303219025894048256:=Nat
def tw14250632776423365232:=Nat
def tw13878939162146275757:=Nat
def tw13862799143845536779:=Nat
def tw13640118938316844473:=Nat
def tw13410146583077539296:=Nat
def tw13252805827914671795:=Nat
def tw13218222672566065126:=Nat
def tw13199122073376464143:=Nat
def tw1312330218396674272:=Nat
def tw13113639929245109736:=Nat
def tw12735612837959666272:=Nat
def tw12729752384084414837:=Nat
def tw12702944728346589135:=Nat
def tw1233239887894477459:=Nat
def tw1231605713131893128:=Nat
def tw11747996205277252343:=Nat
def tw11657981030134266255:=Nat
def tw11610699829577841332:=Nat
def tw11543125888438574912:=Nat
def tw11332096599472184836:=Nat
def tw11222870213882047081:=Nat
def tw1116667316512731124:=Nat
def tw11033114087548193058:=Nat
def tw10728951981741723309:=Nat
def tw10153647804022762375:=Nat
def tw10088704155522458632:=Nat
end PySem.W.Fast
theorem Z{α:Sort _}{a:α}:a=a:=rfl
noncomputable abbrev Aa:=List (Int×Int)
noncomputable abbrev Ab:=List (List Int)
noncomputable abbrev Ac:=List Int
noncomputable abbrev Ad:=PySem.W.Frag
noncomputable abbrev Ae:=PySem.Value->PySem.Shared->Prop
noncomputable abbrev Af:=PySem.Str->Option PySem.Value
noncomputable abbrev Ag:=List PySem.Value
theorem J{p:Prop}(h:p:=by lia):p:=h
theorem D{p:Prop}(h:p:=by decide +kernel):p:=h
theorem S{p:Prop}(h:p:=by decide):p:=h
theorem B{p:Prop}(h:p:=by simp):p:=h
theorem ur{p:Prop}(h:p:=by omega):p:=h
theorem uu{p:Prop}(h:p:=by grind):p:=h
theorem uw{p:Prop}(h:p:=by rfl):p:=h
theorem uz{p:Prop}(h:p:=by kernel_rfl):p:=h
noncomputable def Xw:=@List.getElem?_eq_getElem
noncomputable def Xs:=@List.getElem?_eq_some_iff
noncomputable def XF:=@List.mem_singleton
noncomputable def Xt:=@List.length_append
noncomputable def XU:=@PySem.wpAny_bind
noncomputable def Xb:=@PySem.Heap.get?_push_of_some
noncomputable def Xf:=@List.mem_of_getElem?
noncomputable def Xz:=@List.mem_append
noncomputable def XO:=@Nat.le_refl
noncomputable def WJ:=@List.getD_eq_getElem?_getD
noncomputable def Ya:=@List.mem_cons_self
noncomputable def Yb:=@List.length_map
noncomputable def Yc:=@List.size_toArray
noncomputable def Yd:=@List.mem_append_left
noncomputable def Ye:=@List.mem_cons
noncomputable def Yf:=@List.mem_cons_of_mem
noncomputable def Yg:=@List.mem_filter
noncomputable def Yh:=@Option.some.inj
noncomputable def Yi:=@List.mem_append_right
noncomputable def Yj:=@PySem.Heap.get?_push_size
noncomputable def Yk:=@PySem.wpAny_pure
noncomputable def Yl:=@List.length_take
noncomputable def Ym:=@Nat.zero_le
noncomputable def Yn:=@decide_eq_true
noncomputable def Yo:=@List.getElem?_map
noncomputable def Yp:=@PySem.Heap.lt_size
noncomputable def Yq:=@List.length_cons
noncomputable def Yr:=@List.length_singleton
noncomputable def Ys:=@Nat.le_trans
noncomputable def Yt:=@Nat.lt_of_lt_of_le
noncomputable def Yu:=@of_decide_eq_true
noncomputable def Yv:=@List.getElem?_append_right
noncomputable def Yw:=@List.getElem?_append_left
noncomputable def Yx:=@Classical.byContradiction
noncomputable def Yy:=@Nat.ne_of_lt
noncomputable def Yz:=@Bool.false_ne_true
noncomputable def YA:=@List.mem_map
noncomputable def YB:=@Array.getD_eq_getD_getElem?
noncomputable def YC:=@Array.length_toList
noncomputable def YD:=@Int.toNat_natCast
noncomputable def YE:=@Array.getElem?_eq_getElem
noncomputable def YF:=@List.take_length
noncomputable def YG:=@List.length_filter_le
noncomputable def YH:=@List.append_nil
noncomputable def YI:=@List.mem_range
noncomputable def YJ:=@List.map_append
noncomputable def YK:=@List.length_replicate
noncomputable def YL:=@List.take_succ
noncomputable def YM:=@List.length_reverse
noncomputable def YN:=@List.take_of_length_le
noncomputable def YO:=@List.filter_cons
noncomputable def QP:=@PySem.Heap.get?_update_other
noncomputable def YQ:=@List.pairwise_cons
noncomputable def YR:=@List.nodup_append
noncomputable def YS:=@Array.getElem?_toList
noncomputable def YT:=@decide_eq_true_iff
noncomputable def YU:=@PySem.F.plainAttrs_list
noncomputable def YV:=@List.length_drop
noncomputable def YW:=@decide_eq_false
noncomputable def YX:=@PySem.W.mg_none_of
noncomputable def YY:=@List.map_congr_left
noncomputable def YZ:=@List.length_eq_zero_iff
noncomputable def XB:=@congrArg
noncomputable def Vv:=@List.getElem?_eq_none
noncomputable def Ws:=@Int.emod_nonneg
noncomputable def VT:=@Int.emod_lt_of_pos
noncomputable def Wr:=@PySem.PassesOwn.never
noncomputable def XI:=@Ne.symm
noncomputable def Wk:=@Nat.not_lt_zero
noncomputable def WD:=@List.map_cons
noncomputable def Vk:=@PySem.Heap.get?_update_self
noncomputable def TR:=@PyProof.Rows.callWith_type1
noncomputable def Qm:=@List.getElem?_of_mem
noncomputable def LI:=@List.perm_ext_iff_of_nodup
noncomputable def Oq:=@List.pairwise_append
noncomputable def RG:=@List.all_eq_true
noncomputable def QJ:=@List.append_assoc
noncomputable def Ql:=@List.filter_append
noncomputable def Sh:=@PySem.codeAny_builtin
noncomputable def Qk:=@PySem.wpAny_Call_Name_kw
noncomputable def LH:=@List.drop_eq_nil_of_le
noncomputable def Qj:=@PySem.wpAny_truthy_bool
noncomputable def QI:=@List.nodup_cons
noncomputable def QH:=@Bool.eq_iff_iff
noncomputable def Kc:=@PySem.F.type_list_append
noncomputable def Kb:=@PySem.F.slot_list_append
noncomputable def Oo:=@PySem.Obj.data_mapFields
noncomputable def NA:=@List.length_zipWith
noncomputable def Uc:=@Nat.le_succ
noncomputable def LG:=@List.getElem?_zipWith
noncomputable def Om:=@List.length_range
noncomputable def Sg:=@Int.mul_assoc
noncomputable def Sf:=@PySem.wpAny_holding
noncomputable def Ol:=@Nat.lt_succ_self
noncomputable def RF:=@Nat.lt_irrefl
noncomputable def TQ:=@PySem.sizeLine_eq
noncomputable def GP:=@List.pairwise_iff_getElem
noncomputable def Se:=@Int.mul_zero
noncomputable def Ut:=@PySem.wpAny_mono
noncomputable def Ka:=@List.getElem?_reverse
noncomputable def Oj:=@List.nil_append
noncomputable def LF:=@PySem.Heap.SameBut.update
noncomputable def Nz:=@PySem.wpAny_newObj_type
noncomputable def SO:=@Int.one_mul
noncomputable def RE:=@Nat.ne_of_gt
noncomputable def Ny:=@List.getElem_mem
noncomputable def RD:=@Int.add_zero
noncomputable def GO:=@List.pairwise_singleton
noncomputable def LD:=@List.pairwise_map
noncomputable def LC:=@List.filter_congr
noncomputable def JZ:=@PySem.mem_of_lookup
noncomputable def JY:=@List.replicate_succ
noncomputable def Nx:=@PySem.F.plain_min_loop
noncomputable def JX:=@PySem.Around.under_plainId
noncomputable def LB:=@List.lookup_cons
noncomputable def Lz:=@Bool.and_eq_true
noncomputable def Qi:=@Int.mul_comm
noncomputable def GN:=@PySem.builtinLookup_eq_fast
noncomputable def Ly:=@PySem.wpAny_call_entry
noncomputable def JW:=@decide_eq_true_eq
noncomputable def Sd:=@beq_iff_eq
noncomputable def JV:=@List.getElem?_inj
noncomputable def y6:=@List.eq_nil_iff_forall_not_mem
noncomputable def Lx:=@List.length_set
noncomputable def TN:=@List.length_nil
noncomputable def RC:=@List.getElem_of_mem
noncomputable def Us:=@PySem.Heap.size_push
noncomputable def Qh:=@PySem.F.slot_str_split
noncomputable def Qg:=@PySem.F.plainAttrs_str
noncomputable def Qf:=@List.pairwise_lt_range
noncomputable def Qe:=@Array.getElem?_eq_none
noncomputable def RB:=@List.getElem?_take
noncomputable def Ur:=@PySem.plainId_quiet
noncomputable def Nw:=@Array.perm_iff_toList_perm
noncomputable def GL:=@Nat.lt_succ_of_lt
noncomputable def GK:=@List.ext_getElem?
noncomputable def Nv:=@Nat.succ.inj
noncomputable def Nu:=@Nat.sub_self
noncomputable def Nt:=@Nat.le_of_lt
noncomputable def Fz:=@List.mem_of_mem_take
noncomputable def JU:=@PySem.wpAny_passesOwn
noncomputable def Fy:=@beq_eq_false_iff_ne
noncomputable def JT:=@Nat.mul_le_mul
noncomputable def GJ:=@List.mem_reverse
noncomputable def Fx:=@List.map_eq_nil_iff
noncomputable def Fw:=@List.filterMap_cons
noncomputable def yZ:=@List.eq_of_mem_replicate
noncomputable def GI:=@PySem.wpAny_setState_of
noncomputable def Nr:=@PySem.codeAny_mono
noncomputable def yY:=@List.getElem?_replicate
noncomputable def Lw:=@Nat.zero_add
noncomputable def Lv:=@List.map_map
noncomputable def Fv:=@List.getElem?_drop
noncomputable def Nq:=@Int.mul_one
noncomputable def Np:=@Int.le_refl
noncomputable def Fu:=@Bool.false_eq_true
noncomputable def GH:=@List.range_succ
noncomputable def Ft:=@PySem.wpAny_setEntries_of
noncomputable def JS:=@PySem.wpAny_seqItems
noncomputable def GG:=@PySem.wpAny_askSetting
noncomputable def yX:=@List.length_pos_of_mem
noncomputable def Fs:=@List.getElem?_set
noncomputable def Fq:=@List.flatten_cons
noncomputable def yW:=@PySem.wpAny_callSpecial?_slot
noncomputable def Nn:=@PySem.wpAny_of_eq
noncomputable def vH:=@List.take_append_of_le_length
noncomputable def vG:=@List.drop_append_of_le_length
noncomputable def Lu:=@PySem.F.called_set
noncomputable def GF:=@PySem.typeLookup_type
noncomputable def JR:=@PySem.wpAny_newList
noncomputable def Fp:=@decide_eq_decide
noncomputable def Oi:=@PySem.call_meets
noncomputable def Fo:=@List.cons_append
noncomputable def Fn:=@List.any_eq_true
noncomputable def JQ:=@Int.zero_add
noncomputable def JP:=@Int.pow_zero
noncomputable def JO:=@Int.le_of_lt
noncomputable def GD:=@PySem.W.mg_of
noncomputable def yV:=@PySem.Obj.isFreed_of_fields
noncomputable def GC:=@PySem.wpAny_setField
noncomputable def Fm:=@Nat.min_eq_left
noncomputable def yU:=@Nat.lt_of_le_of_lt
noncomputable def yT:=@List.mem_filterMap
noncomputable def yS:=@List.map_singleton
noncomputable def vE:=@List.getElem?_eq_none_iff
noncomputable def JN:=@Int.mul_add
noncomputable def SN:=@PyProof.Rows.listUpdate_at
noncomputable def JM:=@PySem.F.args_tuple_add_2
noncomputable def JL:=@PySem.F.args_str_split_2
noncomputable def JK:=@Option.isSome_iff_exists
noncomputable def JJ:=@List.length_erase_of_mem
noncomputable def RA:=@Int.le_trans
noncomputable def Nm:=@List.foldl_append
noncomputable def Nl:=@Int.mul_left_comm
noncomputable def Nk:=@Bool.eq_false_iff
noncomputable def Qd:=@PySem.wpAny_execs_nil
noncomputable def vD:=@PySem.F.entry_tuple_add
noncomputable def vC:=@PySem.F.entry_str_split
noncomputable def vB:=@Int.eq_ofNat_of_zero_le
noncomputable def vA:=@PySem.Calls.Name_function_global
noncomputable def vy:=@PySem.F.slot_tuple_add
noncomputable def yR:=@Nat.le_of_not_lt
noncomputable def Fl:=@List.take_nil
noncomputable def Fj:=@List.sum_cons
noncomputable def yQ:=@List.length_tail
noncomputable def vw:=@List.getElem?_eraseIdx
noncomputable def vt:=@List.drop_of_length_le
noncomputable def Fi:=@List.cons.inj
noncomputable def Fh:=@List.any_cons
noncomputable def yP:=@PySem.Code.quiet_builtin
noncomputable def Fg:=@PySem.wpAny_tryCatch
noncomputable def yN:=@PySem.wpAny_pyIter_list
noncomputable def yM:=@List.foldl_cons
noncomputable def yL:=@List.find?_cons
noncomputable def vq:=@PySem.W.hideAll_none
noncomputable def vp:=@Nat.pow_le_pow_right
noncomputable def vo:=@List.mem_of_getLast?
noncomputable def vn:=@List.mem_erase_of_ne
noncomputable def vm:=@List.length_eraseIdx
noncomputable def Ff:=@Int.zero_mul
noncomputable def Fe:=@Int.pow_succ
noncomputable def yK:=@PySem.wpAny_isInstance
noncomputable def Fd:=@PySem.wpAny_attempt
noncomputable def vk:=@Nat.mul_le_mul_left
noncomputable def vj:=@List.getElem?_range
noncomputable def vi:=@List.filter_eq_self
noncomputable def GB:=@Int.not_lt
noncomputable def yJ:=@PySem.F.entry_min_loop
noncomputable def vh:=@Array.toList_append
noncomputable def GA:=@PySem.wpAny_letGo
noncomputable def vg:=@PySem.W.callWith_K
noncomputable def vf:=@Nat.add_sub_cancel
noncomputable def yH:=@PySem.wpAny_updateSeq
noncomputable def Oh:=@if_true
noncomputable def Fc:=@PySem.wpAny_typeOf
noncomputable def fB:=@PyProof.Rows.callWith_builtin1
noncomputable def ve:=@List.reverse_cons
noncomputable def vd:=@Array.toList_push
noncomputable def vc:=@PyProof.Rows.F.plain_set_update_loop
noncomputable def yG:=@PySem.wpAny_runValue
noncomputable def yE:=@PySem.wpAny_fieldsOf
noncomputable def Gz:=@PySem.wpAny_call
noncomputable def Gy:=@PySem.typeIs_str
noncomputable def yD:=@PySem.isSubtype_type
noncomputable def JI:=@if_false
noncomputable def va:=@beq_self_eq_true
noncomputable def fw:=@PySem.F.slot_dict_setdefault
noncomputable def yC:=@Nat.sub_zero
noncomputable def Nj:=@Nat.mul_comm
noncomputable def JG:=@Nat.min_eq_right
noncomputable def JF:=@List.not_mem_nil
noncomputable def Fb:=@List.dropLast_concat_getLast
noncomputable def Ni:=@Int.sub_zero
noncomputable def JE:=@Int.min_eq_right
noncomputable def JD:=@Int.max_eq_right
noncomputable def JC:=@beq_false_of_ne
noncomputable def JB:=@PySem.SeqAt.EqAt.of_refs
noncomputable def EZ:=@PySem.F.excBase_ValueError
noncomputable def uZ:=@Option.map_some
noncomputable def uY:=@Nat.le_antisymm
noncomputable def uX:=@List.of_mem_zip
noncomputable def fv:=@List.length_eraseIdx_of_lt
noncomputable def uW:=@List.filter_nil
noncomputable def uV:=@Int.min_eq_left
noncomputable def uU:=@Int.max_eq_left
noncomputable def uS:=@PySem.Calls.spliced_cons
noncomputable def uR:=@Bool.or_eq_true
noncomputable def ft:=@PySem.F.plain_extend_loop
noncomputable def fq:=@List.drop_eq_getElem_cons
noncomputable def yB:=@Int.neg_mul
noncomputable def fo:=@Int.eq_of_mul_eq_mul_left
noncomputable def yA:=@Int.add_mul
noncomputable def yy:=@PyProof.Rows.get?_update_seq
noncomputable def fk:=@PySem.F.type_list_extend
noncomputable def fj:=@PySem.F.slot_list_extend
noncomputable def fi:=@PySem.F.slot_dict_values
noncomputable def uQ:=@PySem.Obj.cls_mapFields
noncomputable def uP:=@List.take_zero
noncomputable def fh:=@List.mem_of_mem_eraseIdx
noncomputable def fg:=@List.getElem?_take_of_lt
noncomputable def uN:=@List.drop_zero
noncomputable def fc:=@List.Pairwise.imp_of_mem
noncomputable def uM:=@Int.natAbs_mul
noncomputable def uL:=@PySem.Calls.spliced_nil
noncomputable def uK:=@PyProof.Rows.entry_proto_collect'
noncomputable def fb:=@PySem.F.type_list_index
noncomputable def e9:=@PySem.F.slot_list_index
noncomputable def e8:=@PySem.F.plainAttrs_dict
noncomputable def eZ:=@List.pairwise_mergeSort
noncomputable def EY:=@PySem.wpAny_rule
noncomputable def EX:=@PySem.wpAny_load
noncomputable def uJ:=@PySem.noFill_tuple_add
noncomputable def eY:=@PySem.W.funFrames_hide
noncomputable def eX:=@PySem.W.cellsFrom_some
noncomputable def eW:=@PySem.F.type_str_split
noncomputable def eV:=@Option.map_eq_some_iff
noncomputable def eS:=@List.length_eq_one_iff
noncomputable def eR:=@List.getElem?_set_self
noncomputable def eQ:=@List.filter_eq_nil_iff
noncomputable def eO:=@PySem.F.type_str_join
noncomputable def eN:=@PySem.F.slot_str_join
noncomputable def eM:=@List.getElem?_toArray
noncomputable def eK:=@List.Pairwise.sublist
/-! THE HAND eJ,for ints,bools,texts,own classes,eE and tuples (index,uH,in,append,pop ..),calls,loops. eD it whole ahead of uG own text;what uG proof does not reach may be deleted. -/
namespace L2
open PySem PySem.Spec PyProof.Rows
noncomputable abbrev Key:=Sum Int Str
noncomputable def Rz:Key->Value->Bool
 | .inl k,v=>Value.isInt k v
 | .inr x,v=>Value.isStrOf x v
noncomputable def Zaa(w:World):Key->Int
 | .inl k=>hashInt k
 | .inr x=>hashStr w x
theorem ZH:∀{k:Key}{v:Value},Rz k v=true->(∃i t,k=Sum.inl i/\v=Value.int i t)\/(∃x t,k=Sum.inr x/\v=Value.str x t)
 | .inl i,v,h=>by obtain⟨t,e⟩:=Value.isInt_shape (k:=i) (v:=v) h;exact .inl ⟨i,t,Z,e⟩
 | .inr x,v,h=>by obtain⟨t,e⟩:=Value.isStrOf_shape (x:=x) (v:=v) h;exact .inr ⟨x,t,Z,e⟩
theorem ZN8(i:Int)(t:Tok):Rz (.inl i) (.int i t)=true:=by simp[Rz,Value.isInt]
theorem ZM8(x:Str)(t:Tok):Rz (.inr x) (.str x t)=true:=by simp[Rz,Value.isStrOf]
theorem Zab(a b:Int):decide ((Sum.inl a:Key)=Sum.inl b)=(a == b):=by
 by_cases e:a=b
 .subst e;simp
 .have h:¬(Sum.inl a:Key)=Sum.inl b:=λq=>e (Sum.inl.inj q);rw[YW h];exact(Fy.mpr e).symm
theorem Zac(a b:Str):decide ((Sum.inr a:Key)=Sum.inr b)=decide (a=b):=by
 by_cases e:a=b
 .subst e;simp
 .have h:¬(Sum.inr a:Key)=Sum.inr b:=λq=>e (Sum.inr.inj q);rw[YW h,YW e]
theorem Zad(a:Int)(b:Str):decide ((Sum.inl a:Key)=Sum.inr b)=false:=YW (λq=>nomatch q)
theorem Zae(a:Str)(b:Int):decide ((Sum.inr a:Key)=Sum.inl b)=false:=YW (λq=>nomatch q)
noncomputable def Ry(prog:Program)(w:World):PySem.KeyKind prog w Key where
 is:=Rz
 hash:=Zaa w
 inj:=λv a b ha hb=>by
  rcases ZH ha with ⟨i,t,rfl,rfl⟩|⟨x,t,rfl,rfl⟩
  .rcases ZH hb with ⟨j,u,rfl,e⟩|⟨y,u,rfl,e⟩
   .injection e with e1 _;rw[e1]
   .exact nomatch e
  .rcases ZH hb with ⟨j,u,rfl,e⟩|⟨y,u,rfl,e⟩
   .exact nomatch e
   .injection e with e1 _;rw[e1]
 byValue:=λk v h=>by rcases ZH h with ⟨i,t,rfl,rfl⟩|⟨x,t,rfl,rfl⟩<;>rfl
 pyHash:=λhv h=>by
  rcases ZH hv with ⟨i,t,rfl,rfl⟩|⟨x,t,rfl,rfl⟩
  .exact wpAny_pyHash_int h
  .exact wpAny_pyHash_str h
 eqBool:=λhu hv h=>by
  rcases ZH hu with ⟨i,t,rfl,rfl⟩|⟨x,t,rfl,rfl⟩
  .rcases ZH hv with ⟨j,u,rfl,rfl⟩|⟨y,u,rfl,rfl⟩
   .rw[Zab]at h;exact wpAny_eqBool_int h
   .rw[Zad]at h;exact SeqAt.EqAt.int_str i t y u _ _ _ _ h
  .rcases ZH hv with ⟨j,u,rfl,rfl⟩|⟨y,u,rfl,rfl⟩
   .rw[Zae]at h;exact SeqAt.EqAt.str_int x t j u _ _ _ _ h
   .rw[Zac]at h;exact wpAny_eqBool_str h
 «strs»:=λk x t v h=>by
  rcases ZH h with ⟨i,u,rfl,e⟩|⟨y,u,rfl,e⟩
  .exact nomatch e
  .injection e with e1 _;subst e1;cases v<;>rfl
theorem Zaf(prog:Program)(w:World)(i:Int)(t:Tok):(Ry prog w).is (.inl i) (.int i t)=true:=ZN8 i t
theorem Zag(prog:Program)(w:World)(x:Str)(t:Tok):(Ry prog w).is (.inr x) (.str x t)=true:=ZM8 x t
inductive V where
 |non|bl (b:Bool)|int (i:Int)|str (x:Str)|byt (b:Array UInt8)|flt (b:UInt64)|ref (a:Addr)|ty (n:String)
 deriving DecidableEq
noncomputable def RelV:V->Value->Prop
 | .non,u=>u=Value.none
 | .bl b,u=>u=Value.bool b
 | .int i,u=>∃t,u=Value.int i t
 | .str x,u=>∃t,u=Value.str x t
 | .byt b,u=>∃t,u=Value.bytes b t
 | .flt b,u=>∃t,u=Value.float b t
 | .ref a,u=>u=Value.ref a
 | .ty n,u=>u=Value.type n
noncomputable abbrev Vals:List V->List Value->Prop:=Paired RelV
theorem Vals.length{xs:List V}{us:Ag}(r:Vals xs us):xs.length=us.length:=Paired.length r
theorem Vals.get{xs:List V}{us:Ag}{i:Nat}{x:V}(h:Vals xs us)(e:xs[i]?=some x):∃u,us[i]?=some u/\RelV x u:=by
 induction h generalizing i with
 |nil=>simp at e
 |cons r t ih=>
  cases i with
  |zero=>simp at e;subst e;exact⟨_,Z,r⟩
  |succ i=>
   obtain⟨u,h1,h2⟩:=ih (i:=i) (by simpa using e);exact⟨u,by simpa using h1,h2⟩
theorem Vals.set(r:RelV x u){xs:List V}{us:Ag}(i:Nat)(h:Vals xs us):Vals (xs.set i x) (us.set i u):=by
 induction h generalizing i with
 |nil=>exact .nil
 |cons q t ih=>
  cases i with
  |zero=>exact .cons r t
  |succ i=>exact .cons q (ih i)
theorem Vals.append{xs ys:List V}{us ws:Ag}(h:Vals xs us)(s:Vals ys ws):Vals (xs++ys) (us++ws):=by
 induction h with
 |nil=>exact s
 |cons r t ih=>exact .cons r ih
theorem Vals.take{xs:List V}{us:Ag}(n:Nat)(h:Vals xs us):Vals (xs.take n) (us.take n):=by
 induction h generalizing n with
 |nil=>cases n<;>exact .nil
 |cons r t ih=>
  cases n with
  |zero=>exact .nil
  |succ n=>exact .cons r (ih n)
theorem Vals.drop{xs:List V}{us:Ag}(n:Nat)(h:Vals xs us):Vals (xs.drop n) (us.drop n):=by
 induction h generalizing n with
 |nil=>cases n<;>exact .nil
 |cons r t ih=>
  cases n with
  |zero=>exact .cons r t
  |succ n=>exact ih n
noncomputable def RelO:Option V->Option Value->Prop
 |some v,some u=>RelV v u
 |none,none=>True
 |_,_=>False
noncomputable def KV{κ:Type}:List (κ×V)->List (κ×Value)->Prop:=Paired λ(p:κ×V) (q:κ×Value)=>p.1=q.1/\RelV p.2 q.2
noncomputable def kV:Key->V
 | .inl i=>.int i
 | .inr x=>.str x
inductive HO where
 |lst (xs:List V)
 |tup (xs:List V)
 |dK (kvs:List (Key×V))|dT (kvs:List (List Key×V))
 |set (uo:Int->Bool) (n:Nat)
 |ins (C dx:Addr) (fs:List (Str×V))
 |own (x:Addr)
 |xd (fs:List (Str×V))
 |met (f x:Addr)
 |rng (lo hi:Int)
 |frz (o:Obj) (u:HO)
 |tbl (ps:Array Value)
 |ext (φ:Heap->Prop)
noncomputable abbrev Hp:=Addr->Option HO
noncomputable def upd(H:Hp)(a:Addr)(o:HO):Hp:=λb=>if b=a then some o else H b
theorem XS:upd H a o a=some o:=by unfold upd;rw[if_pos Z]
theorem Zc(h:b≠a):upd H a o b=H b:=by unfold upd;rw[if_neg h]
theorem Nh{H:Hp}{a b:Addr}{o u:HO}(h:H a=some o)(h':H b=some u)(d:o≠u):a≠b:=by intro e;subst e;rw[h]at h';exact d (Yh h')
theorem Zd{H:Hp}{a b:Addr}{o:HO}(h:H a=some o)(h':H b=none):a≠b:=by intro e;subst e;rw[h]at h';cases h'
section
variable(P:Program)(w:World)
noncomputable def ObjOk(H:Hp)(h:Heap)(a:Addr):HO->Prop
 | .lst xs=>xs.length<=sizeLine/\∃(XW:Ag)(n:Nat),Vals xs XW/\h.get? a=some {cls:=.type "list",data:=.seq XW.toArray n}
 | .tup xs=>xs.length<=sizeLine/\∃XW:Ag,Vals xs XW/\IsTup h a XW.toArray
 | .dK kvs=>kvs.length<=sizeLine/\(a == sysModules)=false/\∃vs,KV kvs vs/\h.DictOf (Ry P w) a vs
 | .dT kvs=>kvs.length<=sizeLine/\(a == sysModules)=false/\∃xs:List (List Key×Addr×Value),
   Paired (λ(p:List Key×V) (q:List Key×Addr×Value)=>p.1=q.1/\H q.2.1=some (.tup<|p.1.map kV)/\RelV p.2 q.2.2) kvs xs/\
   ∃o es ep,h.get? a=some o/\o.ExactDict/\o.data=.dict es ep/\es.toList=xs.map (entryOfKey<|tupleKind<|Ry P w)/\(xs.map (·.1)).Nodup
 | .set uo n=>h.SetOf (intKind P w) a uo n
 | .ins C dx fs=>H dx=some (.own a)/\fs.length<=1000/\dx≠a/\h.get? a=some (PySem.W.instObj C dx)/\
   ∃mA,h.Ns1 dx mA/\(∀f,RelO (fs.lookup f)<|mA f)/\PySem.Within mA (fs.map (·.1))
 | .own _=>∃o,h.get? a=some o
 | .xd fs=>∃mA,h.Ns1 a mA/\∀f,RelO (fs.lookup f) (mA f)
 | .rng lo hi=>∃t u v,h.get? a=some {cls:=.type "range",data:=.fields #[.int lo t,.int hi u,.int 1 v]}
 | .frz o u=>h.get? a=some o/\ObjOk H h a u
 | .tbl ps=>h.get? a=some {cls:=.none,data:=.fields ps}
 | .met f x=>h.get? a=some (PySem.W.methodObj (.ref f)<|.ref x)
 | .ext φ=>φ h/\(∃o,h.get? a=some o)/\∀h1 h2:Heap,φ h1->(∀o,h1.get? a=some o->h2.get? a=some o)->φ h2
noncomputable def HOk(H:Hp)(h:Heap):Prop:=∀a o,H a=some o->ObjOk P w H h a o
end
section
variable{P:Program}{w:World}{H H':Hp}{h h':Heap}{a:Addr}{o:HO}
theorem ObjOk.lt(x:ObjOk P w H h a o):a<h.objs.size:=by
 cases o with
 |lst xs=>obtain⟨_,_,_,_,e⟩:=x;exact Yp e
 |tup xs=>obtain⟨_,_,_,p⟩:=x;exact p.lt
 |dK kvs=>obtain⟨_,_,_,_,o,_,_,e,_⟩:=x;exact Yp e
 |dT kvs=>obtain⟨_,_,_,_,o,_,_,e,_⟩:=x;exact Yp e
 |set uo n=>obtain⟨o,_,_,_,e,_⟩:=x;exact Yp e
 |ins C dx fs=>obtain⟨_,_,_,e,_⟩:=x;exact Yp e
 |own y=>obtain⟨_,e⟩:=x;exact Yp e
 |xd fs=>obtain⟨_,⟨_,_,_,e,_⟩,_⟩:=x;exact Yp e
 |rng lo hi=>obtain⟨_,_,_,e⟩:=x;exact Yp e
 |frz ob u=>obtain⟨e,_⟩:=x;exact Yp e
 |tbl ps=>exact Yp (show h.get? a=some _ from x)
 |met f y=>exact Yp (show h.get? a=some _ from x)
 |ext φ=>obtain⟨_,⟨_,e⟩,_⟩:=x;exact Yp e
theorem Paired.mapP{α β:Type}{F G:α->β->Prop}{l₁:List α}{l₂:List β}(h:Paired F l₁ l₂)(f:∀a b,F a b->G a b):Paired G l₁ l₂:=by
 induction h with
 |nil=>exact .nil
 |cons r t ih=>exact .cons (f _ _ r) ih
theorem ObjOk.stay(x:ObjOk P w H h a o)(k:∀b u,(b=a\/H b=some (.own a))->h.get? b=some u->h'.get? b=some u)
  (ho:∀b,H b=some (.own a)->H' b=some (.own a))(ht:∀b xs,H b=some (.tup xs)->H' b=some (.tup xs)):ObjOk P w H' h' a o:=by
 induction o with
 |lst xs=>obtain⟨z,XW,n,r,e⟩:=x;exact⟨z,XW,n,r,k _ _ (.inl Z) e⟩
 |tup xs=>obtain⟨z,XW,r,ob,e,c⟩:=x;exact⟨z,XW,r,ob,k _ _ (.inl Z) e,c⟩
 |dK kvs=>obtain⟨z,y,vs,r,ob,es,ep,e,c⟩:=x;exact⟨z,y,vs,r,ob,es,ep,k _ _ (.inl Z) e,c⟩
 |dT kvs=>
  obtain⟨z,y,xs,r,ob,es,ep,e,c⟩:=x;exact⟨z,y,xs,Paired.mapP r λp q z=>⟨z.1,ht _ _ z.2.1,z.2.2⟩,ob,es,ep,k _ _ (.inl Z) e,c⟩
 |set uo n=>obtain⟨ob,es,ep,t,e,c⟩:=x;exact⟨ob,es,ep,t,k _ _ (.inl Z) e,c⟩
 |ins C dx fs=>
  obtain⟨d,z,ne,e,mA,⟨od,es,ep,e2,c⟩,r⟩:=x;exact⟨ho _ d,z,ne,k _ _ (.inl Z) e,mA,⟨od,es,ep,k _ _ (.inr d) e2,c⟩,r⟩
 |own y=>obtain⟨ob,e⟩:=x;exact⟨ob,k _ _ (.inl Z) e⟩
 |xd fs=>obtain⟨mA,⟨od,es,ep,e,c⟩,r⟩:=x;exact⟨mA,⟨od,es,ep,k _ _ (.inl Z) e,c⟩,r⟩
 |rng lo hi=>obtain⟨t,u,v,e⟩:=x;exact⟨t,u,v,k _ _ (.inl Z) e⟩
 |frz ob u ih=>obtain⟨e,q⟩:=x;exact⟨k _ _ (.inl Z) e,ih q⟩
 |tbl ps=>
  have e:h.get? a=some {cls:=.none,data:=.fields ps}:=x;show h'.get? a=some {cls:=.none,data:=.fields ps}
  exact k a _ (.inl Z) e
 |met f y=>
  have e:h.get? a=some (PySem.W.methodObj (.ref f)<|.ref y):=x;show h'.get? a=some (PySem.W.methodObj (.ref f)<|.ref y)
  exact k a _ (.inl Z) e
 |ext φ=>obtain⟨p,⟨o,e⟩,st⟩:=x;exact⟨st _ _ p λo q=>k _ _ (.inl Z) q,⟨o,k _ _ (.inl Z) e⟩,st⟩
theorem HOk.lt(x:HOk P w H h)(e:H a=some o):a<h.objs.size:=(x a o e).lt
theorem HOk.fresh(x:HOk P w H h)(e:h.objs.size<=a):H a=none:=by
 cases q:H a with
 |none=>rfl
 |some u=>exact absurd (Yt (x.lt q) e) (RF _)
theorem HOk.kept(x:HOk P w H h)(k:∀b u,h.get? b=some u->h'.get? b=some u):HOk P w H h':=λa o e=>
 (x a o e).stay (λb u _ q=>k b u q) (λ_ q=>q) λ_ _ q=>q
theorem HOk.laid(x:HOk P w H h)(k:∀b u,h.get? b=some u->h'.get? b=some u)(hp:h.objs.size<=a)(new:ObjOk P w (upd H a o) h' a o):HOk P w (upd H a o) h':=λb u e=>by
 have hn:=x.fresh hp;by_cases hb:b=a
 .subst hb;rw[XS]at e;cases e;exact new
 .rw[Zc hb]at e;exact(x b u e).stay (λc v _ q=>k c v q) (λc q=>by rwa[Zc (Zd q hn)]) λc xs q=>by rwa[Zc (Zd q hn)]
end
noncomputable def Rd(H:Hp)(a:Addr)(u:HO):Prop:=H a=some u\/∃o,H a=some (.frz o u)
theorem Rd.ok(r:Rd H a u)(x:HOk P w H h):ObjOk P w H h a u:=by
 rcases r with r|⟨o,r⟩
 .exact x a u r
 .obtain⟨_,q⟩:=x a _ r;exact q
noncomputable def EW:Option HO->Prop
 |some (.lst _)=>True
 |some (.dK _)=>True
 |some (.dT _)=>True
 |some (.set _ _)=>True
 |some (.ins _ _ _)=>True
 |some (.ext _)=>True
 |_=>False
section
variable{P:Program}{w:World}{H:Hp}{h h':Heap}{x e:Addr}{o':HO}
theorem HOk.write(ok:HOk P w H h)(mu:EW (H x))(he:e=x\/H e=some (.own x))(k:∀b u,b≠e->h.get? b=some u->h'.get? b=some u)(Gx:∃u,h'.get? e=some u)
  (new:ObjOk P w (upd H x o') h' x o'):HOk P w (upd H x o') h':=λb u q=>by
 have EV:∀c y,H c=some (.own y)->c≠x:=λc y r z=>by subst z;rwa[r]at mu
 have uq:∀c xs,H c=some (.tup xs)->c≠x:=λc xs r z=>by subst z;rwa[r]at mu
 by_cases hb:b=x
 .subst hb;rw[XS]at q;cases q;exact new
 .rw[Zc hb]at q;by_cases JA:b=e
  .have q':H b=some (.own x):=by
    rcases he with z|z
    .exact absurd (JA.trans z) hb
    .rw[JA];exact z
   rw[q]at q';cases q';obtain⟨v,hv⟩:=Gx;exact⟨v,by rwa[JA]⟩
  .refine(ok b u q).stay (λc v hc r=>k c v ?_ r) (λc r=>by rwa[Zc (EV c b r)]) λc xs r=>by rwa[Zc (uq c xs r)]
   rcases hc with rfl|hc
   .exact JA
   .rintro rfl;rcases he with z|z
    .exact EV c b hc z
    .rw[hc]at z;cases z;exact hb rfl
end
structure Un (fs ex:List Addr) (H H':Hp) (h h':Heap):Prop where
 keep:∀b o,h.get? b=some o->H b=none->b∉fs->b∉ex->h'.get? b=some o
 slot:∀b o,h.get? b=some o->H b=none->b∈fs->b∉ex->∃sl,h'.get? b=some {o with slots:=sl}
 free:∀b o,h.get? b=some o->H b=none->b∉ex->H' b=none
 there:∀b o,h.get? b=some o->b∉ex->∃o',h'.get? b=some o'
 tups:∀b xs,H b=some (.tup xs)->H' b=some (.tup xs)
 frzs:∀b o u,H b=some (.frz o u)->H' b=some (.frz o u)
 tbls:∀b ps,H b=some (.tbl ps)->∃more,H' b=some (.tbl<|ps++more)
section
variable{fs ex:List Addr}{H H1:Hp}{h h1 h':Heap}{a x e:Addr}{o:HO}
theorem Un.any(u:Un fs ex H H1 h h1){ob:Obj}(q:h.get? b=some ob)(n:H b=none)(hx:b∉ex):∃sl,h1.get? b=some {ob with slots:=sl}:=by
 by_cases hb:b∈fs
 .exact u.slot b ob q n hb hx
 .exact⟨ob.slots,u.keep b ob q n hb hx⟩
theorem Un.kept(k:∀b u,h.get? b=some u->h'.get? b=some u):Un fs ex H H h h':=
 ⟨λb ob q _ _ _=>k b ob q,λb ob q _ _ _=>⟨ob.slots,k b ob q⟩,λ_ _ _ n _=>n,λb ob q _=>⟨ob,k b ob q⟩,λ_ _ q=>q,λ_ _ _ q=>q,λ_ ps q=>⟨#[],by rw[q];simp⟩⟩
theorem Un.refl:Un fs ex H H h h:=Un.kept λ_ _ q=>q
theorem Un.laid(k:∀b u,h.get? b=some u->h'.get? b=some u)(hp:h.objs.size<=a)(hn:H a=none):Un fs ex H (upd H a o) h h' where
 keep:=λb u q _ _ _=>k b u q
 slot:=λb u q _ _ _=>⟨u.slots,k b u q⟩
 free:=λb u q n _=>by rwa[Zc (Yy<|Yt (Yp q) hp)]
 there:=λb u q _=>⟨u,k b u q⟩
 tups:=λb xs q=>by rwa[Zc (Zd q hn)]
 frzs:=λb u xs q=>by rwa[Zc (Zd q hn)]
 tbls:=λb ps q=>⟨#[],by rw[Zc (Zd q hn),q];simp⟩
theorem Un.write(mu:EW (H x))(he:e=x\/H e=some (.own x))(k:∀b u,b≠e->h.get? b=some u->h'.get? b=some u)(Gx:∃u,h'.get? e=some u):Un fs ex H (upd H x o) h h':=by
 have hx:∀b,H b=none->b≠x:=λb n z=>by subst z;rwa[n]at mu
 have hb:∀b,H b=none->b≠e:=λb n z=>by
  subst z;rcases he with r|r
  .exact hx b n r
  .rw[n]at r;cases r
 have hm:∀b u,H b=some u->¬EW (some u)->b≠x:=λb u q nm z=>by subst z;rw[q]at mu;exact nm mu
 refine⟨λb u q n _ _=>k b u (hb b n) q,λb u q n _ _=>⟨u.slots,k b u (hb b n) q⟩,λb u q n _=>by rw[Zc (hx b n)];exact n,λb u q _=>?_,
  λb xs q=>by rw[Zc (hm b _ q λz=>z)];exact q,λb u xs q=>by rw[Zc (hm b _ q λz=>z)];exact q,λb ps q=>⟨#[],by rw[Zc (hm b _ q λz=>z),q];simp⟩⟩
 by_cases JA:b=e
 .subst JA;exact Gx
 .exact⟨u,k b u JA q⟩
end
noncomputable def yx(h:Heap)(H:Hp):List Addr:=(List.range h.objs.size).filter λa=>(H a).isSome
noncomputable def UQ(h:Heap)(H:Hp):Heap:=PySem.W.hideAll h (yx h H)
theorem ZS8(h:Heap)(H:Hp):(UQ h H).objs.size=h.objs.size:=PySem.W.hideAll_size _ _
theorem Zah{b:Addr}{o:Obj}(e:h.get? b=some o)(n:H b=none):(UQ h H).get? b=some o:=
 PySem.W.hideAll_get _ e λhm=>by have q:(H b).isSome=true:=(Yg.mp hm).2;rw[n]at q;simp at q
theorem Zai{b:Addr}{o:Obj}(e:(UQ h H).get? b=some o):h.get? b=some o/\H b=none:=by
 have e':h.get? b=some o:=PySem.W.of_hideAll (yx h H) e;refine⟨e',?_⟩;cases q:H b with
 |none=>rfl
 |some x=>
  have hm:b∈yx h H:=Yg.mpr ⟨YI.mpr<|Yp e',by simp[q]⟩;have z:(UQ h H).get? b=none:=vq (yx h H) hm
  rw[z]at e;cases e
noncomputable def Zaj(g h:Heap)(L:Addr):List (Addr×Obj):=(List.range h.objs.size).filterMap λa=>if a=L\/(g.get? a).isSome=true then none else (h.get? a).map λo=>(a,o)
noncomputable def rest(g h:Heap)(L d:Addr):List (Addr×Obj):=(Zaj g h L).filter λp=>decide (p.1≠d)
structure Mod (K:Ad) (mg:Af) (base:Heap):Prop where
 kin:K.In base
 glob:base.Ns mainGlobals mg
 blt:∃mb,base.Ns builtinsNs mb/\∀x:Str,x≠"__name__"->mb x=bootBuiltins x
 nolimit:base.NoLimit
structure Cx where
 prog:Program
 w:World
 K:Ad
 mg:Af
 base:Heap
 A:Around
 N:List Str
 s₀:Shared
 H₀:Hp
 env:Env
 outer:List Env
 stack:List Env
 ex:List Addr
 fn:Str->Bool
 calm:Bool
 pn:List (Addr×Obj)
 xe:Ae
noncomputable def Wd(l:List Env):List Addr:=l.filterMap (·.frame)
noncomputable abbrev Cx.fs(X:Cx):List Addr:=Wd X.outer
noncomputable def ui(sc:Scope)(x:Str):Prop:=sc.names.lookup x=some .local\/sc.names.lookup x=some .cell\/sc.names.lookup x=some .free
noncomputable def Loc(sc:Scope)(x:Str):Prop:=sc.names.lookup x=some .local\/sc.names.lookup x=some .cell
noncomputable def Look(env:Env)(h:Heap)(m:Af)(x:Str)(u:Value):Prop:=
 (env.kindOf x=some .local/\m x=some u)\/((env.kindOf x=some .cell\/env.kindOf x=some .free)/\∃c,env.cells.lookup x=some c/\h.IsCell c (some u))
structure Cx.Ok (X:Cx):Prop where
 mod:Mod X.K X.mg X.base
 kind:X.env.scope.kind=.function
 glob:X.env.globals=mainGlobals
 blt:X.env.builtins=builtinsNs
 above:X.s₀.heap.objs.size<=X.env.locals
 inj:∀x y c,X.env.cells.lookup x=some c->X.env.cells.lookup y=some c->x=y
 has:∀x,(X.env.kindOf x=some .cell\/X.env.kindOf x=some .free)->∃c,X.env.cells.lookup x=some c
 cab:∀x c,X.fn x=true->X.env.cells.lookup x=some c->X.s₀.heap.objs.size<=c
 hd:X.calm=true->X.A.handled=none
 frames:X.A.frames=some X.stack
 stk:X.stack=X.outer\/(X.stack=X.env::X.outer/\X.env.frame=some X.env.locals)
 exf:∀b∈X.ex,b≠X.env.locals/\∀x c,X.env.cells.lookup x=some c->c≠b
 bs:∀b o,X.base.get? b=some o->X.s₀.heap.get? b=some o/\X.H₀ b=none
 bsz:X.base.objs.size<=X.s₀.heap.objs.size
 noex:∀b o,X.base.get? b=some o->b∉X.ex
 exfs:∀b∈X.ex,b∉X.fs
 funs:X.s₀.heap.FunFrames X.base X.outer
 frf:∀b∈X.fs,X.H₀ b=none
structure Inv (X:Cx) (pins:List (Addr×Obj)) (σ:List (Option V)) (H:Hp) (s:Shared):Prop where
 ok:X.Ok
 os:s.os=X.s₀.os
 bare:AllBare s.gens
 base:Un X.fs X.ex X.H₀ H X.s₀.heap s.heap
 loc:∃m,s.heap.Ns X.env.locals m/\∀(i:Nat)(x:Str)(v:V),X.N[i]?=some x->σ[i]?=some (some v)->ui X.env.scope x->∃u,RelV v u/\Look X.env s.heap m x u
 cell:∀x c,X.env.cells.lookup x=some c->∃v,s.heap.IsCell c v
 free:H X.env.locals=none
 freeC:∀x c,X.env.cells.lookup x=some c->H c=none
 pin:∀p∈X.pn++pins,s.heap.get? p.1=some p.2/\H p.1=none/\p.1≠X.env.locals/\p.1∉X.fs/\∀v,p.2.data≠.cell v
 hok:HOk X.prog X.w H s.heap
 len:σ.length=X.N.length
section
variable{X:Cx}{pins:List (Addr×Obj)}{σ:List (Option V)}{H H':Hp}{s:Shared}{h':Heap}
theorem Cx.Ok.nofr(ok:X.Ok){b:Addr}{o:Obj}(e:X.base.get? b=some o):b∉X.fs:=λhb=>by
 have:=(ok.funs.mem hb).1
 rw[e]at this;cases this
theorem Inv.bs(I:Inv X pins σ H s):∀b o,X.base.get? b=some o->s.heap.get? b=some o/\H b=none:=λb o e=>
 ⟨I.base.keep b o (I.ok.bs b o e).1 (I.ok.bs b o e).2 (I.ok.nofr e) (I.ok.noex b o e),I.base.free b o (I.ok.bs b o e).1 (I.ok.bs b o e).2 (I.ok.noex b o e)⟩
theorem Inv.bk(I:Inv X pins σ H s):∀b o,X.base.get? b=some o->s.heap.get? b=some o:=λb o e=>(I.bs b o e).1
theorem Inv.mod(I:Inv X pins σ H s):Mod X.K X.mg X.base:=I.ok.mod
theorem Inv.kIn(I:Inv X pins σ H s):X.K.In s.heap:=I.ok.mod.kin.keeps I.bk
theorem Inv.lt(I:Inv X pins σ H s):X.env.locals<s.heap.objs.size:=by obtain⟨_,hn,_⟩:=I.loc;exact hn.lt
theorem Inv.sz(I:Inv X pins σ H s):X.s₀.heap.objs.size<=s.heap.objs.size:=Ys I.ok.above (Nt I.lt)
theorem Inv.nofs(I:Inv X pins σ H s){a:Addr}(h:s.heap.objs.size<=a):a∉X.fs:=λhb=>by obtain⟨_,o,ho,_⟩:=I.ok.funs.mem hb;exact absurd (Yt (Yp ho)<|Ys I.sz h) (RF _)
theorem Inv.cne(I:Inv X pins σ H s):∀x c,X.env.cells.lookup x=some c->c≠X.env.locals:=λx c e z=>by obtain⟨v,o,ho,hd⟩:=I.cell x c e;obtain⟨m,⟨o',es,ep,Wu,Qc,_⟩,_⟩:=I.loc;rw[z,Wu]at ho;cases ho;rw[Qc]at hd;cases hd
theorem Inv.funs(I:Inv X pins σ H s):s.heap.FunFrames X.base X.outer:=by
 have all:∀(l:List Env),(∀b∈Wd l,b∈X.fs)->X.s₀.heap.FunFrames X.base l->s.heap.FunFrames X.base l:=by
  intro l
  induction l with
  |nil=>intro _ _;trivial
  |cons env r ih=>
   intro hs hl;obtain⟨hk,⟨L,o,hf,hn,ho,hd⟩,hr⟩:=hl;have hL:L∈X.fs:=hs L (by unfold Wd;rw[Fw,hf];exact Ya)
   obtain⟨sl,e⟩:=I.base.slot L o ho (I.ok.frf L hL) hL λz=>I.ok.exfs L z hL;exact⟨hk,⟨L,_,hf,hn,e,hd⟩,ih (λb hb=>hs b<|by unfold Wd;rw[Fw,hf];exact Yf _ hb) hr⟩
 exact all X.outer (λ_ hb=>hb) I.ok.funs
theorem Inv.stack(I:Inv X pins σ H s):s.heap.FunFrames X.base X.stack:=by
 rcases I.ok.stk with e|⟨e,hf⟩
 .rw[e];exact I.funs
 .rw[e];obtain⟨m,hn,_⟩:=I.loc;refine .cons (by rw[I.ok.kind];decide) hf hn ?_ I.funs;exact Heap.get?_none_of_le (Ys I.ok.bsz I.ok.above)
theorem Inv.stkSub(I:Inv X pins σ H s):∀b∈Wd X.stack,b∈X.env.locals::X.fs:=λb hb=>by
 rcases I.ok.stk with e|⟨e,hf⟩
 .rw[e]at hb;exact Yf _ hb
 .rw[e]at hb;unfold Wd at hb;rwa[Fw,hf]at hb
theorem Inv.stkFree(I:Inv X pins σ H s):∀b∈Wd X.stack,H b=none:=λb hb=>by
 rcases Ye.mp (I.stkSub b hb) with e|hb
 .rw[e];exact I.free
 .obtain⟨_,o,ho,_⟩:=I.ok.funs.mem hb;exact I.base.free b o ho (I.ok.frf b hb) λz=>I.ok.exfs b z hb
theorem Inv.step{g':Array GenState}{t':Nat}{d':Drawn}{ch:List Addr}(I:Inv X pins σ H s)
  (Og:∀b∈ch,(b∈X.ex\/X.s₀.heap.objs.size<=b)/\b≠X.env.locals/\(∀x c,X.env.cells.lookup x=some c->c≠b)/\∀p∈X.pn++pins,p.1≠b)
  (keep:∀b o,b≠X.env.locals->b∉X.fs->b∉ch->s.heap.get? b=some o->H b=none->h'.get? b=some o)
  (slot:∀b o,b≠X.env.locals->b∈X.fs->b∉ch->s.heap.get? b=some o->H b=none->∃sl,h'.get? b=some {o with slots:=sl})(free:∀b o,b∉ch->s.heap.get? b=some o->H b=none->H' b=none)
  (there:∀b o,b∉ch->s.heap.get? b=some o->∃o',h'.get? b=some o')
  (tups:∀b xs,H b=some (.tup xs)->H' b=some (.tup xs))(frzs:∀b o u,H b=some (.frz o u)->H' b=some (.frz o u))(tbls:∀b ps,H b=some (.tbl ps)->∃more,H' b=some (.tbl<|ps++more))
  (ns:∀m,s.heap.Ns X.env.locals m->h'.Ns X.env.locals m)(hok:HOk X.prog X.w H' h')(hg:AllBare g'):
  Inv X pins σ H' {s with heap:=h',gens:=g',drawn:=d',toks:=t'}:=by
 have yw:∀b o,X.s₀.heap.get? b=some o->b≠X.env.locals:=λb o e=>Yy (Yt (Yp e) I.ok.above);have yt:∀b o,X.s₀.heap.get? b=some o->b∉X.ex->b∉ch:=λb o e hx hb=>by
  rcases(Og b hb).1 with z|z
  .exact hx z
  .exact absurd (Yt (Yp e) z) (RF _)
 have cellK:∀x c,X.env.cells.lookup x=some c->∀v,s.heap.IsCell c v->h'.IsCell c v:=λx c e v ⟨o,ho,hd⟩=>by
  have EU:c∉ch:=λz=>(Og c z).2.2.1 x c e rfl;by_cases hc:c∈X.fs
  .obtain⟨sl,q⟩:=slot c o (I.cne x c e) hc EU ho (I.freeC x c e);exact⟨_,q,hd⟩
  .exact⟨o,keep c o (I.cne x c e) hc EU ho<|I.freeC x c e,hd⟩
 refine⟨I.ok,I.os,hg,⟨λb o e n hb hx=>?_,λb o e n hb hx=>?_,λb o e n hx=>?_,λb o e hx=>?_,λb xs e=>tups b xs<|I.base.tups b xs e,λb o xs e=>frzs b o xs<|I.base.frzs b o xs e,λb ps e=>?_⟩,?_,λx c e=>?_,?_,λx c e=>?_,λp hp=>?_,hok,I.len⟩
 .exact keep b o (yw b o e) hb (yt b o e hx) (I.base.keep b o e n hb hx) (I.base.free b o e n hx)
 .obtain⟨sl,e1⟩:=I.base.slot b o e n hb hx;obtain⟨ET,e2⟩:=slot b _ (yw b o e) hb (yt b o e hx) e1 (I.base.free b o e n hx);exact⟨ET,e2⟩
 .obtain⟨o',e1⟩:=I.base.there b o e hx;exact free b o' (yt b o e hx) e1 (I.base.free b o e n hx)
 .obtain⟨o',e1⟩:=I.base.there b o e hx;exact there b o' (yt b o e hx) e1
 .obtain⟨m1,e1⟩:=I.base.tbls b ps e;obtain⟨m2,e2⟩:=tbls b _ e1;exact⟨m1++m2,by rw[e2,Array.append_assoc]⟩
 .obtain⟨m,hn,hl⟩:=I.loc;refine⟨m,ns m hn,λi x v e1 e2 e3=>?_⟩;obtain⟨u,r,l⟩:=hl i x v e1 e2 e3;refine⟨u,r,?_⟩;rcases l with l|⟨k,c,e,z⟩
  .exact .inl l
  .exact .inr ⟨k,c,e,cellK x c e _ z⟩
 .obtain⟨v,z⟩:=I.cell x c e;exact⟨v,cellK x c e v z⟩
 .obtain⟨m,⟨o,_,_,ho,_⟩,_⟩:=I.loc;exact free _ o (λz=>(Og _ z).2.1 Z) ho I.free
 .obtain⟨v,o,ho,hd⟩:=I.cell x c e;exact free c o (λz=>(Og c z).2.2.1 x c e Z) ho (I.freeC x c e)
 .obtain⟨e,n,ne,nf,d⟩:=I.pin p hp;have EU:p.1∉ch:=λz=>(Og p.1 z).2.2.2 p hp rfl
  exact⟨keep p.1 p.2 ne nf EU e n,free p.1 p.2 EU e n,ne,nf,d⟩
theorem Inv.un{t':Nat}(I:Inv X pins σ H s)(u:Un X.fs [] H H' s.heap h')(hok:HOk X.prog X.w H' h'):Inv X pins σ H' {s with heap:=h',toks:=t'}:=by
 obtain⟨m,⟨o,es,ep,ho,r⟩,_⟩:=id I.loc;obtain⟨sl,hL⟩:=u.any ho I.free B;exact I.step (g':=s.gens) (d':=s.drawn) (ch:=[]) (λ_ z=>nomatch z) (λb o _ hb _ e n=>u.keep b o e n hb B) (λb o _ hb _ e n=>u.slot b o e n hb B) (λb o _ e n=>u.free b o e n B) (λb o _ e=>u.there b o e B) u.tups u.frzs u.tbls (λm' hm=>by obtain⟨o',uh,ug,Wu,r'⟩:=hm;rw[ho]at Wu;cases Wu;exact⟨_,uh,ug,hL,r'⟩) hok I.bare
theorem Inv.call{t':Nat}{d':Drawn}(I:Inv X pins σ H s)(u:Un (Wd X.stack) ch H H' s.heap h')(hok:HOk X.prog X.w H' h')(hg:AllBare g')
  (Og:∀b∈ch,(b∈X.ex\/X.s₀.heap.objs.size<=b)/\b≠X.env.locals/\(∀x c,X.env.cells.lookup x=some c->c≠b)/\∀p∈X.pn++pins,p.1≠b):
  Inv X pins σ H' {s with heap:=h',gens:=g',drawn:=d',toks:=t'}:=by
 obtain⟨m,⟨o,es,ep,ho,r⟩,_⟩:=id I.loc;obtain⟨sl,hL⟩:=u.any ho I.free λz=>(Og _ z).2.1 rfl;exact I.step (ch:=ch) Og (λb o hL hb hc e n=>u.keep b o e n (λz=>(Ye.mp<|I.stkSub b z).elim hL hb) hc) (λb o _ _ hc e n=>u.any e n hc) (λb o hc e n=>u.free b o e n hc) (λb o hc e=>u.there b o e hc) u.tups u.frzs u.tbls (λm' hm=>by obtain⟨o',uh,ug,Wu,r'⟩:=hm;rw[ho]at Wu;cases Wu;exact⟨_,uh,ug,hL,r'⟩) hok hg
theorem Inv.turned{t':Nat}(I:Inv X pins σ H s)(k:∀b o,b≠it->s.heap.get? b=some o->h'.get? b=some o)(hn:H it=none)(hL:it≠X.env.locals)
  (h1:it∈X.ex\/X.s₀.heap.objs.size<=it)(h2:∀x c,X.env.cells.lookup x=some c->c≠it)(h3:∀p∈X.pn++pins,p.1≠it):Inv X pins σ H {s with heap:=h',toks:=t'}:=by
 have eB:∀b u,H b=some u->b≠it:=λb u e z=>by rw[z,hn]at e;cases e
 refine I.step (g':=s.gens) (d':=s.drawn) (ch:=[it]) (λb hb=>?_) (λb o _ _ hc e _=>k b o (λz=>hc<|by simp[z]) e) (λb o _ _ hc e _=>⟨o.slots,k b o (λz=>hc<|by simp[z]) e⟩) (λ_ _ _ _ n=>n)
  (λb o hc e=>⟨o,k b o (λz=>hc<|by simp[z]) e⟩) (λ_ _ e=>e) (λ_ _ _ e=>e) (λb ps e=>⟨#[],by rw[e];simp⟩) (λm hm=>?_) (λb u e=>?_) I.bare
 .have e:b=it:=by simpa using hb
  subst e;exact⟨h1,hL,h2,h3⟩
 .obtain⟨o,es,ep,ho,r⟩:=hm;exact⟨o,es,ep,k _ o (XI hL) ho,r⟩
 .refine(I.hok b u e).stay (λc v hc q=>k c v ?_ q) (λ_ q=>q) λ_ _ q=>q;rcases hc with z|z
  .rw[z];exact eB b u e
  .exact eB c _ z
theorem Inv.tok(I:Inv X pins σ H s)(t:Nat):Inv X pins σ H {s with toks:=t}:=I.un (h':=s.heap) (t':=t) Un.refl I.hok
theorem Inv.kept{t':Nat}(I:Inv X pins σ H s)(k:∀b u,s.heap.get? b=some u->h'.get? b=some u):Inv X pins σ H {s with heap:=h',toks:=t'}:=I.un (Un.kept k) (I.hok.kept k)
theorem Inv.laid{t':Nat}(I:Inv X pins σ H s)(k:∀b u,s.heap.get? b=some u->h'.get? b=some u)(hp:s.heap.objs.size<=a)(new:ObjOk X.prog X.w (upd H a o) h' a o):
  Inv X pins σ (upd H a o) {s with heap:=h',toks:=t'}:=I.un (Un.laid k hp<|I.hok.fresh hp) (I.hok.laid k hp new)
theorem Inv.write{t':Nat}(I:Inv X pins σ H s)(mu:EW (H x))(he:e=x\/H e=some (.own x))(k:∀b u,b≠e->s.heap.get? b=some u->h'.get? b=some u)(Gx:∃u,h'.get? e=some u)
  (new:ObjOk X.prog X.w (upd H x o) h' x o):Inv X pins σ (upd H x o) {s with heap:=h',toks:=t'}:=I.un (Un.write mu he k Gx) (I.hok.write mu he k Gx new)
theorem Inv.weak(I:Inv X pins σ H s)(hl:σ'.length=σ.length)(w:∀(i:Nat) v,σ'[i]?=some (some v)->σ[i]?=some (some v)):Inv X pins σ' H s:=
 ⟨I.ok,I.os,I.bare,I.base,by obtain⟨m,hn,Qb⟩:=I.loc;exact⟨m,hn,λi x v e1 e2 e3=>Qb i x v e1 (w i v e2) e3⟩,I.cell,I.free,I.freeC,I.pin,I.hok,hl.trans I.len⟩
theorem Inv.pins_of(I:Inv X pins σ H s)(h:∀p∈pins',s.heap.get? p.1=some p.2/\H p.1=none/\p.1≠X.env.locals/\p.1∉X.fs/\∀v,p.2.data≠.cell v):Inv X pins' σ H s:=
 ⟨I.ok,I.os,I.bare,I.base,I.loc,I.cell,I.free,I.freeC,λp hp=>(Xz.mp hp).elim (λz=>I.pin p<|Yd _ z) (h p),I.hok,I.len⟩
theorem ES{N:List Str}(hN:N.Nodup){i j:Nat}{x:Str}(a:N[i]?=some x)(b:N[j]?=some x):i=j:=by obtain⟨h1,e1⟩:=Xs.mp a;obtain⟨h2,e2⟩:=Xs.mp b;exact(List.getElem_inj hN).mp (e1.trans e2.symm)
theorem Zf8{E:Ae}{i:Nat}{x:Str}{Q:Unit->Shared->Prop}(I:Inv X pins σ H s)(hN:X.N.Nodup)(hi:X.N[i]?=some x)(hx:Loc X.env.scope x)(r:RelV v u)
  (h:∀s',Inv X pins (σ.set i<|some v) H s'->(∃a,Heap.SameBut a s.heap s'.heap/\(a=X.env.locals\/X.env.cells.lookup x=some a))->Q () s')(hf:X.fn x=true\/X.env.scope.names.lookup x=some .local:=by first|exact .inl rfl|exact .inr rfl|assumption):wpAny M A (storeName X.env x u) Q E s:=by
 obtain⟨m,hn,hl⟩:=id I.loc;have uf:(X.env.scope.kind == .class||(X.env.scope.kind == .module&&X.env.locals != X.env.globals))=false:=by rw[I.ok.kind];rfl
 have ER:i<σ.length:=by rw[I.len];exact(Xs.mp hi).1
 have cne:=I.cne;have tracked:∀{a:Addr}{h':Heap},(∃o,s.heap.get? a=some o/\H a=none)->Heap.SameBut a s.heap h'->HOk X.prog X.w H h':=λ{a h'} ha hs b ob e=>by
  obtain⟨_,_,Ls⟩:=ha;refine(I.hok b ob e).stay (λc w' hc q=>(hs.2 c ?_).trans q) (λ_ q=>q) λ_ _ q=>q;rintro rfl;rcases hc with rfl|hc
  .rw[Ls]at e;cases e
  .rw[Ls]at hc;cases hc
 rcases hx with hk|hk
 .refine wpAny_storeName_local hk hn (λh' Rx hs=>?_) uf;obtain⟨oL,_,_,Jz,_⟩:=id hn;refine h _ ⟨I.ok,I.os,I.bare,⟨λb o e n hb hx=>?_,λb o e n hb hx=>?_,I.base.free,λb o e hx=>?_,I.base.tups,I.base.frzs,I.base.tbls⟩,⟨_,Rx,λj y v' e1 e2 e3=>?_⟩,λy c e=>?_,I.free,I.freeC,λp hp=>?_,tracked ⟨oL,Jz,I.free⟩ hs,by simpa using I.len⟩ ⟨_,hs,.inl Z⟩
  .exact(hs.2 b<|Yy<|Yt (Yp e) I.ok.above).trans (I.base.keep b o e n hb hx)
  .obtain⟨sl,e1⟩:=I.base.slot b o e n hb hx;exact⟨sl,(hs.2 b<|Yy<|Yt (Yp e) I.ok.above).trans e1⟩
  .obtain⟨o',e1⟩:=I.base.there b o e hx;exact⟨o',(hs.2 b<|Yy<|Yt (Yp e) I.ok.above).trans e1⟩
  .by_cases hj:j=i
   .subst hj;rw[hi]at e1;cases e1;rw[eR ER]at e2;cases e2;exact⟨u,r,.inl ⟨hk,B⟩⟩
   .rw[List.getElem?_set_ne (XI hj)]at e2;obtain⟨u',r',q⟩:=hl j y v' e1 e2 e3;refine⟨u',r',?_⟩;rcases q with ⟨k,e⟩|⟨k,c,e,z⟩
    .refine .inl ⟨k,?_⟩
     have:y≠x:=λe=>hj (ES hN e1<|e▸hi)
     simp[this,e]
    .exact .inr ⟨k,c,e,z.sameBut hs<|cne y c e⟩
  .obtain⟨w',z⟩:=I.cell y c e;exact⟨w',z.sameBut hs<|cne y c e⟩
  .obtain⟨e,n,ne,nf,d⟩:=I.pin p hp;exact⟨(hs.2 p.1 ne).trans e,n,ne,nf,d⟩
 .have Gw:X.fn x=true:=by
   rcases hf with z|z
   .exact z
   .rw[z]at hk;cases hk
  obtain⟨c,hc⟩:=I.ok.has x (.inl hk);obtain⟨w',z⟩:=I.cell x c hc;refine wpAny_storeName_cell I.ok.kind hk hc z λh' WI hs=>?_;obtain⟨oc,yr,ue⟩:=id z;refine h {s with heap:=h'} ⟨I.ok,I.os,I.bare,⟨λb o e n hb hx=>?_,λb o e n hb hx=>?_,I.base.free,λb o e hx=>?_,I.base.tups,I.base.frzs,I.base.tbls⟩,⟨m,hn.sameBut hs<|XI<|cne x c hc,λj y v' e1 e2 e3=>?_⟩,λy c' e=>?_,I.free,I.freeC,λp hp=>?_,tracked ⟨oc,yr,I.freeC x c hc⟩ hs,by simpa using I.len⟩ ⟨c,hs,.inr hc⟩
  .exact(hs.2 b<|Yy<|Yt (Yp e)<|I.ok.cab x c Gw hc).trans (I.base.keep b o e n hb hx)
  .obtain⟨sl,e1⟩:=I.base.slot b o e n hb hx;exact⟨sl,(hs.2 b<|Yy<|Yt (Yp e)<|I.ok.cab x c Gw hc).trans e1⟩
  .obtain⟨o',e1⟩:=I.base.there b o e hx;exact⟨o',(hs.2 b<|Yy<|Yt (Yp e)<|I.ok.cab x c Gw hc).trans e1⟩
  .by_cases hj:j=i
   .subst hj;rw[hi]at e1;cases e1;rw[eR ER]at e2;cases e2;exact⟨u,r,.inr ⟨.inl hk,c,hc,WI⟩⟩
   .rw[List.getElem?_set_ne (XI hj)]at e2;obtain⟨u',r',q⟩:=hl j y v' e1 e2 e3;refine⟨u',r',?_⟩;rcases q with q|⟨k,c',e,z'⟩
    .exact .inl q
    .refine .inr ⟨k,c',e,z'.sameBut hs ?_⟩;rintro rfl;exact hj (ES hN e1<|I.ok.inj _ _ _ e hc▸hi)
  .by_cases ud:c'=c
   .subst ud;exact⟨_,WI⟩
   .obtain⟨w2,z2⟩:=I.cell y c' e;exact⟨w2,z2.sameBut hs ud⟩
  .obtain⟨e,n,ne,nf,d⟩:=I.pin p hp;refine⟨(hs.2 p.1 ?_).trans e,n,ne,nf,d⟩;intro q;rw[q,yr]at e;have q':oc=p.2:=Yh e
   exact d w' (by rwa[<-q'])
theorem uc{E:Ae}{i:Nat}{x:Str}{Q:Unit->Shared->Prop}(I:Inv X pins σ H s)(hN:X.N.Nodup)(hi:X.N[i]?=some x)(hx:Loc X.env.scope x)(r:RelV v u)
  (h:∀s',Inv X pins (σ.set i<|some v) H s'->Q () s')(hf:X.fn x=true\/X.env.scope.names.lookup x=some .local:=by first|exact .inl rfl|exact .inr rfl|assumption):wpAny M A (storeName X.env x u) Q E s:=
 Zf8 I hN hi hx r (λs' I' _=>h s' I') hf
theorem Inv.call'(I:Inv X pins σ H s)(ho:s'.os=s.os)(u:Un (Wd X.stack) ch H H' s.heap s'.heap)(hok:HOk X.prog X.w H' s'.heap)(hg:AllBare s'.gens)
  (Og:∀b∈ch,(b∈X.ex\/X.s₀.heap.objs.size<=b)/\b≠X.env.locals/\(∀x c,X.env.cells.lookup x=some c->c≠b)/\∀p∈X.pn++pins,p.1≠b):Inv X pins σ H' s':=by
 obtain⟨h',g',d',t',o'⟩:=s';have e:o'=s.os:=ho
 subst e;exact I.call (g':=g') (t':=t') (d':=d') u hok hg Og
end
noncomputable abbrev XK:=Value->Option Addr->Hp->Prop
noncomputable abbrev St:=List (Option V)
noncomputable abbrev VK:=V->Hp->Prop
noncomputable abbrev TE:=St->Hp->VK->Prop
noncomputable abbrev TT:=St->Hp->(Bool->Hp->Prop)->Prop
noncomputable abbrev TA:=St->Hp->(List V->Hp->Prop)->Prop
structure Ends where
 nx:St->Hp->Prop
 rt:VK
 bk:St->Hp->Prop:=λ_ _=>False
 ct:St->Hp->Prop:=λ_ _=>False
noncomputable abbrev TS:=Ends->St->Hp->Prop
noncomputable def EP(X:Cx)(pins:List (Addr×Obj))(σ:St)(Q:VK)(u:Value)(s':Shared):Prop:=∃v H',Inv X pins σ H' s'/\RelV v u/\Q v H'
noncomputable def TP(X:Cx)(pins:List (Addr×Obj))(σ:St)(Q:Bool->Hp->Prop)(b:Bool)(s':Shared):Prop:=∃H',Inv X pins σ H' s'/\Q b H'
noncomputable def Zak(X:Cx)(pins:List (Addr×Obj))(σ:St)(Q:List V->Hp->Prop)(us:Ag)(s':Shared):Prop:=∃vs H',Inv X pins σ H' s'/\Vals vs us/\Q vs H'
noncomputable def SP(X:Cx)(pins:List (Addr×Obj))(um:Ends)(f:Flow)(s':Shared):Prop:=
 match f with
 | .next=>∃σ' H',Inv X pins σ' H' s'/\um.nx σ' H'
 | .brk=>∃σ' H',Inv X pins σ' H' s'/\um.bk σ' H'
 | .cont=>∃σ' H',Inv X pins σ' H' s'/\um.ct σ' H'
 | .ret u=>∃v σ' H',Inv X pins σ' H' s'/\RelV v u/\um.rt v H'
noncomputable def PE(X:Cx)(e:Expr)(t:TE):Prop:=
 ∀(pins:List (Addr×Obj))(s:Shared)(σ:St)(H:Hp)(Q:VK),Inv X pins σ H s->t σ H Q->wpAny (model X.prog X.w) X.A (eval e X.env) (EP X pins σ Q) X.xe s
noncomputable def PT(X:Cx)(e:Expr)(t:TT):Prop:=
 ∀(pins:List (Addr×Obj))(s:Shared)(σ:St)(H:Hp)(Q:Bool->Hp->Prop),Inv X pins σ H s->t σ H Q->wpAny (model X.prog X.w) X.A (isTrue e X.env<|eval e X.env) (TP X pins σ Q) X.xe s
noncomputable def PW(X:Cx)(e:Expr)(t:TT):Prop:=
 ∀(whole:Sem Value)(pins:List (Addr×Obj))(s:Shared)(σ:St)(H:Hp)(Q:Bool->Hp->Prop),Inv X pins σ H s->t σ H Q->wpAny (model X.prog X.w) X.A (isTrue e X.env whole) (TP X pins σ Q) X.xe s
theorem PW.pt(h:PW X e t):PT X e t:=h _
noncomputable def PA(X:Cx)(es:List Expr)(t:TA):Prop:=
 ∀(pos:Pos)(pins:List (Addr×Obj))(s:Shared)(σ:St)(H:Hp)(Q:List V->Hp->Prop),Inv X pins σ H s->t σ H Q->wpAny (model X.prog X.w) X.A (spliced<|backTo pos<|starEach es X.env) (Zak X pins σ Q) X.xe s
noncomputable def PS(X:Cx)(st:Stmt)(t:TS):Prop:=
 ∀(pins:List (Addr×Obj))(s:Shared)(σ:St)(H:Hp)(um:Ends),Inv X pins σ H s->t um σ H->wpAny (model X.prog X.w) X.A (exec st X.env) (SP X pins um) X.xe s
noncomputable def PSs(X:Cx)(st:List Stmt)(t:TS):Prop:=
 ∀(pins:List (Addr×Obj))(s:Shared)(σ:St)(H:Hp)(um:Ends),Inv X pins σ H s->t um σ H->wpAny (model X.prog X.w) X.A (execs st X.env) (SP X pins um) X.xe s
theorem thn{α:Type}{t:Sem α}{Q Q':α->Shared->Prop}{M:Model}{A:Around}{E:Ae}{s:Shared}(h:wpAny M A t Q E s)(hQ:∀a s,Q a s->Q' a s):wpAny M A t Q' E s:=Ut h hQ λ_ _ x=>x
section
variable{X:Cx}
noncomputable def EO(i:Nat):TE:=λσ H Q=>∃v,σ[i]?=some (some v)/\Q v H
noncomputable def tC(v:V):TE:=λ_ H Q=>Q v H
theorem Zal {x:Str} {pos:Pos} (hN:X.N[i]?=some x) (hv:ui X.env.scope x) (hd:(x == ("__debug__":Str))=false:=by decide) (Ub:(x == ("__classdict__":Str))=false:=by decide):PE X (.Name x pos) (EO i):=by
 intro pins s σ H Q I h;obtain⟨v,e,h⟩:=h;obtain⟨m,hn,hl⟩:=I.loc;obtain⟨u,r,l⟩:=hl i x v hN e hv;have fin:EP X pins σ Q u s:=⟨v,H,I,r,h⟩
 rcases l with ⟨hk,hm⟩|⟨hk,c,hc,Sb⟩
 .exact wpAny_Name (wpAny_loadName_local I.ok.kind hk hn hm fin) hd
 .rcases hk with hk|hk
  .exact wpAny_Name (wpAny_loadName_cell I.ok.kind hk hc Sb fin) hd
  .exact wpAny_Name (wpAny_loadName_free I.ok.kind hk hc Sb fin Ub) hd
theorem Za{i j pos}:PE X (.Constant (.int i) j pos) (tC (.int i)):=λ_ _ _ H _ I h=>wpAny_Constant_int ⟨.int i,H,I.tok _,⟨_,Z⟩,h⟩
theorem VG{b j pos}:PE X (.Constant (.bool b) j pos) (tC (.bl b)):=λ_ _ _ H _ I h=>Constant_bool ⟨.bl b,H,I,Z,h⟩
theorem QG{j pos}:PE X (.Constant .none j pos) (tC .non):=λ_ _ _ H _ I h=>Constant_none ⟨.non,H,I,Z,h⟩
theorem Qa{x j pos}:PE X (.Constant (.str x) j pos) (tC (.str x)):=λ_ _ _ H _ I h=>Calls.Constant_str ⟨.str x,H,I.tok _,⟨_,Z⟩,h⟩
noncomputable def Gl(X:Cx)(x:Str):Prop:=X.env.kindOf x=some .globalImplicit
theorem PZ{E:Ae}{u:Value}{pos:Pos}{Q:Ae}(I:Inv X pins σ H s)(hg:Gl X x)(hm:X.mg x=some u)(h:Q u s)
  (hd:(x == ("__debug__":Str))=false:=by decide):wpAny (model X.prog X.w) X.A (eval (.Name x pos) X.env) Q E s:=
 vA I.ok.kind hg (Calls.loadGlobal_global (by rw[I.ok.glob];exact I.mod.glob.keeps I.bk) hm h) hd
theorem QF{E:Ae}{u:Value}{pos:Pos}{Q:Ae}(I:Inv X pins σ H s)(hg:Gl X x)(hm:X.mg x=none)(hv:bootBuiltins x=some u)(h:Q u s)
  (hn:x≠"__name__":=by decide)(hd:(x == ("__debug__":Str))=false:=by decide):wpAny (model X.prog X.w) X.A (eval (.Name x pos) X.env) Q E s:=by obtain⟨mb,h1,h2⟩:=I.mod.blt;exact vA I.ok.kind hg (Calls.loadGlobal_builtin (by rw[I.ok.glob];exact I.mod.glob.keeps I.bk) hm (by rw[I.ok.blt];exact h1.keeps I.bk) ((h2 x hn).trans hv) h) hd
theorem yq {u:Value} {pos:Pos} (hg:Gl X x) (hm:X.mg x=some u) (r:RelV v u) (hd:(x == ("__debug__":Str))=false:=by decide):PE X (.Name x pos) (tC v):=
 λ_ _ _ H _ I h=>PZ I hg hm ⟨v,H,I,r,h⟩ hd
variable{a b:Expr}{ta tb:TE}{pos:Pos}
noncomputable def PC(X:Cx)(op:CmpOp)(a b:Expr)(t:TE):Prop:=
 ∀(pins:List (Addr×Obj))(s:Shared)(σ:St)(H:Hp)(Q:VK),Inv X pins σ H s->t σ H Q->
  wpAny (model X.prog X.w) X.A (eval a X.env) (λv s₁=>wpAny (model X.prog X.w) X.A (eval b X.env) (λu s₂=>wpAny (model X.prog X.w) X.A (compareOp op v u) (EP X pins σ Q) X.xe s₂) X.xe s₁) X.xe s
noncomputable def tB(t:TE):TT:=λσ H Q=>t σ H λx H1=>∃c,x=.bl c/\Q c H1
theorem Rw{e:Expr}{t:TE}(h:PE X e t)(he:∀whole,isTrue e X.env whole=(do let v <-whole;standAt e.pos;holding [v] (truthy v)):=by intro _;rfl):PT X e (tB t):=by intro pins s σ H Q I hw;refine isTrue_plain (thn (h pins s σ H _ I hw) λv s1 zz=>?_) (he _);obtain⟨x,H1,I1,r1,q1⟩:=zz;obtain⟨d,rfl,q⟩:=q1;cases r1;exact Qj ⟨H1,I1,q⟩
variable{tA yp:TT}{rest:List Expr}
noncomputable def t8(t u:TT):TT:=λσ H Q=>t σ H λc H1=>if c=true then u σ H1 Q else Q false H1
noncomputable def tOr(t u:TT):TT:=λσ H Q=>t σ H λc H1=>if c=true then Q true H1 else u σ H1 Q
noncomputable def t7(t:TT):TT:=λσ H Q=>t σ H λc H1=>Q (!c) H1
theorem Ng(ha:PT X a tA):PW X (.BoolOp .And [a] pos) tA:=by
 intro wh pins s σ H Q I h;refine isTrue_and (thn (ha pins s σ H Q I h) λc s1 e=>?_);cases c with
 |true=>exact isTrue_and_nil e
 |false=>exact e
theorem QE(ha:PT X a tA):PW X (.BoolOp .Or [a] pos) tA:=by
 intro wh pins s σ H Q I h;refine isTrue_or (thn (ha pins s σ H Q I h) λc s1 e=>?_);cases c with
 |false=>exact isTrue_or_nil e
 |true=>exact e
theorem yn(ha:PT X a tA)(hb:PW X (.BoolOp .And (b::rest) pos) yp):PW X (.BoolOp .And (a::b::rest) pos) (t8 tA yp):=by
 intro wh pins s σ H Q I h;refine isTrue_and (thn (ha pins s σ H _ I h) λc s1 Xy=>?_);obtain⟨H1,I1,q1⟩:=Xy;cases c with
 |true=>exact hb wh pins s1 σ H1 Q I1 q1
 |false=>exact⟨H1,I1,q1⟩
theorem SM(ha:PT X a tA)(hb:PW X (.BoolOp .Or (b::rest) pos) yp):PW X (.BoolOp .Or (a::b::rest) pos) (tOr tA yp):=by
 intro wh pins s σ H Q I h;refine isTrue_or (thn (ha pins s σ H _ I h) λc s1 Xy=>?_);obtain⟨H1,I1,q1⟩:=Xy;cases c with
 |true=>exact⟨H1,I1,q1⟩
 |false=>exact hb wh pins s1 σ H1 Q I1 q1
theorem QD(ha:PT X a tA):PT X (.UnaryOp .Not a pos) (t7 tA):=by intro pins s σ H Q I h;exact isTrue_not (ha pins s σ H (λc H1=>Q (!c) H1) I h)
noncomputable def EN(ta tb:TE):TE:=λσ H Q=>ta σ H λx H1=>∃c,x=.bl c/\if c=true then tb σ H1 Q else Q (.bl false) H1
noncomputable def t6(ta tb:TE):TE:=λσ H Q=>ta σ H λx H1=>∃c,x=.bl c/\if c=true then Q (.bl true) H1 else tb σ H1 Q
noncomputable def EM(ta:TE):TE:=λσ H Q=>ta σ H λx H1=>∃c,x=.bl c/\Q (.bl<|!c) H1
theorem EL{op}(h:PE X a t):PE X (.BoolOp op [a] pos) t:=λpins s σ H Q I hw=>BoolOp_one (h pins s σ H Q I hw)
theorem EK(ha:PE X a ta)(hb:PE X (.BoolOp .And (b::rest) pos) tb):PE X (.BoolOp .And (a::b::rest) pos) (EN ta tb):=by
 intro pins s σ H Q I h;refine BoolOp_and (thn (ha pins s σ H _ I h) λv s1 Xy=>?_);obtain⟨x,H1,I1,r1,q1⟩:=Xy;obtain⟨c,rfl,q1⟩:=q1;cases r1;refine Qj ?_;cases c with
 |true=>exact hb pins s1 σ H1 Q I1 q1
 |false=>exact⟨.bl false,H1,I1,Z,q1⟩
theorem t5(ha:PE X a ta)(hb:PE X (.BoolOp .Or (b::rest) pos) tb):PE X (.BoolOp .Or (a::b::rest) pos) (t6 ta tb):=by
 intro pins s σ H Q I h;refine BoolOp_or (thn (ha pins s σ H _ I h) λv s1 Xy=>?_);obtain⟨x,H1,I1,r1,q1⟩:=Xy;obtain⟨c,rfl,q1⟩:=q1;cases r1;refine Qj ?_;cases c with
 |false=>exact hb pins s1 σ H1 Q I1 q1
 |true=>exact⟨.bl true,H1,I1,Z,q1⟩
theorem t4(ha:PE X a ta):PE X (.UnaryOp .Not a pos) (EM ta):=by intro pins s σ H Q I h;refine UnaryOp_ (thn (ha pins s σ H _ I h) λv s1 Xy=>?_);obtain⟨x,H1,I1,r1,q1⟩:=Xy;obtain⟨c,rfl,q1⟩:=q1;cases r1;exact not_of (Qj ⟨.bl<|!c,H1,I1,Z,q1⟩)
noncomputable def tIf(t:TT)(ta tb:TE):TE:=λσ H Q=>t σ H λc H1=>if c=true then ta σ H1 Q else tb σ H1 Q
theorem EJ{c:Expr}(hc:PT X c tA)(ha:PE X a ta)(hb:PE X b tb):PE X (.IfExp c a b pos) (tIf tA ta tb):=by
 intro pins s σ H Q I h;refine wpAny_IfExp (thn (hc pins s σ H _ I h) λd s1 Xy=>?_);obtain⟨H1,I1,q1⟩:=Xy;cases d with
 |true=>exact ha pins s1 σ H1 Q I1 q1
 |false=>exact hb pins s1 σ H1 Q I1 q1
end
noncomputable def SqL(K:Ad)(H:Hp)(a:Addr)(xs:List V):Prop:=
 Rd H a (.lst xs)\/
  ∃(o:Obj)(XW:Array Value)(n:Nat),K.lookup a=some o/\o.cls=.type "list"/\o.dict=none/\o.data=.seq XW n/\XW.size<=sizeLine/\Vals xs XW.toList
noncomputable def SqT(K:Ad)(H:Hp)(a:Addr)(xs:List V):Prop:=
 Rd H a (.tup xs)\/
  ∃(o:Obj)(XW:Array Value)(n:Nat),K.lookup a=some o/\o.cls=.type "tuple"/\o.data=.seq XW n/\XW.size<=sizeLine/\Vals xs XW.toList
noncomputable def tZ:Value->Option V
 | .none=>some .non
 | .bool b=>some (.bl b)
 | .int i _=>some (.int i)
 | .str x _=>some (.str x)
 | .bytes b _=>some (.byt b)
 | .float b _=>some (.flt b)
 | .ref a=>some (.ref a)
 | .type n=>some (.ty n)
 |_=>none
theorem RelV.abs(r:RelV x u):tZ u=some x:=by
 cases x with
 |non=>cases r;rfl
 |bl _=>cases r;rfl
 |int _=>obtain⟨t,rfl⟩:=r;rfl
 |str _=>obtain⟨t,rfl⟩:=r;rfl
 |byt _=>obtain⟨t,rfl⟩:=r;rfl
 |flt _=>obtain⟨t,rfl⟩:=r;rfl
 |ref _=>cases r;rfl
 |ty _=>cases r;rfl
theorem RelV.inj(r:RelV x u)(q:RelV y u):x=y:=Yh (r.abs.symm.trans q.abs)
theorem Vals.inj{xs ys:List V}{us:Ag}(h:Vals xs us)(h':Vals ys us):xs=ys:=by
 induction h generalizing ys with
 |nil=>cases h';rfl
 |cons r t ih=>cases h' with
  |cons r' t'=>rw[r.inj r',ih t']
section
variable{X:Cx}{pins:List (Addr×Obj)}{σ:St}{H:Hp}{s:Shared}{a:Addr}{xs ys:List V}
theorem SqL.of{K:Ad}(h:H a=some (.lst xs)):SqL K H a xs:=.inl (.inl h)
theorem SqT.of{K:Ad}(h:H a=some (.tup xs)):SqT K H a xs:=.inl (.inl h)
theorem Inv.list(I:Inv X pins σ H s)(h:SqL X.K H a xs):∃XW:Ag,Vals xs XW/\PlainL s.heap a XW.toArray/\xs.length<=sizeLine:=by
 rcases h with h|⟨o,XW,n,hk,hc,hd,hs,hz,r⟩
 .obtain⟨z,XW,n,r,e⟩:=h.ok I.hok;exact⟨XW,r,⟨_,n,e,Z,Z,Z⟩,z⟩
 .refine⟨XW.toList,r,⟨o,n,I.kIn a o hk,hc,hd,by simpa using hs⟩,?_⟩;have e:=r.length
  simp only[YC]at e;lia
theorem Inv.tuple(I:Inv X pins σ H s)(h:SqT X.K H a xs):∃XW:Ag,Vals xs XW/\IsTup s.heap a XW.toArray/\xs.length<=sizeLine:=by
 rcases h with h|⟨o,XW,n,hk,hc,hs,hz,r⟩
 .obtain⟨z,XW,r,p⟩:=h.ok I.hok;exact⟨XW,r,p,z⟩
 .refine⟨XW.toList,r,⟨o,I.kIn a o hk,hc,n,by simpa using hs⟩,?_⟩;have e:=r.length
  simp only[YC]at e;omega
theorem Inv.list_inj(I:Inv X pins σ H s)(h:SqL X.K H a xs)(h':SqL X.K H a ys):xs=ys:=by
 obtain⟨XW,r,⟨o,n,e,_,_,d⟩,_⟩:=I.list h;obtain⟨its',r',⟨o',n',e',_,_,d'⟩,_⟩:=I.list h';rw[e]at e';cases e';rw[d]at d';injection d' with d1 _
 have:XW=its':=by simpa using XB Array.toList d1
 subst this;exact r.inj r'
theorem Inv.tuple_inj(I:Inv X pins σ H s)(h:SqT X.K H a xs)(h':SqT X.K H a ys):xs=ys:=by
 obtain⟨XW,r,⟨o,e,_,n,d⟩,_⟩:=I.tuple h;obtain⟨its',r',⟨o',e',_,n',d'⟩,_⟩:=I.tuple h';rw[e]at e';cases e';rw[d]at d';injection d' with d1 _
 have:XW=its':=by simpa using XB Array.toList d1
 subst this;exact r.inj r'
end
noncomputable abbrev Cx.wish(X:Cx)(E:Ae):Cx:={X with xe:=E}
noncomputable abbrev Cx.nox(X:Cx):Cx:=X.wish λ_ _=>False
theorem Cx.Ok.wish{X:Cx}(ok:X.Ok)(E:Ae):(X.wish E).Ok:=
 ⟨ok.mod,ok.kind,ok.glob,ok.blt,ok.above,ok.inj,ok.has,ok.cab,ok.hd,ok.frames,ok.stk,ok.exf,ok.bs,ok.bsz,ok.noex,ok.exfs,ok.funs,ok.frf⟩
theorem Cx.Ok.unwish{X:Cx}{E:Ae}(ok:(X.wish E).Ok):X.Ok:=
 ⟨ok.mod,ok.kind,ok.glob,ok.blt,ok.above,ok.inj,ok.has,ok.cab,ok.hd,ok.frames,ok.stk,ok.exf,ok.bs,ok.bsz,ok.noex,ok.exfs,ok.funs,ok.frf⟩
section
variable{X:Cx}{pins:List (Addr×Obj)}{σ:St}{H:Hp}{s:Shared}{E:Ae}
theorem Inv.wish(I:Inv X pins σ H s)(E:Ae):Inv (X.wish E) pins σ H s:=⟨I.ok.wish E,I.os,I.bare,I.base,I.loc,I.cell,I.free,I.freeC,I.pin,I.hok,I.len⟩
theorem Inv.unwish(I:Inv (X.wish E) pins σ H s):Inv X pins σ H s:=⟨I.ok.unwish,I.os,I.bare,I.base,I.loc,I.cell,I.free,I.freeC,I.pin,I.hok,I.len⟩
theorem SP.unwish(h:SP (X.wish E) pins um f s'):SP X pins um f s':=by
 cases f with
 |next=>obtain⟨σ',H',I,q⟩:=h;exact⟨σ',H',I.unwish,q⟩
 |brk=>obtain⟨σ',H',I,q⟩:=h;exact⟨σ',H',I.unwish,q⟩
 |cont=>obtain⟨σ',H',I,q⟩:=h;exact⟨σ',H',I.unwish,q⟩
 |ret u=>obtain⟨v,σ',H',I,r,q⟩:=h;exact⟨v,σ',H',I.unwish,r,q⟩
theorem PSs.nox{st:List Stmt}{t:TS}(h:PSs X.nox st t):PSs X st t:=λpins s σ H um I hw=>
 Ut (h pins s σ H um (I.wish _) hw) (λ_ _ q=>q.unwish) λ_ _ z=>False.elim z
end
section
variable{X:Cx}{st:Stmt}{rest:List Stmt}{t u:TS}{e:Expr}{te:TE}{pos:Pos}
noncomputable def EI:TS:=λum σ H=>um.nx σ H
noncomputable def TM(t u:TS):TS:=λum σ H=>t {um with nx:=u um} σ H
theorem Zo:PSs X [] EI:=λ_ _ σ H _ I h=>Qd ⟨σ,H,I,h⟩
theorem XR(h1:PS X st t)(h2:PSs X rest u):PSs X (st::rest) (TM t u):=by
 intro pins s σ H um I h;refine wpAny_execs_cons (thn (h1 pins s σ H {um with nx:=u um} I h) λf s1 q=>?_);cases f with
 |next=>
  obtain⟨σ',H',I',q⟩:=q;exact h2 pins s1 σ' H' um I' q
 |ret v=>exact q
 |brk=>exact q
 |cont=>exact q
theorem XM(h1:PS X st t):PSs X [st] t:=by
 intro pins s σ H um I h;refine wpAny_execs_cons (thn (h1 pins s σ H um I h) λf s1 q=>?_);cases f with
 |next=>exact Qd q
 |ret v=>exact q
 |brk=>exact q
 |cont=>exact q
theorem Inv.quiet(I:Inv X pins σ H s):interactive X.env=false:=by simp[interactive,I.ok.kind]
noncomputable def EH(te:TE):TS:=λum σ H=>te σ H λ_ H1=>um.nx σ H1
theorem ZS(he:PE X e te)(hs:swapsWith e none pos.line X.env=pure false:=by rfl):PS X (.Expr e pos) (EH te):=by intro pins s σ H um I h;exact wpAny_Expr_any (thn (he pins s σ H _ I h) λv s1 zz=>by obtain⟨x,H1,I1,r1,q1⟩:=zz;exact⟨σ,H1,I1,q1⟩) I.quiet hs
noncomputable def EG(te:TE):TS:=λum σ H=>te σ H um.rt
theorem Zi(he:PE X e te):PS X (.Return (some e) pos) (EG te):=by intro pins s σ H um I h;exact wpAny_Return_some (thn (he pins s σ H _ I h) λv s1 zz=>by obtain⟨x,H1,I1,r1,q1⟩:=zz;exact⟨x,σ,H1,I1,r1,q1⟩)
noncomputable def tY(c:TT)(t u:TS):TS:=λum σ H=>c σ H λb H1=>if b=true then t um σ H1 else u um σ H1
theorem WK{c:Expr}{a b:List Stmt}{tc:TT}(hc:PT X c tc)(ha:PSs X a t)(hb:PSs X b u):PS X (.If c a b pos) (tY tc t u):=by
 intro pins s σ H um I h;refine wpAny_If (thn (hc pins s σ H _ I h) λd s1 Xy=>?_);obtain⟨H1,I1,q1⟩:=Xy;cases d with
 |true=>exact ha pins s1 σ H1 um I1 q1
 |false=>exact hb pins s1 σ H1 um I1 q1
noncomputable def EF:TS:=λ_ _ _=>False
theorem Vj:PS X st EF:=λ_ _ _ _ _ _ h=>h.elim
end
noncomputable abbrev TG:=V->St->Hp->(St->Hp->Prop)->Prop
noncomputable abbrev Nf:=List V->St->Hp->(St->Hp->Prop)->Prop
noncomputable def PG(X:Cx)(target:Expr)(t:TG):Prop:=
 ∀(pins:List (Addr×Obj))(s:Shared)(σ:St)(H:Hp)(v:V)(u:Value)(Q:St->Hp->Prop),Inv X pins σ H s->RelV v u->t v σ H Q->
  wpAny (model X.prog X.w) X.A (assign target X.env u) (λ_ s'=>∃σ' H',Inv X pins σ' H' s'/\Q σ' H') X.xe s
noncomputable def EE(X:Cx)(ts:List Expr)(t:Nf):Prop:=
 ∀(pins:List (Addr×Obj))(s:Shared)(σ:St)(H:Hp)(vs:List V)(us:Ag)(Q:St->Hp->Prop),Inv X pins σ H s->Vals vs us->t vs σ H Q->
  wpAny (model X.prog X.w) X.A (assignInOrder ((assignEach ts X.env).map (·.2)) us) (λ_ s'=>∃σ' H',Inv X pins σ' H' s'/\Q σ' H') X.xe s
noncomputable abbrev PY:=V->V->V->Hp->(Hp->Prop)->Prop
noncomputable def Jy(X:Cx)(t:PY):Prop:=
 ∀(pins:List (Addr×Obj))(s:Shared)(σ:St)(H:Hp)(o i v:V)(ov iv u:Value)(Q:Hp->Prop),Inv X pins σ H s->RelV o ov->RelV i iv->RelV v u->t o i v H Q->
  wpAny (model X.prog X.w) X.A (setItem ov iv u) (λ_ s'=>∃H',Inv X pins σ H' s'/\Q H') X.xe s
noncomputable abbrev ym:=V->V->Hp->VK->Prop
noncomputable def tX(X:Cx)(op:Operator)(t:ym):Prop:=
 ∀(pins:List (Addr×Obj))(s:Shared)(σ:St)(H:Hp)(x y:V)(v u:Value)(Q:VK),Inv X pins σ H s->RelV x v->RelV y u->t x y H Q->
  wpAny (model X.prog X.w) X.A (inplaceOp op v u) (EP X pins σ Q) X.xe s
section
variable{X:Cx}{pos:Pos}
noncomputable def SK(i:Nat):TG:=λv σ H Q=>Q (σ.set i<|some v) H
theorem Zg{x:Str}(hN:X.N.Nodup)(hi:X.N[i]?=some x)(hx:Loc X.env.scope x)(hf:X.fn x=true\/X.env.scope.names.lookup x=some .local:=by first|exact .inl rfl|exact .inr rfl|assumption):PG X (.Name x pos) (SK i):=by intro pins s σ H v u Q I r h;exact wpAny_assign_Name (uc I hN hi hx r (λs' I'=>⟨_,H,I',h⟩) hf)
noncomputable def ED:Nf:=λvs σ H Q=>vs=[]/\Q σ H
noncomputable def EC(t:TG)(u:Nf):Nf:=λvs σ H Q=>∃v r,vs=v::r/\t v σ H λσ' H'=>u r σ' H' Q
theorem Of:EE X [] ED:=by intro pins s σ H vs us Q I r h;obtain⟨e,h⟩:=h;subst e;cases r;exact assignInOrder_nil ⟨σ,H,I,h⟩
theorem ZA{e:Expr}{es:List Expr}{t:TG}{u:Nf}(h1:PG X e t)(h2:EE X es u)
  (hs:(assignEach (e::es) X.env).map (·.2)=assign e X.env::(assignEach es X.env).map (·.2):=by rfl):EE X (e::es) (EC t u):=by
 intro pins s σ H vs us Q I r h;obtain⟨v,vr,e1,h⟩:=h;subst e1;cases r with
 |cons r rr=>
  rw[hs];refine assignInOrder_cons (thn (h1 pins s σ H _ _ _ I r h) λ_ s1 Xy=>?_);obtain⟨σ1,H1,I1,q1⟩:=Xy;exact h2 pins s1 σ1 H1 _ _ Q I1 rr q1
noncomputable def Jx(K:Ad)(n:Nat)(t:Nf):TG:=λv σ H Q=>∃a xs,v=.ref a/\SqT K H a xs/\xs.length=n/\t xs σ H Q
theorem tV{k:Nat}(hc:X.calm=true)(h:EE X es t)
  (hn:(assignEach es X.env).length=n:=by rfl)(Wx:(assignEach es X.env).findIdx? (·.1)=none:=by rfl):PG X (.Tuple es k pos) (Jx X.K n t):=by
 intro pins s σ H v u Q I r hw;obtain⟨a,xs,e1,hq,hl,hw⟩:=hw;subst e1;cases r;obtain⟨XW,rv,ht,hz⟩:=I.tuple hq;refine assign_Tuple_tuple (I.ok.hd hc) ht (by simp[hn,<-hl,rv.length]) Wx λh' hx=>?_;have I1:Inv X pins σ H {s with heap:=h'}:=I.kept (t':=s.toks) λb o e=>hx b o (Yy<|Yp e) e
 exact h pins _ σ H xs _ Q I1 (by simpa using rv) hw
noncomputable def tT(to ti:TE)(t:PY):TG:=λv σ H Q=>to σ H λo H1=>ti σ H1 λi H2=>t o i v H2 λH3=>Q σ H3
theorem EB{o i:Expr}{to ti:TE}{t:PY}(ho:PE X o to)(hi:PE X i ti)(hs:Jy X t)
  (ha:∀v,assign (.Subscript o i pos) X.env v=(do
   let ov <-holding [v] (eval o X.env)
   let iv <-holding [v,ov] (eval i X.env)
   standAt pos
   holding [v,ov,iv] (setItem ov iv v)
   release [v,ov,iv] []):=by intro _;rfl):PG X (.Subscript o i pos) (tT to ti t):=by intro pins s σ H v u Q I r h;rw[ha];refine XU (Sf<|thn (ho pins s σ H _ I h) λov s1 Xy=>?_);obtain⟨x,H1,I1,r1,q1⟩:=Xy;refine XU (Sf<|thn (hi pins s1 σ H1 _ I1 q1) λiv s2 Xy=>?_);obtain⟨y,H2,I2,r2,q2⟩:=Xy;refine XU (wpAny_standAt<|XU<|Sf<|thn (hs pins s2 σ H2 x y v ov iv u _ I2 r1 r2 r q2) λ_ s3 Xy=>?_);obtain⟨H3,I3,q3⟩:=Xy;exact wpAny_release ⟨σ,H3,I3,q3⟩
noncomputable def Jw(te:TE)(g:TG):TS:=λum σ H=>te σ H λx H1=>g x σ H1 um.nx
theorem yk{tg e:Expr}{te:TE}{g:TG}(he:PE X e te)(hg:PG X tg g)(hs:swapsWithSole [tg] e pos.line X.env=pure false:=by rfl)(hw:swappedStores [tg] e X.env=pure none:=by rfl)
  (h1:(assignEach [tg] X.env).map (·.2)=[assign tg X.env]:=by rfl):PS X (.Assign [tg] e pos) (Jw te g):=by intro pins s σ H um I h;refine wpAny_Assign_stores (thn (he pins s σ H _ I h) λv s1 Xy=>?_) hs hw;obtain⟨x,H1,I1,r1,q1⟩:=Xy;rw[h1];exact thn (hg pins s1 σ H1 x v _ I1 r1 q1) λ_ s2 q=>q
theorem Zj{i:Nat}{x:Str}{e:Expr}{te:TE}{pos':Pos}(hN:X.N.Nodup)(hi:X.N[i]?=some x)(hx:Loc X.env.scope x)(he:PE X e te)(hs:swapsWith e (some (.Name x pos')) pos.line X.env=pure false:=by rfl)(hf:X.fn x=true\/X.env.scope.names.lookup x=some .local:=by first|exact .inl rfl|exact .inr rfl|assumption):
  PS X (.Assign [.Name x pos'] e pos) (Jw te<|SK i):=by intro pins s σ H um I h;refine wpAny_Assign_Name (thn (he pins s σ H _ I h) λv s1 Xy=>?_) hs;obtain⟨y,H1,I1,r1,q1⟩:=Xy;exact uc I1 hN hi hx r1 (λs2 I2=>⟨_,H1,I2,q1⟩) hf
noncomputable def EA(to ti te:TE)(tget:V->V->Hp->VK->Prop)(yj:ym)(tset:PY):TS:=λum σ H=>to σ H λo H1=>ti σ H1 λi H2=>tget o i H2 λx H3=>te σ H3 λy H4=>yj x y H4 λz H5=>tset o i z H5 λH6=>um.nx σ H6
noncomputable def Ez(X:Cx)(t:V->V->Hp->VK->Prop):Prop:=
 ∀(pins:List (Addr×Obj))(s:Shared)(σ:St)(H:Hp)(o i:V)(ov iv:Value)(Q:VK),Inv X pins σ H s->RelV o ov->RelV i iv->t o i H Q->
  wpAny (model X.prog X.w) X.A (getItem ov iv) (EP X pins σ Q) X.xe s
theorem Nd{o i e:Expr}{to ti te:TE}{tget:V->V->Hp->VK->Prop}{yj:ym}{tset:PY}{op:Operator}{SJ:Pos}(ho:PE X o to)(hi:PE X i ti)(hg:Ez X tget)(he:PE X e te)(hp:tX X op yj)(hs:Jy X tset)
  (ha:∀ov iv new,augStore i ov iv new=(do holding [new,ov,iv] (setItem ov iv new);release [new,ov,iv] [];pure .next):=by intros;rfl):PS X (.AugAssign (.Subscript o i SJ) op e pos) (EA to ti te tget yj tset):=by intro pins s σ H um I h;refine wpAny_AugAssign_SubscriptAny (thn (ho pins s σ H _ I h) λov s1 Xy=>?_) ha;obtain⟨x1,H1,I1,r1,q1⟩:=Xy;refine thn (hi pins s1 σ H1 _ I1 q1) λiv s2 Xy=>?_;obtain⟨x2,H2,I2,r2,q2⟩:=Xy;refine thn (hg pins s2 σ H2 x1 x2 ov iv _ I2 r1 r2 q2) λold s3 Xy=>?_;obtain⟨x3,H3,I3,r3,q3⟩:=Xy;refine thn (he pins s3 σ H3 _ I3 q3) λv s4 Xy=>?_;obtain⟨x4,H4,I4,r4,q4⟩:=Xy;refine thn (hp pins s4 σ H4 x3 x4 old v _ I4 r3 r4 q4) λnew s5 Xy=>?_;obtain⟨x5,H5,I5,r5,q5⟩:=Xy;exact thn (hs pins s5 σ H5 x1 x2 x5 ov iv new _ I5 r1 r2 r5 q5) λ_ s6 zz=>by obtain⟨H6,I6,q6⟩:=zz;exact⟨σ,H6,I6,q6⟩
noncomputable def eA(f:Int->Int->Int):ym:=λx y H Q=>∃i j,x=.int i/\y=.int j/\Q (.int<|f i j) H
theorem Lr:tX X .Add (eA λi j=>i+j):=by intro pins s σ H x y v u Q I r1 r2 h;obtain⟨i,j,e1,e2,q⟩:=h;subst e1;subst e2;obtain⟨t,rfl⟩:=r1;obtain⟨t',rfl⟩:=r2;exact iadd_int ⟨.int _,H,I.tok _,⟨_,Z⟩,q⟩
theorem Lq:tX X .Sub (eA λi j=>i-j):=by intro pins s σ H x y v u Q I r1 r2 h;obtain⟨i,j,e1,e2,q⟩:=h;subst e1;subst e2;obtain⟨t,rfl⟩:=r1;obtain⟨t',rfl⟩:=r2;exact isub_int ⟨.int _,H,I.tok _,⟨_,Z⟩,q⟩
noncomputable def tS(c:TT)(tb:TS):TS:=λum σ H=>∃W:Nat->St->Hp->Prop,(∃m,W m σ H)/\∀m σ H,W m σ H->
 c σ H λb H1=>if b=true then ∃N:St->Hp->Prop,(∀σ' H',N σ' H'->∃m',m'<m/\W m' σ' H')/\tb {um with nx:=N,ct:=N,bk:=um.nx} σ H1 else um.nx σ H1
theorem tR{c:Expr}{body:List Stmt}{tc:TT}{tb:TS}(hp:PassesOwn (model X.prog X.w) X.A X.env X.xe)(hc:PT X c tc)(hb:PSs X body tb):PS X (.While c body [] pos) (tS tc tb):=by
 intro pins s σ H um I h;obtain⟨W,⟨m0,w0⟩,turn⟩:=h;refine wpAny_While (codeAny_whileLoop (λn s'=>∃σ' H',Inv X pins σ' H' s'/\W n σ' H') ?_ m0 ⟨σ,H,I,w0⟩);rintro n s1 ⟨σ1,H1,I1,w1⟩;refine JU hp (thn (hc pins s1 σ1 H1 _ I1<|turn n σ1 H1 w1) λb s2 Xy=>?_);obtain⟨H2,I2,q2⟩:=Xy;cases b with
 |true=>
  obtain⟨N,hN,q2⟩:=q2;rw[if_pos Z];refine JU hp (thn (hb pins s2 σ1 H2 _ I2 q2) λf s3 q3=>?_);cases f with
  |next=>
   obtain⟨σ3,H3,I3,n3⟩:=q3;obtain⟨m',hm,w3⟩:=hN σ3 H3 n3;exact⟨m',hm,σ3,H3,I3,w3⟩
  |cont=>
   obtain⟨σ3,H3,I3,n3⟩:=q3;obtain⟨m',hm,w3⟩:=hN σ3 H3 n3;exact⟨m',hm,σ3,H3,I3,w3⟩
  |brk=>exact q3
  |ret v=>exact q3
 |false=>
  rw[if_neg Yz];exact Qd ⟨σ1,H2,I2,q2⟩
end
structure It where
 go:Nat->Hp->Prop
 yld:Nat->Hp->V->Hp->Prop
 stop:Nat->Hp->Prop
noncomputable def FpOk(X:Cx)(pins:List (Addr×Obj))(H:Hp)(b:Addr):Prop:=
 H b=none/\b≠X.env.locals/\b∉X.fs/\(b∈X.ex\/X.s₀.heap.objs.size<=b)/\(∀x c,X.env.cells.lookup x=some c->c≠b)/\∀p∈X.pn++pins,p.1≠b
theorem Inv.fpOk{b:Addr}(I:Inv X pins σ H s)(hb:s.heap.objs.size<=b)(hn:H' b=none):FpOk X pins H' b:=by
 refine⟨hn,RE<|Yt I.lt hb,I.nofs hb,.inr<|Ys I.sz hb,λx c e z=>?_,λp hp z=>?_⟩
 .obtain⟨v,q⟩:=I.cell x c e;exact absurd (Yt q.lt<|by rwa[z]) (RF _)
 .exact absurd (Yt (Yp (I.pin p hp).1)<|by rwa[z]) (RF _)
structure Turn (P:Program) (w:World) (K:Ad) (tg:Expr) (AP:It) (fp:List Addr) (it:Addr) (tn:Nat->Heap->Prop):Prop where
 mem:it∈fp
 obj:∀i h,tn i h->∀b∈fp,∃o,h.get? b=some o/\∀v,o.data≠.cell v
 keep:∀i h h',tn i h->(∀b∈fp,∀o,h.get? b=some o->h'.get? b=some o)->tn i h'
 item:∀(X:Cx),X.prog=P->X.w=w->X.K=K->X.calm=true->∀(i:Nat)(pins:List (Addr×Obj))(s:Shared)(σ:St)(H:Hp)(E:Ae),Inv X pins σ H s->(∀b∈fp,FpOk X pins H b)->tn i s.heap->AP.go i H->
  wpAny (model P w) X.A (pyNext<|.ref it) (λr s1=>∃u,r=some u/\
   wpAny (model P w) X.A (letOwnedTupleGo tg (.ref it) u) (λ_ s2=>∃x H',Inv X pins σ H' s2/\RelV x u/\AP.yld i H x H'/\tn (i+1) s2.heap/\∀b∈fp,H' b=none) E s1) E s
 done:∀(X:Cx),X.prog=P->X.w=w->X.K=K->X.calm=true->∀(i:Nat)(pins:List (Addr×Obj))(s:Shared)(σ:St)(H:Hp)(E:Ae),Inv X pins σ H s->(∀b∈fp,FpOk X pins H b)->tn i s.heap->AP.stop i H->
  wpAny (model P w) X.A (pyNext<|.ref it) (λr s1=>r=none/\Inv X pins σ H s1) E s
 self:∀(A:Around)(i:Nat)(s:Shared)(Q:Ae)(E:Ae),tn i s.heap->Q (.ref it) s->wpAny (model P w) A (pyIter<|.ref it) Q E s
noncomputable abbrev TI:=St->Hp->(It->Hp->Prop)->Prop
noncomputable def eh(X:Cx)(pins:List (Addr×Obj))(σ:St)(tg:Expr)(R:It->Hp->Prop)(tQ:Value)(s2:Shared):Prop:=
 ∃(it:Addr)(fp:List Addr)(tn:Nat->Heap->Prop)(AP:It)(H':Hp),tQ=.ref it/\Inv X pins σ H' s2/\Turn X.prog X.w X.K tg AP fp it tn/\tn 0 s2.heap/\(∀b∈fp,FpOk X pins H' b)/\R AP H'
noncomputable def PI(X:Cx)(tg iter:Expr)(wi:TI):Prop:=
 ∀(pins:List (Addr×Obj))(s:Shared)(σ:St)(H:Hp)(R:It->Hp->Prop),Inv X pins σ H s->wi σ H R->
  wpAny (model X.prog X.w) X.A (eval iter X.env) (λv s1=>wpAny (model X.prog X.w) X.A (pyIter v) (eh X pins σ tg R) X.xe s1) X.xe s
theorem Nc{E:Ae}{s:Shared}{it:Addr}{o:Obj}{n:String}{vs:Array Value}{Q:Unit->Shared->Prop}(ho:s.heap.get? it=some o)(hc:o.cls=.type n)(hd:o.data=.fields vs)
  (hn:["enumerate","zip","dict_itemiterator","dict_reverseitemiterator","odict_iterator","itertools.zip_longest","itertools.pairwise"].contains n=false)(hQ:Q () s):wpAny M A (letOwnedTupleGo tg (.ref it) u) Q E s:=by
 unfold letOwnedTupleGo;cases tg<;>first
  |exact Yk hQ
  | (cases u<;>first
    |exact Yk hQ
    | (refine XU (EX ho ?_)
       rw[hc,hd];show wpAny M A (if (["enumerate","zip","dict_itemiterator","dict_reverseitemiterator","odict_iterator","itertools.zip_longest","itertools.pairwise"].contains n&&vs[0]? == some (rawInt _))=true then _ else _) Q E s
       rw[if_neg (by intro h;rw[hn,Bool.false_and]at h;cases h)];exact Yk hQ))
noncomputable def PX(K:Ad)(a:Addr):It:=
 ⟨λi H=>∃xs x,SqL K H a xs/\xs[i]?=some x,λi H x H'=>H'=H/\∀xs,SqL K H a xs->xs[i]?=some x,λi H=>∃xs,SqL K H a xs/\xs.length<=i⟩
noncomputable def PV(K:Ad)(a:Addr):It:=
 ⟨λi H=>∃xs x,SqT K H a xs/\xs[i]?=some x,λi H x H'=>H'=H/\∀xs,SqT K H a xs->xs[i]?=some x,λi H=>∃xs,SqT K H a xs/\xs.length<=i⟩
noncomputable def Lp(lo:Int)(n:Nat):It:=⟨λi _=>i<n,λi H x H'=>H'=H/\x=.int (lo+i),λi _=>n<=i⟩
theorem Ey{P:Program}{w:World}{K:Ad}{tg:Expr}(a it:Addr):Turn P w K tg (PX K a) [it] it (λi h=>h.IsListIter it a i) where
 mem:=B
 obj:=λi h st b hb=>by
  have e:b=it:=by simpa using hb
  subst e;obtain⟨o,e,c,d⟩:=st;exact⟨o,e,λv z=>by rw[d]at z;cases z⟩
 keep:=λi h h' st k=>st.at λo e=>k it B o e
 item:=by
  intro X hP hw hK hc i pins s σ H E I hf st hg;subst hP hw hK;obtain⟨xs,x,hq,hx⟩:=hg;obtain⟨XW,rv,p,hz⟩:=I.list hq;obtain⟨u,hu,ru⟩:=rv.get hx;obtain⟨f0,f1,f2,f3,f4,f5⟩:=hf it B;refine wpAny_pyNext_list_item st p.isList (x:=u) (by simpa using hu) λh' Uq sb=>?_;have I1:Inv X pins σ H {s with heap:=h'}:=I.turned (t':=s.toks) (λb o hb e=>(sb.2 b hb).trans e) f0 f1 f3 f4 f5
  obtain⟨o,e,c,d⟩:=id Uq;exact⟨u,Z,Nc (s:={s with heap:=h'}) e c d S ⟨x,H,I1,ru,⟨Z,λys hy=>by rwa[I.list_inj hy hq]⟩,Uq,λb hb=>(hf b hb).1⟩⟩
 done:=by
  intro X hP hw hK hc i pins s σ H E I hf st hg;subst hP hw hK;obtain⟨xs,hq,hx⟩:=hg;obtain⟨XW,rv,p,hz⟩:=I.list hq;obtain⟨f0,f1,f2,f3,f4,f5⟩:=hf it B;have hl:=rv.length
  exact wpAny_pyNext_list_end (I.ok.hd hc) st p.isList (by simp;lia) λh' eb=>⟨Z,I.turned (t':=s.toks) (λb o hb e=>eb b o hb e) f0 f1 f3 f4 f5⟩
 self:=λ_ _ _ _ _ st h=>wpAny_pyIter_listiter st h
theorem d9{P:Program}{w:World}{K:Ad}{tg:Expr}(a it:Addr):Turn P w K tg (PV K a) [it] it (λi h=>h.IsTupleIter it a i) where
 mem:=B
 obj:=λi h st b hb=>by
  have e:b=it:=by simpa using hb
  subst e;obtain⟨o,e,c,d⟩:=st;exact⟨o,e,λv z=>by rw[d]at z;cases z⟩
 keep:=λi h h' st k=>st.at λo e=>k it B o e
 item:=by
  intro X hP hw hK hc i pins s σ H E I hf st hg;subst hP hw hK;obtain⟨xs,x,hq,hx⟩:=hg;obtain⟨XW,rv,p,hz⟩:=I.tuple hq;obtain⟨u,hu,ru⟩:=rv.get hx;obtain⟨f0,f1,f2,f3,f4,f5⟩:=hf it B;refine wpAny_pyNext_tuple_item st (show s.heap.IsTuple a XW.toArray from p) (x:=u) (by simpa using hu) λh' Uq sb=>?_;have I1:Inv X pins σ H {s with heap:=h'}:=I.turned (t':=s.toks) (λb o hb e=>(sb.2 b hb).trans e) f0 f1 f3 f4 f5
  obtain⟨o,e,c,d⟩:=id Uq;exact⟨u,Z,Nc (s:={s with heap:=h'}) e c d S ⟨x,H,I1,ru,⟨Z,λys hy=>by rwa[I.tuple_inj hy hq]⟩,Uq,λb hb=>(hf b hb).1⟩⟩
 done:=by
  intro X hP hw hK hc i pins s σ H E I hf st hg;subst hP hw hK;obtain⟨xs,hq,hx⟩:=hg;obtain⟨XW,rv,p,hz⟩:=I.tuple hq;obtain⟨f0,f1,f2,f3,f4,f5⟩:=hf it B;have hl:=rv.length
  exact wpAny_pyNext_tuple_end (I.ok.hd hc) st (show s.heap.IsTuple a XW.toArray from p) (by simp;omega) λh' eb=>⟨Z,I.turned (t':=s.toks) (λb o hb e=>eb b o hb e) f0 f1 f3 f4 f5⟩
 self:=λ_ _ _ _ _ st h=>wpAny_pyIter_tupleiter st h
theorem ZA6{P:Program}{w:World}{K:Ad}{tg:Expr}(it:Addr)(lo:Int)(n:Nat):Turn P w K tg (Lp lo n) [it] it (λi h=>IsRangeIter h it (lo+(i:Nat)*1) ((n:Int)-(i:Nat)) 1) where
 mem:=B
 obj:=λi h st b hb=>by
  have e:b=it:=by simpa using hb
  subst e;exact⟨_,st,λv z=>by have z':Data.fields _=Data.cell v:=z;cases z'⟩
 keep:=λi h h' st k=>k it B _ st
 item:=by
  intro X hP hw hK hc i pins s σ H E I hf st hg;subst hP hw hK;obtain⟨f0,f1,f2,f3,f4,f5⟩:=hf it B;have W:=Walks.range (prog:=X.prog) (w:=X.w) (I.ok.hd hc) it lo 1 n
  refine W.item i s _ _ hg st λv h' tk hv Uq kk=>?_;obtain⟨t,rfl⟩:=hv;have I1:Inv X pins σ H {s with heap:=h',toks:=tk}:=I.turned (λb o hb e=>kk b o (by simpa using hb) e) f0 f1 f3 f4 f5
  refine⟨_,Z,Nc (s:={s with heap:=h',toks:=tk}) (n:="range_iterator") Uq Z Z S ⟨.int<|lo+i,H,I1,⟨t,?_⟩,⟨Z,Z⟩,Uq,λb hb=>(hf b hb).1⟩⟩;rw[Nq]
 done:=by intro X hP hw hK hc i pins s σ H E I hf st hg;subst hP hw hK;obtain⟨f0,f1,f2,f3,f4,f5⟩:=hf it B;exact wpAny_pyNext_range_end (I.ok.hd hc) st (by have:n<=i:=hg;lia) λh' eb=>⟨Z,I.turned (t':=s.toks) (λb o hb e=>eb b o hb e) f0 f1 f3 f4 f5⟩
 self:=λ_ _ _ _ _ st h=>wpAny_pyIter_rangeiter st h
section
variable{X:Cx}{tg:Expr}
noncomputable def Ex(K:Ad)(tl:TE):TI:=λσ H R=>tl σ H λx H1=>∃a,x=.ref a/\(∃xs,SqL K H1 a xs)/\R (PX K a) H1
noncomputable def Ew(K:Ad)(tl:TE):TI:=λσ H R=>tl σ H λx H1=>∃a,x=.ref a/\(∃xs,SqT K H1 a xs)/\R (PV K a) H1
theorem tP{l:Expr}{tl:TE}(hl:PE X l tl):PI X tg l (Ex X.K tl):=by
 intro pins s σ H R I h;refine thn (hl pins s σ H _ I h) λv s1 Xy=>?_;obtain⟨x,H1,I1,r1,q1⟩:=Xy;obtain⟨a,e,⟨xs,hq⟩,q⟩:=q1;subst e;cases r1;obtain⟨XW,rv,p,hz⟩:=I1.list hq;refine yN p.isList ?_;refine⟨s1.heap.objs.size,[s1.heap.objs.size],_,_,H1,Z,I1.kept (t':=s1.toks) λb o e=>Xb _ e,Ey a _,⟨_,Yj _ Z,Z,Z⟩,λb hb=>?_,q⟩;have e:b=s1.heap.objs.size:=by simpa using hb
 subst e;exact I1.fpOk (XO _) (I1.hok.fresh<|XO _)
theorem tO{l:Expr}{tl:TE}(hl:PE X l tl):PI X tg l (Ew X.K tl):=by
 intro pins s σ H R I h;refine thn (hl pins s σ H _ I h) λv s1 Xy=>?_;obtain⟨x,H1,I1,r1,q1⟩:=Xy;obtain⟨a,e,⟨xs,hq⟩,q⟩:=q1;subst e;cases r1;obtain⟨XW,rv,p,hz⟩:=I1.tuple hq;refine wpAny_pyIter_tuple (show s1.heap.IsTuple a XW.toArray from p) ?_;refine⟨s1.heap.objs.size,[s1.heap.objs.size],_,_,H1,Z,I1.kept (t':=s1.toks) λb o e=>Xb _ e,d9 a _,⟨_,Yj _ Z,Z,Z⟩,λb hb=>?_,q⟩;have e:b=s1.heap.objs.size:=by simpa using hb
 subst e;exact I1.fpOk (XO _) (I1.hok.fresh<|XO _)
theorem d7{R:It->Hp->Prop}{E:Ae}{lo hi:Int}{t u v:Tok}{tk:Nat}(I:Inv X pins σ H s)(h1:-(2^62)<=lo)(h2:lo<2^62)(h3:-(2^62)<=hi)(h4:hi<2^62)
  (q:R (Lp lo (hi-lo).toNat) H):wpAny (model X.prog X.w) X.A (pyIter<|.ref s.heap.objs.size) (eh X pins σ tg R) E {s with heap:=s.heap.push {cls:=.type "range",data:=.fields #[.int lo t,.int hi u,.int 1 v]},toks:=tk}:=by
 refine wpAny_pyIter_range (IsRange.new ..) (small_one h1 h2 h3 h4) ?_;have I1:Inv X pins σ H {s with heap:=s.heap.push {cls:=.type "range",data:=.fields #[.int lo t,.int hi u,.int 1 v]},toks:=tk}:=I.kept λb o e=>Xb _ e
 refine⟨(s.heap.push {cls:=.type "range",data:=.fields #[.int lo t,.int hi u,.int 1 v]}).objs.size,[(s.heap.push {cls:=.type "range",data:=.fields #[.int lo t,.int hi u,.int 1 v]}).objs.size],_,_,H,Z,
  I1.kept (t':=tk) λb o e=>Xb _ e,ZA6 _ lo (hi-lo).toNat,?_,λb hb=>?_,q⟩
 .have e1:lo+((0:Nat):Int)*1=lo:=B;have e2:(((hi-lo).toNat:Nat):Int)-((0:Nat):Int)=Builtin.Range.rangeSize lo hi 1:=by rw[rangeSize_one];split<;>grind
  show IsRangeIter _ _ (lo+((0:Nat):Int)*1) ((((hi-lo).toNat:Nat):Int)-((0:Nat):Int)) 1;rw[e1,e2];exact Yj _ rfl
 .have e:b=(s.heap.push {cls:=.type "range",data:=.fields #[.int lo t,.int hi u,.int 1 v]}).objs.size:=by simpa using hb
  subst e;exact I1.fpOk (XO _) (I1.hok.fresh<|XO _)
noncomputable def tN(ta:TA):TI:=λσ H R=>ta σ H λvs H1=>∃j:Int,vs=[.int j]/\-(2^62)<=j/\j<2^62/\R (Lp 0 j.toNat) H1
noncomputable def tL(ta:TA):TI:=λσ H R=>ta σ H λvs H1=>∃i j:Int,vs=[.int i,.int j]/\(-(2^62)<=i/\i<2^62/\-(2^62)<=j/\j<2^62)/\R (Lp i (j-i).toNat) H1
theorem ZV {a:Expr} {ta:TA} {p pos:Pos} (hg:Gl X "range") (hm:X.mg "range"=none) (ha:PA X [a] ta) (hs:starEach [a] X.env=[(false,eval a X.env)]:=by rfl):PI X tg (.Call (.Name "range" p) [a] [] pos) (tN ta):=by
 intro pins s σ H R I h;refine Call_ (QF I hg hm boot_range<|TR (thn (ha pos pins s σ H _ I h) λus s1 Xy=>?_) hs Z);obtain⟨vs,H1,I1,r1,q1⟩:=Xy;obtain⟨j,e,q1,q2,q⟩:=q1;subst e;cases r1 with
 |cons r rr=>
  cases rr;obtain⟨t,rfl⟩:=r;exact call_range_1 (d7 I1 J ur q1 q2<|by simpa using q)
theorem Zr8 {a b:Expr} {ta:TA} {p pos:Pos} (hg:Gl X "range") (hm:X.mg "range"=none) (ha:PA X [a,b] ta) (hs:starEach [a,b] X.env=[(false,eval a X.env),(false,eval b X.env)]:=by rfl) (Td:starEach [b] X.env=[(false,eval b X.env)]:=by rfl):
  PI X tg (.Call (.Name "range" p) [a,b] [] pos) (tL ta):=by
 intro pins s σ H R I h;refine Call_ (QF I hg hm boot_range<|TR (thn (ha pos pins s σ H _ I h) λus s1 zz=>?_) (by rw[hs,Td])<|by rw[Td];rfl);obtain⟨vs,H1,I1,r1,q1⟩:=zz;obtain⟨i,j,e,⟨q1,q2,q3,q4⟩,q⟩:=q1;subst e;cases r1 with
 |cons r rr=>
  cases rr with
  |cons r' rr=>
   cases rr;obtain⟨t,rfl⟩:=r;obtain⟨t',rfl⟩:=r';exact call_range_2 (d7 I1 q1 q2 q3 q4 q)
noncomputable def tK(wi:TI)(g:TG)(tb:TS):TS:=λum σ H=>wi σ H λAP H1=>∃W:Nat->Nat->St->Hp->Prop,(∃m,W 0 m σ H1)/\∀i m σ H,W i m σ H->
 (AP.stop i H/\um.nx σ H)\/(AP.go i H/\∃N:St->Hp->Prop,(∀σ' H',N σ' H'->∃m',m'<m/\W (i+1) m' σ' H')/\∀x H',AP.yld i H x H'->g x σ H' λσ2 H2=>tb {um with nx:=N,ct:=N,bk:=um.nx} σ2 H2)
noncomputable def Nb(fp:List Addr)(h:Heap):List (Addr×Obj):=fp.filterMap λb=>(h.get? b).map λo=>(b,o)
theorem Na{b:Addr}{o:Obj}(hb:b∈fp)(e:h.get? b=some o):(b,o)∈Nb fp h:=yT.mpr ⟨b,hb,by rw[e];rfl⟩
theorem d6{p:Addr×Obj}(hp:p∈Nb fp h):p.1∈fp/\h.get? p.1=some p.2:=by
 obtain⟨b,hb,e⟩:=yT.mp hp;cases q:h.get? b with
 |none=>rw[q]at e;cases e
 |some o=>
  rw[q]at e;have e':(b,o)=p:=Yh e
  subst e';exact⟨hb,q⟩
theorem Inv.pinned(I:Inv X pins σ H s)(hf:∀b∈fp,FpOk X pins H b)(ho:∀b∈fp,∃o,s.heap.get? b=some o/\∀v,o.data≠.cell v):Inv X (pins++Nb fp s.heap) σ H s:=
 I.pins_of λp hp=>(Xz.mp hp).elim (λz=>I.pin p<|Yi _ z) λz=>by obtain⟨hb,e⟩:=d6 z;obtain⟨f0,f1,f2,_⟩:=hf p.1 hb;obtain⟨o,e',d⟩:=ho p.1 hb;rw[e]at e';cases e';exact⟨e,f0,f1,f2,d⟩
theorem Inv.unpinned{pins pl:List (Addr×Obj)}(I:Inv X (pins++pl) σ H s):Inv X pins σ H s:=I.pins_of λp hp=>I.pin p (Yi _<|Yd _ hp)
theorem TK{iter:Expr}{body:List Stmt}{wi:TI}{g:TG}{tb:TS}{pos:Pos}(hp:PassesOwn (model X.prog X.w) X.A X.env X.xe)(hc:X.calm=true)(hi:PI X tg iter wi)(hg:PG X tg g)(hb:PSs X body tb)
  (hs:∀x,foldedSetIterable iter X.env x=pure x:=by intro _;rfl):PS X (.For tg iter body [] pos) (tK wi g tb):=by
 intro pins s σ H um I h;refine wpAny_For (thn (hi pins s σ H _ I h) λv s1 h1=>thn h1 λtQ s2 h2=>?_) hs;obtain⟨it,fp,tn,AP,H2,e,I2,T,MZ,f2,W,⟨m0,w0⟩,turn⟩:=h2;subst e;have Jv:∀{H':Hp},(∀b∈fp,H' b=none)->∀b∈fp,FpOk X pins H' b:=λhn b hb=>⟨hn b hb,(f2 b hb).2⟩
 refine codeAny_forLoop_any (λn s'=>∃i σ' H',Inv X pins σ' H' s'/\tn i s'.heap/\(∀b∈fp,H' b=none)/\W i n σ' H') ?_ m0 ⟨0,σ,H2,I2,MZ,λb hb=>(f2 b hb).1,w0⟩;rintro n s3 ⟨i,σ3,H3,I3,d5,d4,w3⟩;rcases turn i n σ3 H3 w3 with ⟨stop,qn⟩|⟨go,N,hN,step⟩
 .refine JU hp (thn (T.done X Z Z Z hc i pins s3 σ3 H3 X.xe I3 (Jv d4) d5 stop) λr s4 zz=>?_);obtain⟨hr,I4⟩:=zz;subst hr;exact Qd ⟨σ3,H3,I4,qn⟩
 .refine JU hp (thn (T.item X Z Z Z hc i pins s3 σ3 H3 X.xe I3 (Jv d4) d5 go) λr s4 Xy=>?_);obtain⟨u,hr,h4⟩:=Xy;subst hr;refine JU hp (thn h4 λ_ s5 Xy=>?_);obtain⟨x,H5,I5,r5,y5,Ju,tJ⟩:=Xy;have tI:=I5.pinned (Jv tJ) (T.obj _ _ Ju)
  refine JU hp (thn (hg _ s5 σ3 H5 x u _ tI r5<|step x H5 y5) λ_ s6 Xy=>?_);obtain⟨σ6,H6,I6,q6⟩:=Xy;refine JU hp (thn (hb _ s6 σ6 H6 _ I6 q6) λf s7 q7=>?_);have again:∀{σ7:St}{H7:Hp},Inv X (pins++Nb fp s5.heap) σ7 H7 s7->N σ7 H7->∃m,m<n/\∃i σ' H',Inv X pins σ' H' s7/\tn i s7.heap/\(∀b∈fp,H' b=none)/\W i m σ' H':=λ{σ7 H7} I7 n7=>by obtain⟨m',hm,w7⟩:=hN σ7 H7 n7;refine⟨m',hm,i+1,σ7,H7,I7.unpinned,T.keep _ _ _ Ju λb hb o e=>(I7.pin (b,o)<|Yi _<|Yi _<|Na hb e).1,λb hb=>?_,w7⟩;obtain⟨o,e,d⟩:=T.obj _ _ Ju b hb;exact(I7.pin (b,o)<|Yi _<|Yi _<|Na hb e).2.1
  cases f with
  |next=>obtain⟨σ7,H7,I7,n7⟩:=q7;exact again I7 n7
  |cont=>obtain⟨σ7,H7,I7,n7⟩:=q7;exact again I7 n7
  |brk=>obtain⟨σ7,H7,I7,q7⟩:=q7;exact⟨σ7,H7,I7.unpinned,q7⟩
  |ret v=>obtain⟨x7,σ7,H7,I7,r7,q7⟩:=q7;exact⟨x7,σ7,H7,I7.unpinned,r7,q7⟩
end
theorem tH{K:Ad}{a:Addr}{xs:List V}{g:TG}{tb:TS}{um:Ends}{σ:St}{H:Hp}(Pv:Nat->St->Hp->Prop)(h0:Pv 0 σ H)(hl:∀i σ H,i<=xs.length->Pv i σ H->SqL K H a xs)
  (hs:∀i x σ H,xs[i]?=some x->Pv i σ H->g x σ H λσ2 H2=>tb {um with nx:=Pv<|i+1,ct:=Pv<|i+1,bk:=um.nx} σ2 H2)(hd:∀σ H,Pv xs.length σ H->um.nx σ H):
  ∃W:Nat->Nat->St->Hp->Prop,(∃m,W 0 m σ H)/\∀i m σ H,W i m σ H->
   ((PX K a).stop i H/\um.nx σ H)\/((PX K a).go i H/\∃N:St->Hp->Prop,(∀σ' H',N σ' H'->∃m',m'<m/\W (i+1) m' σ' H')/\∀x H',(PX K a).yld i H x H'->g x σ H' λσ2 H2=>tb {um with nx:=N,ct:=N,bk:=um.nx} σ2 H2):=by
 refine⟨λi m σ H=>m=xs.length-i/\i<=xs.length/\Pv i σ H,⟨xs.length,B,Ym _,h0⟩,?_⟩;rintro i m σ H ⟨rfl,hi,p⟩;have q:=hl i σ H hi p
 by_cases Xh:i<xs.length
 .refine .inr ⟨⟨xs,xs[i],q,by simp[Xh]⟩,Pv<|i+1,λσ' H' p'=>⟨xs.length-(i+1),ur,Z,Xh,p'⟩,λx H' y=>?_⟩;obtain⟨e,y⟩:=y;subst e;exact hs i x σ _ (y xs q) p
 .have e:i=xs.length:=J;subst e;exact .inl ⟨⟨xs,q,XO _⟩,hd σ H p⟩
theorem d3{K:Ad}{a:Addr}{xs:List V}{g:TG}{tb:TS}{um:Ends}{σ:St}{H:Hp}(Pv:Nat->St->Hp->Prop)(h0:Pv 0 σ H)(hl:∀i σ H,i<=xs.length->Pv i σ H->SqT K H a xs)
  (hs:∀i x σ H,xs[i]?=some x->Pv i σ H->g x σ H λσ2 H2=>tb {um with nx:=Pv<|i+1,ct:=Pv<|i+1,bk:=um.nx} σ2 H2)(hd:∀σ H,Pv xs.length σ H->um.nx σ H):
  ∃W:Nat->Nat->St->Hp->Prop,(∃m,W 0 m σ H)/\∀i m σ H,W i m σ H->
   ((PV K a).stop i H/\um.nx σ H)\/((PV K a).go i H/\∃N:St->Hp->Prop,(∀σ' H',N σ' H'->∃m',m'<m/\W (i+1) m' σ' H')/\∀x H',(PV K a).yld i H x H'->g x σ H' λσ2 H2=>tb {um with nx:=N,ct:=N,bk:=um.nx} σ2 H2):=by
 refine⟨λi m σ H=>m=xs.length-i/\i<=xs.length/\Pv i σ H,⟨xs.length,B,Ym _,h0⟩,?_⟩;rintro i m σ H ⟨rfl,hi,p⟩;have q:=hl i σ H hi p
 by_cases Xh:i<xs.length
 .refine .inr ⟨⟨xs,xs[i],q,by simp[Xh]⟩,Pv<|i+1,λσ' H' p'=>⟨xs.length-(i+1),ur,Z,Xh,p'⟩,λx H' y=>?_⟩;obtain⟨e,y⟩:=y;subst e;exact hs i x σ _ (y xs q) p
 .have e:i=xs.length:=ur;subst e;exact .inl ⟨⟨xs,q,XO _⟩,hd σ H p⟩
theorem Jt{lo:Int}{n:Nat}{g:TG}{tb:TS}{um:Ends}{σ:St}{H:Hp}(Pv:Nat->St->Hp->Prop)(h0:Pv 0 σ H)
  (hs:∀i σ H,i<n->Pv i σ H->g (.int<|lo+i) σ H λσ2 H2=>tb {um with nx:=Pv<|i+1,ct:=Pv<|i+1,bk:=um.nx} σ2 H2)(hd:∀σ H,Pv n σ H->um.nx σ H):
  ∃W:Nat->Nat->St->Hp->Prop,(∃m,W 0 m σ H)/\∀i m σ H,W i m σ H->
   ((Lp lo n).stop i H/\um.nx σ H)\/((Lp lo n).go i H/\∃N:St->Hp->Prop,(∀σ' H',N σ' H'->∃m',m'<m/\W (i+1) m' σ' H')/\∀x H',(Lp lo n).yld i H x H'->g x σ H' λσ2 H2=>tb {um with nx:=N,ct:=N,bk:=um.nx} σ2 H2):=by
 refine⟨λi m σ H=>m=n-i/\i<=n/\Pv i σ H,⟨n,B,Ym _,h0⟩,?_⟩;rintro i m σ H ⟨rfl,hi,p⟩;by_cases Xh:i<n
 .refine .inr ⟨Xh,Pv<|i+1,λσ' H' p'=>⟨n-(i+1),ur,Z,Xh,p'⟩,λx H' y=>?_⟩;obtain⟨e,y⟩:=y;subst e y;exact hs i σ _ Xh p
 .have e:i=n:=J;subst e;exact .inl ⟨XO _,hd σ H p⟩
noncomputable abbrev R2:=V->V->Hp->VK->Prop
noncomputable def WC(X:Cx)(f:Value->Value->Sem Value)(r:R2):Prop:=
 ∀(pins:List (Addr×Obj))(s:Shared)(σ:St)(H:Hp)(x y:V)(v u:Value)(Q:VK),Inv X pins σ H s->RelV x v->RelV y u->r x y H Q->
  wpAny (model X.prog X.w) X.A (f v u) (EP X pins σ Q) X.xe s
noncomputable def tG(X:Cx)(f:Value->Sem Value)(r:V->Hp->VK->Prop):Prop:=
 ∀(pins:List (Addr×Obj))(s:Shared)(σ:St)(H:Hp)(x:V)(v:Value)(Q:VK),Inv X pins σ H s->RelV x v->r x H Q->
  wpAny (model X.prog X.w) X.A (f v) (EP X pins σ Q) X.xe s
noncomputable def Vp(X:Cx)(f:Value)(r:List V->Hp->VK->Prop):Prop:=
 ∀(pins:List (Addr×Obj))(s:Shared)(σ:St)(H:Hp)(xs:List V)(us:Ag)(Q:VK),Inv X pins σ H s->Vals xs us->r xs H Q->
  wpAny (model X.prog X.w) X.A (call f us) (EP X pins σ Q) X.xe s
noncomputable def yi(r:R2)(ta tb:TE):TE:=λσ H Q=>ta σ H λx H1=>tb σ H1 λy H2=>r x y H2 Q
noncomputable def tUn(r:V->Hp->VK->Prop)(ta:TE):TE:=λσ H Q=>ta σ H λx H1=>r x H1 Q
noncomputable def rI(C:Int->Int->Prop)(g:Int->Int->V):R2:=λx y H Q=>∃i j,x=.int i/\y=.int j/\C i j/\Q (g i j) H
noncomputable def Lo(g:Int->Int->V):R2:=λx y H Q=>∃i j,x=.int i/\y=.int j/\Q (g i j) H
noncomputable def rU(g:Int->V):V->Hp->VK->Prop:=λx H Q=>∃i,x=.int i/\Q (g i) H
section
variable{X:Cx}{a b:Expr}{ta tb:TE}{pos:Pos}
theorem Jr(ha:PE X a ta)(hb:PE X b tb){pins:List (Addr×Obj)}{s:Shared}{σ:St}{H:Hp}{R:V->V->Hp->Prop}(I:Inv X pins σ H s)
  (h:ta σ H λx H1=>tb σ H1 λy H2=>R x y H2){Q:Ae}{f:Value->Value->Sem Value}
  (hf:∀v u s2 x y H2,Inv X pins σ H2 s2->RelV x v->RelV y u->R x y H2->wpAny (model X.prog X.w) X.A (f v u) Q X.xe s2):
  wpAny (model X.prog X.w) X.A (eval a X.env) (λv s₁=>wpAny (model X.prog X.w) X.A (eval b X.env) (λu s₂=>wpAny (model X.prog X.w) X.A (f v u) Q X.xe s₂) X.xe s₁) X.xe s:=by refine thn (ha pins s σ H _ I h) λv s1 Xy=>?_;obtain⟨x,H1,I1,r1,q1⟩:=Xy;refine thn (hb pins s1 σ H1 _ I1 q1) λu s2 Xy=>?_;obtain⟨y,H2,I2,r2,q2⟩:=Xy;exact hf v u s2 x y H2 I2 r1 r2 q2
theorem Zr(ho:WC X (binaryOp op) r)(ha:PE X a ta)(hb:PE X b tb):PE X (.BinOp a op b pos) (yi r ta tb):=by intro pins s σ H Q I h;exact wpAny_BinOp (Jr ha hb I h λv u s2 x y H2 I2 rx ry q=>ho pins s2 σ H2 x y v u Q I2 rx ry q)
theorem Jq{op:UnaryOp}{r:V->Hp->VK->Prop}(ho:tG X (unaryOp op) r)(ha:PE X a ta):PE X (.UnaryOp op a pos) (tUn r ta):=by intro pins s σ H Q I h;exact UnaryOp_ (thn (ha pins s σ H _ I h) λv s1 zz=>by obtain⟨x,H1,I1,r1,q1⟩:=zz;exact ho pins s1 σ H1 x v Q I1 r1 q1)
theorem Gv{f:Value->Value->Sem Value}{C:Int->Int->Prop}{g:Int->Int->Int}
  (rule:∀(i j:Int)(t u:Tok)(s:Shared)(Q:Ae)(E:Ae),C i j->Q (.int (g i j) s.toks) {s with toks:=s.toks+1}->wpAny (model X.prog X.w) X.A (f (.int i t)<|.int j u) Q E s):
  WC X f (rI C λi j=>.int<|g i j):=by intro pins s σ H x y v u Q I rx ry h;obtain⟨i,j,rfl,rfl,hc,q⟩:=h;obtain⟨t,rfl⟩:=rx;obtain⟨t',rfl⟩:=ry;exact rule i j t t' s _ _ hc ⟨.int<|g i j,H,I.tok _,⟨_,Z⟩,q⟩
theorem Eu{f:Value->Value->Sem Value}{g:Int->Int->Int}
  (rule:∀(i j:Int)(t u:Tok)(s:Shared)(Q:Ae)(E:Ae),Q (.int (g i j) s.toks) {s with toks:=s.toks+1}->wpAny (model X.prog X.w) X.A (f (.int i t)<|.int j u) Q E s):
  WC X f (Lo λi j=>.int<|g i j):=by intro pins s σ H x y v u Q I rx ry h;obtain⟨i,j,rfl,rfl,q⟩:=h;obtain⟨t,rfl⟩:=rx;obtain⟨t',rfl⟩:=ry;exact rule i j t t' s _ _ ⟨.int<|g i j,H,I.tok _,⟨_,Z⟩,q⟩
theorem MY{f:Value->Value->Sem Value}{g:Int->Int->Bool}
  (rule:∀(i j:Int)(t u:Tok)(s:Shared)(Q:Ae)(E:Ae),Q (.bool<|g i j) s->wpAny (model X.prog X.w) X.A (f (.int i t)<|.int j u) Q E s):
  WC X f (Lo λi j=>.bl<|g i j):=by intro pins s σ H x y v u Q I rx ry h;obtain⟨i,j,rfl,rfl,q⟩:=h;obtain⟨t,rfl⟩:=rx;obtain⟨t',rfl⟩:=ry;exact rule i j t t' s _ _ ⟨.bl<|g i j,H,I,Z,q⟩
noncomputable def Et(i j:Int):Prop:=0<j/\j<1073741824
noncomputable def tE(i j:Int):Prop:=0<=j/\j<=1000000/\i.natAbs<2^64
noncomputable def CMul(i j:Int):Prop:=(-(2^64)<i/\i<2^64)\/(-(2^64)<j/\j<2^64)
theorem CMul.ok(h:CMul i j):IntMulOk i j:=by
 rcases h with ⟨h1,h2⟩|⟨h1,h2⟩
 .exact .of_left (intBits_le_64 h1 h2)
 .exact .of_right (intBits_le_64 h1 h2)
theorem UG:WC X (binaryOp .Add) (Lo λi j=>.int (i+j)):=Eu λ_ _ _ _ _ _ _ q=>add_int q
theorem WO:WC X (binaryOp .Sub) (Lo λi j=>.int (i-j)):=Eu λ_ _ _ _ _ _ _ q=>sub_int q
theorem PU:WC X (binaryOp .Mult) (rI CMul λi j=>.int (i*j)):=Gv λ_ _ _ _ _ _ _ hc q=>mul_int q hc.ok
theorem PR:WC X (binaryOp .FloorDiv) (rI Et λi j=>.int (i/j)):=Gv λi j _ _ _ _ _ hc q=>by
 have h1:(0:Int)<j:=hc.1;have h2:j<1073741824:=hc.2
 exact floordiv_int J (by rwa[Int.fdiv_eq_ediv_of_nonneg i J]) (.inl<|PyProof.noPylong_small ur)
theorem ZP:WC X (binaryOp .Mod) (rI (λ_ j=>0<j) λi j=>.int (i%j)):=Gv λi j _ _ _ _ _ hc q=>by have h1:(0:Int)<j:=hc;exact mod_int' ur (by rwa[Int.fmod_eq_emod_of_nonneg i J])
theorem TJ:WC X (binaryOp .Pow) (rI tE λi j=>.int (i^j.toNat)):=Gv λ_ _ _ _ _ _ _ hc q=>pow_int_small hc.1 hc.2.1 hc.2.2 q
theorem unI{f:Value->Sem Value}{g:Int->Int}
  (rule:∀(i:Int)(t:Tok)(s:Shared)(Q:Ae)(E:Ae),Q (.int (g i) s.toks) {s with toks:=s.toks+1}->wpAny (model X.prog X.w) X.A (f<|.int i t) Q E s):
  tG X f (rU λi=>.int<|g i):=by intro pins s σ H x v Q I rx h;obtain⟨i,rfl,q⟩:=h;obtain⟨t,rfl⟩:=rx;exact rule i t s _ _ ⟨.int<|g i,H,I.tok _,⟨_,Z⟩,q⟩
theorem Jp:tG X (unaryOp .USub) (rU λi=>.int (-i)):=unI λ_ _ _ _ _ q=>neg_int q
end
noncomputable def scal:V->V->Bool
 | .non,.non=>true | .non,.int _=>true | .int _,.non=>true | .non,.bl _=>true | .bl _,.non=>true | .non,.str _=>true | .str _,.non=>true
 | .int _,.int _=>true | .bl _,.bl _=>true | .str _,.str _=>true | .byt _,.byt _=>true
 | .int _,.str _=>true | .str _,.int _=>true | .bl _,.str _=>true | .str _,.bl _=>true
 |_,_=>false
noncomputable def rEq:R2:=λx y H Q=>scal x y=true/\Q (.bl<|decide<|x=y) H
noncomputable def rNe:R2:=λx y H Q=>scal x y=true/\Q (.bl<|!decide (x=y)) H
theorem ZB:decide (V.int i=V.int j)=(i == j):=by rw[QH];simp
theorem Es:decide (V.bl i=V.bl j)=(i == j):=by rw[QH];simp
theorem Ln:decide (V.str i=V.str j)=(i == j):=by rw[QH];simp
theorem Lm:decide (V.byt i=V.byt j)=(i.toList == j.toList):=by rw[QH];cases i;cases j;simp
section
variable{X:Cx}{a b c:Expr}{ta tb tc:TE}{pos:Pos}
theorem ZL{k k':Bool}(I:Inv X pins σ H s)(q:Q (.bl k) H)(e:k=k'):EP X pins σ Q (.bool k') s:=by subst e;exact⟨.bl k,H,I,Z,q⟩
theorem Sa:WC X (compareOp .Eq) rEq:=by
 intro pins s σ H x y v u Q I rx ry h;obtain⟨hs,q⟩:=h;cases x with
 |non=>
  cases rx;cases y with
  |non=>cases ry;exact PySem.EqNone.eq_none_none (ZL I q B)
  |bl j=>cases ry;exact PySem.EqNone.eq_none_bool (ZL I q B)
  |int j=>obtain⟨t',rfl⟩:=ry;exact PySem.EqNone.eq_none_int (ZL I q B)
  |str j=>obtain⟨t',rfl⟩:=ry;exact PySem.EqNone.eq_none_str (ZL I q B)
  |_=>exact absurd (show false=true from hs) Yz
 |bl i=>
  cases rx;cases y with
  |non=>cases ry;exact PySem.EqNone.eq_bool_none (ZL I q B)
  |bl j=>cases ry;exact eq_bool (ZL I q Es)
  |str j=>obtain⟨t',rfl⟩:=ry;exact PySem.EqMixed.eq_bool_str (ZL I q B)
  |_=>exact absurd (show false=true from hs) Yz
 |int i=>
  obtain⟨t,rfl⟩:=rx;cases y with
  |non=>cases ry;exact PySem.EqNone.eq_int_none (ZL I q B)
  |int j=>obtain⟨t',rfl⟩:=ry;exact eq_int (ZL I q ZB)
  |str j=>obtain⟨t',rfl⟩:=ry;exact PySem.EqMixed.eq_int_str (ZL I q B)
  |_=>exact absurd (show false=true from hs) Yz
 |str i=>
  obtain⟨t,rfl⟩:=rx;cases y with
  |non=>cases ry;exact PySem.EqNone.eq_str_none (ZL I q B)
  |bl j=>cases ry;exact PySem.EqMixed.eq_str_bool (ZL I q B)
  |int j=>obtain⟨t',rfl⟩:=ry;exact PySem.EqMixed.eq_str_int (ZL I q B)
  |str j=>obtain⟨t',rfl⟩:=ry;exact eq_str (ZL I q Ln)
  |_=>exact absurd (show false=true from hs) Yz
 |byt i=>
  obtain⟨t,rfl⟩:=rx;cases y with
  |byt j=>obtain⟨t',rfl⟩:=ry;exact PySem.W.eq_bytes (ZL I q Lm)
  |_=>exact absurd (show false=true from hs) Yz
 |_=>cases y<;>exact absurd (show false=true from hs) Yz
theorem SI:WC X (compareOp .NotEq) rNe:=by
 intro pins s σ H x y v u Q I rx ry h;obtain⟨hs,q⟩:=h;cases x with
 |non=>
  cases rx;cases y with
  |non=>cases ry;exact PySem.EqNone.ne_none_none (ZL I q B)
  |bl j=>cases ry;exact PySem.EqNone.ne_none_bool (ZL I q B)
  |int j=>obtain⟨t',rfl⟩:=ry;exact PySem.EqNone.ne_none_int (ZL I q B)
  |str j=>obtain⟨t',rfl⟩:=ry;exact PySem.EqNone.ne_none_str (ZL I q B)
  |_=>exact absurd (show false=true from hs) Yz
 |bl i=>
  cases rx;cases y with
  |non=>cases ry;exact PySem.EqNone.ne_bool_none (ZL I q B)
  |bl j=>cases ry;exact ne_bool (ZL I q<|XB not Es)
  |str j=>obtain⟨t',rfl⟩:=ry;exact PySem.EqMixed.ne_bool_str (ZL I q B)
  |_=>exact absurd (show false=true from hs) Yz
 |int i=>
  obtain⟨t,rfl⟩:=rx;cases y with
  |non=>cases ry;exact PySem.EqNone.ne_int_none (ZL I q B)
  |int j=>obtain⟨t',rfl⟩:=ry;exact ne_int (ZL I q<|XB not ZB)
  |str j=>obtain⟨t',rfl⟩:=ry;exact PySem.EqMixed.ne_int_str (ZL I q B)
  |_=>exact absurd (show false=true from hs) Yz
 |str i=>
  obtain⟨t,rfl⟩:=rx;cases y with
  |non=>cases ry;exact PySem.EqNone.ne_str_none (ZL I q B)
  |bl j=>cases ry;exact PySem.EqMixed.ne_str_bool (ZL I q B)
  |int j=>obtain⟨t',rfl⟩:=ry;exact PySem.EqMixed.ne_str_int (ZL I q B)
  |str j=>obtain⟨t',rfl⟩:=ry;exact ne_str (ZL I q<|XB not Ln)
  |_=>exact absurd (show false=true from hs) Yz
 |byt i=>
  obtain⟨t,rfl⟩:=rx;cases y with
  |byt j=>obtain⟨t',rfl⟩:=ry;exact PySem.W.ne_bytes (ZL I q<|XB not Lm)
  |_=>exact absurd (show false=true from hs) Yz
 |_=>cases y<;>exact absurd (show false=true from hs) Yz
theorem SH:WC X (compareOp .Lt) (Lo λi j=>.bl (decide (i<j))):=MY λ_ _ _ _ _ _ _ q=>lt_int q
theorem SG:WC X (compareOp .LtE) (Lo λi j=>.bl (decide (i<=j))):=MY λ_ _ _ _ _ _ _ q=>le_int q
theorem UP:WC X (compareOp .Gt) (Lo λi j=>.bl (decide (j<i))):=MY λ_ _ _ _ _ _ _ q=>gt_int q
theorem Er:WC X (compareOp .GtE) (Lo λi j=>.bl (decide (j<=i))):=MY λ_ _ _ _ _ _ _ q=>ge_int q
theorem yh:WC X (compareOp .Is) (λx y H Q=>y=.non/\Q (.bl (decide (x=.non))) H):=by
 intro pins s σ H x y v u Q I rx ry h;obtain⟨rfl,q⟩:=h;cases ry;refine is_none_gen (ZL I q ?_);cases x<;>first
  | (cases rx;rfl)
  | (obtain⟨t,rfl⟩:=rx;rfl)
theorem tD:WC X (compareOp .IsNot) (λx y H Q=>y=.non/\Q (.bl (!decide (x=.non))) H):=by
 intro pins s σ H x y v u Q I rx ry h;obtain⟨rfl,q⟩:=h;cases ry;refine isnot_none_gen (ZL I q ?_);cases x<;>first
  | (cases rx;rfl)
  | (obtain⟨t,rfl⟩:=rx;rfl)
theorem ZC4:WC X (compareOp .NotIn) (λx y H Q=>∃i j,x=.str i/\y=.str j/\Q (.bl (!(!(Builtin.Str.occurrences j i 0 j.length 1).isEmpty))) H):=by intro pins s σ H x y v u Q I rx ry h;obtain⟨i,j,rfl,rfl,q⟩:=h;obtain⟨t,rfl⟩:=rx;obtain⟨t',rfl⟩:=ry;exact notIn_str (ZL I q Z)
theorem Zq(b:Expr)(h:op≠.In:=by decide)(h2:op≠.NotIn:=by decide):behindInMarks op b=false:=by
 have e1:(op == CmpOp.In)=false:=by cases op<;>first|rfl|exact absurd rfl h
 have e2:(op == CmpOp.NotIn)=false:=by cases op<;>first|rfl|exact absurd rfl h2
 cases b<;>simp[behindInMarks,e1,e2]
theorem Oe(ho:WC X (compareOp op) r)(ha:PE X a ta)(hb:PE X b tb)(hm:behindInMarks op b=false):PE X (.Compare a [op] [b] pos) (yi r ta tb):=by intro pins s σ H Q I h;exact wpAny_Compare1 (Jr ha hb I h λv u s2 x y H2 I2 rx ry q=>ho pins s2 σ H2 x y v u Q I2 rx ry q) hm
noncomputable def Ep(t:TE):TT:=λσ H Q=>t σ H λx H'=>∃k,x=.bl k/\Q k H'
theorem Ze{op:CmpOp}{r:R2}(ho:WC X (compareOp op) r)(ha:PE X a ta)(hb:PE X b tb)(hm:behindInMarks op b=false):PT X (.Compare a [op] [b] pos) (Ep (yi r ta tb)):=by
 intro pins s σ H Q I h;refine wpAny_isTrue_Compare1 (thn (ha pins s σ H _ I h) λv s1 ⟨x,H1,I1,r1,q1⟩=>thn (hb pins s1 σ H1 _ I1 q1) λu s2 ⟨y,H2,I2,r2,q2⟩=>
  thn (ho pins s2 σ H2 x y v u _ I2 r1 r2 q2) λc s3 ⟨z,H3,I3,r3,k,e,q3⟩=>?_) hm
 subst e;cases r3;exact Qj ⟨H3,I3,q3⟩
noncomputable def Eo(r r':R2)(ta tb tc:TE):TE:=λσ H Q=>ta σ H λx H1=>tb σ H1 λy H2=>r x y H2 λz H3=>∃k,z=.bl k/\
 (if k=true then tc σ H3 λw' H4=>r' y w' H4 Q else Q (.bl false) H3)
theorem tw{op Jo:CmpOp}{r r':R2}(ho:WC X (compareOp op) r)(Wu:WC X (compareOp Jo) r')(ha:PE X a ta)(hb:PE X b tb)(hc:PE X c tc)
  (hm:lastMarks [op,Jo] [b,c]=false:=by with_unfolding_all rfl):PE X (.Compare a [op,Jo] [b,c] pos) (Eo r r' ta tb tc):=by
 intro pins s σ H Q I h;refine Compare_chain (thn (ha pins s σ H _ I h) λv s1 ⟨x,H1,I1,r1,q1⟩=>chain_link (thn (hb pins s1 σ H1 _ I1 q1) λu s2 ⟨y,H2,I2,r2,q2⟩=>
  thn (ho pins s2 σ H2 x y v u _ I2 r1 r2 q2) λd s3 ⟨z,H3,I3,r3,k,e,q3⟩=>?_)) hm
 subst e;cases r3;refine Qj ?_;cases k with
 |false=>exact ite_ff ⟨.bl false,H3,I3,Z,q3⟩
 |true=>exact ite_tt (chain_last<|thn (hc pins s3 σ H3 _ I3 q3) λw' s4 zz=>by obtain⟨z',H4,I4,r4,q4⟩:=zz;exact Wu pins s4 σ H4 y z' u w' Q I4 r2 r4 q4)
theorem tu{op Jo:CmpOp}{r r':R2}(ho:WC X (compareOp op) r)(Wu:WC X (compareOp Jo) r')(ha:PE X a ta)(hb:PE X b tb)(hc:PE X c tc)
  (hm:lastMarks [op,Jo] [b,c]=false:=by with_unfolding_all rfl):PT X (.Compare a [op,Jo] [b,c] pos) (Ep<|Eo r r' ta tb tc):=by
 intro pins s σ H Q I h;refine isTrue_chain (thn (ha pins s σ H _ I h) λv s1 ⟨x,H1,I1,r1,q1⟩=>test_link (thn (hb pins s1 σ H1 _ I1 q1) λu s2 ⟨y,H2,I2,r2,q2⟩=>
  thn (ho pins s2 σ H2 x y v u _ I2 r1 r2 q2) λd s3 ⟨z,H3,I3,r3,k,e,q3⟩=>?_)) hm
 subst e;cases r3;refine Qj ?_;cases k with
 |false=>
  obtain⟨k',e',q'⟩:=q3;cases e';exact ite_ff ⟨H3,I3,q'⟩
 |true=>
  refine ite_tt (test_last<|thn (hc pins s3 σ H3 _ I3 q3) λw' s4 zz=>?_);obtain⟨z',H4,I4,r4,q4⟩:=zz;refine thn (Wu pins s4 σ H4 y z' u w' _ I4 r2 r4 q4) λd' s5 Xy=>?_;obtain⟨z2,H5,I5,r5,k2,e2,q5⟩:=Xy;subst e2;cases r5;exact Qj ⟨H5,I5,q5⟩
theorem Jn:(sizeLine:Nat)<2^63:=by rw[TQ];decide
theorem ZZ6:WC X (binaryOp .Add) (λx y H Q=>∃i j,x=.str i/\y=.str j/\i.length+j.length<=sizeLine/\Q (.str (i++j)) H):=by intro pins s σ H x y v u Q I rx ry h;obtain⟨i,j,rfl,rfl,hz,q⟩:=h;obtain⟨t,rfl⟩:=rx;obtain⟨t',rfl⟩:=ry;exact add_str (λt' tk=>⟨.str<|i++j,H,I.tok _,⟨_,Z⟩,q⟩) hz
theorem WH{us:Ag}(r:Vals [x] us):∃u,us=[u]/\RelV x u:=by
 cases r with
 |cons r1 r2=>cases r2;exact⟨_,Z,r1⟩
theorem Jm{us:Ag}(r:Vals [x,y] us):∃u w',us=[u,w']/\RelV x u/\RelV y w':=by
 cases r with
 |cons r1 r2=>
  cases r2 with
  |cons r3 r4=>cases r4;exact⟨_,_,Z,r1,r3⟩
theorem yg (hc:X.calm=true):Vp X (.builtin "max") (λxs H Q=>∃i j,xs=[.int i,.int j]/\Q (.int (if j>i then j else i)) H):=by
 intro pins s σ H xs us Q I r h;obtain⟨i,j,rfl,q⟩:=h;obtain⟨u,w',rfl,⟨t,rfl⟩,⟨t',rfl⟩⟩:=Jm r;refine max_two_ints (I.ok.hd hc) λh' tk k=>⟨_,H,I.kept k,?_,q⟩;by_cases hj:j>i
 .rw[if_pos hj,if_pos hj];exact⟨_,Z⟩
 .rw[if_neg hj,if_neg hj];exact⟨_,Z⟩
theorem PQ (hc:X.calm=true):Vp X (.builtin "min") (λxs H Q=>∃i j,xs=[.int i,.int j]/\Q (.int (if j<i then j else i)) H):=by
 intro pins s σ H xs us Q I r h;obtain⟨i,j,rfl,q⟩:=h;obtain⟨u,w',rfl,⟨t,rfl⟩,⟨t',rfl⟩⟩:=Jm r;refine min_two_ints (I.ok.hd hc) λh' tk k=>⟨_,H,I.kept k,?_,q⟩;by_cases hj:j<i
 .rw[if_pos hj,if_pos hj];exact⟨_,Z⟩
 .rw[if_neg hj,if_neg hj];exact⟨_,Z⟩
theorem tq:Vp X (.type "int") (λxs H Q=>(∃i,xs=[.int i]/\Q (.int i) H)\/∃k,xs=[.bl k]/\Q (.int (if k then 1 else 0)) H):=by
 intro pins s σ H xs us Q I r h;rcases h with ⟨i,rfl,q⟩|⟨k,rfl,q⟩
 .obtain⟨u,rfl,t,rfl⟩:=WH r;exact call_int_int ⟨.int i,H,I,⟨_,Z⟩,q⟩
 .obtain⟨u,rfl,r1⟩:=WH r;cases r1;exact call_int_bool ⟨.int<|if k then 1 else 0,H,I.tok _,⟨_,Z⟩,q⟩
theorem ZS4:Vp X (.type "str") (λxs H Q=>∃i,xs=[.int i]/\i.natAbs.log2<1920/\Q (.str (toString i)) H):=by intro pins s σ H xs us Q I r h;obtain⟨i,rfl,hz,q⟩:=h;obtain⟨u,rfl,t,rfl⟩:=WH r;exact PySem.P.str_of_int hz ⟨.str _,H,I.tok _,⟨_,Z⟩,q⟩
end
structure ObjM (h:Heap) (x dx C:Addr) (mA:Af):Prop where
 obj:h.get? x=some (PySem.W.instObj C dx)
 ns:h.Ns1 dx mA
 ne:dx≠x
theorem ZF8{h:Heap}{mA:Af}(n:h.Ns1 dx mA):∃od,h.get? dx=some od/\∀name,PySem.W.lookIn name od=some (mA name):=by
 obtain⟨o,es,ep,ho,hd,hk,_,hm⟩:=n;refine⟨o,ho,λname=>?_⟩;have e:=hm name
 unfold nsFind findBy at e;rw[<-Array.find?_toList]at e;unfold PySem.W.lookIn;rw[hd];dsimp only;split
 .rename_i y q;rw[q]at e;exact XB some e
 .rename_i q;rw[q]at e;have a:es.toList.any (·.refKey)=false:=by rw[List.any_eq_false];intro y hy;obtain⟨z,t,tm⟩:=hk y (Array.mem_toList_iff.mp hy);simp[DictEntry.refKey,tm]
  have a':¬es.toList.any (·.refKey)=true:=by rw[a];exact Yz
  rw[if_neg a'];exact XB some e
theorem ObjM.look{mA:Af}(I:ObjM h x dx C mA):∃od,PySem.W.InstAt h x (PySem.W.instObj C dx) C (some od)/\∀name,PySem.W.lookIn name od=some (mA name):=
 let ⟨od,ho,hl⟩:=ZF8 I.ns
 ⟨od,⟨I.obj,Z,Z,ho⟩,hl⟩
section
variable{prog:Program}{w:World}{A:Around}{E:Ae}{s:Shared}{K:Ad}{x dx C f:Addr}{mA:Af}{name:Str}{v:Value}
theorem tj{Q:Ae}(X:K.In s.heap)(I:ObjM s.heap x dx C mA)(hg:PySem.W.plainGet K C name=true)(hh:PySem.W.hasDictIn K C=true)
  (ha:PySem.W.findIn K (.ref C) name=some none)(hv:mA name=some v)(yf:PySem.W.handedIn v=true)(h:Q v {s with toks:=s.toks+1}):
  wpAny (model prog w) A (getAttr (.ref x) name expr) Q E s:=by obtain⟨od,AP,hl⟩:=I.look;exact PySem.W.get_value X AP (PySem.W.plainGet_of hg).1 (PySem.W.findObj_own hh ha Z<|by rw[hl,hv]) yf h
theorem tf{Q:Unit->Shared->Prop}(X:K.In s.heap)(I:ObjM s.heap x dx C mA)
  (hs:PySem.W.findIn K (.ref C) "__setattr__"=some (some<|.builtin "object.__setattr__"))(hp:PySem.W.plainOver K C=true)(ht:PySem.W.takerIn K C name=some none)(hh:PySem.W.hasDictIn K C=true)
  (hw:PySem.Within mA ns)(hsz:ns.length<=sizeLine)
  (h:∀h',ObjM h' x dx C (λy=>if y=name then some v else mA y)->Heap.SameBut dx s.heap h'->Q () {s with heap:=h',toks:=s.toks+2}):
  wpAny (model prog w) A (setAttr (.ref x) name v) Q E s:=by
 obtain⟨od,AP,hl⟩:=I.look;refine PySem.W.set_plain X AP hs (PySem.W.osa_open (s:={s with toks:=s.toks+1}) (r:=none) X AP hp ht λb=>?_);obtain⟨cd,hc,Qc⟩:=PySem.W.any_some hh;have hx:s.heap.get? x=some ⟨.ref C,some dx,.plain,#[]⟩:=I.obj
 refine XU (Yk<|XU<|XU<|wpAny_loadPart hx<|XU<|PySem.W.Looks.here (s:={s with toks:=s.toks+1}) (PySem.W.looks_clsIn X hc) ?_);rw[Qc];refine Yk (a:=some dx) (XU<|Yk<|XU ?_);refine wpAny_nsSet1 (s:={s with toks:=s.toks+1}) I.ns λh' Od Td=>?_;obtain⟨oD,esD,epD,ye,dZ,hcD⟩:=Od.count (PySem.Within.cons name v hw);refine XU (wpAny_lookBehind ye (by rw[dZ];exact pastItsLine_dict<|Ys hcD<|by rw[Yq];lia) ?_);exact Yk (h _ ⟨(Td.2 _<|XI I.ne).trans I.obj,Od,I.ne⟩ Td)
theorem td{R:Result->Shared->Prop}{vs:Ag}{kw:List (Str×Value)}(X:K.In s.heap)(hm:PySem.W.makesIn K C=true)
  (hi:PySem.W.findIn K (.ref C) "__init__"=some (some<|.ref f))(hf:PySem.W.typeIn K (.ref f)=some (.type "function"))
  (h:codeAny (model prog w) (A.under<|.builtin "type.__call__" ⟨.ref C::vs,kw⟩) (.call (.ref f) ⟨.ref (s.heap.objs.size+1)::vs,kw⟩) (PySem.W.InitBack (s.heap.objs.size+1) R)
   {s with heap:=(s.heap.push PySem.W.emptyDict).push (PySem.W.instObj C s.heap.objs.size)}):
  codeAny (model prog w) A (.call (.ref C) ⟨vs,kw⟩) R s:=by obtain⟨hh,g,d,t,os⟩:=s;exact PySem.W.make_core (PySem.W.makes_of X hm) (PySem.W.looks_findIn X hi) (λself=>PySem.W.bind_fn X self hf) (.inl Z) h
end
noncomputable def XQ(f:Str)(v:V):List (Str×V)->List (Str×V)
 |[]=>[(f,v)]
 | (g,x)::r=>if g=f then (g,v)::r else (g,x)::XQ f v r
theorem En(f g:Str)(v:V):∀fs:List (Str×V),(XQ f v fs).lookup g=if g=f then some v else fs.lookup g
 |[]=>by
  show List.lookup g [(f,v)]=_;by_cases h:g=f
  .have hb:(g == f)=true:=Sd.mpr h;simp only[List.lookup,hb,if_pos h]
  .have hb:(g == f)=false:=Fy.mpr h;simp only[List.lookup,hb,if_neg h]
 | (k,x)::r=>by
  have ih:=En f g v r;rw[show XQ f v ((k,x)::r)=(if k=f then (k,v)::r else (k,x)::XQ f v r) from Z];by_cases hk:k=f
  .rw[if_pos hk];by_cases h:g=k
   .have hb:(g == k)=true:=Sd.mpr h;simp only[List.lookup,hb,if_pos (h.trans hk)]
   .have hb:(g == k)=false:=Fy.mpr h;simp only[List.lookup,hb,if_neg λe:g=f=>h (e.trans hk.symm)]
  .rw[if_neg hk];by_cases h:g=k
   .have hb:(g == k)=true:=Sd.mpr h;simp only[List.lookup,hb,if_neg λe:g=f=>hk (h.symm.trans e)]
   .have hb:(g == k)=false:=Fy.mpr h;simp only[List.lookup,hb];exact ih
theorem sZ(f:Str)(v:V):∀fs:List (Str×V),f∈(XQ f v fs).map (·.1)/\∀g,g∈fs.map (·.1)->g∈(XQ f v fs).map (·.1)
 |[]=>⟨by simp[XQ],λg h=>by simp at h⟩
 | (k,x)::r=>by
  obtain⟨i1,i2⟩:=sZ f v r;rw[show XQ f v ((k,x)::r)=(if k=f then (k,v)::r else (k,x)::XQ f v r) from Z];by_cases hk:k=f
  .rw[if_pos hk];subst hk;exact⟨B,λg h=>by simpa using h⟩
  .rw[if_neg hk];refine⟨?_,λg h=>?_⟩
   .rw[WD];exact Yf _ i1
   .rw[WD]at h ⊢;rcases Ye.mp h with e|e
    .exact Ye.mpr (.inl e)
    .exact Yf _ (i2 g e)
theorem dY(f:Str)(v:V):∀fs:List (Str×V),(XQ f v fs).length<=fs.length+1
 |[]=>by simp[XQ]
 | (k,x)::r=>by
  have ih:=dY f v r;rw[show XQ f v ((k,x)::r)=(if k=f then (k,v)::r else (k,x)::XQ f v r) from Z];by_cases hk:k=f
  .rw[if_pos hk,Yq,Yq];lia
  .rw[if_neg hk,Yq,Yq];lia
theorem RelO.some_of{v:V}(r:RelO (some v) o):∃u,o=some u/\RelV v u:=by
 cases o with
 |none=>exact(show False from r).elim
 |some u=>exact⟨u,Z,r⟩
theorem ZT8(r:RelV v u):PySem.W.handedIn u=true:=by
 cases v with
 |non=>cases (show u=Value.none from r);rfl
 |bl b=>cases (show u=Value.bool b from r);rfl
 |int i=>obtain⟨t,e⟩:=(show ∃t,u=Value.int i t from r);cases e;rfl
 |str x=>obtain⟨t,e⟩:=(show ∃t,u=Value.str x t from r);cases e;rfl
 |byt b=>obtain⟨t,e⟩:=(show ∃t,u=Value.bytes b t from r);cases e;rfl
 |flt b=>obtain⟨t,e⟩:=(show ∃t,u=Value.float b t from r);cases e;rfl
 |ref a=>cases (show u=Value.ref a from r);rfl
 |ty n=>cases (show u=Value.type n from r);rfl
section
variable{P:Program}{w:World}{H:Hp}{h:Heap}{a C dx:Addr}{fs:List (Str×V)}
theorem dX(hok:HOk P w H h)(e:H a=some (.ins C dx fs)):∃mA,ObjM h a dx C mA/\(∀f,RelO (fs.lookup f) (mA f))/\PySem.Within mA (fs.map (·.1))/\fs.length<=1000/\H dx=some (.own a):=by obtain⟨d,z,ne,ob,mA,n,r,q⟩:=(show ObjOk P w H h a (.ins C dx fs) from hok a _ e);exact⟨mA,⟨ob,n,ne⟩,r,q,z,d⟩
end
structure Cls (K:Ad) (C:Addr):Prop where
 pg:PySem.W.plainGet K C Str.empty=true
 hd:PySem.W.hasDictIn K C=true
 po:PySem.W.plainOver K C=true
 sa:PySem.W.findIn K (.ref C) "__setattr__"=some (some<|.builtin "object.__setattr__")
theorem Cls.get{K:Ad}{C:Addr}(c:Cls K C)(f:Str):PySem.W.plainGet K C f=true:=c.pg
noncomputable def NoAttr(K:Ad)(C:Addr)(f:Str):Prop:=PySem.W.findIn K (.ref C) f=some none
theorem NoAttr.taker{K:Ad}{C:Addr}{f:Str}(n:NoAttr K C f):PySem.W.takerIn K C f=some none:=by unfold PySem.W.takerIn;rw[show PySem.W.findIn K (.ref C) f=some none from n];rfl
section
variable{X:Cx}{pins:List (Addr×Obj)}{σ:St}{H:Hp}{s:Shared}{a C dx:Addr}{fs:List (Str×V)}{f:Str}{v:V}{A:Around}{E:Ae}
theorem Zv7{Q:Ae}(I:Inv X pins σ H s)(e:H a=some (.ins C dx fs))(c:Cls X.K C)(n:NoAttr X.K C f)(l:fs.lookup f=some v)
  (h:∀u s',Inv X pins σ H s'->RelV v u->Q u s'):wpAny (model X.prog X.w) A (getAttr (.ref a) f b) Q E s:=by obtain⟨mA,O,r,_,_,_⟩:=dX I.hok e;obtain⟨u,hu,ru⟩:=RelO.some_of (v:=v) (o:=mA f) (by rw[<-l];exact r f);exact tj I.kIn O (c.get f) c.hd n hu (ZT8 ru) (h u _ (I.tok _) ru)
theorem ZL6{Q:Unit->Shared->Prop}(I:Inv X pins σ H s)(e:H a=some (.ins C dx fs))(c:Cls X.K C)(n:NoAttr X.K C f)(hl:fs.length<1000)(ry:RelV y u)
  (h:∀s',Inv X pins σ (upd H a<|.ins C dx<|XQ f y fs) s'->Q () s'):wpAny (model X.prog X.w) A (setAttr (.ref a) f u) Q E s:=by
 obtain⟨mA,O,r,wi,_,ho⟩:=dX I.hok e;have hz:(fs.map (·.1)).length<=sizeLine:=by rw[Yb,TQ];lia
 refine tf I.kIn O c.sa c.po n.taker c.hd wi hz λh' O' sb=>h _ ?_;have hd:∃o,h'.get? dx=some o:=by obtain⟨o,_,_,e',_⟩:=O'.ns;exact⟨o,e'⟩
 refine I.write (x:=a) (e:=dx) (by rw[e];exact True.intro) (.inr ho) (λb q hb z=>(sb.2 b hb).trans z) hd ?_;refine⟨by rw[Zc O.ne];exact ho,?_,O.ne,O'.obj,_,O'.ns,λg=>?_,λg hg=>?_⟩
 .have:=dY f y fs;lia
 .show RelO ((XQ f y fs).lookup g) (if g=f then some u else mA g);rw[En];by_cases q:g=f
  .rw[if_pos q,if_pos q];exact ry
  .rw[if_neg q,if_neg q];exact r g
 .by_cases q:g=f
  .rw[q];exact(sZ f y fs).1
  .refine(sZ f y fs).2 g (wi g λz=>hg ?_);show(if g=f then some u else mA g)=none
   rwa[if_neg q]
theorem Inv.made(I:Inv X pins σ H s):Inv X pins σ (upd (upd H s.heap.objs.size (.own (s.heap.objs.size+1))) (s.heap.objs.size+1) (.ins C s.heap.objs.size []))
  {s with heap:=(s.heap.push PySem.W.emptyDict).push (PySem.W.instObj C s.heap.objs.size)}:=by
 have e1:(s.heap.push PySem.W.emptyDict).get? s.heap.objs.size=some PySem.W.emptyDict:=Yj s.heap rfl;have e2:((s.heap.push PySem.W.emptyDict).push (PySem.W.instObj C s.heap.objs.size)).get? (s.heap.objs.size+1)=some (PySem.W.instObj C s.heap.objs.size):=by
  have:=Yj (s.heap.push PySem.W.emptyDict) (o:=PySem.W.instObj C s.heap.objs.size) rfl
  rwa[Us]at this
 have e3:(s.heap.push PySem.W.emptyDict).Ns s.heap.objs.size (λ_=>none):=⟨PySem.W.emptyDict,#[],_,e1,Z,λe he=>absurd he B,λ_=>rfl⟩;have I1:=I.laid (a:=s.heap.objs.size) (o:=.own<|s.heap.objs.size+1) (h':=s.heap.push PySem.W.emptyDict) (t':=s.toks) (λb u q=>Xb _ q) (XO _) ⟨_,e1⟩
 refine I1.laid (a:=s.heap.objs.size+1) (o:=.ins C s.heap.objs.size []) (t':=s.toks) (λb u q=>Xb _ q) (Nat.le_of_eq<|Us _ _) ?_;have ne:s.heap.objs.size≠s.heap.objs.size+1:=Yy (Ol _)
 refine⟨by rw[Zc ne,XS],Ym _,ne,e2,λ_=>none,(Heap.Ns1.of_empty e3).at λo q=>Xb _ q,λ_=>True.intro,λy hy=>absurd Z hy⟩
theorem sY{pos:Pos}{Q:Ae}(hb:attributeBase e f env (eval e env)=eval e env)
  (h:wpAny (model prog w) A (eval e env) (λo s₁=>wpAny (model prog w) A (getAttr o f true) Q E s₁) E s):wpAny (model prog w) A (eval (.Attribute e f pos) env) Q E s:=
 Attribute_any_ h (by rw[arm_eval_Attribute,hb])
end
noncomputable def Em(K:Ad)(ta:TE)(f:Str):TE:=λσ H Q=>ta σ H λx H1=>∃a C dx fs v,x=.ref a/\H1 a=some (.ins C dx fs)/\Cls K C/\NoAttr K C f/\fs.lookup f=some v/\Q v H1
noncomputable def sX(K:Ad)(ta tv:TE)(f:Str):TS:=λum σ H=>tv σ H λy H1=>ta σ H1 λx H2=>∃a C dx fs,x=.ref a/\H2 a=some (.ins C dx fs)/\Cls K C/\NoAttr K C f/\fs.length<1000/\
 um.nx σ (upd H2 a<|.ins C dx<|XQ f y fs)
section
variable{X:Cx}{o e value:Expr}{f:Str}{pos pos':Pos}{ta tv:TE}
theorem sW(he:PE X e ta)(hb:attributeBase e f X.env (eval e X.env)=eval e X.env):PE X (.Attribute e f pos) (Em X.K ta f):=by intro pins s σ H Q I h;refine sY hb (thn (he pins s σ H _ I h) λu s1 Xy=>?_);obtain⟨x,H1,I1,rx,a,C,dx,fs,v,ex,ea,c,n,l,q⟩:=Xy;subst ex;obtain rfl:u=Value.ref a:=rx;exact Zv7 I1 ea c n l λu' s2 I2 ru=>⟨v,H1,I2,ru,q⟩
theorem MX(ha:PE X o ta)(hv:PE X value tv)(hs:swapsWith value (some (.Attribute o f pos')) pos.line X.env=pure false):PS X (.Assign [.Attribute o f pos'] value pos) (sX X.K ta tv f):=by intro pins s σ H um I h;refine plainObj_wpAny_Assign_Attribute (thn (hv pins s σ H _ I h) λu s1 zz=>?_) hs;obtain⟨y,H1,I1,ry,q⟩:=zz;refine thn (ha pins s1 σ H1 _ I1 q) λov s2 Xy=>?_;obtain⟨x,H2,I2,rx,a,C,dx,fs,ex,ea,c,n,l,q2⟩:=Xy;subst ex;obtain rfl:ov=Value.ref a:=rx;exact ZL6 I2 ea c n l ry λs3 I3=>⟨σ,_,I3,q2⟩
end
structure Room (k:Nat) (A:Around):Prop where
 hd:A.handled=none
 dp:A.depth+3*k+5<recursionLimit
 un:A.units+16*k+200<cLine
theorem Room.mono(r:Room k A)(h:j<=k):Room j A:=⟨r.hd,by have:=r.dp;lia,by have:=r.un;lia⟩
theorem Room.deeper(r:Room (k+1) A)(env:Env):Room k (A.deeper env):=
 ⟨r.hd,by have:=r.dp;show A.depth+1+3*k+5<_;lia,by have:=r.un;show A.units+3+16*k+200<_;lia⟩
theorem Room.in1(r:Room (k+1) A):Room k A.in1:=
 ⟨r.hd,by have:=r.dp;show A.depth+3*k+5<_;lia,by have:=r.un;show A.units+1+16*k+200<_;lia⟩
theorem Za7 {A:Around} {C:Addr} {us:Ag} {kw:List (Str×Value)}:(A.under (.builtin "type.__call__" ⟨.ref C::us,kw⟩)).depth=A.depth+1:=by
 first|rfl|simp[Around.under,Code.weight,Code.isCreation,Code.isGuard,Code.isCaller,Code.frames,Code.isFrame,guardIds]
theorem sV {A:Around} {C:Addr} {us:Ag} {kw:List (Str×Value)}:(A.under (.builtin "type.__call__" ⟨.ref C::us,kw⟩)).units=A.units+1:=by
 first|rfl|simp[Around.under,Code.cUnits,Code.frames,Code.isFrame]
theorem Room.make (r:Room (k+1) A) (C:Addr) (us:Ag) (kw:List (Str×Value)):Room k (A.under (.builtin "type.__call__" ⟨.ref C::us,kw⟩)):=
 ⟨r.hd,by have:=r.dp;rw[Za7];lia,by have:=r.un;rw[sV];lia⟩
theorem Room.depth(r:Room k A):A.depth<recursionLimit:=by have:=r.dp;lia
theorem Room.units(r:Room k A):A.units+64<cLine:=by have:=r.un;lia
noncomputable def Jl:TA:=λ_ H Q=>Q [] H
noncomputable def PN(ta:TE)(tr:TA):TA:=λσ H Q=>ta σ H λx H1=>tr σ H1 λxs H2=>Q (x::xs) H2
section
variable{X:Cx}{e:Expr}{es:List Expr}{te:TE}{t:TA}{pos:Pos}
theorem XY:PA X [] Jl:=λ_ _ _ _ H Q I h=>uL ⟨[],H,I,.nil,h⟩
theorem XZ(ha:PE X e te)(hr:PA X es t)(hs:starEach (e::es) X.env=(false,eval e X.env)::starEach es X.env:=by rfl):PA X (e::es) (PN te t):=by
 intro pos pins s σ H Q I h;rw[hs];show wpAny _ _ (spliced<|(false,eval e X.env)::backTo pos (starEach es X.env)) _ _ s
 refine uS (thn (ha pins s σ H _ I h) λu s1 Xy=>?_);obtain⟨x,H1,I1,r1,q1⟩:=Xy;exact thn (hr pos pins s1 σ H1 _ I1 q1) λus s2 zz=>by obtain⟨xs,H2,I2,r2,q2⟩:=zz;exact⟨x::xs,H2,I2,.cons r1 r2,q2⟩
noncomputable def sU(t:TA):TE:=λσ H Q=>t σ H λxs H1=>xs.length<=sizeLine/\∀p,H1 p=none->Q (.ref p) (upd H1 p<|.tup xs)
noncomputable def sT(t:TA):TE:=λσ H Q=>t σ H λxs H1=>xs.length<=sizeLine/\∀p,H1 p=none->Q (.ref p) (upd H1 p<|.lst xs)
theorem UE{x1}(h:PA X es t):PE X (.Tuple es x1 pos) (sU t):=by
 intro pins s σ H Q I hq;refine wpAny_Tuple_spliced (thn (h pos pins s σ H _ I hq) λus s1 ⟨xs,H1,I1,r,z,q⟩=>⟨by rw[<-r.length];exact z,?_⟩);have hf:H1 s1.heap.objs.size=none:=I1.hok.fresh (XO _)
 refine⟨.ref s1.heap.objs.size,upd H1 s1.heap.objs.size<|.tup xs,I1.laid (t':=s1.toks) (λb u e=>Xb _ e) (XO _) ?_,Z,q _ hf⟩;exact⟨z,us,r,⟨_,Yj _ Z,Z,_,Z⟩⟩
theorem Tc(h:PA X es t):PE X (.List es pos) (sT t):=by
 intro pins s σ H Q I hq;refine wpAny_List_spliced (thn (h pos pins s σ H _ I hq) λus s1 ⟨xs,H1,I1,r,z,q⟩=>⟨by rw[<-r.length];exact z,?_⟩);have hf:H1 s1.heap.objs.size=none:=I1.hok.fresh (XO _)
 refine⟨.ref s1.heap.objs.size,upd H1 s1.heap.objs.size<|.lst xs,I1.laid (t':=s1.toks) (λb u e=>Xb _ e) (XO _) ?_,Z,q _ hf⟩;exact⟨z,us,0,r,Yj _ Z⟩
end
noncomputable abbrev Sp:=List V->Hp->VK->XK->Prop
noncomputable abbrev SF:=List Env->Hp->Shared->XK->Ae
structure Env0 (P:Program) (w:World) (K:Ad) (mg:Af) (base:Heap) (A:Around) (outer:List Env) (s:Shared) (H:Hp):Prop where
 frames:A.frames=some outer
 mod:Mod K mg base
 bs:∀b o,base.get? b=some o->s.heap.get? b=some o/\H b=none
 bsz:base.objs.size<=s.heap.objs.size
 funs:s.heap.FunFrames base outer
 frf:∀b∈Wd outer,H b=none
 hok:HOk P w H s.heap
 bare:AllBare s.gens
noncomputable def CE(outer:List Env)(P:Program)(w:World)(H:Hp)(s:Shared)(Q:VK)(u:Value)(s':Shared):Prop:=
 ∃v H',s'.os=s.os/\AllBare s'.gens/\Un (Wd outer) [] H H' s.heap s'.heap/\HOk P w H' s'.heap/\RelV v u/\Q v H'
noncomputable def CR(CX:SF)(outer:List Env)(P:Program)(w:World)(H:Hp)(s:Shared)(Q:VK)(E:XK)(r:Result)(s':Shared):Prop:=
 match r with
 | .ok (.ret u)=>CE outer P w H s Q u s'
 | .ok _=>False
 | .error e=>CX outer H s E e s'
structure FnOk (P:Program) (w:World) (K:Ad) (mg:Af) (base:Heap) (CX:SF) (k:Nat) (f:Addr) (fd:FuncData) (ps:List Str) (sp:Sp):Prop where
 len:∀vs H Q E,sp vs H Q E->vs.length=ps.length
 run:∀(A:Around)(outer:List Env)(s:Shared)(H:Hp)(args:Args)(us:Ag)(vs:List V)(Q:VK)(E:XK),Room k A->Env0 P w K mg base A outer s H->BindsTo s fd args (ps.zip us)->Vals vs us->sp vs H Q E->
  codeAny (model P w) A (.call (.ref f) args) (CR CX outer P w H s Q E) s
theorem Env0.make{P:Program}{w:World}{K:Ad}{mg:Af}{base:Heap}{A:Around}{outer:List Env}{s:Shared}{H:Hp}(e:Env0 P w K mg base A outer s H)(C:Addr)(us:Ag)(kw:List (Str×Value)):
  Env0 P w K mg base (A.under<|.builtin "type.__call__" ⟨.ref C::us,kw⟩) outer s H:=⟨by first|exact e.frames|(simpa[Around.under,Code.envs,Code.isFrame,pushEnvs] using e.frames),e.mod,e.bs,e.bsz,e.funs,e.frf,e.hok,e.bare⟩
theorem Env0.in1{P:Program}{w:World}{K:Ad}{mg:Af}{base:Heap}{A:Around}{outer:List Env}{s:Shared}{H:Hp}(e:Env0 P w K mg base A outer s H):
  Env0 P w K mg base A.in1 outer s H:=⟨e.frames,e.mod,e.bs,e.bsz,e.funs,e.frf,e.hok,e.bare⟩
section
variable{X:Cx}{pins:List (Addr×Obj)}{σ:St}{H:Hp}{s s':Shared}
theorem Inv.env0(I:Inv X pins σ H s):Env0 X.prog X.w X.K X.mg X.base X.A X.stack s H:=
 ⟨I.ok.frames,I.ok.mod,I.bs,Ys I.ok.bsz I.sz,I.stack,I.stkFree,I.hok,I.bare⟩
theorem Inv.after(I:Inv X pins σ H s)(h:CE X.stack X.prog X.w H s Q u s'):EP X pins σ Q u s':=by obtain⟨v,H',os,bare,un,hok,r,q⟩:=h;obtain⟨hh,g,d,t,sS⟩:=s';obtain rfl:sS=s.os:=os;exact⟨v,H',I.call (h':=hh) (g':=g) (d':=d) (t':=t) (ch:=[]) un hok bare λb z=>absurd z B,r,q⟩
end
noncomputable def El(sp:Sp)(Vo:List V)(E:XK)(t:TA):TE:=λσ H Q=>t σ H λvs H1=>sp (vs++Vo) H1 Q E
noncomputable def Ek(C:Addr)(sp:Sp)(Vo:List V)(E:XK)(t:TA):TE:=λσ H Q=>t σ H λvs H1=>∀x dx,H1 x=none->H1 dx=none->dx≠x->
 sp (.ref x::(vs++Vo)) (upd (upd H1 dx<|.own x) x<|.ins C dx []) (λv H2=>v=.non/\Q (.ref x) H2) E
noncomputable def Binds(K:Ad)(fd:FuncData)(ps:List Str)(ds:Ag):Prop:=
 ∀(s:Shared)(us:Ag),K.In s.heap->(us++ds).length=ps.length->BindsTo s fd ⟨us,[]⟩ (ps.zip<|us++ds)
theorem Binds.all{K:Ad}{fd:FuncData}{ps:List Str}(h:∀us:Ag,us.length=ps.length->bindArgs fd ⟨us,[]⟩=pure (ps.zip us)):Binds K fd ps []:=λs us _ hl=>by rw[YH]at hl ⊢;exact .of_eq (h us hl)
noncomputable def Ll(CX:SF)(X:Cx)(E:XK):Prop:=∀(pins:List (Addr×Obj))(σ:St)(H:Hp)(s:Shared)(e:Value)(s':Shared),Inv X pins σ H s->CX X.stack H s E e s'->X.xe e s'
section
variable{X:Cx}{CX:SF}{k:Nat}{f C:Addr}{fd:FuncData}{ps:List Str}{sp:Sp}{Vo:List V}{ds:Ag}{E:XK}{x:Str}{p pos:Pos}{e:Expr}{es:List Expr}{t:TA}
theorem sR(F:FnOk X.prog X.w X.K X.mg X.base CX k f fd ps sp)(hr:Room k X.A)(hb:Binds X.K fd ps ds)(hd:Vals Vo ds)(hx:Ll CX X E)
  (I:Inv X pins σ H s)(r:Vals vs us)(h:sp (vs++Vo) H Q E):wpAny (model X.prog X.w) X.A (call (.ref f) us) (EP X pins σ Q) X.xe s:=by
 have r2:Vals (vs++Vo) (us++ds):=r.append hd;have hl:(us++ds).length=ps.length:=by rw[<-r2.length];exact F.len _ _ _ _ h
 refine Gz (Nr (F.run X.A X.stack s H ⟨us,[]⟩ (us++ds) (vs++Vo) Q E hr I.env0 (hb s us I.kIn hl) r2 h) λr s' hq=>?_);cases r with
 |error e=>exact hx pins σ H s e s' I hq
 |ok fl=>
  cases fl with
  |ret u=>exact I.after hq
  |next=>exact False.elim hq
  |brk=>exact False.elim hq
  |cont=>exact False.elim hq
theorem Rv(F:FnOk X.prog X.w X.K X.mg X.base CX k f fd ps sp)(hr:Room k X.A)(hg:Gl X x)(hm:X.mg x=some (.ref f))(hk:PySem.W.keepIn X.K (.ref f)=true)(hb:Binds X.K fd ps ds)(hd:Vals Vo ds)(hx:Ll CX X E)
  (ha:PA X (e::es) t)(Up:(x == ("__debug__":Str))=false:=by decide)(he:starEach (e::es) X.env=(false,eval e X.env)::starEach es X.env:=by rfl)(Vn:(backTo pos<|starEach es X.env).any (·.1)=false:=by rfl):
  PE X (.Call (.Name x p) (e::es) [] pos) (El sp Vo E t):=by intro pins s σ H Q I h;refine Qk (PZ I hg hm ?_ Up);refine vg (h₀:=X.base) I.ok.mod.kin hk (thn (ha pos pins s σ H _ I h) λus s1 ⟨vs,H1,I1,r,q⟩=>⟨I1.kIn,?_⟩) he Vn;exact sR F hr hb hd hx I1 r q
structure Mk (K:Ad) (C f:Addr):Prop where
 makes:PySem.W.makesIn K C=true
 init:PySem.W.findIn K (.ref C) "__init__"=some (some<|.ref f)
 fn:PySem.W.isFn K (.ref f)=true
 kp:PySem.W.keepIn K (.ref C)=true
theorem sQ(M:Mk X.K C f)(F:FnOk X.prog X.w X.K X.mg X.base CX k f fd ps sp)(hr:Room (k+1) X.A)(hb:Binds X.K fd ps ds)(hd:Vals Vo ds)
  (hx:Ll CX X E)(I:Inv X pins σ H s)(r:Vals vs us)
  (h:∀x dx,H x=none->H dx=none->dx≠x->sp (.ref x::(vs++Vo)) (upd (upd H dx<|.own x) x<|.ins C dx []) (λv H2=>v=.non/\Q (.ref x) H2) E):
  wpAny (model X.prog X.w) X.A (call (.ref C) us) (EP X pins σ Q) X.xe s:=by
 have hq:=h (s.heap.objs.size+1) s.heap.objs.size (I.hok.fresh<|Uc _) (I.hok.fresh<|XO _) (Yy<|Ol _);have I2:=Inv.made (C:=C) I
 have r2:Vals (V.ref (s.heap.objs.size+1)::(vs++Vo)) (Value.ref (s.heap.objs.size+1)::(us++ds)):=.cons Z (r.append hd);have hl:(Value.ref (s.heap.objs.size+1)::us++ds).length=ps.length:=by have e:=r2.length;rw[F.len _ _ _ _ hq]at e;exact e.symm
 refine Gz (td (f:=f) I.kIn M.makes M.init (Sd.mp M.fn) (Nr (F.run _ X.stack _ _ ⟨Value.ref (s.heap.objs.size+1)::us,[]⟩ (Value.ref (s.heap.objs.size+1)::(us++ds)) _ _ E (hr.make C us [])
  (I2.env0.make C us []) (hb _ (Value.ref (s.heap.objs.size+1)::us) I2.kIn hl) r2 hq) λr s' Ej=>?_))
 cases r with
 |error e=>exact hx pins σ _ _ e s' I2 Ej
 |ok fl=>
  cases fl with
  |ret u=>
   obtain⟨v,H',I3,rv,ev,q3⟩:=I2.after Ej;subst ev;exact⟨rv,⟨V.ref<|s.heap.objs.size+1,H',I3,Z,q3⟩⟩
  |next=>exact False.elim Ej
  |brk=>exact False.elim Ej
  |cont=>exact False.elim Ej
theorem PM(M:Mk X.K C f)(F:FnOk X.prog X.w X.K X.mg X.base CX k f fd ps sp)(hr:Room (k+1) X.A)(hg:Gl X x)(hm:X.mg x=some (.ref C))(hb:Binds X.K fd ps ds)(hd:Vals Vo ds)(hx:Ll CX X E)
  (ha:PA X (e::es) t)(Up:(x == ("__debug__":Str))=false:=by decide)(he:starEach (e::es) X.env=(false,eval e X.env)::starEach es X.env:=by rfl)(Vn:(backTo pos<|starEach es X.env).any (·.1)=false:=by rfl):
  PE X (.Call (.Name x p) (e::es) [] pos) (Ek C sp Vo E t):=by intro pins s σ H Q I h;refine Qk (PZ I hg hm ?_ Up);refine vg (h₀:=X.base) I.ok.mod.kin M.kp (thn (ha pos pins s σ H _ I h) λus s1 ⟨vs,H1,I1,r,q⟩=>⟨I1.kIn,?_⟩) he Vn;exact sQ M F hr hb hd hx I1 r q
end
structure FnScope (N P:List Str) (sc:Scope):Prop where
 kind:sc.kind=.function
 co:sc.isCoroutine=false
 gen:sc.isGenerator=false
 nd:N.Nodup
 pre:N.take P.length=P
 par:∀x∈P,sc.names.lookup x=some .local\/sc.names.lookup x=some .cell
 nofree:∀y∈sc.names,y.2≠.free
theorem dW{kindOf:Str->Option NameKind}:∀{binds:List (Str×Value)}{m:Af},(∀v,(x,v)∉binds)->bindL kindOf binds m x=m x
 |[],_,_=>rfl
 | (n,v)::r,m,h=>by
  unfold bindL;rw[dW λw hw=>h w (Yf _ hw)];split
  .have:x≠n:=by rintro rfl;exact h v Ya
   simp[this]
  .rfl
theorem dU{kindOf:Str->Option NameKind}:∀{binds:List (Str×Value)}{m:Af},(∀v,(x,v)∉binds)->bindC kindOf binds m x=m x
 |[],_,_=>rfl
 | (n,v)::r,m,h=>by
  unfold bindC;rw[dU λw hw=>h w (Yf _ hw)];split
  .rfl
  .have:x≠n:=by rintro rfl;exact h v Ya
   simp[this]
theorem dS{kindOf:Str->Option NameKind}{x:Str}{v:Value}:∀{P:List Str}{vs:Ag}{i:Nat}{m:Af},P.Nodup->P[i]?=some x->vs[i]?=some v->kindOf x=some .local->
  bindL kindOf (P.zip vs) m x=some v
 |[],_,_,_,_,h,_,_=>by simp at h
 |_::_,[],_,_,_,_,h,_=>by simp at h
 |p::P,w::vs,0,m,nd,h1,h2,hk=>by
  simp at h1 h2;subst h1;subst h2;show bindL kindOf ((p,w)::P.zip vs) m p=_
  unfold bindL;rw[dW λv hv=>(QI.mp nd).1 (uX hv).1,if_pos hk];simp
 |p::P,w::vs,i+1,m,nd,h1,h2,hk=>by show bindL kindOf ((p,w)::P.zip vs) m x=_;unfold bindL;exact dS (i:=i) (QI.mp nd).2 (by simpa using h1) (by simpa using h2) hk
theorem dR{kindOf:Str->Option NameKind}{x:Str}{v:Value}:∀{P:List Str}{vs:Ag}{i:Nat}{m:Af},P.Nodup->P[i]?=some x->vs[i]?=some v->kindOf x≠some .local->
  bindC kindOf (P.zip vs) m x=some v
 |[],_,_,_,_,h,_,_=>by simp at h
 |_::_,[],_,_,_,_,h,_=>by simp at h
 |p::P,w::vs,0,m,nd,h1,h2,hk=>by
  simp at h1 h2;subst h1;subst h2;show bindC kindOf ((p,w)::P.zip vs) m p=_
  unfold bindC;rw[dU λv hv=>(QI.mp nd).1 (uX hv).1,if_neg hk];simp
 |p::P,w::vs,i+1,m,nd,h1,h2,hk=>by show bindC kindOf ((p,w)::P.zip vs) m x=_;unfold bindC;exact dR (i:=i) (QI.mp nd).2 (by simpa using h1) (by simpa using h2) hk
noncomputable def start(N:List Str)(vs:List V):St:=vs.map some++List.replicate (N.length-vs.length) none
noncomputable def Wq(CX:SF)(P:Program)(w:World)(K:Ad)(mg:Af)(base:Heap)(N:List Str)(qual:Str)(scope:Scope)(f:Addr)(cd:Value)(A:Around)(outer:List Env)(s:Shared)(H:Hp)(E:XK):Cx where
 prog:=P
 w:=w
 K:=K
 mg:=mg
 base:=base
 A:=A.deeper (envOfC qual scope s.heap.objs.size f cd)
 N:=N
 s₀:=s
 H₀:=H
 env:=envOfC qual scope s.heap.objs.size f cd
 outer:=outer
 stack:=envOfC qual scope s.heap.objs.size f cd::outer
 ex:=[]
 calm:=true
 fn:=λ_=>true
 pn:=[]
 xe:=λe s'=>wpAny (model P w) (A.deeper<|envOfC qual scope s.heap.objs.size f cd) (leaving (envOfC qual scope s.heap.objs.size f cd) e) (λ_ UD=>CX outer H s E e UD) (λe' UD=>CX outer H s E e' UD) s'
theorem dQ{sc:Scope}(h:sc.names.lookup x=some .cell):∃c,(cellsFrom n sc.names []).lookup x=some c:=by have q:=eX sc.names n [] (.inl h);exact JK.mp q
theorem ZQ8{CX:SF}{P:Program}{w:World}{K:Ad}{mg:Af}{base:Heap}{N ps:List Str}{qual:Str}{scope:Scope}{f:Addr}{cd:Value}{A:Around}{outer:List Env}{s s1:Shared}{H:Hp}{E:XK}{us:Ag}{vs:List V}
  (uo:FnScope N ps scope)(hd:A.handled=none)(e0:Env0 P w K mg base A outer s H)(hl:vs.length=ps.length)(r:Vals vs us)
  (x:InCallC s s.heap.objs.size (bindL (envOfC qual scope s.heap.objs.size f cd).kindOf (ps.zip us) λ_=>none) (cellsFrom (s.heap.objs.size+1) scope.names []) (bindC (envOfC qual scope s.heap.objs.size f cd).kindOf (ps.zip us) λ_=>none) s1):
  Inv (Wq CX P w K mg base N qual scope f cd A outer s H E) [] (start N vs) H s1:=by
 have Vn:ps.length<=N.length:=by have:=XB List.length uo.pre;rw[Yl]at this;lia
 obtain⟨h1,tk,rfl,hk⟩:=x.done;have Jk:∀b:Addr,b∉(Wq CX P w K mg base N qual scope f cd A outer s H E).ex:=λb z=>absurd (show b∈([]:List Addr) from z) B
 refine⟨⟨e0.mod,uo.kind,Z,Z,XO _,λy z c h1 h2=>?_,λy hy=>?_,λy c _ h=>?_,λ_=>hd,Around.frames_deeper e0.frames,.inr ⟨Z,Z⟩,λb z=>absurd z<|Jk b,e0.bs,e0.bsz,λb _ _=>Jk b,λb z=>absurd z<|Jk b,e0.funs,e0.frf⟩,
  rfl,e0.bare,Un.kept hk,⟨_,x.toInCall.ns,λi y v h1 h2 h3=>?_⟩,λy c h=>⟨_,x.cell y c h⟩,e0.hok.fresh<|XO _,λy c h=>?_,λp hp=>absurd (show p∈([]:List (Addr×Obj)) from hp) B,e0.hok.kept hk,?_⟩
 .exact name_of_addr x.apart (JZ h1) (JZ h2)
 .have hy:scope.names.lookup y=some .cell\/scope.names.lookup y=some .free:=hy;rcases hy with hy|hy
  .exact dQ hy
  .exact absurd Z (uo.nofree _<|JZ hy)
 .exact Nt (x.above y c<|JZ h)
 .have hi:i<vs.length:=by
   unfold start at h2;by_cases hi:i<vs.length
   .exact hi
   .rw[Yv (by simpa using hi)]at h2;rw[yY]at h2;split at h2<;>cases h2
  have ha:vs[i]?=some v:=by
   unfold start at h2;rw[Yw (by simpa using hi),Yo]at h2;cases e:vs[i]? with
   |none=>rw[e]at h2;cases h2
   |some a=>rw[e]at h2;cases h2;rfl
  obtain⟨u,hu,rv⟩:=r.get ha;have hp:ps[i]?=some y:=by rwa[<-uo.pre,fg J]
  have dP:ps.Nodup:=by rw[<-uo.pre];exact uo.nd.sublist (List.take_sublist _ _)
  refine⟨u,rv,?_⟩;rcases uo.par y (Xf hp) with k|k
  .exact .inl ⟨k,dS dP hp hu k⟩
  .obtain⟨c,e⟩:=dQ (n:=s.heap.objs.size+1) k;refine .inr ⟨.inl k,c,e,?_⟩;have q:=x.cell y c e
   rwa[dR dP hp hu (by show scope.names.lookup y≠_;rw[k];decide)]at q
 .exact e0.hok.fresh (Nt<|x.above y c<|JZ h)
 .unfold start;show _=N.length
  rw[Xt,Yb,YK];grind
theorem Jj{CX:SF}{P:Program}{w:World}{K:Ad}{mg:Af}{base:Heap}{k:Nat}{f:Addr}{name qual:Str}{params:Arguments}{body:List Stmt}{scope:Scope}{dV kV doc pm XG ct oc:Value}{an od:Option Addr}
  {Uo:Array (Option Value)}{N ps:List Str}{sp:Sp}(lk:K.lookup f=some ⟨oc,od,.func<|PySem.W.fnOf name qual params body scope dV kV doc pm an XG ct,Uo⟩)(Ub:PySem.W.codeIn K XG qual=true)(uo:FnScope N ps scope)
  (len:∀vs H Q E,sp vs H Q E->vs.length=ps.length)
  (hbody:∀(A:Around)(outer:List Env)(s:Shared)(H:Hp)(vs:List V)(Q:VK)(E:XK),Room k (A.deeper<|envOfC qual scope s.heap.objs.size f XG)->sp vs H Q E->
   ∃t,PSs (Wq CX P w K mg base N qual scope f XG A outer s H E) body t/\t {nx:=λ_ H'=>Q .non H',rt:=Q} (start N vs) H):
  FnOk P w K mg base CX (k+1) f (PySem.W.fnOf name qual params body scope dV kV doc pm an XG ct) ps sp:=by
 refine⟨len,λA outer s H args us vs Q E hr e0 hb r UT=>?_⟩;have hl:=len _ _ _ _ UT
 have KX:K.In s.heap:=e0.mod.kin.keeps λb o e=>(e0.bs b o e).1;have lim:s.heap.NoLimit:=e0.mod.nolimit.keeps λb o e=>(e0.bs b o e).1
 have Ei:∀y∈ps.zip us,scope.names.lookup y.1=some .local\/(scope.names.lookup y.1=some .cell/\((cellsFrom (s.heap.objs.size+1) scope.names []).lookup y.1).isSome=true):=λ⟨n,v⟩ hy=>by
  rcases uo.par n (uX hy).1 with q|q
  .exact .inl q
  .exact .inr ⟨q,eX _ _ _<|.inl q⟩
 refine codeAny_call_function hr.depth (KX _ _ lk) Z uo.co uo.gen Z (PySem.W.codeRec_of KX Ub) (hb _ _ _ _ ?_);refine wpAny_newFunctionEnv_cells uo.kind Ei λenv he s1 x=>?_;subst he;refine⟨lim.keeps x.toInCall.keep,codeAny_func ?_⟩;obtain⟨t,ht,hq⟩:=hbody A outer s H vs Q E (hr.deeper _) UT;have I:Inv (Wq CX P w K mg base N qual scope f XG A outer s H E) [] (start N vs) H s1:=ZQ8 uo hr.hd e0 hl r x
 refine Ut (ht [] s1 (start N vs) H _ I hq) (λfl s' hs=>?_) λe s' hs=>hs;have fin:∀{σ':St}{H':Hp}{v:V}{u:Value},Inv (Wq CX P w K mg base N qual scope f XG A outer s H E) [] σ' H' s'->RelV v u->Q v H'->CE outer P w H s Q u s':=
  λ{σ' H' v u} AP rv q=>⟨v,H',AP.os,AP.bare,AP.base,AP.hok,rv,q⟩
 cases fl with
 |ret u=>
  obtain⟨v,σ',H',AP,rv,q⟩:=hs;exact fin AP rv q
 |next=>
  obtain⟨σ',H',AP,q⟩:=hs;exact fin (v:=V.non) (u:=Value.none) AP Z q
 |brk=>
  obtain⟨_,_,_,q⟩:=hs;exact False.elim q
 |cont=>
  obtain⟨_,_,_,q⟩:=hs;exact False.elim q
section
variable{X:Cx}{x:Str}{p pos:Pos}{e:Expr}{es:List Expr}{t:TA}{id T:String}{r:List V->Hp->VK->Prop}
noncomputable def dO(r:List V->Hp->VK->Prop)(t:TA):TE:=λσ H Q=>t σ H λvs H1=>r vs H1 Q
theorem Zf (hc:Vp X (.builtin id) r) (hg:Gl X x) (hm:X.mg x=none) (hv:bootBuiltins x=some (.builtin id)) (ha:PA X (e::es) t) (hn:x≠"__name__":=by decide) (Up:(x == ("__debug__":Str))=false:=by decide)
  (he:starEach (e::es) X.env=(false,eval e X.env)::starEach es X.env:=by rfl)(Vn:(backTo pos<|starEach es X.env).any (·.1)=false:=by rfl):PE X (.Call (.Name x p) (e::es) [] pos) (dO r t):=by intro pins s σ H Q I h;refine Qk (QF I hg hm hv ?_ hn Up);exact fB (thn (ha pos pins s σ H _ I h) λus s1 zz=>by obtain⟨vs,H1,I1,r1,q1⟩:=zz;exact hc pins s1 σ H1 vs us Q I1 r1 q1) he Vn
theorem Zm (hc:Vp X (.type T) r) (hg:Gl X x) (hm:X.mg x=none) (hv:bootBuiltins x=some (.type T)) (ha:PA X (e::es) t) (hn:x≠"__name__":=by decide) (Up:(x == ("__debug__":Str))=false:=by decide)
  (he:starEach (e::es) X.env=(false,eval e X.env)::starEach es X.env:=by rfl)(Vn:(backTo pos<|starEach es X.env).any (·.1)=false:=by rfl):PE X (.Call (.Name x p) (e::es) [] pos) (dO r t):=by intro pins s σ H Q I h;refine Qk (QF I hg hm hv ?_ hn Up);exact TR (thn (ha pos pins s σ H _ I h) λus s1 zz=>by obtain⟨vs,H1,I1,r1,q1⟩:=zz;exact hc pins s1 σ H1 vs us Q I1 r1 q1) he Vn
end
end L2
namespace HT
open PySem PyProof.Rows
noncomputable def lexLt:Ac->Ac->Bool
 |[],[]=>false
 |[],_::_=>true
 |_::_,[]=>false
 |x::xs,y::ys=>if x=y then lexLt xs ys else decide (x<y)
theorem Xk(x y:Int)(xs ys:Ac):lexLt (x::xs) (y::ys)=if x=y then lexLt xs ys else decide (x<y):=rfl
section
variable{prog:Program}{w:World}{A:Around}{E:Ae}{s:Shared}
theorem MW{vs ws:Ag}{Q:Ae}(ht:IsTup s.heap t vs.toArray)(hb:IsTup s.heap b ws.toArray)(hv:vs≠[])
  (h1:ws=[]->Q (.ref t) s)(h2:ws≠[]->Q (.ref s.heap.objs.size) {s with heap:=s.heap.push {cls:=.type "tuple",data:=.seq (vs++ws).toArray} })
  (hsz:vs.length+ws.length<=sizeLine):wpAny (model prog w) A (binaryOp .Add (.ref t)<|.ref b) Q E s:=by
 obtain⟨⟨cls,dd,data,sl⟩,ho,hc,n,hd⟩:=id ht;obtain⟨⟨sP,yd,data2,x9⟩,SE,Vi,n2,hd2⟩:=id hb;simp only at hc hd Vi hd2;subst hc hd Vi hd2;have e:vs.toArray++ws.toArray=(vs++ws).toArray:=B
 by_cases hw:ws=[]
 .exact concat_meets ⟨_,ho,Z⟩ ⟨_,SE,Z⟩ uJ seq_tuple_add vy vD (JM _ _)
   (tuple_addW1 t b vs.toArray ws.toArray n n2 dd yd sl x9 (by simpa using hv)<|by simp[hw]) ⟨ho,SE,h1 hw⟩
 .refine concat_meets ⟨_,ho,Z⟩ ⟨_,SE,Z⟩ uJ seq_tuple_add vy vD (JM _ _)
   (tuple_addW2 t b vs.toArray ws.toArray n n2 dd yd sl x9 (by simpa using hv) (by simpa using hw)<|by rwa[Yc,Yc]) ⟨ho,SE,?_⟩
  rw[e];exact h2 hw
noncomputable def Vu(n d:Nat):Option Int->Nat
 |none=>d
 |some v=>if v<0 then (v+(n:Int)).toNat else min v.toNat n
theorem VS(n d:Nat):Vu n d none=d:=rfl
end
end HT
namespace L2
open PySem PySem.Spec PyProof.Rows
noncomputable abbrev TO:=St->Hp->(Option Int->Hp->Prop)->Prop
noncomputable def PO(X:Cx)(e:Option Expr)(t:TO):Prop:=
 ∀(pins:List (Addr×Obj))(s:Shared)(σ:St)(H:Hp)(Q:Option Int->Hp->Prop),Inv X pins σ H s->t σ H Q->
  wpAny (model X.prog X.w) X.A (evalPart e X.env) (λu s'=>∃o H',Inv X pins σ H' s'/\IsPart u o/\Q o H') X.xe s
noncomputable def sO:TO:=λ_ H Q=>Q none H
noncomputable def Eh(t:TE):TO:=λσ H Q=>t σ H λx H1=>∃i,x=.int i/\Q (some i) H1
section
variable{X:Cx}{e:Expr}{te:TE}{lo hi:Option Expr}{tl th:TO}{pos p2:Pos}
theorem PL:PO X none sO:=by intro pins s σ H Q I h;rw[evalPart_none];exact Yk ⟨none,H,I,.none,h⟩
theorem Ru(h:PE X e te):PO X (some e) (Eh te):=by intro pins s σ H Q I hw;rw[evalPart_some];refine thn (h pins s σ H _ I hw) λu s1 Xy=>?_;obtain⟨x,H1,I1,r1,q1⟩:=Xy;obtain⟨i,rfl,q⟩:=q1;obtain⟨t,rfl⟩:=r1;exact⟨some i,H1,I1,.int i t,q⟩
noncomputable def x8(X:Cx)(r:V->Option Int->Option Int->Hp->VK->Prop):Prop:=
 ∀(pins:List (Addr×Obj))(s:Shared)(σ:St)(H:Hp)(x:V)(v vl vu:Value)(lo hi:Option Int)(sl:Addr)(Q:VK),Inv X pins σ H s->RelV x v->s.heap.IsSliceOf sl vl vu .none->IsPart vl lo->IsPart vu hi->r x lo hi H Q->
  ∃T id,typeLookup (.type T) "__getitem__"=pure (some<|.builtin id)/\s.TypeIs v T/\wpAny (model X.prog X.w) X.A (getItem v<|.ref sl) (EP X pins σ Q) X.xe s
noncomputable def tSl(r:V->Option Int->Option Int->Hp->VK->Prop)(te:TE)(tl th:TO):TE:=λσ H Q=>te σ H λx H1=>tl σ H1 λl H2=>th σ H2 λu H3=>r x l u H3 Q
theorem ZZ{r:V->Option Int->Option Int->Hp->VK->Prop}(hr:x8 X r)(he:PE X e te)(hl:PO X lo tl)(hu:PO X hi th):PE X (.Subscript e (.Slice lo hi none p2) pos) (tSl r te tl th):=by
 intro pins s σ H Q I h;refine Subscript_ (thn (he pins s σ H _ I h) λv s1 Xy=>?_);obtain⟨x,H1,I1,r1,q1⟩:=Xy;refine wpAny_Slice (thn (hl pins s1 σ H1 _ I1 q1) λvl s2 zz=>?_);obtain⟨l,H2,I2,pl,q2⟩:=zz;refine thn (hu pins s2 σ H2 _ I2 q2) λvu s3 Xy=>?_;obtain⟨u,H3,I3,pu,q3⟩:=Xy;rw[evalPart_none];refine Yk ?_;have I4:Inv X pins σ H3 {s3 with heap:=s3.heap.push {cls:=.type "slice",data:=.fields #[vl,vu,.none]} }:=I3.kept (t':=s3.toks) λb ob q=>Xb _ q
 obtain⟨T,id,hT,ht,hg⟩:=hr pins {s3 with heap:=s3.heap.push {cls:=.type "slice",data:=.fields #[vl,vu,.none]} } σ H3 x v vl vu l u s3.heap.objs.size Q I4 r1 (Heap.IsSliceOf.new ..) pl pu q3;show wpAny (model X.prog X.w) X.A (subscriptTail e (.Slice lo hi none p2) v<|.ref s3.heap.objs.size) (EP X pins σ Q) X.xe {s3 with heap:=s3.heap.push {cls:=.type "slice",data:=.fields #[vl,vu,.none]} }
 exact tail_any (ops:=[.ref s3.heap.objs.size,v]) ht hT hg (by with_unfolding_all rfl)
noncomputable def Xi(xs:List V)(lo hi:Option Int):List V:=(xs.drop<|HT.Vu xs.length 0 lo).take (HT.Vu xs.length xs.length hi-HT.Vu xs.length 0 lo)
theorem sN(xs:List V)(lo hi:Option Int):(Xi xs lo hi).length<=xs.length:=by unfold Xi;rw[Yl,YV];lia
noncomputable def Eg(K:Ad):R2:=λx y H Q=>∃a b xs ys,x=.ref a/\y=.ref b/\SqT K H a xs/\SqT K H b ys/\xs≠[]/\xs.length+ys.length<=sizeLine/\
 (ys=[]->Q (.ref a) H)/\(ys≠[]->∀p,H p=none->Q (.ref p) (upd H p<|.tup<|xs++ys))
theorem Vals.nil_iff(r:Vals xs us):us=[]↔xs=[]:=by
 cases r with
 |nil=>simp
 |cons _ _=>simp
theorem sM:WC X (binaryOp .Add) (Eg X.K):=by intro pins s σ H x y v u Q I rx ry h;obtain⟨a,b,xs,ys,rfl,rfl,ha,hb,hx,hz,q1,q2⟩:=h;cases rx;cases ry;obtain⟨XW,r1,p1,_⟩:=I.tuple ha;obtain⟨VF,r2,p2,_⟩:=I.tuple hb;refine HT.MW p1 p2 (λz=>hx<|r1.nil_iff.mp z) (λz=>⟨.ref a,H,I,Z,q1<|r2.nil_iff.mp z⟩) (λz=>?_) (by rwa[<-r1.length,<-r2.length]);refine⟨.ref s.heap.objs.size,_,I.laid (t':=s.toks) (o:=.tup<|xs++ys) (λb ob q=>Xb _ q) (XO _) ?_,Z,q2 (λw=>z<|r2.nil_iff.mpr w) _<|I.hok.fresh<|XO _⟩;exact⟨by rw[Xt];exact hz,_,r1.append r2,IsTup.new _ _⟩
end
noncomputable def Oc(n:Nat)(i:Int):Option Nat:=if 0<=i then (if i<n then some i.toNat else none) else if -(n:Int)<=i then some (i+n).toNat else none
noncomputable def Wo{α:Type}(xs:List α)(i:Int):Option α:=(Oc xs.length i).bind λj=>xs[j]?
theorem dN{j:Nat}(h:Oc n i=some j):seqIndex? i n=some j/\j<n/\-(n:Int)<=i/\i<n:=by
 unfold Oc at h;by_cases h0:0<=i
 .rw[if_pos h0]at h;by_cases h1:i<n
  .rw[if_pos h1]at h;have e:i.toNat=j:=Yh h
   exact⟨by rw[seqIndex_of h0 h1,e],J,J,h1⟩
  .rw[if_neg h1]at h;cases h
 .rw[if_neg h0]at h;by_cases h1:-(n:Int)<=i
  .rw[if_pos h1]at h;have e:(i+n).toNat=j:=Yh h
   exact⟨by rw[seqIndex_neg J h1,e],J,h1,J⟩
  .rw[if_neg h1]at h;cases h
theorem Ji{α:Type}{xs:List α}{i:Int}{v:α}(h:Wo xs i=some v):∃j,seqIndex? i xs.length=some j/\xs[j]?=some v/\j<xs.length/\-(xs.length:Int)<=i/\i<xs.length:=by
 unfold Wo at h;cases e:Oc xs.length i with
 |none=>rw[e]at h;cases h
 |some j=>
  rw[e]at h;obtain⟨h1,h2,h3,h4⟩:=dN e;exact⟨j,h1,h,h2,h3,h4⟩
noncomputable def sL(b:Expr):Prop:=∀o i,subscripted b false o i=operate [o,i] (getItem o i)
noncomputable def Gu(X:Cx)(r:R2):Prop:=
 ∀(value slice:Expr)(pins:List (Addr×Obj))(s:Shared)(σ:St)(H:Hp)(x y:V)(v u:Value)(Q:VK),Inv X pins σ H s->RelV x v->RelV y u->r x y H Q->
  subscripted slice false v u=operate [v,u] (getItem v u)->wpAny (model X.prog X.w) X.A (subscriptTail value slice v u) (EP X pins σ Q) X.xe s
noncomputable def x6(X:Cx)(id:String)(r:V->List V->Hp->VK->Prop):Prop:=
 ∀(pins:List (Addr×Obj))(s:Shared)(σ:St)(H:Hp)(x:V)(xs:List V)(v:Value)(us:Ag)(Q:VK),Inv X pins σ H s->RelV x v->Vals xs us->r x xs H Q->
  wpAny (model X.prog X.w) X.A (call (.builtin id)<|v::us) (EP X pins σ Q) X.xe s
section
variable{X:Cx}{a b:Expr}{ta tb:TE}{pos:Pos}
theorem Zy(hr:Gu X r)(ha:PE X a ta)(hb:PE X b tb)(hs:sL b):PE X (.Subscript a b pos) (yi r ta tb):=by intro pins s σ H Q I h;exact Subscript_ (Jr ha hb I h λv u s2 x y H2 I2 rx ry q=>hr a b pins s2 σ H2 x y v u Q I2 rx ry q<|hs _ _)
noncomputable def Ef(K:Ad):R2:=λx y H Q=>∃p xs i v,x=.ref p/\y=.int i/\SqL K H p xs/\Wo xs i=some v/\Q v H
noncomputable def Ee(K:Ad):R2:=λx y H Q=>∃p xs i v,x=.ref p/\y=.int i/\SqT K H p xs/\Wo xs i=some v/\Q v H
noncomputable def sJ:R2:=λx y H Q=>∃z i c,x=.str z/\y=.int i/\z.length<=sizeLine/\Wo z.cps.toList i=some c/\Q (.str ⟨#[c]⟩) H
theorem Ec:Gu X (Ef X.K):=by
 intro value slice pins s σ H x y v u Q I rx ry h hs;obtain⟨p,xs,i,z,rfl,rfl,hq,he,q⟩:=h;cases rx;obtain⟨t,rfl⟩:=ry;obtain⟨XW,r,pl,hz⟩:=I.list hq;obtain⟨j,h1,h2,h3,h4,h5⟩:=Ji he;obtain⟨w,ew,MV⟩:=r.get h2;have hl:=r.length
 have hn:=Jn;have fin:EP X pins σ Q w s:=⟨z,H,I,MV,q⟩
 by_cases h0:0<=i
 .have hj:i.toNat=j:=by rw[seqIndex_of h0 h5]at h1;exact Yh h1
  exact item_listR pl.isList h0 J (by rw[hj];simpa using ew) fin hs
 .have hj:(i+(XW.toArray.size:Int)).toNat=j:=by rw[seqIndex_neg J h4]at h1;rw[Yc,<-hl];exact Yh h1
  exact subscriptTail_builtinR (x:=w) pl.isList.typeIs slot_list_getitem.lookup
   (wpAny_getItem_list_neg (Q:=λr s'=>r=w/\EP X pins σ Q r s') pl.isList ur (by rw[Yc]<;>lia) J (by rw[hj];simpa using ew) ⟨rfl,fin⟩) hs
theorem sI:Gu X (Ee X.K):=by
 intro value slice pins s σ H x y v u Q I rx ry h hs;obtain⟨p,xs,i,z,rfl,rfl,hq,he,q⟩:=h;cases rx;obtain⟨t,rfl⟩:=ry;obtain⟨XW,r,pl,hz⟩:=I.tuple hq;obtain⟨j,h1,h2,h3,h4,h5⟩:=Ji he;obtain⟨w,ew,MV⟩:=r.get h2;have hl:=r.length
 have hn:=Jn;have fin:EP X pins σ Q w s:=⟨z,H,I,MV,q⟩
 exact subscriptTail_builtinR (x:=w) pl.typeIs slot_tuple_getitem.lookup
  (getItem_tuple (j:=j) (Q:=λr s'=>r=w/\EP X pins σ Q r s') pl J J (by rwa[Yc,<-hl]) (by simpa using ew) ⟨Z,fin⟩) hs
theorem sH:Gu X sJ:=by
 intro value slice pins s σ H x y v u Q I rx ry h hs;obtain⟨z,i,c,rfl,rfl,hz,he,q⟩:=h;obtain⟨t,rfl⟩:=rx;obtain⟨t',rfl⟩:=ry;obtain⟨j,h1,h2,h3,h4,h5⟩:=Ji he;have hl:z.cps.toList.length=z.length:=by simp[Str.length]
 rw[hl]at h1 h4 h5;have hn:=Jn
 exact tail_any (Gy s z t) slot_str_getitem.lookup (getItem_str (c:=c) (by
  have e1:decide (i < -(2^63:Int))=false:=YW J;have e2:decide (i >= 2^63)=false:=YW J
  rw[e1,e2,Bool.or_false]) (by rw[h1];simpa using h2) ⟨.str ⟨#[c]⟩,H,I.tok _,⟨_,Z⟩,q⟩) hs
theorem sG (XW:Ag) (n j:Nat) (u:Value):Obj.mapSeq (·.setIfInBounds j u) {cls:=.type "list",data:=.seq XW.toArray n}={cls:=.type "list",data:=.seq (XW.set j u).toArray n}:=by simp[Obj.mapSeq]
theorem Inv.lst{pins:List (Addr×Obj)}{σ:St}{H:Hp}{s:Shared}{p:Addr}{xs:List V}(I:Inv X pins σ H s)(h:H p=some (.lst xs)):
  ∃(XW:Ag)(n:Nat),Vals xs XW/\s.heap.get? p=some {cls:=.type "list",data:=.seq XW.toArray n}/\xs.length<=sizeLine:=by obtain⟨z,XW,n,r,e⟩:=I.hok p _ h;exact⟨XW,n,r,e,z⟩
theorem Inv.lstUpd{p:Addr}{xs ys:List V}{XW its':Ag}{f:Obj->Obj}(I:Inv X pins σ H s)(h:H p=some (.lst xs))
  (ho:s.heap.get? p=some {cls:=.type "list",data:=.seq XW.toArray n})(hf:f {cls:=.type "list",data:=.seq XW.toArray n}={cls:=.type "list",data:=.seq its'.toArray n'})(r:Vals ys its')(hz:ys.length<=sizeLine)(t:Nat):
  Inv X pins σ (upd H p<|.lst ys) {s with heap:=s.heap.update p f,toks:=t}:=by
 have e:(s.heap.update p f).get? p=some {cls:=.type "list",data:=.seq its'.toArray n'}:=by rw[Vk f ho (by rw[hf]<;>rfl),hf]
 refine I.write (x:=p) (e:=p) (by rw[h];trivial) (.inl Z) (λb u hb q=>(QP _ _<|XI hb).trans q) ⟨_,e⟩ ?_;exact⟨hz,its',n',r,e⟩
noncomputable def sF:V->V->V->Hp->(Hp->Prop)->Prop:=λo i v H Q=>∃p xs k j,o=.ref p/\i=.int k/\H p=some (.lst xs)/\Oc xs.length k=some j/\Q (upd H p<|.lst<|xs.set j v)
theorem Rt:Jy X sF:=by
 intro pins s σ H o i v ov iv u Q I ro ri rv h;obtain⟨p,xs,k,j,rfl,rfl,hp,hj,q⟩:=h;cases ro;obtain⟨t,rfl⟩:=ri;obtain⟨XW,n,r,ho,hz⟩:=I.lst hp;obtain⟨h1,h2,h3,h4⟩:=dN hj;have hl:=r.length
 have hn:=Jn;have I':Inv X pins σ (upd H p<|.lst<|xs.set j v) {s with heap:=s.heap.update p (Obj.mapSeq (·.setIfInBounds j u))}:=
  I.lstUpd hp ho (sG XW n j u) (r.set rv j) (by rwa[Lx]) s.toks
 by_cases h0:0<=k
 .have hk:k.toNat=j:=by rw[seqIndex_of h0 h4]at h1;exact Yh h1
  exact PySem.W.ki_setAt ho h0 J (by rwa[Yc,<-hl]) (by rw[hk];exact⟨_,I',q⟩)
 .have hk:(k+(XW.toArray.size:Int)).toNat=j:=by rw[seqIndex_neg J h3]at h1;rw[Yc,<-hl];exact Yh h1
  exact PySem.W.ki_setBack ho ur (by rwa[Yc,<-hl]) J (by rw[hk];exact⟨_,I',q⟩)
theorem Zx4(lo hi:Option Int)(n:Nat):(sliceBounds lo hi none n).1=((HT.Vu n 0 lo:Nat):Int)/\(sliceBounds lo hi none n).2.1=((HT.Vu n n hi:Nat):Int)/\(sliceBounds lo hi none n).2.2=1:=by
 refine⟨?_,?_,Z⟩
 .cases lo with
  |none=>simp[sliceBounds,HT.Vu]
  |some i=>
   simp only[sliceBounds,HT.Vu,Option.getD_none,show(1:Int)>0 by decide,Oh];by_cases h:i<0
   .simp only[h,Oh]<;>grind
   .simp only[h,JI]<;>grind
 .cases hi with
  |none=>simp[sliceBounds,HT.Vu]
  |some i=>
   simp only[sliceBounds,HT.Vu,Option.getD_none,show(1:Int)>0 by decide,Oh];by_cases h:i<0
   .simp only[h,Oh]<;>omega
   .simp only[h,JI]<;>omega
theorem ZT3(XW:Ag)(lo hi:Option Int):slicePick XW.toArray lo hi none=((XW.drop (HT.Vu XW.length 0 lo)).take (HT.Vu XW.length XW.length hi-HT.Vu XW.length 0 lo)).toArray:=by obtain⟨h1,h2,h3⟩:=Zx4 lo hi XW.toArray.size;unfold slicePick;rw[h1,h2,h3];simp only[sliceRange_one,pick_run,Yc]<;>rfl
noncomputable def Eb(K:Ad):V->Option Int->Option Int->Hp->VK->Prop:=λx lo hi H Q=>∃a xs,x=.ref a/\SqL K H a xs/\∀p,H p=none->Q (.ref p) (upd H p<|.lst<|Xi xs lo hi)
theorem sE:x8 X (Eb X.K):=by
 intro pins s σ H x v vl vu lo hi sl Q I rx hs pl pu h;obtain⟨a,xs,rfl,hx,q⟩:=h;cases rx;obtain⟨XW,r,ht,hz⟩:=I.list hx;have hlen:=r.length
 refine⟨"list",_,slot_list_getitem.lookup,ht.isList.typeIs,?_⟩;refine wpAny_getItem_list_slice ht.isList hs pl pu .none B ?_ (by rw[Yc]<;>lia)
 rw[ZT3,<-hlen];refine⟨.ref s.heap.objs.size,_,I.laid (t':=s.toks) (o:=.lst<|Xi xs lo hi) (λb ob q=>Xb _ q) (XO _) ?_,Z,q _<|I.hok.fresh<|XO _⟩;exact⟨Ys (sN xs lo hi) hz,_,0,(r.drop<|HT.Vu xs.length 0 lo).take (HT.Vu xs.length xs.length hi-HT.Vu xs.length 0 lo),Yj _ Z⟩
noncomputable def Tb:V->Bool
 | .non=>true
 | .bl _=>true
 | .int _=>true
 | .str _=>true
 |_=>false
noncomputable def Ta:V->V->Bool
 | .non,.non=>true
 | .bl a,.bl b=>a == b
 | .bl a,.int b=>(if a then 1 else 0) == b
 | .int a,.bl b=>a == (if b then 1 else 0)
 | .int a,.int b=>a == b
 | .str a,.str b=>a == b
 |_,_=>false
theorem Ea(ry:RelV y u)(rx:RelV x v)(fy:Tb y=true)(fx:Tb x=true):SeqAt.EqAt A s u v (Ta y x):=by
 cases y with
 |non=>
  cases ry;cases x with
  |non=>cases rx;exact SeqAt.EqAt.same _
  |bl b=>cases rx;exact SeqAt.EqAt.none_bool b
  |int b=>obtain⟨t,rfl⟩:=rx;exact SeqAt.EqAt.none_int b t
  |str b=>obtain⟨t,rfl⟩:=rx;exact SeqAt.EqAt.none_str b t
  |_=>exact absurd (show false=true from fx) Yz
 |bl a=>
  cases ry;cases x with
  |non=>cases rx;exact SeqAt.EqAt.bool_none a
  |bl b=>cases rx;exact SeqAt.EqAt.bool_bool a b
  |int b=>obtain⟨t,rfl⟩:=rx;exact SeqAt.EqAt.bool_int a b t
  |str b=>obtain⟨t,rfl⟩:=rx;exact SeqAt.EqAt.bool_str a b t
  |_=>exact absurd (show false=true from fx) Yz
 |int a=>
  obtain⟨t',rfl⟩:=ry;cases x with
  |non=>cases rx;exact SeqAt.EqAt.int_none a t'
  |bl b=>cases rx;exact SeqAt.EqAt.int_bool a t' b
  |int b=>obtain⟨t,rfl⟩:=rx;exact SeqAt.EqAt.int_int a t' b t
  |str b=>obtain⟨t,rfl⟩:=rx;exact SeqAt.EqAt.int_str a t' b t
  |_=>exact absurd (show false=true from fx) Yz
 |str a=>
  obtain⟨t',rfl⟩:=ry;cases x with
  |non=>cases rx;exact SeqAt.EqAt.str_none a t'
  |bl b=>cases rx;exact SeqAt.EqAt.str_bool a t' b
  |int b=>obtain⟨t,rfl⟩:=rx;exact SeqAt.EqAt.str_int a t' b t
  |str b=>obtain⟨t,rfl⟩:=rx;exact SeqAt.EqAt.str_str a t' b t
  |_=>exact absurd (show false=true from fx) Yz
 |_=>exact absurd (show false=true from fy) Yz
noncomputable def Ua(x:V)(u:Value):Bool:=match u with
 | .none=>Ta .non x
 | .bool b=>Ta (.bl b) x
 | .int i _=>Ta (.int i) x
 | .str z _=>Ta (.str z) x
 |_=>false
theorem DZ(r:RelV y u)(f:Tb y=true):Ua x u=Ta y x:=by
 cases y with
 |non=>cases r;rfl
 |bl b=>cases r;rfl
 |int i=>obtain⟨t,rfl⟩:=r;rfl
 |str z=>obtain⟨t,rfl⟩:=r;rfl
 |_=>exact absurd (show false=true from f) Yz
theorem xZ{xs:List V}{us:Ag}(h:Vals xs us)(f:xs.all Tb=true):us.any (Ua x)=xs.any λy=>Ta y x:=by
 induction h with
 |nil=>rfl
 |cons r t ih=>
  rw[List.all_cons,Lz]at f;rw[Fh,Fh,DZ r f.1,ih f.2]
theorem DY(rx:RelV x v)(fx:Tb x=true){xs:List V}{us:Ag}(h:Vals xs us)(f:xs.all Tb=true):∀u∈us,SeqAt.EqAt A s u v (Ua x u):=by
 induction h with
 |nil=>intro u hu;cases hu
 |cons r t ih=>
  intro u' hu;rw[List.all_cons,Lz]at f;rcases Ye.mp hu with rfl|hu
  .rw[DZ r f.1];exact Ea r rx f.1 fx
  .exact ih f.2 u' hu
noncomputable def Gs(x:V)(xs:List V):Bool:=xs.any λy=>Ta y x
noncomputable def dM(K:Ad)(neg:Bool):R2:=λx y H Q=>∃p xs,y=.ref p/\(SqL K H p xs\/SqT K H p xs)/\Tb x=true/\xs.all Tb=true/\Q (.bl<|if neg then !Gs x xs else Gs x xs) H
theorem Zt8:WC X (compareOp .In) (dM X.K false):=by
 intro pins s σ H x y v u Q I rx ry h;obtain⟨p,xs,rfl,hq,fx,fs,q⟩:=h;cases ry;rcases hq with hq|hq
 .obtain⟨XW,r,pl,hz⟩:=I.list hq;refine SeqAt.in_listAt (Ua x) pl.isList (λw hw=>DY rx fx r fs w<|by simpa using hw) ⟨.bl _,H,I,Z,?_⟩;rwa[show XW.toArray.any (Ua x)=XW.any (Ua x) by simp,xZ r fs]
 .obtain⟨XW,r,pl,hz⟩:=I.tuple hq;refine SeqAt.in_tupleAt (Ua x) pl (λw hw=>DY rx fx r fs w<|by simpa using hw) ⟨.bl _,H,I,Z,?_⟩;rwa[show XW.toArray.any (Ua x)=XW.any (Ua x) by simp,xZ r fs]
theorem ZD4:WC X (compareOp .NotIn) (dM X.K true):=by
 intro pins s σ H x y v u Q I rx ry h;obtain⟨p,xs,rfl,hq,fx,fs,q⟩:=h;cases ry;rcases hq with hq|hq
 .obtain⟨XW,r,pl,hz⟩:=I.list hq;refine SeqAt.notIn_listAt (Ua x) pl.isList (λw hw=>DY rx fx r fs w<|by simpa using hw) ⟨.bl _,H,I,Z,?_⟩;rwa[show XW.toArray.any (Ua x)=XW.any (Ua x) by simp,xZ r fs]
 .obtain⟨XW,r,pl,hz⟩:=I.tuple hq;refine SeqAt.notIn_tupleAt (Ua x) pl (λw hw=>DY rx fx r fs w<|by simpa using hw) ⟨.bl _,H,I,Z,?_⟩;rwa[show XW.toArray.any (Ua x)=XW.any (Ua x) by simp,xZ r fs]
theorem ZV4:Vp X (.builtin "len") (λxs H Q=>∃p ys,xs=[.ref p]/\(SqL X.K H p ys\/SqT X.K H p ys)/\Q (.int ys.length) H):=by
 intro pins s σ H xs us Q I r h;obtain⟨p,ys,rfl,hq,q⟩:=h;obtain⟨u,rfl,rx⟩:=WH r;cases rx;have hn:=Jn
 rcases hq with hq|hq
 .obtain⟨XW,r',pl,hz⟩:=I.list hq;have hlen:=r'.length
  exact Calls.call_len_list pl.isList (by simp only[Yc]<;>lia) ⟨.int ys.length,H,I.tok _,⟨s.toks+1,by rw[Yc,hlen]⟩,q⟩
 .obtain⟨XW,r',pl,hz⟩:=I.tuple hq;have hlen:=r'.length
  exact len_tuple pl (by simp only[Yc]<;>omega) ⟨.int ys.length,H,I.tok _,⟨s.toks+1,by rw[Yc,hlen]⟩,q⟩
theorem ZU4:Vp X (.builtin "len") (λxs H Q=>∃z,xs=[.str z]/\z.length<=sizeLine/\Q (.int z.length) H):=by
 intro pins s σ H xs us Q I r h;obtain⟨z,rfl,hz,q⟩:=h;obtain⟨u,rfl,t,rfl⟩:=WH r;have hn:=Jn
 exact len_str J ⟨.int z.length,H,I.tok _,⟨_,Z⟩,q⟩
theorem ZT4:Vp X (.type "list") (λxs H Q=>∃p ys,xs=[.ref p]/\(SqL X.K H p ys\/SqT X.K H p ys)/\∀l,H l=none->Q (.ref l) (upd H l (.lst ys))):=by
 intro pins s σ H xs us Q I r h;obtain⟨p,ys,rfl,hq,q⟩:=h;obtain⟨u,rfl,rx⟩:=WH r;cases rx;have fin:∀(XW:Ag),Vals ys XW->ys.length<=sizeLine->∀(h':Heap)(c':Nat),(∀b o',s.heap.get? b=some o'->h'.get? b=some o')->
   h'.get? s.heap.objs.size=some {cls:=.type "list",dict:=none,data:=.seq XW.toArray c',slots:=#[]}->EP X pins σ Q (.ref s.heap.objs.size) {s with heap:=h'}:=λXW r' hz h' c' kp e=>
  ⟨.ref s.heap.objs.size,_,I.laid (t':=s.toks) kp (XO _)<|show ObjOk X.prog X.w _ h' _ (.lst ys) from⟨hz,XW,c',r',e⟩,Z,q _<|I.hok.fresh<|XO _⟩
 rcases hq with hq|hq
 .obtain⟨XW,r',pl,hz⟩:=I.list hq;have hlen:=r'.length
  obtain⟨o,ho,hc,n,hd⟩:=pl.isList;exact call_list_seq p (.inl rfl) ho hc hd (λh' c' kp e=>fin XW r' hz h' c' kp e) (by simp only[Yc]<;>omega)
 .obtain⟨XW,r',pl,hz⟩:=I.tuple hq;have hlen:=r'.length
  obtain⟨o,ho,hc,n,hd⟩:=pl;exact call_list_seq p (.inr rfl) ho hc hd (λh' c' kp e=>fin XW r' hz h' c' kp e) (by simp only[Yc]<;>omega)
theorem Zi4:Vp X (.type "tuple") (λxs H Q=>∃p ys,xs=[.ref p]/\((SqL X.K H p ys/\∀l,H l=none->Q (.ref l) (upd H l (.tup ys)))\/(SqT X.K H p ys/\Q (.ref p) H))):=by
 intro pins s σ H xs us Q I r h;obtain⟨p,ys,rfl,h⟩:=h;obtain⟨u,rfl,rx⟩:=WH r;cases rx;rcases h with ⟨hq,q⟩|⟨hq,q⟩
 .obtain⟨XW,r',pl,hz⟩:=I.list hq;have hlen:=r'.length
  refine call_tuple_list pl.isList (λh' kp=>?_) (by simp only[Yc]<;>omega)
  have I1:Inv X pins σ H {s with heap:=h'}:=I.kept (t':=s.toks) kp;have I2:Inv X pins σ (upd H h'.objs.size<|.tup ys) {s with heap:=h'.push {cls:=.type "tuple",data:=.seq XW.toArray} }:=
   I1.laid (t':=s.toks) (λb o e=>Xb _ e) (XO _) (show ObjOk X.prog X.w _ _ _ (.tup ys) from⟨hz,XW,r',IsTup.new _ _⟩)
  exact⟨.ref h'.objs.size,_,I2,Z,q _<|I1.hok.fresh<|XO _⟩
 .obtain⟨XW,r',pl,hz⟩:=I.tuple hq;exact call_tuple_same pl ⟨.ref p,H,I,Z,q⟩
noncomputable def sy(K:Ad)(T:String)(x:V)(H:Hp):Prop:=match x with
 | .str _=>T="str"
 | .int _=>T="int"
 | .ref p=>(T="list"/\∃xs,SqL K H p xs)\/(T="tuple"/\∃o,K.lookup p=some o/\o.cls=.type "tuple"/\o.dict=none)\/
   (T="dict"/\((∃kvs,H p=some (.dK kvs))\/∃kvs,H p=some (.dT kvs)))\/(T="set"/\∃uo n,H p=some (.set uo n))
 |_=>False
theorem Lk(I:Inv X pins σ H s)(r:RelV x v)(ty:sy X.K T x H):
  s.TypeIs v T/\∀a,v=.ref a->∃ob,s.heap.get? a=some ob/\ob.dict=none:=by
 cases x with
 |str z=>
  obtain⟨t,rfl⟩:=r;cases (show T="str" from ty);exact⟨Gy s z t,λ_ e=>nomatch e⟩
 |int i=>
  obtain⟨t,rfl⟩:=r;cases (show T="int" from ty);exact⟨typeIs_int s i t,λ_ e=>nomatch e⟩
 |ref p=>
  cases r;rcases ty with ⟨rfl,xs,hq⟩|⟨rfl,o,hk,hc,hd⟩|⟨rfl,hk⟩|⟨rfl,uo,n,hk⟩
  .obtain⟨XW,_,pl,_⟩:=I.list hq;refine⟨pl.isList.typeIs,λa e=>?_⟩;cases e;obtain⟨o,n,e,c,hd,_⟩:=pl;exact⟨o,e,hd⟩
  .refine⟨⟨o,I.kIn p o hk,hc⟩,λa e=>?_⟩;cases e;exact⟨o,I.kIn _ o hk,hd⟩
  .have z:∃o,s.heap.get? p=some o/\o.ExactDict:=by
    rcases hk with ⟨kvs,hk⟩|⟨kvs,hk⟩
    .obtain⟨_,_,_,_,o,_,_,e,ex,_⟩:=I.hok p _ hk;exact⟨o,e,ex⟩
    .obtain⟨_,_,_,_,o,_,_,e,ex,_⟩:=I.hok p _ hk;exact⟨o,e,ex⟩
   obtain⟨o,e,ex⟩:=z;refine⟨⟨o,e,ex.1⟩,λa e2=>?_⟩;cases e2;exact⟨o,e,ex.2.1⟩
  .obtain⟨o,_,_,_,e,ex,_⟩:=I.hok p _ hk;refine⟨⟨o,e,ex.1⟩,λa e2=>?_⟩;cases e2;exact⟨o,e,ex.2.1⟩
 |_=>exact False.elim ty
noncomputable def DX(K:Ad)(T:String)(r:V->List V->Hp->VK->Prop)(to:TE):TE:=λσ H Q=>to σ H λx H1=>sy K T x H1/\r x [] H1 Q
noncomputable def dJ(K:Ad)(T:String)(r:V->List V->Hp->VK->Prop)(to:TE)(t:TA):TE:=λσ H Q=>to σ H λx H1=>sy K T x H1/\t σ H1 λxs H2=>r x xs H2 Q
variable{o e:Expr}{es:List Expr}{to:TE}{t:TA}{name:Str}{apos Xe:Pos}{T id:String}{r:V->List V->Hp->VK->Prop}
theorem sv (pa:PlainAttrs T) (slot:Slot T name id) (Jh:typeOf (.builtin id)=pure (.type "method_descriptor")) (hm:x6 X id r) (ho:PE X o to)
  (Vh:attributeBase o name X.env (eval o X.env)=eval o X.env:=by rfl)(Vg:(apos.endLine == Xe.line)=true:=by rfl):PE X (.Call (.Attribute o name apos) [] [] Xe) (DX X.K T r to):=by intro pins s σ H Q I h;refine wpAny_Call_method0_late Vh Vg (thn (ho pins s σ H _ I h) λv s1 Xy=>?_);obtain⟨x,H1,I1,r1,ty,q1⟩:=Xy;obtain⟨h1,h2⟩:=Lk I1 r1 ty;exact⟨T,id,pa,slot,Jh,h1,h2,Calls.callWith_builtin Z<|PySem.evalArgs_none<|hm pins s1 σ H1 x [] v [] Q I1 r1 .nil q1⟩
theorem su (pa:PlainAttrs T) (slot:Slot T name id) (Jh:typeOf (.builtin id)=pure (.type "method_descriptor")) (hm:x6 X id r) (ho:PE X o to) (ha:PA X (e::es) t)
  (Vh:attributeBase o name X.env (eval o X.env)=eval o X.env:=by rfl)
  (Jg:((backTo Xe<|starEach (e::es) X.env).all (λx=>!x.1)&&(backToKw Xe<|keywordEach [] X.env).all (λx=>x.1.isSome)
   && decide ((e::es).length+([]:List Keyword).length+(if ([]:List Keyword).isEmpty then 0 else 1)<30))=true:=by rfl)
  (Vg:(apos.endLine == Xe.line)=true:=by rfl)(hs:starEach (e::es) X.env=(false,eval e X.env)::starEach es X.env:=by rfl)(Vf:(backTo Xe<|starEach es X.env).any (·.1)=false:=by rfl):
  PE X (.Call (.Attribute o name apos) (e::es) [] Xe) (dJ X.K T r to t):=by
 intro pins s σ H Q I h;refine wpAny_Call_method_late Vh Jg Vg Z (thn (ho pins s σ H _ I h) λv s1 Xy=>?_);obtain⟨x,H1,I1,r1,ty,q1⟩:=Xy;obtain⟨h1,h2⟩:=Lk I1 r1 ty;refine⟨T,id,pa,slot,Jh,h1,h2,?_⟩;have hA:=ha Xe pins s1 σ H1 _ I1 q1
 rw[hs]at hA ⊢;refine Calls.callWith_builtin (by show(false||(backTo Xe<|starEach es X.env).any (·.1))=false;rw[Vf]<;>rfl) (Calls.evalArgs_plain ?_)
 exact thn hA λus s2 zz=>by obtain⟨vs,H2,I2,r2,q2⟩:=zz;exact hm pins s2 σ H2 x vs v us Q I2 r1 r2 q2
end
noncomputable def Ob(X:Cx)(id:String)(r:V->List V->Hp->VK->Prop):Prop:=
 ∀(pins:List (Addr×Obj))(s:Shared)(σ:St)(H:Hp)(x:V)(xs:List V)(v:Value)(us:Ag)(Q:VK),Inv X pins σ H s->RelV x v->Vals xs us->r x xs H Q->
  wpAny (model X.prog X.w) X.A (call (.builtin id)<|v::us) (EP X pins σ Q) X.xe s
theorem Vals.one{x:V}{us:Ag}(r:Vals [x] us):∃u,us=[u]/\RelV x u:=by
 cases r with
 |cons a r=>cases r;exact⟨_,Z,a⟩
theorem Vals.eraseIdx{xs:List V}{us:Ag}(i:Nat)(h:Vals xs us):Vals (xs.eraseIdx i) (us.eraseIdx i):=by
 induction h generalizing i with
 |nil=>exact .nil
 |cons r t ih=>
  cases i with
  |zero=>exact t
  |succ i=>exact .cons r (ih i)
theorem Vals.rep(h:Vals xs us):∀k:Nat,Vals (List.replicate k xs).flatten (List.replicate k us).flatten
 |0=>.nil
 |k+1=>by rw[JY,JY,Fq,Fq];exact Vals.append h (Vals.rep h k)
theorem dI{α:Type}:∀(l:List α)(i:Nat),(l.eraseIdx i).length<=l.length
 |[],_=>XO _
 |_::_,0=>Uc _
 |_::r,i+1=>Nat.succ_le_succ (dI r i)
theorem dH(XW:Ag):∀(k:Nat)(acc:Ag),
  List.foldl (λx1 x2=>x1++x2) acc.toArray (List.replicate k XW.toArray)=(acc++(List.replicate k XW).flatten).toArray
 |0,acc=>B
 |k+1,acc=>by
  have e:acc.toArray++XW.toArray=(acc++XW).toArray:=B;have e2:(acc++XW)++(List.replicate k XW).flatten=acc++(List.replicate (k+1) XW).flatten:=by rw[JY,Fq,QJ]
  rw[<-e2,<-dH XW k (acc++XW),<-e,JY,yM]
section
variable{X:Cx}{pins:List (Addr×Obj)}{σ:St}{H:Hp}{s:Shared}{l:Addr}{xs ys:List V}
theorem Inv.lset{XW its':Ag}{f:Array Value->Array Value}{t':Nat}(I:Inv X pins σ H s)(hH:H l=some (.lst xs))
  (e:s.heap.get? l=some {cls:=.type "list",data:=.seq XW.toArray n})(hf:f XW.toArray=its'.toArray)(hv:Vals ys its')(hz:ys.length<=sizeLine):
  Inv X pins σ (upd H l<|.lst ys) {s with heap:=s.heap.update l<|Obj.mapSeq f,toks:=t'}:=by have q:=PySem.IsL.update e f;rw[hf]at q;refine I.write (x:=l) (e:=l) (by rw[hH];exact trivial) (.inl Z) (λb' u hb hu=>(QP s.heap (Obj.mapSeq f)<|XI hb).trans hu) ⟨_,q⟩ ?_;exact⟨hz,its',_,hv,q⟩
theorem Inv.lnew{t':Nat}(I:Inv X pins σ H s)(hv:Vals ys XW)(hz:ys.length<=sizeLine):
  Inv X pins σ (upd H s.heap.objs.size<|.lst ys) {s with heap:=s.heap.push {cls:=.type "list",data:=.seq XW.toArray},toks:=t'}:=
 I.laid (λ_ _ q=>Xb _ q) (XO _) ⟨hz,XW,0,hv,Yj _ Z⟩
theorem Inv.fresh(I:Inv X pins σ H s):H s.heap.objs.size=none:=I.hok.fresh (XO _)
theorem Inv.lstM (I:Inv X pins σ H s) (hH:H l=some (.lst xs)):xs.length<=sizeLine/\∃(XW:Ag)(n:Nat),Vals xs XW/\xs.length=XW.length/\s.heap.get? l=some {cls:=.type "list",data:=.seq XW.toArray n}:=by obtain⟨z,XW,n,r,e⟩:=I.hok l _ hH;exact⟨z,XW,n,r,r.length,e⟩
theorem DW(h:n<=sizeLine):Builtin.List.listTooLong n=false:=by unfold Builtin.List.listTooLong;exact YW J
end
section
variable{X:Cx}
noncomputable def sr:V->List V->Hp->VK->Prop:=λx vs H Q=>∃l xs y,x=.ref l/\vs=[y]/\H l=some (.lst xs)/\xs.length<sizeLine/\Q .non (upd H l<|.lst<|xs++[y])
theorem Jf:Ob X "list.append" sr:=by intro pins s σ H x vs v us Q I rx rv h;obtain⟨l,xs,y,rfl,rfl,hH,hz,q⟩:=h;cases rx;obtain⟨u,rfl,ru⟩:=rv.one;obtain⟨z,XW,n,r,hl,e⟩:=I.lstM hH;refine Oi F.slot_list_append ⟨_,e,Z⟩ F.entry_list_append (F.args_list_append_2 _ _) (PySem.list_append l XW.toArray n u<|by rw[Yc];lia) ⟨e,?_⟩;refine⟨.non,_,I.lset (its':=XW++[u]) hH e B (r.append<|.cons ru .nil) ?_,Z,q⟩;rw[Xt,Yr];lia
noncomputable def sq:V->List V->Hp->VK->Prop:=λx vs H Q=>∃l b xs zs,x=.ref l/\vs=[.ref b]/\H l=some (.lst xs)/\H b=some (.lst zs)/\xs.length+zs.length<=sizeLine/\Q .non (upd H l<|.lst<|xs++zs)
theorem dG:Ob X "list.extend" sq:=by
 intro pins s σ H x vs v us Q I rx rv h;obtain⟨l,b,xs,zs,rfl,rfl,hH,hB,hz,q⟩:=h;cases rx;obtain⟨u,rfl,ru⟩:=rv.one;cases ru;obtain⟨z,XW,n,r,hl,e⟩:=I.lstM hH;obtain⟨z2,VF,n2,r2,RZ,e2⟩:=I.lstM hB;have hsz:XW.toArray.size+VF.toArray.size<=sizeLine:=by rw[Yc,Yc];grind
 have PK:¬(!XW.toArray.isEmpty&&Builtin.List.listTooLong (XW.toArray.size+VF.toArray.size))=true:=by rw[DW hsz,Bool.and_false];exact Yz
 refine Oi F.slot_list_extend ⟨_,e,Z⟩ F.entry_list_extend (F.args_list_extend_2 _ _)
  (AutoSeq1.list_extend_list_list_0 l XW.toArray n b VF.toArray n2 PK (by rw[Yc];grind) J) ⟨e,e2,?_⟩
 refine⟨.non,_,I.lset (its':=XW++VF) hH e B (r.append r2) ?_,Z,q⟩;rw[Xt];lia
noncomputable def so:V->List V->Hp->VK->Prop:=λx vs H Q=>∃l xs i k y,x=.ref l/\vs=[.int i]/\H l=some (.lst xs)/\-(2^63)<=i/\i<2^63/\seqIndex? i xs.length=some k/\xs[k]?=some y/\Q y (upd H l<|.lst<|xs.eraseIdx k)
theorem sj:Ob X "list.pop" so:=by
 intro pins s σ H x vs v us Q I rx rv h;obtain⟨l,xs,i,k,y,rfl,rfl,hH,h1,h2,hk,hy,q⟩:=h;cases rx;obtain⟨u,rfl,ru⟩:=rv.one;obtain⟨t,rfl⟩:=ru;obtain⟨z,XW,n,r,hl,e⟩:=I.lstM hH;obtain⟨w,hw,MV⟩:=r.get hy;refine Oi F.slot_list_pop ⟨_,e,Z⟩ F.entry_list_pop (F.args_list_pop_2 _ _)
  (MeetsSeq.list_pop_at l XW.toArray n i t k w (fitsIndex_both h1 h2) (by rwa[Yc,<-hl]) (by rwa[<-YS])<|by rw[Yc];lia) ⟨e,?_⟩
 refine⟨y,_,I.lset (its':=XW.eraseIdx k) hH e ?_ (r.eraseIdx k) ?_,MV,q⟩
 .show XW.toArray.eraseIdxIfInBounds k=(XW.eraseIdx k).toArray;rw[List.eraseIdxIfInBounds_toArray]
 .have:=dI xs k
  lia
noncomputable def DV:R2:=λx y H Q=>∃l b xs zs,x=.ref l/\y=.ref b/\H l=some (.lst xs)/\H b=some (.lst zs)/\xs.length+zs.length<=sizeLine/\∀p,H p=none->Q (.ref p) (upd H p<|.lst<|xs++zs)
theorem DU:WC X (binaryOp .Add) DV:=by
 intro pins s σ H x y v u Q I rx ry h;obtain⟨l,b,xs,zs,rfl,rfl,hH,hB,hz,q⟩:=h;cases rx;cases ry;obtain⟨z,XW,n,r,hl,e⟩:=I.lstM hH;obtain⟨z2,VF,n2,r2,RZ,e2⟩:=I.lstM hB;refine PySem.P.add_list e e2 ?_ (by rw[Yc,Yc];omega);have ea:XW.toArray++VF.toArray=(XW++VF).toArray:=B
 rw[ea];exact⟨.ref _,_,I.lnew (t':=s.toks) (r.append r2) (by rw[Xt];omega),Z,q _ I.fresh⟩
noncomputable def si:R2:=λx y H Q=>∃l k xs,x=.ref l/\y=.int k/\H l=some (.lst xs)/\-(2^63)<=k/\k<2^63/\xs.length*k.toNat<=sizeLine/\
 ∀p,H p=none->Q (.ref p) (upd H p<|.lst (List.replicate k.toNat xs).flatten)
theorem sf{α:Type}(xs:List α)(k:Nat):(List.replicate k xs).flatten.length=k*xs.length:=by
 induction k with
 |zero=>simp
 |succ k ih=>rw[JY,Fq,Xt,ih,Nat.succ_mul,Nat.add_comm]
theorem DT:WC X (binaryOp .Mult) si:=by
 intro pins s σ H x y v u Q I rx ry h;obtain⟨l,k,xs,rfl,rfl,hH,h1,h2,hz,q⟩:=h;cases rx;obtain⟨t,rfl⟩:=ry;obtain⟨z,XW,n,r,hl,e⟩:=I.lstM hH;have hlen:XW.toArray.size*k.toNat<=sizeLine:=by rwa[Yc,<-hl]
 have sd:¬XW.toArray.size*k.toNat>(2^63-1)/8:=by
  have:(sizeLine:Nat)<=(2^63-1)/8:=S
  grind
 have r6:¬(!Builtin.List.listFitsIndex k)=true:=by rw[fitsIndex_both h1 h2];exact Yz
 have PK:¬Builtin.List.listTooLong (XW.toArray.size*k.toNat)=true:=by rw[DW hlen];exact Yz
 have Rr:List.foldl (λx1 x2=>x1++x2) #[] (List.replicate (if XW.toArray.isEmpty=true then 0 else k.toNat) XW.toArray)=(List.replicate k.toNat XW).flatten.toArray:=by
  have f0:∀m:Nat,List.foldl (λx1 x2=>x1++x2) #[] (List.replicate m XW.toArray)=(List.replicate m XW).flatten.toArray:=λm=>by
   have:=dH XW m []
   rwa[Oj]at this
  rw[f0];cases XW with
  |nil=>simp
  |cons a r'=>rw[if_neg B]
 refine wpAny_binaryOp_repeat_ref (T:="list") (U:="int") S ⟨_,e,Z⟩ (λs'=>typeIs_int s' k t) noFill_list_mul F.fills_int_mul F.slot_int_rmul repeat_list F.slot_int_index.lookup
  (Oi F.slot_int_rmul (typeIs_int s k t) F.entry_int_rmul (F.args_int_rmul_2 _ _) (int___rmul___int_list k t l XW.toArray n)
   ⟨e,Z,⟨_,e,Z⟩,Oi F.slot_list_mul ⟨_,e,Z⟩ F.entry_list_mul (F.args_list_mul_2 _ _) (AutoListH.list___mul___list_int_3 l XW.toArray n k t r6 sd PK) ⟨e,?_⟩⟩)
 rw[Rr];exact⟨.ref _,_,I.lnew (t':=s.toks) (r.rep k.toNat) (by rwa[sf,Nj]),Z,q _ I.fresh⟩
end
section
variable{κ:Type}[DecidableEq κ]
noncomputable def Wn(kvs:List (κ×V))(k:κ):Option V:=(kvs.find? λkv=>decide<|kv.1=k).map (·.2)
noncomputable def putK(kvs:List (κ×V))(k:κ)(v:V):List (κ×V):=
 if (kvs.any λkv=>decide<|kv.1=k)=true then kvs.map (λkv=>if kv.1=k then (kv.1,v) else kv) else kvs++[(k,v)]
theorem rZ{p:κ×V}{r:List (κ×V)}(e:p.1=k):Wn (p::r) k=some p.2:=by simp[Wn,yL,e]
theorem rY{p:κ×V}(e:¬p.1=k):Wn (p::r) k=Wn r k:=by simp[Wn,yL,e]
theorem dF(k:κ):∀kvs:List (κ×V),(kvs.any λkv=>decide (kv.1=k))=(Wn kvs k).isSome
 |[]=>rfl
 |p::r=>by
  rw[Fh];by_cases e:p.1=k
  .simp only[rZ e,Yn e,Bool.true_or,Option.isSome_some]
  .rw[rY e,YW e,Bool.false_or];exact dF k r
theorem Zb6(kvs:List (κ×V))(k:κ)(v:V):(putK kvs k v).length<=kvs.length+1:=by
 unfold putK;split
 .rw[Yb];lia
 .rw[Xt,Yq,TN];lia
theorem rX{kvs:List (κ×V)}{k:κ}(v:V)(h:Wn kvs k=none):putK kvs k v=kvs++[(k,v)]:=by unfold putK;rw[dF,h];exact if_neg S
theorem KV.val(r:KV kvs vs)(k:κ):RelO (Wn kvs k) (valueAt vs k):=by
 unfold KV at r
 induction r with
 |nil=>exact True.intro
 |@cons p q ps qs h t ih=>
  obtain⟨h1,h2⟩:=h;by_cases e:p.1=k
  .have e':q.1=k:=h1.symm.trans e;have b:valueAt (q::qs) k=some q.2:=by simp[valueAt,yL,e']
   rwa[rZ e,b]
  .have e':¬q.1=k:=λz=>e (h1.trans z);have b:valueAt (q::qs) k=valueAt qs k:=by simp[valueAt,yL,e']
   rwa[rY e,b]
theorem KV.any(r:KV kvs vs)(k:κ):(kvs.any λkv=>decide (kv.1=k))=vs.any λkv=>decide (kv.1=k):=by
 unfold KV at r
 induction r with
 |nil=>rfl
 |cons h t ih=>rw[Fh,Fh,ih,h.1]
theorem KV.repl(r:KV kvs vs)(k:κ)(ry:RelV y u):
  KV (kvs.map λkv=>if kv.1=k then (kv.1,y) else kv) (vs.map λkv=>if kv.1=k then (kv.1,u) else kv):=by
 unfold KV at r ⊢
 induction r with
 |nil=>exact .nil
 |@cons p q ps qs h t ih=>
  rw[WD,WD];refine .cons ?_ ih;obtain⟨h1,h2⟩:=h;by_cases e:p.1=k
  .rw[if_pos e,if_pos (h1.symm.trans e)];exact⟨h1,ry⟩
  .rw[if_neg e,if_neg λz=>e (h1.trans z)];exact⟨h1,h2⟩
theorem KV.put(r:KV kvs vs)(k:κ)(ry:RelV y u):KV (putK kvs k y) (stored vs k u):=by
 unfold putK stored;rw[r.any k];by_cases e:(vs.any λkv=>decide<|kv.1=k)=true
 .rw[if_pos e,if_pos e];exact r.repl k ry
 .rw[if_neg e,if_neg e];exact Paired.snoc r ⟨Z,ry⟩
theorem KV.length{kvs:List (κ×V)}{vs:List (κ×Value)}(r:KV kvs vs):kvs.length=vs.length:=Paired.length r
end
theorem rW(r:RelV (kV k) u):(Ry P w).is k u=true:=by
 cases k with
 |inl i=>obtain⟨t,e⟩:=(show ∃t,u=Value.int i t from r);subst e;exact Zaf P w i t
 |inr x=>obtain⟨t,e⟩:=(show ∃t,u=Value.str x t from r);subst e;exact Zag P w x t
section
variable{P:Program}{w:World}{H:Hp}{h:Heap}{a:Addr}
theorem rV(ok:HOk P w H h)(e:Rd H a u):ObjOk P w H h a u:=e.ok ok
theorem rT(ok:HOk P w H h)(e:Rd H a (.dK kvs)):kvs.length<=sizeLine/\(a == sysModules)=false/\∃vs,KV kvs vs/\h.DictOf (Ry P w) a vs:=
 show ObjOk P w H h a (.dK kvs) from rV ok e
theorem Je(ok:HOk P w H h)(e:H a=some (.dK kvs)):kvs.length<=sizeLine/\(a == sysModules)=false/\∃vs,KV kvs vs/\h.DictOf (Ry P w) a vs:=rT ok (.inl e)
end
section
variable{X:Cx}{pins:List (Addr×Obj)}{σ:St}{H:Hp}{s:Shared}{a:Addr}
theorem Inv.big(I:Inv X pins σ H s):sysModules<s.heap.objs.size:=by have h:mainGlobals<s.heap.objs.size:=(I.mod.glob.keeps I.bk).lt;exact Nat.lt_trans S h
theorem rS{t':Nat}(I:Inv X pins σ H s)(mu:EW (H a))(hs:Heap.SameBut a s.heap h')(he:∃q,h'.get? a=some q)(new:ObjOk X.prog X.w (upd H a ob) h' a ob):
  Inv X pins σ (upd H a ob) {s with heap:=h',toks:=t'}:=
 I.write (x:=a) (e:=a) mu (.inl Z) (λb q hb z=>(hs.2 b hb).trans z) he new
theorem rR(z:kvs.length<=sizeLine)(hd:(a == sysModules)=false)(rel:KV kvs vs)(dd:h'.DictOf (Ry P w) a vs):
  ObjOk P w H' h' a (.dK kvs):=⟨z,hd,vs,rel,dd⟩
end
theorem rQ (h:Heap) (hb:sysModules<h.objs.size):ObjOk P w H (h.push {cls:=.type "dict",data:=.dict #[]}) h.objs.size (.dK []):=
 ⟨Ym _,Fy.mpr<|XI<|Yy hb,[],.nil,Heap.DictOf.new h⟩
noncomputable def DS:TE:=λ_ H Q=>∀p,H p=none->Q (.ref p) (upd H p<|.dK [])
section
variable{X:Cx}{pos:Pos}
theorem rP:PE X (.Dict [] [] pos) DS:=λpins s σ H Q I h=>
 wpAny_Dict_empty ⟨.ref s.heap.objs.size,_,I.laid (a:=s.heap.objs.size) (o:=.dK []) (t':=s.toks) (λ_ _ q=>Xb _ q) (XO _)<|rQ s.heap I.big,Z,h _<|I.hok.fresh<|XO _⟩
end
structure M1 (X:Cx) (o:Expr) (m:Str) (apos:Pos) (e:Expr) (Xe:Pos):Prop where
 base:attributeBase o m X.env (eval o X.env)=eval o X.env
 few:((backTo Xe<|starEach [e] X.env).all (λx=>!x.1)&&(backToKw Xe<|keywordEach [] X.env).all (λx=>x.1.isSome)
  && decide (([e]:List Expr).length+([]:List Keyword).length+(if ([]:List Keyword).isEmpty then 0 else 1)<30))=true
 line:(apos.endLine == Xe.line)=true
 trees:backTo Xe (starEach [e] X.env)=[(false,eval e X.env)]
structure M2 (X:Cx) (o:Expr) (m:Str) (apos:Pos) (e f:Expr) (Xe:Pos):Prop where
 base:attributeBase o m X.env (eval o X.env)=eval o X.env
 few:((backTo Xe<|starEach [e,f] X.env).all (λx=>!x.1)&&(backToKw Xe<|keywordEach [] X.env).all (λx=>x.1.isSome)
  && decide (([e,f]:List Expr).length+([]:List Keyword).length+(if ([]:List Keyword).isEmpty then 0 else 1)<30))=true
 line:(apos.endLine == Xe.line)=true
 trees:backTo Xe (starEach [e,f] X.env)=[(false,eval e X.env),(false,eval f X.env)]
end L2
namespace Att
open PySem PySem.W PySem.Calls PyProof.Rows
theorem rO:∀(ns:Ac)(vs:Ag),WellAll P h vs (ns.map WData.int)->IntsAre vs ns:=by
 intro ns
 induction ns with
 |nil=>
  intro vs w;rw[List.map_nil]at w;cases w;exact .nil
 |cons n ns ih=>
  intro vs w;rw[WD]at w;cases w with
  |cons a b=>
   cases a;exact .cons _ _ (ih _ b)
theorem Zi8{l:OpenLaw}{n:Nat}(hn:l.most=some n) 
  (MU:l.row.toRowW.claim.pre args=true)(DR:WellAll P h vals args):
  ∃a vs ns,vals=[Value.ref a]/\args=[WData.list (ns.map WData.int)]/\h.get? a=some {cls:=.type "list",data:=.seq vs.toArray}/\IntsAre vs ns/\ns.length<=n:=by
 have hsh:WShape.hasAll [] args [.list .int]=true:=(pre_splitW MU).1;have hc:l.pre.holds [] {args:=args}=true:=(pre_splitW MU).2
 obtain⟨d,r,rfl,h1,h2⟩:=hasAllW_cons hsh;obtain rfl:=hasAllW_nil h2;obtain⟨xs,rfl,h3⟩:=hasW_list h1;obtain⟨ns,rfl⟩:=items_int h3;have hlen:ns.length<=n:=by
  unfold OpenLaw.pre at hc;have h4:(WTm.not<|.lt (.lit<|.int (n:Int))<|.len<|.arg 0).holds [] {args:=[.list (ns.map .int)]}=true:=by have h4:=(holds_andW hc).1;rwa[hn]at h4
  have h5:=condW_of h4 (w_not<|w_lt w_lit<|w_len_list<|w_arg Z);rw[Yb]at h5;refine yR λq=>?_;have q':(n:Int)<((ns.length:Nat):Int):=ur
  first
   | (rw[Yn q']at h5;exact absurd h5 S)
   | (simp at h5;omega)
 cases DR with
 |cons w1 w2=>
  cases w2;cases w1 with
  |list ho Wm=>exact⟨_,_,ns,Z,Z,ho,rO ns _ Wm,hlen⟩
theorem Zq8(l:OpenLaw)(args:List WData):l.row.toRowW.claim.post args (.bool true) args=true:=
 postW_of (r:=l.row.toRowW) (X:=(true == true))
  (show WShape.has [] (.bool true) .bool=true by first|rfl|decide|simp[WShape.has,WShape.arms,WShape.armsAll])
  (show(WTm.eq .res<|.lit<|.bool true).value [] {args:=args,res:=some<|.bool true,after:=args}=some (.bool<|true == true) from w_eq_bool (w_res Z) w_lit) rfl
theorem TH{l:OpenLaw}{n:Nat}{XP:Af->Heap->Prop}{YP:World->Heap->Prop} 
  (hn:l.most=some n)(rN:d.params.defaults=[])
  (call:∀(w:World)(s₀ s₁:Shared)(mg mb:Af)(fa:Addr)(o:Obj)(pm cd doc:Value)(a:Addr)(vs:Ag)(ns:Ac),
   Ground q loose [] XP w s₀ mg mb s₁.heap->YP w s₁.heap->
   s₁.heap.get? fa=some o->o.data=.func (docDef d.name d.params d.body d.scope pm cd doc)->s₁.heap.CodeRec cd d.name->mg d.name=some (.ref fa)->
   s₁.heap.get? a=some {cls:=.type "list",data:=.seq vs.toArray}->IntsAre vs ns->ns.length<=n->s₁.gens=#[]->
   codeAny (model l.prog w) callerA (.call (.ref fa) ⟨[.ref a],[]⟩) (λr s'=>r=.ok (.ret<|.bool true)/\OldK s₁.heap s'.heap/\s'.os=s₁.os/\AllBare s'.gens) s₁):
  WalkO q loose XP YP l.row.toRowW d [] (λf vs=>PySem.call f vs):=by intro w s₀ s₁ mg mb G Y fa o pm cd doc dV kV ho hd Ub hD DQ hg args vals as MU hlay hrd DR hlo;obtain rfl:dV=.none:=Dflts.none hD rN;obtain rfl:kV=.none:=Dflts.noKw hD;obtain⟨a,vs,ns,rfl,rfl,Jd,hints,hlen⟩:=Zi8 hn MU DR;refine enter_call (Nr (call w s₀ s₁ mg mb fa o pm cd doc a vs ns G Y ho (fd_plain hd) Ub DQ Jd hints hlen hg) λr s' hq=>?_);obtain⟨rfl,h2,h3,h4⟩:=hq;exact⟨.inl ⟨.bool true,.bool true,[],Z,λ_=>rfl,.bool true,Zq8 l _,λ_=>⟨List.Pairwise.nil,λ_ hm=>(nomatch hm)⟩⟩,h2,h3,h4⟩
section
noncomputable def Zp15(h:Heap)(L d:Addr):List (Addr×Obj):=(List.range h.objs.size).filterMap λa=>if a=L\/a=d then none else (h.get? a).map λo=>(a,o)
end
end Att
namespace L2
open PySem PySem.Spec PyProof.Rows
theorem rM{vs:Ag}{ns:Ac}(h:IntsAre vs ns):Vals (ns.map V.int) vs:=by
 induction h with
 |nil=>exact .nil
 |cons n t h ih=>exact .cons ⟨t,Z⟩ ih
noncomputable abbrev Xj{K:Ad}{h:Heap}(_:K.In h):Ad:=K
noncomputable def dE(s:Stmt)(j:Nat):Stmt:=match s with
 | .ClassDef _ _ _ body _ _ _ _ _ _ _=>body.getD j (.Pass ⟨0,0,0,0⟩)
 |_=>.Pass ⟨0,0,0,0⟩
noncomputable def Lj(s:Stmt):Arguments:=match s with
 | .FunctionDef _ a _ _ _ _ _ _ _ _=>a
 |_=>{posonlyargs:=[],args:=[],vararg:=none,kwonlyargs:=[],kw_defaults:=[],kwarg:=none,defaults:=[]}
noncomputable def RY(s:Stmt):List Stmt:=match s with
 | .FunctionDef _ _ b _ _ _ _ _ _ _=>b
 |_=>[]
noncomputable def Xv(s:Stmt):Scope:=match s with
 | .FunctionDef _ _ _ _ _ _ sc _ _ _=>sc
 |_=>{kind:=.function,names:=[],isGenerator:=false,isCoroutine:=false}
noncomputable abbrev Xl:SF:=λ_ _ _ _ _ _=>False
noncomputable abbrev E0:XK:=λ_ _ _=>False
theorem Zs:Ll Xl X E0:=λ_ _ _ _ _ _ _ h=>h.elim
structure Fun (K:Ad) (x qual:Str) (st:Stmt) (f:Addr) (fd:FuncData):Prop where
 ex:∃(oc:Value)(od:Option Addr)(kV doc pm:Value)(an:Option Addr)(XG ct:Value)(Uo:Array (Option Value)),
  fd=PySem.W.fnOf x qual (Lj st) (RY st) (Xv st) .none kV doc pm an XG ct/\K.lookup f=some ⟨oc,od,.func fd,Uo⟩/\PySem.W.codeIn K XG qual=true
 kp:PySem.W.keepIn K (.ref f)=true
section
variable{P:Program}{w:World}{K:Ad}{mg:Af}{base:Heap}
theorem Fun.ok{x qual:Str}{st:Stmt}{f:Addr}{fd:FuncData}{N ps:List Str}{k:Nat}{sp:Sp}(F:Fun K x qual st f fd)(uo:FnScope N ps (Xv st))(len:∀vs H Q E,sp vs H Q E->vs.length=ps.length)
  (hbody:∀(XG:Value)(A:Around)(outer:List Env)(s:Shared)(H:Hp)(vs:List V)(Q:VK)(E:XK),Room k (A.deeper<|envOfC qual (Xv st) s.heap.objs.size f XG)->sp vs H Q E->
   ∃t,PSs (Wq Xl P w K mg base N qual (Xv st) f XG A outer s H E).nox (RY st) t/\t {nx:=λ_ H'=>Q .non H',rt:=Q} (start N vs) H):FnOk P w K mg base Xl (k+1) f fd ps sp:=by obtain⟨oc,od,kV,doc,pm,an,XG,ct,Uo,rfl,lk,Ub⟩:=F.ex;refine Jj lk Ub uo len λA outer s H vs Q E hr UT=>?_;obtain⟨t,h,q⟩:=hbody XG A outer s H vs Q E hr UT;exact⟨t,h.nox,q⟩
theorem Fun.binds{x qual:Str}{st:Stmt}{f:Addr}{fd:FuncData}{ps:List Str}(F:Fun K x qual st f fd)
  (h:∀(kV doc pm:Value)(an:Option Addr)(XG ct:Value)(us:Ag),us.length=ps.length->bindArgs (PySem.W.fnOf x qual (Lj st) (RY st) (Xv st) .none kV doc pm an XG ct) ⟨us,[]⟩=pure (ps.zip us)):Binds K fd ps []:=by obtain⟨oc,od,kV,doc,pm,an,XG,ct,Uo,rfl,lk,Ub⟩:=F.ex;exact .all (h kV doc pm an XG ct)
theorem xY{x qual:Str}{st:Stmt}{f:Addr}{oc:Value}{od an:Option Addr}{Uo:Array (Option Value)}{kV doc pm XG ct:Value}(l:K.lookup f=some ⟨oc,od,.func (PySem.W.fnOf x qual (Lj st) (RY st) (Xv st) .none kV doc pm an XG ct),Uo⟩)
  (c:PySem.W.codeIn K XG qual=true)(k:PySem.W.keepIn K (.ref f)=true):Fun K x qual st f (PySem.W.fnOf x qual (Lj st) (RY st) (Xv st) .none kV doc pm an XG ct):=⟨⟨oc,od,kV,doc,pm,an,XG,ct,Uo,Z,l,c⟩,k⟩
end
section
variable{X:Cx}
theorem pv (i:Nat) {x:Str} {pos:Pos} (hN:X.N[i]?=some x:=by rfl) (hv:ui X.env.scope x:=by first|exact Or.inl rfl|exact Or.inr (Or.inl rfl)|exact Or.inr<|Or.inr rfl) (hd:(x == ("__debug__":Str))=false:=by decide)
  (Ub:(x == ("__classdict__":Str))=false:=by decide):PE X (.Name x pos) (EO i):=Zal hN hv hd Ub
end
theorem WB{A uj:Prop}(h:uj):if false=true then A else uj:=by rwa[if_neg Yz]
theorem We{A uj:Prop}(h:A):if true=true then A else uj:=by rwa[if_pos Z]
theorem DP{c A uj:Prop}[Decidable c](h1:c->A)(h2:¬c->uj):if c then A else uj:=by
 by_cases h:c
 .rw[if_pos h];exact h1 h
 .rw[if_neg h];exact h2 h
noncomputable def Same(H H':Hp):Prop:=∀b o,H b=some o->H' b=some o
theorem Same.refl(H:Hp):Same H H:=λ_ _ h=>h
theorem Same.trans{H H1 H2:Hp}(a:Same H H1)(b:Same H1 H2):Same H H2:=λc o h=>b c o (a c o h)
theorem Same.free(e:Same H H'){l:Addr}(h:H' l=Option.none):H l=Option.none:=by
 cases q:H l with
 |none=>rfl
 |some o=>
  rw[e l o q]at h;cases h
theorem Same.seq{K:Ad}{H H':Hp}{a:Addr}{xs:List V}(e:Same H H')(h:SqL K H a xs):SqL K H' a xs:=by
 rcases h with (h|⟨o,h⟩)|h
 .exact .inl (.inl<|e _ _ h)
 .exact .inl (.inr ⟨o,e _ _ h⟩)
 .exact .inr h
noncomputable def DO(X:Cx)(ifs:List Expr)(t:TT):Prop:=
 ∀pins s σ H Q,Inv X pins σ H s->t σ H Q->
  wpAny (model X.prog X.w) X.A (forIn ifs true λc r=>if r=true then do let ok <-isTrue c X.env (eval c X.env);pure (ForInStep.yield ok) else pure (ForInStep.yield r)) (TP X pins σ Q) X.xe s
noncomputable def tYes:TT:=λ_ H Q=>Q true H
theorem ZX:DO X [] tYes:=λ_ _ _ H _ I h=>wpAny_tests_nil ⟨H,I,h⟩
theorem Rq(hc:PT X c t):DO X [c] t:=λpins s σ H Q I h=>wpAny_tests_one (hc pins s σ H Q I h)
theorem ZP4{R:Result->Shared->Prop}{elt target iter:Expr}{scope:Scope}{pos:Pos}{it acc:Value}(AP:Nat->Shared->Prop)
  (turn:∀n s,AP n s->wpAny (model prog w) A (pyNext it) (λr s1=>match r with
   |none=>R (.ok .next) s1
   |some v=>wpAny (model prog w) A (letOwnedTupleGo target it v) (λ_ s2=>wpAny (model prog w) A (assign target env v) (λ_ s3=>
     wpAny (model prog w) A (forIn ifs true λc r=>if r=true then do let ok <-isTrue c env (eval c env);pure (ForInStep.yield ok) else pure (ForInStep.yield r)) (λok s4=>
      if ok=true then wpAny (model prog w) A (eval elt env) (λx s5=>
       wpAny (model prog w) A (call (.builtin "list.append") [acc,x]) (λ_ s6=>∃m,m<n/\AP m s6) (λ_ _=>False) s5) (λ_ _=>False) s4
      else ∃m,m<n/\AP m s4) (λ_ _=>False) s3) (λ_ _=>False) s2) (λ_ _=>False) s1) (λ_ _=>False) s)
  (n:Nat)(h:AP n s):codeAny (model prog w) A (.compLoop (.ListComp elt [⟨target,iter,ifs,0⟩] scope pos) 0 it acc env) R s:=by
 refine codeAny_loop Z AP (λn s hI=>?_) n h;show wpAny _ A ((compTurn (.ListComp elt [⟨target,iter,ifs,0⟩] scope pos) 0 it acc env).onRaise λx=>do noteFrame x env;theTreesLotGoes x) _ _ s
 refine wpAny_noted ?_;rw[compTurn_list];refine XU (wpAny_standAt<|XU<|Ut (turn n s hI) (λr s1 h1=>?_) λ_ _ z=>z.elim);cases r with
 |none=>exact Yk h1
 |some v=>
  refine XU (Ut h1 (λ_ s2 h2=>?_) λ_ _ z=>z.elim);refine XU (Ut h2 (λ_ s3 h3=>XU<|Ut h3 (λok s4 h4=>?_) λ_ _ z=>z.elim) λ_ _ z=>z.elim);cases ok with
  |false=>exact Yk ⟨Z,h4⟩
  |true=>
   exact XU (XU<|Ut h4 (λx s5 h5=>XU<|Ut h5 (λ_ s6 h6=>Yk<|Yk ⟨Z,h6⟩) λ_ _ z=>z.elim) λ_ _ z=>z.elim)
noncomputable def RX(cells:List (Str×Addr)):List (Str×NameKind)->List (Str×Addr)->List (Str×Addr)
 |[],acc=>acc
 | (n,k)::r,acc=>if k == .free then RX cells r ((n,(cells.lookup n).getD 0)::acc) else RX cells r acc
theorem dD:∀names acc,(∀y∈names,y.2=.free->∃c,env.cells.lookup y.1=some c)->
  (forIn names acc λ(x:Str×NameKind) (cs:List (Str×Addr))=>(if (x.2 == .free)=true then do let a <-cellOf env x.1;pure (ForInStep.yield<|(x.1,a)::cs) else pure (ForInStep.yield cs):Sem (ForInStep<|List<|Str×Addr)))=pure (RX env.cells names acc)
 |[],acc,_=>rfl
 | (n,k)::r,acc,h=>by
  have ih:=λacc=>dD r acc λy hy=>h y (Yf _ hy);rw[List.forIn_cons];unfold RX;by_cases hk:(k == NameKind.free)=true
  .obtain⟨c,hc⟩:=h (n,k) Ya (by simpa using hk);have e:cellOf env n=pure c:=by unfold cellOf;rw[show env.cells.lookup n=some c from hc]
   simp only[hk,Oh,e,pure_bind];rw[ih,show env.cells.lookup n=some c from hc];rfl
  .simp only[hk,Fu,JI,pure_bind];exact ih acc
theorem ZX7(h:∀y∈scope.names,y.2=.free->∃c,env.cells.lookup y.1=some c):closureFor scope env=pure (RX env.cells scope.names []):=by have e:=dD scope.names [] h;unfold closureFor;simp only[bind_pure]at e ⊢;exact e
theorem rL{env:Env}:∀names acc,(∀y∈names,y.2=.free->∃c,env.cells.lookup y.1=some c)->(∀x c,acc.lookup x=some c->env.cells.lookup x=some c)->
  ∀x c,(RX env.cells names acc).lookup x=some c->env.cells.lookup x=some c
 |[],acc,_,ha,x,c,e=>ha x c e
 | (n,k)::r,acc,h,ha,x,c,e=>by
  unfold RX at e;by_cases hk:(k == NameKind.free)=true
  .rw[if_pos hk]at e;obtain⟨d,hd⟩:=h (n,k) Ya (by simpa using hk);refine rL r _ (λy hy=>h y<|Yf _ hy) (λy b q=>?_) x c e;rw[LB]at q;by_cases hy:(y == n)=true
   .rw[hy]at q;have Jc:y=n:=by simpa using hy
    have Qc:env.cells.lookup n=some d:=hd;rw[Qc]at q;have q':d=b:=Yh q
    rw[Jc,Qc,q']
   .have Jc:(y == n)=false:=by simpa using hy
    rw[Jc]at q;exact ha y b q
  .rw[if_neg hk]at e;exact rL r acc (λy hy=>h y<|Yf _ hy) ha x c e
theorem rK:∀names acc x,(acc.lookup x).isSome=true->((RX cells names acc).lookup x).isSome=true
 |[],_,_,h=>h
 | (n,k)::r,acc,x,h=>by
  unfold RX;by_cases hk:(k == NameKind.free)=true
  .rw[if_pos hk];refine rK r _ x ?_;rw[LB];by_cases hx:(x == n)=true
   .rw[hx];rfl
   .have UO:(x == n)=false:=by simpa using hx
    rwa[UO]
  .rw[if_neg hk];exact rK r acc x h
theorem xX:∀names acc x,(x,NameKind.free)∈names->((RX cells names acc).lookup x).isSome=true
 |[],_,_,h=>nomatch h
 | (n,k)::r,acc,x,h=>by
  unfold RX;rcases Ye.mp h with e|h
  .cases e;rw[if_pos uw];refine rK r _ _ ?_;rw[LB];simp
  .by_cases hk:(k == NameKind.free)=true
   .rw[if_pos hk];exact xX r _ x h
   .rw[if_neg hk];exact xX r _ x h
theorem MT{env:Env}:∀{names:List (Str×NameKind)}{x:Str}{k:NameKind},(names.map λ(n,k)=>if (k == NameKind.free&&env.scope.kind == .function&&env.kindOf n == some .cell) then (n,NameKind.cell) else (n,k)).lookup x=some k->
  (k=.cell\/k=.free)->(x,NameKind.free)∈names\/(x,NameKind.cell)∈names
 |[],_,_,h,_=>by simp at h
 | (n,q)::r,x,k,h,hk=>by
  have h':List.lookup x ((if (q == NameKind.free&&env.scope.kind == .function&&env.kindOf n == some .cell)=true then (n,NameKind.cell) else (n,q))::r.map λ(n,k)=>if (k == NameKind.free&&env.scope.kind == .function&&env.kindOf n == some .cell) then (n,NameKind.cell) else (n,k))=some k:=h;by_cases hc:(q == NameKind.free&&env.scope.kind == .function&&env.kindOf n == some .cell)=true
  .rw[if_pos hc,LB]at h';have hq:q=.free:=by simp only[Lz,Sd]at hc;exact hc.1.1
   by_cases hx:(x == n)=true
   .have UO:x=n:=by simpa using hx
    subst UO;subst hq;exact .inl Ya
   .have UO:(x == n)=false:=by simpa using hx
    rw[UO]at h';rcases MT (env:=env) h' hk with z|z
    .exact .inl (Yf _ z)
    .exact .inr (Yf _ z)
  .rw[if_neg hc,LB]at h';by_cases hx:(x == n)=true
   .rw[hx]at h';have UO:x=n:=by simpa using hx
    subst UO;have e:q=k:=Yh h'
    subst e;rcases hk with rfl|rfl
    .exact .inr Ya
    .exact .inl Ya
   .have UO:(x == n)=false:=by simpa using hx
    rw[UO]at h';rcases MT (env:=env) h' hk with z|z
    .exact .inl (Yf _ z)
    .exact .inr (Yf _ z)
theorem rJ{env:Env}:∀{names:List (Str×NameKind)}{x:Str},names.lookup x=some .free->
  (names.map λ(n,k)=>if (k == NameKind.free&&env.scope.kind == .function&&env.kindOf n == some .cell) then (n,NameKind.cell) else (n,k)).lookup x=some .cell\/
  (names.map λ(n,k)=>if (k == NameKind.free&&env.scope.kind == .function&&env.kindOf n == some .cell) then (n,NameKind.cell) else (n,k)).lookup x=some .free
 |[],_,h=>by simp at h
 | (n,q)::r,x,h=>by
  show List.lookup x ((if (q == NameKind.free&&env.scope.kind == .function&&env.kindOf n == some .cell)=true then (n,NameKind.cell) else (n,q))::_)=_\/List.lookup x ((if (q == NameKind.free&&env.scope.kind == .function&&env.kindOf n == some .cell)=true then (n,NameKind.cell) else (n,q))::_)=_;rw[LB]at h;by_cases hc:(q == NameKind.free&&env.scope.kind == .function&&env.kindOf n == some .cell)=true
  .rw[if_pos hc,LB];by_cases hx:(x == n)=true
   .rw[hx];exact .inl rfl
   .have UO:(x == n)=false:=by simpa using hx
    rw[UO]at h ⊢;exact rJ h
  .rw[if_neg hc,LB];by_cases hx:(x == n)=true
   .rw[hx]at h ⊢;exact .inr h
   .have UO:(x == n)=false:=by simpa using hx
    rw[UO]at h ⊢;exact rJ h
noncomputable def UC(X:Cx)(N':List Str)(scope:Scope)(C:Addr)(s:Shared)(H:Hp)(fp:List Addr):Cx where
 prog:=X.prog
 w:=X.w
 K:=X.K
 mg:=X.mg
 base:=X.base
 A:=X.A
 N:=N'
 s₀:=s
 H₀:=H
 env:=compEnvC scope (RX X.env.cells scope.names []) C X.env
 outer:=X.stack
 stack:=X.stack
 ex:=fp
 fn:=λ_=>false
 calm:=X.calm
 pn:=[]
 xe:=λ_ _=>False
noncomputable def σC(o:Nat)(fr:List Nat)(σ:St):St:=List.replicate o none++fr.map λj=>(σ[j]?).join
structure CompScope (sc0:Scope) (N N':List Str) (o:Nat) (fr:List Nat) (scope:Scope):Prop where
 kind:scope.kind=.function
 nocell:(scope.names.all λy=>y.2 != .cell)=true
 loc:(scope.names.all λy=>y.2 != .local||scope.names.lookup y.1 == some .local)=true
 free:(scope.names.all λy=>y.2 != .free||sc0.names.lookup y.1 == some .cell||sc0.names.lookup y.1 == some .free)=true
 len:N'.length=o+fr.length
 sees:((List.range fr.length).all λj=>match fr[j]? with
  |none=>false
  |some y=>match N[y]? with
   |none=>false
   |some x=>N'[o+j]? == some x&&scope.names.lookup x == some .free)=true
noncomputable def MS(AP:It)(g:TG)(tt:TT)(te:TE)(o:Nat)(fr:List Nat)(σ:St)(H1:Hp)(Q:VK):Prop:=∃W:Nat->Nat->List V->Hp->Prop,(∃m,W 0 m [] H1)/\∀i m ys H,W i m ys H->
 (AP.stop i H/\ys.length<=sizeLine/\∀p,H p=none->Q (.ref p) (upd H p<|.lst ys))\/
 (AP.go i H/\ys.length<sizeLine/\∀x H',AP.yld i H x H'->g x (σC o fr σ) H' λσ2 H2=>tt σ2 H2 λb H3=>if b=true then te σ2 H3 λy H4=>∃m',m'<m/\W (i+1) m' (ys++[y]) H4 else ∃m',m'<m/\W (i+1) m' ys H3)
noncomputable def rH(wi:TI)(g:TG)(tt:TT)(te:TE)(o:Nat)(fr:List Nat):TE:=λσ H Q=>wi σ H λAP H1=>MS AP g tt te o fr σ H1 Q
noncomputable def PH(o:Nat)(g:TG):Prop:=∀x ow fr H Q,ow.length=o->g x (ow++fr) H Q->g x (ow++fr) H λσ2 H2=>(∃DN,DN.length=o/\σ2=DN++fr)/\Q σ2 H2
theorem Zv(h:i<o):PH o (SK i):=λx ow fr H Q hl q=>⟨⟨ow.set i<|some x,by rw[Lx];exact hl,by rw[List.set_append_left _ _ J]⟩,q⟩
noncomputable def MR(o:Nat)(g:Nf):Prop:=∀xs ow fr H Q,ow.length=o->g xs (ow++fr) H Q->g xs (ow++fr) H λσ2 H2=>(∃DN,DN.length=o/\σ2=DN++fr)/\Q σ2 H2
theorem PF:MR o ED:=λ_ ow _ _ _ hl zz=>by obtain⟨e,q⟩:=zz;exact⟨e,⟨ow,hl,Z⟩,q⟩
theorem Oa(h:i<o)(h2:MR o u):MR o (EC (SK i) u):=by
 rintro xs ow fr H Q hl ⟨v,r,rfl,q⟩;refine⟨v,r,Z,?_⟩;have q':u r ((ow++fr).set i (some v)) H Q:=q
 show u r ((ow++fr).set i (some v)) H _;rw[List.set_append_left _ _ ur]at q' ⊢;exact h2 r (ow.set i<|some v) fr H Q (by rwa[Lx]) q'
theorem PD{K:Ad}{o n:Nat}{u:Nf}(h:MR o u):PH o (Jx K n u):=by rintro x ow fr H Q hl ⟨a,xs,rfl,hs,hn,q⟩;exact⟨a,xs,Z,hs,hn,h xs ow fr H Q hl q⟩
section
variable{X:Cx}{pins:List (Addr×Obj)}{σ:St}{H:Hp}{s:Shared}{N':List Str}{o:Nat}{fr:List Nat}{scope:Scope}{fp:List Addr}
noncomputable abbrev UB (us:Ag):Obj:={cls:=.type "list",data:=.seq us.toArray us.length}
theorem CompScope.nocell'(uo:CompScope sc0 N N' o fr scope):∀y∈scope.names,y.2≠.cell:=λy hy e=>by have q:=RG.mp uo.nocell y hy;rw[e]at q;exact absurd q S
theorem CompScope.loc'(uo:CompScope sc0 N N' o fr scope):∀y∈scope.names,y.2=.local->scope.names.lookup y.1=some .local:=λy hy e=>by have q:=RG.mp uo.loc y hy;rw[e]at q;simpa using q
theorem CompScope.free'(uo:CompScope sc0 N N' o fr scope)(hs:X.env.scope=sc0):∀y∈scope.names,y.2=.free->X.env.kindOf y.1=some .cell\/X.env.kindOf y.1=some .free:=λy hy e=>by
 have q:=RG.mp uo.free y hy;rw[e]at q;show X.env.scope.names.lookup y.1=_\/X.env.scope.names.lookup y.1=_
 rw[hs];simpa using q
theorem CompScope.sees'(uo:CompScope sc0 N N' o fr scope):∀j y,fr[j]?=some y->∃x,N[y]?=some x/\N'[o+j]?=some x/\scope.names.lookup x=some .free:=λj y e=>by
 have hj:j<fr.length:=(Xs.mp e).1;have q:=RG.mp uo.sees j (YI.mpr hj)
 rw[e]at q;dsimp only at q;cases ex:N[y]? with
 |none=>rw[ex]at q;cases q
 |some x=>
  rw[ex]at q;dsimp only at q;rw[Lz,Sd,Sd]at q;exact⟨x,Z,q.1,q.2⟩
theorem CompScope.cells(uo:CompScope sc0 N0 N' o fr scope)(hs:X.env.scope=sc0)(I:Inv X pins σ H s):∀y∈scope.names,y.2=.free->∃c,X.env.cells.lookup y.1=some c:=λy hy e=>I.ok.has y.1 (uo.free' hs y hy e)
theorem CompScope.sub(uo:CompScope sc0 N0 N' o fr scope)(hs:X.env.scope=sc0)(I:Inv X pins σ H s):∀x c,(RX X.env.cells scope.names []).lookup x=some c->X.env.cells.lookup x=some c:=
 rL (env:=X.env) scope.names [] (uo.cells hs I) (λ_ _ z=>nomatch z)
theorem Inv.block(uo:CompScope sc0 N0 N' o fr scope)(hs:X.env.scope=sc0)(hN:X.N=N0)(I:Inv X pins σ H s)(hf:∀b∈fp,FpOk X pins H b)(RW:∀b∈fp,b<s.heap.objs.size){h1:Heap}{C um:Addr}{m:Af}{t:Nat}
  (hC:s.heap.objs.size<=C)(hD:s.heap.objs.size<=um)(NZ:um≠C)
  (old:∀b ob,s.heap.get? b=some ob->h1.get? b=some ob)(hn:h1.Ns C m)(ha:h1.get? um=some (UB us)):Inv (UC X N' scope C s H fp) [(um,UB us)] (σC o fr σ) H {s with heap:=h1,toks:=t}:=by
 have sub:=uo.sub hs I;have frC:∀b∈Wd X.stack,b<s.heap.objs.size:=λb hb=>by obtain⟨_,ob,ho,_⟩:=I.stack.mem hb;exact Yp ho
 refine⟨⟨I.ok.mod,uo.kind,I.ok.glob,I.ok.blt,hC,λx y c h1 h2=>I.ok.inj x y c (sub x c h1)<|sub y c h2,λx hx=>?_,λx c hfx _=>(nomatch hfx),I.ok.hd,I.ok.frames,.inl Z,λb hb=>?_,I.bs,Ys I.ok.bsz I.sz,λb ob e hb=>?_,λb hb PB=>?_,I.stack,I.stkFree⟩,
  rfl,I.bare,Un.kept old,⟨m,hn,λi x v e1 e2 e3=>?_⟩,λx c e=>?_,I.hok.fresh hC,λx c e=>I.freeC x c<|sub x c e,λp hp=>?_,I.hok.kept old,?_⟩
 .have UO:(relabel scope X.env).names.lookup x=some .cell\/(relabel scope X.env).names.lookup x=some .free:=hx;have key:(x,NameKind.free)∈scope.names:=by
   rcases UO with z|z
   .rcases MT (env:=X.env) z (.inl rfl) with q|q
    .exact q
    .exact absurd Z (uo.nocell' _ q)
   .rcases MT (env:=X.env) z (.inr rfl) with q|q
    .exact q
    .exact absurd Z (uo.nocell' _ q)
  exact JK.mp (xX (cells:=X.env.cells) scope.names [] x key)
 .obtain⟨f0,f1,f2,f3,f4,f5⟩:=hf b hb;exact⟨Yy<|Yt (RW b hb) hC,λx c e=>f4 x c<|sub x c e⟩
 .obtain⟨f0,f1,f2,f3,f4,f5⟩:=hf b hb;rcases f3 with z|z
  .exact I.ok.noex b ob e z
  .exact absurd (Yt (Yp e)<|Ys I.ok.bsz z) (RF _)
 .obtain⟨f0,f1,f2,f3,f4,f5⟩:=hf b hb;rcases Ye.mp (I.stkSub b PB) with z|z
  .exact f1 z
  .exact f2 z
 .unfold σC at e2;by_cases hi:i<o
  .rw[Yw (by rwa[YK]),yY,if_pos hi]at e2;cases e2
  .rw[Yv (by rw[YK];exact Nat.not_lt.mp hi),YK,Yo]at e2;cases hy:fr[i-o]? with
   |none=>rw[hy]at e2;cases e2
   |some y=>
    rw[hy]at e2;have xW:(σ[y]?).join=some v:=Yh e2
    have e3':σ[y]?=some (some v):=by
     cases q:σ[y]? with
     |none=>rw[q]at xW;cases xW
     |some z=>rw[q]at xW;exact XB some xW
    obtain⟨x',s2,s1,s3⟩:=uo.sees' (i-o) y hy;rw[<-hN]at s2;rw[show o+(i-o)=i by grind]at s1;have ex:x=x':=by have e1':N'[i]?=some x:=e1;rw[e1']at s1;exact Yh s1
    subst ex;have hmem:=JZ s3
    obtain⟨m0,_,hl⟩:=I.loc;have hk:=uo.free' hs (x,.free) hmem rfl
    obtain⟨u,ru,lk⟩:=hl y x v s2 e3' (by rcases hk with z|z;exact .inr (.inl z);exact .inr<|.inr z);refine⟨u,ru,.inr ⟨rJ (env:=X.env) s3,?_⟩⟩;obtain⟨c',WI⟩:=JK.mp (xX (cells:=X.env.cells) scope.names [] x hmem);refine⟨c',WI,?_⟩;rcases lk with ⟨z,_⟩|⟨_,c,e,ob,ho,hd⟩
    .rcases hk with z'|z'
     .rw[z]at z';cases z'
     .rw[z]at z';cases z'
    .have ec:c=c':=by
      have:=sub x c' WI
      rw[e]at this;exact Yh this
     subst ec;exact⟨ob,old _ _ ho,hd⟩
 .obtain⟨v,ob,ho,hd⟩:=I.cell x c (sub x c e);exact⟨v,ob,old _ _ ho,hd⟩
 .have e:p=(um,UB us):=by simpa using (show p∈([]:List (Addr×Obj))++[(um,UB us)] from hp)
  subst e;refine⟨ha,I.hok.fresh hD,NZ,λz=>absurd (Yt (frC um z) hD)<|RF _,λv z=>nomatch z⟩
 .show(σC o fr σ).length=N'.length;unfold σC;rw[Xt,YK,Yb,uo.len]
theorem Inv.unblock(I:Inv X pins σ H s)(hf:∀b∈fp,FpOk X pins H b){σ':St}{s':Shared}(hC:s.heap.objs.size<=C)(hD:s.heap.objs.size<=um)(NZ:um≠C)
  (I':Inv (UC X N' scope C s H fp) [(um,UB us)] σ' H' s')(r:Vals ys us)(hz:ys.length<=sizeLine):∃oC m,s'.heap.get? C=some oC/\s'.heap.Ns C m/\Inv X (pins++[(C,oC)]) σ (upd H' um<|.lst ys) s':=by
 obtain⟨aD,nD,_,_,_⟩:=I'.pin (um,UB us) B;have aD:s'.heap.get? um=some (UB us):=aD
 have nD:H' um=none:=nD;have un:Un (Wd X.stack) fp H H' s.heap s'.heap:=I'.base
 have lt:∀b u,H b=some u->b≠um:=λb u e=>Yy (Yt (I.hok.lt e) hD);have rG:Un (Wd X.stack) fp H (upd H' um<|.lst ys) s.heap s'.heap:=by
  refine⟨un.keep,un.slot,λb ob e n hx=>?_,un.there,λb xs e=>?_,λb ob u e=>?_,λb ps e=>?_⟩
  .rw[Zc (Yy<|Yt (Yp e) hD)];exact un.free b ob e n hx
  .rw[Zc (lt b _ e)];exact un.tups b xs e
  .rw[Zc (lt b _ e)];exact un.frzs b ob u e
  .obtain⟨more,q⟩:=un.tbls b ps e;exact⟨more,by rwa[Zc (lt b _ e)]⟩
 have hok:HOk X.prog X.w (upd H' um<|.lst ys) s'.heap:=λb u e=>by
  by_cases hb:b=um
  .subst hb;rw[XS]at e;cases e;exact⟨hz,us,us.length,r,aD⟩
  .rw[Zc hb]at e;exact(I'.hok b u e).stay (λc v _ q=>q) (λc q=>by rwa[Zc (Zd q nD)]) λc xs q=>by rwa[Zc (Zd q nD)]
 have os:s'.os=s.os:=I'.os;have AP:Inv X pins σ (upd H' um<|.lst ys) s':=I.call' (ch:=fp) os rG hok I'.bare λb hb=>by obtain⟨f0,f1,f2,f3,f4,f5⟩:=hf b hb;exact⟨f3,f1,f4,f5⟩
 obtain⟨m,hn,_⟩:=I'.loc;have hn:s'.heap.Ns C m:=hn
 obtain⟨oC,es,ep,rF,hdC,_⟩:=id hn;refine⟨oC,m,rF,hn,AP.pins_of λp hp=>?_⟩;rcases Xz.mp hp with z|z
 .exact AP.pin p (Yi _ z)
 .have e:p=(C,oC):=by simpa using z
  subst e;have nC:H' C=none:=I'.free
  refine⟨rF,by rw[Zc (XI NZ)];exact nC,RE<|Yt I.lt hC,I.nofs hC,λv z=>?_⟩;have z':oC.data=.cell v:=z
  rw[hdC]at z';cases z'
end
section
variable{X:Cx}{N':List Str}{o:Nat}{fr:List Nat}{scope:Scope}{elt tg iter:Expr}{ifs:List Expr}{pos:Pos}{wi:TI}{g:TG}{tt:TT}{te:TE}
theorem DM(hc:X.calm=true)(uo:CompScope sc0 N0 N' o fr scope)(hi:PI X tg iter wi)(ho:PH o g)
  (hg:∀C s H fp,PG (UC X N' scope C s H fp) tg g)
  (ht:∀C s H fp,DO (UC X N' scope C s H fp) ifs tt)
  (he:∀C s H fp,PE (UC X N' scope C s H fp) elt te)
  (hs:∀x,foldedSetIterable iter X.env x=pure x)(QC:X.env.scope=sc0)(DL:X.N=N0)(I:Inv X pins σ H s)(h:rH wi g tt te o fr σ H Qv)
  {use:Option (Value->Sem Unit)}{Q:Ae}{E:Ae}
  (hE:∀e s',X.xe e s'->E e s')
  (fin:∀C oC um m H' ys s',Inv X (pins++[(C,oC)]) σ (upd H' um<|.lst ys) s'->Qv (.ref um) (upd H' um<|.lst ys)->s'.heap.Ns C m->H' C=none->C≠um->
   C≠X.env.locals->X.s₀.heap.objs.size<=C->(∀x c,X.env.cells.lookup x=some c->c≠C)->(∀p∈X.pn++pins,p.1≠C)->compPost (model X.prog X.w) X.A E use Q (.ref um) C (.ok .next) s'):
  wpAny (model X.prog X.w) X.A (comprehension (.ListComp elt [⟨tg,iter,ifs,0⟩] scope pos) scope X.env (firstIterPos [⟨tg,iter,ifs,0⟩] pos) (newList []) false (eval iter X.env) use) Q E s:=by
 refine wpAny_comprehension_free (use:=use) Z hs (ZX7<|uo.cells QC I) uo.kind uo.loc' (Ut (hi pins s σ H _ I h) (λxv s1 h1=>Ut h1 (λtQ s2 h2=>?_) hE) hE);obtain⟨it,fp,tn,AP,H2,rfl,I2,T,MZ,f2,W,⟨m0,w0⟩,turn⟩:=h2;have RW:∀b∈fp,b<s2.heap.objs.size:=λb hb=>by obtain⟨ob,e,_⟩:=T.obj 0 _ MZ b hb;exact Yp e
 refine Nz (wpAny_newFunctionEnv uo.nocell' (by intro y hy;simp at hy) (λh1 Jb MQ=>?_) uo.kind);dsimp only at Jb MQ ⊢;generalize rE:s2.heap.push {cls:=.type "list",dict:=none,data:=.seq ([]:Ag).toArray}=G at Jb MQ ⊢;have dC:G.objs.size=s2.heap.objs.size+1:=by rw[<-rE,Us]
 have hC:s2.heap.objs.size<=G.objs.size:=by rw[dC];exact Uc _
 have NZ:s2.heap.objs.size≠G.objs.size:=by rw[dC];exact Yy (Ol _)
 have old:∀b ob,s2.heap.get? b=some ob->h1.get? b=some ob:=λb ob e=>
  MQ.extBut b ob (Yy<|Yt (Yp e) hC) (Xb _<|rE▸Xb _ e)
 have VR:h1.get? s2.heap.objs.size=some (UB []):=MQ.extBut _ _ NZ (Xb _<|rE▸Yj _ Z);have Ja:tn 0 h1:=T.keep _ _ _ MZ λb _ ob e=>old b ob e
 have rD:∀{us:Ag}{H':Hp},(∀b∈fp,H' b=none)->∀b∈fp,FpOk (UC X N' scope G.objs.size s2 H2 fp) [(s2.heap.objs.size,UB us)] H' b:=λ{us H'} hn b hb=>by
  obtain⟨f0,f1,f3,f4,f5,f6⟩:=f2 b hb;refine⟨hn b hb,Yy<|Yt (RW b hb) hC,λz=>?_,.inl hb,λx c e=>f5 x c<|uo.sub QC I2 x c e,λp hp=>?_⟩
  .rcases Ye.mp (I2.stkSub b z) with q|q
   .exact f1 q
   .exact f3 q
  .have e:p=(s2.heap.objs.size,UB us):=by simpa using (show p∈([]:List (Addr×Obj))++[(s2.heap.objs.size,UB us)] from hp)
   subst e;exact RE (RW b hb)
 have loop:∀s3:Shared,s3={s2 with heap:=h1,toks:=s2.toks+([]:List (Str×Value)).length}->
   codeAny (model X.prog X.w) X.A (.compLoop (.ListComp elt [⟨tg,iter,ifs,0⟩] scope pos) 0 (.ref it) (.ref s2.heap.objs.size)<|compEnvC scope (RX X.env.cells scope.names []) G.objs.size X.env)
    (compPost (model X.prog X.w) X.A E use Q (.ref s2.heap.objs.size) G.objs.size) s3:=by
  rintro s3 rfl;refine ZP4 (λn s'=>∃i σ' H' ys us,Inv (UC X N' scope G.objs.size s2 H2 fp) [(s2.heap.objs.size,UB us)] σ' H' s'/\σ'=σC o fr σ/\Vals ys us/\tn i s'.heap/\(∀b∈fp,H' b=none)/\W i n ys H') ?_ m0
   ⟨0,_,H2,[],[],I2.block uo QC DL f2 RW hC (XO _) NZ old Jb VR,Z,.nil,Ja,λb hb=>(f2 b hb).1,w0⟩
  rintro n s' ⟨i,σ',H',ys,us,I',rfl,rv,Uq,dB,w'⟩;rcases turn i n ys H' w' with ⟨stop,hz,q⟩|⟨go,hz,step⟩
  .refine thn (T.done (UC X N' scope G.objs.size s2 H2 fp) Z Z Z hc i _ s' _ H' _ I' (rD dB) Uq stop) λr s4 zz=>?_;obtain⟨hr,I4⟩:=zz;subst hr;obtain⟨oC,m,rF,hn,J4⟩:=I2.unblock f2 hC (XO _) NZ I4 rv hz;exact fin _ oC _ m H' ys s4 J4 (q _ (I4.pin (s2.heap.objs.size,UB us) B).2.1) hn I4.free (XI NZ) (RE<|Yt I2.lt hC) (Ys I2.sz hC)
    (λx c e=>by obtain⟨v,z⟩:=I2.cell x c e;exact Yy<|Yt z.lt hC) λp hp=>Yy (Yt (Yp (I2.pin p hp).1) hC)
  .refine thn (T.item (UC X N' scope G.objs.size s2 H2 fp) Z Z Z hc i _ s' _ H' _ I' (rD dB) Uq go) λr s4 Xy=>?_;obtain⟨u,hr,h4⟩:=Xy;subst hr;refine thn h4 λ_ s5 Xy=>?_;obtain⟨x,H5,I5,r5,y5,Ju,tJ⟩:=Xy;have Wx:=step x H5 y5
   have rC:=ho x (List.replicate o none) (fr.map λj=>(σ[j]?).join) H5 _ (YK ..) Wx;have tI:=I5.pinned (rD (us:=us) tJ) (T.obj _ _ Ju)
   refine thn (hg _ _ _ _ _ s5 _ H5 x u _ tI r5 rC) λ_ s6 Xy=>?_;obtain⟨σ6,H6,I6,⟨ow,QB,e6⟩,q6⟩:=Xy;subst e6;refine thn (ht _ _ _ _ _ s6 _ H6 _ I6 q6) λb s7 Xy=>?_;obtain⟨H7,I7,q7⟩:=Xy;have back:∀{us':Ag}{σ8:St}{H8:Hp}{s8:Shared},Inv (UC X N' scope G.objs.size s2 H2 fp) ([(s2.heap.objs.size,UB us')]++Nb fp s5.heap) (ow++fr.map λj=>(σ[j]?).join) H8 s8->
     Inv (UC X N' scope G.objs.size s2 H2 fp) [(s2.heap.objs.size,UB us')] (σC o fr σ) H8 s8/\tn (i+1) s8.heap/\∀b∈fp,H8 b=none:=λ{us' σ8 H8 s8} I8=>by
    refine⟨I8.unpinned.weak ?_ λj v e=>?_,T.keep _ _ _ Ju λb hb ob e=>(I8.pin (b,ob)<|Yi _<|Yi _<|Na hb e).1,λb hb=>?_⟩
    .unfold σC;rw[Xt,Xt,YK,QB]
    .unfold σC at e;by_cases hj:j<o
     .rw[Yw (by rwa[YK]),yY,if_pos hj]at e;cases e
     .rw[Yv (by rw[YK];exact Nat.not_lt.mp hj),YK]at e;rwa[Yv (by rw[QB];exact Nat.not_lt.mp hj),QB]
    .obtain⟨ob,e,_⟩:=T.obj _ _ Ju b hb;exact(I8.pin (b,ob)<|Yi _<|Yi _<|Na hb e).2.1
   cases b with
   |false=>
    rw[if_neg Yz]at q7 ⊢;obtain⟨m',hm,w7⟩:=q7;obtain⟨I8,st8,fr8⟩:=back (us':=us) (σ8:=[]) I7;exact⟨m',hm,i+1,_,H7,ys,us,I8,Z,rv,st8,fr8,w7⟩
   |true=>
    rw[if_pos Z]at q7 ⊢;refine thn (he _ _ _ _ _ s7 _ H7 _ I7 q7) λy s8 Xy=>?_;obtain⟨yv,H8,I8,r8,m',hm,w8⟩:=Xy;obtain⟨aD,nD,_,_,_⟩:=I8.pin (s2.heap.objs.size,UB us) B;have aD:s8.heap.get? s2.heap.objs.size=some (UB us):=aD
    have nD:H8 s2.heap.objs.size=none:=nD;have hul:us.length<=sizeLine:=by rw[<-rv.length];exact Nt hz
    refine append_at (hsz:=by show us.toArray.size<=sizeLine;rwa[Yc]) aD λh9 hs9 hD9=>?_;have rB:h9.get? s2.heap.objs.size=some (UB<|us++[y]):=by
     rw[hD9];show some ({cls:=.type "list",data:=.seq (us.toArray.push y) (us.length+1)}:Obj)=some {cls:=.type "list",data:=.seq (us++[y]).toArray (us++[y]).length}
     rw[Xt,Yr,List.push_toArray]
    have I9:Inv (UC X N' scope G.objs.size s2 H2 fp) (Nb fp s5.heap) (ow++fr.map λj=>(σ[j]?).join) H8 {s8 with heap:=h9}:=
     (I8.pins_of (pins':=Nb fp s5.heap) λp hp=>I8.pin p<|Yi _<|Yi _ hp).turned (t':=s8.toks) (it:=s2.heap.objs.size) (λb ob hb e=>hs9.extBut b ob hb e) nD NZ (.inr<|XO _)
      (λx c e=>by obtain⟨v,z⟩:=I2.cell x c (uo.sub QC I2 x c e);exact Yy z.lt)
      λp hp=>by obtain⟨hb,_⟩:=d6 (show p∈Nb fp s5.heap from by simpa[UC] using hp);exact Yy (RW p.1 hb)
    have I9':Inv (UC X N' scope G.objs.size s2 H2 fp) ([(s2.heap.objs.size,UB<|us++[y])]++Nb fp s5.heap) (ow++fr.map λj=>(σ[j]?).join) H8 {s8 with heap:=h9}:=
     I9.pins_of λp hp=>by
      rcases Xz.mp hp with z|z
      .have e:p=(s2.heap.objs.size,UB<|us++[y]):=by simpa using z
       subst e;refine⟨rB,nD,NZ,λz=>?_,λv z=>nomatch z⟩;obtain⟨_,ob,Rp,_⟩:=I2.stack.mem z;exact RF _ (Yp Rp)
      .exact I9.pin p (Yi _ z)
    obtain⟨I10,rq,rp⟩:=back (us':=us++[y]) (σ8:=[]) I9';exact⟨m',hm,i+1,_,H8,ys++[yv],us++[y],I10,Z,Vals.append rv<|.cons r8 .nil,rq,rp,w8⟩
 exact codeAny_compStart_list (loop _ Z) (T.self _ 0 _ _ _ Ja<|loop _ Z)
theorem TZ(hc:X.calm=true)(uo:CompScope sc0 N0 N' o fr scope)(hi:PI X tg iter wi)(ho:PH o g)
  (hg:∀C s H fp,PG (UC X N' scope C s H fp) tg g)
  (ht:∀C s H fp,DO (UC X N' scope C s H fp) ifs tt)
  (he:∀C s H fp,PE (UC X N' scope C s H fp) elt te)
  (hs:∀x,foldedSetIterable iter X.env x=pure x:=by intro _;rfl)(QC:X.env.scope=sc0:=by rfl)(DL:X.N=N0:=by rfl):PE X (.ListComp elt [⟨tg,iter,ifs,0⟩] scope pos) (rH wi g tt te o fr):=by intro pins s σ H Q I h;rw[eval_ListComp];refine DM hc uo hi ho hg ht he hs QC DL I h (use:=none) (λ_ _ z=>z) λC oC um m H' ys s' AP q hn nC rn rm rj rh rg=>?_;refine⟨m,hn,λh' NY=>⟨.ref um,upd H' um<|.lst ys,?_,Z,q⟩⟩;refine AP.unpinned.turned (t':=s'.toks) (it:=C) (λb ob hb e=>NY.extBut b ob hb e) (by rwa[Zc rn]) rm (.inr rj) rh rg
theorem QA{x:Str}{px:Pos}{DK:Pos}(hc:X.calm=true)(hN:X.N.Nodup)(hx:X.N[i]?=some x)(hl:X.env.kindOf x=some .local)(uo:CompScope sc0 N0 N' o fr scope)(hi:PI X tg iter wi)(ho:PH o g)
  (hg:∀C s H fp,PG (UC X N' scope C s H fp) tg g)
  (ht:∀C s H fp,DO (UC X N' scope C s H fp) ifs tt)
  (he:∀C s H fp,PE (UC X N' scope C s H fp) elt te)
  (hs:∀x,foldedSetIterable iter X.env x=pure x:=by intro _;rfl)(QC:X.env.scope=sc0:=by rfl)(DL:X.N=N0:=by rfl)
  (hsw:swapsWith (.ListComp elt [⟨tg,iter,ifs,0⟩] scope pos) (some<|.Name x px) DK.line X.env=pure true:=by rfl):
  PS X (.Assign [.Name x px] (.ListComp elt [⟨tg,iter,ifs,0⟩] scope pos) DK) (Jw (rH wi g tt te o fr)<|SK i):=by
 intro pins s σ H um I h;rw[exec_Assign_Name_used _ _ _ _ hsw];refine XU (wpAny_standAt<|XU ?_);show wpAny _ X.A (do let _ <-comprehension (.ListComp elt [⟨tg,iter,ifs,0⟩] scope pos) scope X.env (firstIterPos [⟨tg,iter,ifs,0⟩] pos) (newList []) false (eval iter X.env) (some<|assign (.Name x px) X.env)) _ _ s
 refine XU (Ut (DM (Q:=λ_ s'=>SP X pins um .next s') hc uo hi ho hg ht he hs QC DL I h (use:=some<|assign (.Name x px) X.env) (λ_ _ z=>z) λC oC Dd m H' ys s' AP q hn nC rn rm rj rh rg=>?_) (λ_ s' hq=>Yk<|Yk hq) λ_ _ e=>e);show wpAny _ X.A (assign (.Name x px) X.env<|.ref Dd) _ _ _
 refine wpAny_assign_Name (uc AP hN hx (.inl hl) (v:=.ref Dd) Z (λs2 I2=>?_)<|.inr hl);have g1:=(I2.pin (C,oC) B).1
 have g1:s2.heap.get? C=some oC:=g1;have n2:s2.heap.Ns C m:=by
  obtain⟨oc,es,ep,e,r⟩:=hn;have e0:=(AP.pin (C,oC) B).1
  have e0:s'.heap.get? C=some oC:=e0;rw[e]at e0;cases e0;exact⟨_,es,ep,g1,r⟩
 refine⟨m,n2,λh' NY=>⟨_,upd H' Dd<|.lst ys,?_,q⟩⟩;exact I2.unpinned.turned (t':=s2.toks) (it:=C) (λb ob hb e=>NY.extBut b ob hb e) (by rwa[Zc rn]) rm (.inr rj) rh rg
end
section
variable{X:Cx}
theorem DJ{x y:V}{us:Ag}(r:Vals [x,y] us):∃u v,us=[u,v]/\RelV x u/\RelV y v:=by
 cases r with
 |cons a r=>
  cases r with
  |cons b r=>cases r;exact⟨_,_,Z,a,b⟩
theorem ZQ:∀{ns:Ac}{us:Ag},Vals (ns.map V.int) us->IntsAre us ns
 |[],_,.nil=>.nil
 |n::ns,_,.cons r t=>by obtain⟨tk,rfl⟩:=r;exact .cons n tk (ZQ t)
theorem dz:Vp X (.type "range") (λxs H Q=>∃j:Int,xs=[.int j]/\∀p,H p=none->Q (.ref p) (upd H p (.rng 0 j))):=by intro pins s σ H xs us Q I r h;obtain⟨j,rfl,q⟩:=h;obtain⟨u,rfl,t,rfl⟩:=WH r;refine call_range_1 ?_;exact⟨.ref s.heap.objs.size,_,I.laid (o:=.rng 0 j) (λb u e=>Xb _ e) (XO _) ⟨_,_,_,Yj _ Z⟩,Z,q _<|I.hok.fresh<|XO _⟩
noncomputable def Wa(lo hi:Int):Ac:=(List.range (hi-lo).toNat).map λ(i:Nat)=>lo+(i:Int)
theorem dy(lo hi:Int):(Wa lo hi).length=(hi-lo).toNat:=by unfold Wa;rw[Yb,Om]
theorem dw{lo:Int}:∀{us:Ag},us.length=n->(∀(j:Nat)(v:Value),us[j]?=some v->∃t,v=Value.int (lo+(j:Int)) t)->Vals (((List.range n).map λ(i:Nat)=>lo+(i:Int)).map V.int) us:=by
 induction n generalizing lo with
 |zero=>
  intro us h _;rw[YZ.mp h];exact .nil
 |succ n ih=>
  intro us h hv;cases us with
  |nil=>cases h
  |cons u us=>
   rw[List.range_succ_eq_map,WD,WD];refine .cons ?_ ?_
   .obtain⟨t,e⟩:=hv 0 u rfl;exact⟨t,e⟩
   .have q:=ih (lo:=lo+1) (us:=us) (Nv h) λj v e=>by obtain⟨t,e'⟩:=hv (j+1) v (by simpa using e);refine⟨t,?_⟩;rw[e'];congr 1;lia
    have e:(List.range n).map (λ(i:Nat)=>lo+1+(i:Int))=((List.range n).map Nat.succ).map (λ(i:Nat)=>lo+(i:Int)):=by
     rw[Lv];refine YY λi _=>?_;show lo+1+(i:Int)=lo+((i+1:Nat):Int)
     lia
    rwa[e]at q
theorem Zk4 (hc:X.calm=true):Vp X (.type "list") (λxs H Q=>∃p lo hi,xs=[.ref p]/\H p=some (.rng lo hi)/\(-(2^62)<=lo/\lo<2^62/\-(2^62)<=hi/\hi<2^62)/\(hi-lo).toNat<=16777216/\
  ∀l,H l=none->Q (.ref l) (upd H l<|.lst<|(Wa lo hi).map V.int)):=by
 intro pins s σ H xs us Q I r h;obtain⟨p,lo,hi,rfl,hp,⟨b1,b2,b3,b4⟩,hz,q⟩:=h;obtain⟨u,rfl,ru⟩:=WH r;obtain rfl:u=Value.ref p:=ru;obtain⟨t,u,v,e⟩:=(show ObjOk X.prog X.w H s.heap p (.rng lo hi) from I.hok p _ hp);have hn:Builtin.Range.rangeSize lo hi 1=(((hi-lo).toNat:Nat):Int):=by rw[rangeSize_one];split<;>grind
 refine call_list_range (I.ok.hd hc) (t:=t) (u:=u) (v:=v) e (small_one b1 b2 b3 b4) hn hz λh' tk acc c' hk hS ha=>?_;have hl:acc.toList.length=(hi-lo).toNat:=by rw[YC];exact ha.1
 have rv:Vals ((Wa lo hi).map V.int) acc.toList:=dw (lo:=lo) hl λj w ew=>by obtain⟨t,e⟩:=ha.2 j w (by simpa using ew);exact⟨t,by rw[e,Nq]⟩
 refine⟨.ref s.heap.objs.size,_,I.laid (o:=.lst<|(Wa lo hi).map V.int) hk (XO _) ⟨?_,acc.toList,c',rv,?_⟩,Z,q _<|I.hok.fresh<|XO _⟩
 .rw[Yb,dy]
  have:sizeLine=16777216:=TQ
  lia
 .rw[hS]
theorem Zj4 (hc:X.calm=true):Vp X (.builtin "sum") (λxs H Q=>∃(p:Addr)(ns:Ac),xs=[.ref p]/\SqL X.K H p (ns.map V.int)/\Q (.int ns.sum) H):=by
 intro pins s σ H xs us Q I r h;obtain⟨p,ns,rfl,hq,q⟩:=h;obtain⟨u,rfl,ru⟩:=WH r;obtain rfl:u=Value.ref p:=ru;obtain⟨XW,rv,pl,hz⟩:=I.list hq;have hi:=ZQ rv
 have Wm:=hi.allInts;obtain⟨xs,ex⟩:=Wm.items;have hl:=pl.isList
 rw[ex]at hl;refine sum_intListG (I.ok.hd hc) hl λh' tk t' hk=>?_;have e1:preSum (numAt xs) xs.size=ns.sum:=by have e2:=hi.numsOf;rw[show XW=XW.toArray.toList from Z,ex,nums_intItems]at e2;rw[preSum_eq,YN B,<-e2]
 exact⟨.int ns.sum,H,I.kept hk,⟨t',by rw[e1]⟩,q⟩
noncomputable def seen(ns:Ac):Ac:=firstMet (λi=>ns.getD i 0) ns.length
noncomputable def Gr(K:Ad)(a:Addr):It:=
 ⟨λi H=>∃xs x,SqL K H a xs/\xs[i]?=some x,λi H v H'=>∃T x,H T=none/\v=.ref T/\H'=upd H T (.tup [.int i,x])/\∀xs,SqL K H a xs->xs[i]?=some x,λi H=>∃xs,SqL K H a xs/\xs.length<=i⟩
noncomputable def DI(K:Ad)(ta:TA):TI:=λσ H R=>ta σ H λvs H1=>∃a,vs=[.ref a]/\(∃xs,SqL K H1 a xs)/\R (Gr K a) H1
theorem Zb8{P:Program}{w:World}{K:Ad}{elts:List Expr}{x1:Nat}{pos:Pos}(a e it:Addr)(XJ:e≠it):Turn P w K (.Tuple elts x1 pos) (Gr K a) [e,it] e (λi h=>(∃old,IsEnum h e it i old)/\h.IsListIter it a i) where
 mem:=B
 obj:=λi h st b hb=>by
  obtain⟨⟨old,he⟩,o,eo,c,d⟩:=st;rcases Ye.mp hb with z|hb
  .subst z;exact⟨_,he,λv z=>by have z':Data.fields _=Data.cell v:=z;cases z'⟩
  .have z:b=it:=by simpa using hb
   subst z;exact⟨o,eo,λv z=>by rw[d]at z;cases z⟩
 keep:=λi h h' st k=>by obtain⟨⟨old,he⟩,hit⟩:=st;exact⟨⟨old,k e B _ he⟩,hit.at λo x=>k it B o x⟩
 item:=by
  intro X hP hw hK hc i pins s σ H E I hf st hg;subst hP hw hK;obtain⟨xs,x,hq,hx⟩:=hg;obtain⟨⟨old,he⟩,hit⟩:=st;obtain⟨XW,rv,p,hz⟩:=I.list hq;obtain⟨u,hu,ru⟩:=rv.get hx;obtain⟨f0,f1,f2,f3,f4,f5⟩:=hf e B;obtain⟨g0,g1,g2,g3,g4,g5⟩:=hf it B;have rf:H s.heap.objs.size=none:=I.hok.fresh (XO _)
  refine wpAny_pyNext_enum_item he hit p.isList (x:=u) (by simpa using hu) XJ λh' ho rd hT hsz hk=>?_;have NX:∀b ob,s.heap.get? b=some ob->b≠s.heap.objs.size:=λb ob z=>Yy (Yp z)
  have Pz:∀b ob,H b=some ob->b≠s.heap.objs.size:=λb ob z=>Yy (I.hok.lt z);have NW:∀b ob,H b=some ob->b≠e/\b≠it:=λb ob z=>⟨λq=>(by rw[q,f0]at z;cases z),λq=>(by rw[q,g0]at z;cases z)⟩
  have I1:Inv X pins σ (upd H s.heap.objs.size<|.tup [.int i,x]) {s with heap:=h',toks:=s.toks+1}:=by
   refine I.step (g':=s.gens) (d':=s.drawn) (ch:=[e,it]) (λb hb=>?_) (λb o _ _ Wj z _=>hk b o (λq=>Wj<|by simp[q]) (λq=>Wj<|by simp[q]) z) (λb o _ _ Wj z _=>⟨o.slots,hk b o (λq=>Wj<|by simp[q]) (λq=>Wj<|by simp[q]) z⟩)
    (λb o _ z n=>by rwa[Zc (NX b o z)]) (λb o Wj z=>⟨o,hk b o (λq=>Wj<|by simp[q]) (λq=>Wj<|by simp[q]) z⟩) (λb ys z=>by rwa[Zc (Pz b _ z)]) (λb o v z=>by rwa[Zc (Pz b _ z)])
    (λb ps z=>⟨#[],by rw[Zc (Pz b _ z),z];simp⟩) (λm hm=>?_) (λb v z=>?_) I.bare
   .rcases Ye.mp hb with q|hb
    .rw[q];exact⟨f3,f1,f4,f5⟩
    .have q:b=it:=by simpa using hb
     rw[q];exact⟨g3,g1,g4,g5⟩
   .obtain⟨o,es,ep,Wu,r⟩:=hm;exact⟨o,es,ep,hk _ o (XI f1) (XI g1) Wu,r⟩
   .by_cases hb:b=s.heap.objs.size
    .subst hb;rw[XS]at z;cases z;exact⟨by show 2<=sizeLine;decide,[.int i s.toks,u],.cons ⟨_,Z⟩<|.cons ru .nil,⟨_,hT,Z,_,Z⟩⟩
    .rw[Zc hb]at z;refine(I.hok b v z).stay (λc w' WI q=>?_) (λc q=>by rwa[Zc (Pz c _ q)]) λc ys q=>by rwa[Zc (Pz c _ q)]
     rcases WI with rfl|WI
     .exact hk c w' (NW c _ z).1 (NW c _ z).2 q
     .exact hk c w' (NW c _ WI).1 (NW c _ WI).2 q
  refine⟨_,Z,wpAny_letOwnedTupleGo_enum ho λh2 Py Td=>?_⟩;have fT:e≠s.heap.objs.size:=NX e _ he
  have I2:Inv X pins σ (upd H s.heap.objs.size<|.tup [.int i,x]) {s with heap:=h2,toks:=s.toks+1}:=Inv.turned (s:={s with heap:=h',toks:=s.toks+1}) (h':=h2) (t':=s.toks+1) (it:=e) I1 (λb o hb z=>Td.extBut b o hb z) (by rwa[Zc fT]) f1 f3 f4 f5;refine⟨.ref s.heap.objs.size,_,I2,Z,⟨_,x,rf,Z,Z,λys hy=>by rwa[I.list_inj hy hq]⟩,⟨⟨u,by simpa using Py⟩,rd.at λo z=>Td.extBut it o (XI XJ) z⟩,λb hb=>?_⟩;rcases Ye.mp hb with q|hb
  .rw[q,Zc fT];exact f0
  .have q:b=it:=by simpa using hb
   obtain⟨o,eo,_⟩:=hit;rwa[q,Zc (NX it o eo)]
 done:=by
  intro X hP hw hK hc i pins s σ H E I hf st hg;subst hP hw hK;obtain⟨xs,hq,hx⟩:=hg;obtain⟨⟨old,he⟩,hit⟩:=st;obtain⟨XW,rv,p,hz⟩:=I.list hq;obtain⟨g0,g1,g2,g3,g4,g5⟩:=hf it B;have hl:=rv.length
  exact wpAny_pyNext_enum_end (I.ok.hd hc) he hit p.isList (by simp;lia) λh' eb=>⟨Z,I.turned (t':=s.toks) (it:=it) (λb o hb z=>eb b o hb z) g0 g1 g3 g4 g5⟩
 self:=λ_ _ _ _ _ st h=>by obtain⟨⟨_,he⟩,_⟩:=st;exact wpAny_pyIter_enum he h
theorem q9 {elts:List Expr} {x1:Nat} {SJ:Pos} {a:Expr} {ta:TA} {p pos:Pos} (hg:Gl X "enumerate") (hm:X.mg "enumerate"=none) (ha:PA X [a] ta) (hs:starEach [a] X.env=[(false,eval a X.env)]:=by rfl):
  PI X (.Tuple elts x1 SJ) (.Call (.Name "enumerate" p) [a] [] pos) (DI X.K ta):=by
 intro pins s σ H R I h;refine Call_ (QF I hg hm Boot.«enumerate»<|TR (thn (ha pos pins s σ H _ I h) λus s1 Xy=>?_) hs Z);obtain⟨vs,H1,I1,r1,q1⟩:=Xy;obtain⟨b,e,⟨xs,hq⟩,q⟩:=q1;subst e;obtain⟨u,rfl,ru⟩:=WH r1;obtain rfl:u=Value.ref b:=ru;obtain⟨XW,rv,pl,hz⟩:=I1.list hq;refine call_enumerate_list pl.isList λh' he hit hsz hk=>?_;have I2:Inv X pins σ H1 {s1 with heap:=h'}:=I1.kept (t':=s1.toks) hk
 refine wpAny_pyIter_enum he ?_;have nn:∀k,s1.heap.objs.size<=k->H1 k=none:=λk hk=>I1.hok.fresh hk
 refine⟨s1.heap.objs.size+1,[s1.heap.objs.size+1,s1.heap.objs.size],_,_,H1,Z,I2,Zb8 b _ _<|Nat.succ_ne_self _,⟨⟨_,he⟩,hit⟩,λc hc=>?_,q⟩;have hle:s1.heap.objs.size<=c:=by
  rcases Ye.mp hc with q|hc
  .rw[q];exact Uc _
  .have q:c=s1.heap.objs.size:=by simpa using hc
   rw[q];exact XO _
 exact I1.fpOk hle (nn c hle)
theorem DH{us:Ag}(r:Vals [kV k,y] us):∃u v,us=[u,v]/\RelV (kV k) u/\RelV y v:=DJ r
noncomputable def q8:V->List V->Hp->VK->Prop:=λx vs H Q=>∃d kvs k y,x=.ref d/\vs=[kV k,y]/\H d=some (.dK kvs)/\kvs.length<sizeLine/\(∀v,Wn kvs k=some v->Q v H)/\(Wn kvs k=none->Q y (upd H d<|.dK<|kvs++[(k,y)]))
theorem qZ:Ob X "dict.setdefault" q8:=by
 intro pins s σ H x vs v us Q I rx rv h;obtain⟨d,kvs,k,y,rfl,rfl,hH,hz,h1,h2⟩:=h;cases rx;obtain⟨uk,uy,rfl,rk,ry⟩:=DH rv;obtain⟨z,hd,ws,rel,dd⟩:=Je I.hok hH;refine call_meetsIn fw dd.typeIs PySem.F.entry_dict_setdefault (PySem.F.args_dict_setdefault_3 _ _ _) (kt_meets_setdefault (Ry X.prog X.w) d (rW rk) hd uy)
  ⟨ws,dd,by rw[<-rel.length];exact z,λv' yf=>?_,λhn h' dv hs=>?_⟩
 .cases e:Wn kvs k with
  |none=>
   have q:=rel.val k;rw[e,yf]at q;exact False.elim q
  |some w'=>
   have q:=rel.val k;rw[e,yf]at q;exact⟨w',H,I.tok _,q,h1 w' e⟩
 .have e:Wn kvs k=none:=by
   cases e:Wn kvs k with
   |none=>rfl
   |some w'=>
    have q:=rel.val k;rw[e,hn]at q;exact False.elim q
  have he:∃q,h'.get? d=some q:=by obtain⟨q,_,_,hq,_⟩:=dv;exact⟨q,hq⟩
  refine⟨y,_,rS (ob:=.dK<|putK kvs k y) I (by rw[hH];exact True.intro) hs he<|rR ?_ hd (rel.put k ry) dv,ry,?_⟩
  .have:=Zb6 kvs k y;lia
  .rw[rX y e];exact h2 e
noncomputable def Ro(p d:Addr):HO:=.ext λh=>h.IsValuesView p d
noncomputable def qY:V->List V->Hp->VK->Prop:=λx vs H Q=>∃d kvs,x=.ref d/\vs=[]/\H d=some (.dK kvs)/\∀p,H p=none->Q (.ref p) (upd H p<|Ro p d)
theorem Zx8:Ob X "dict.values" qY:=by
 intro pins s σ H x vs v us Q I rx rv h;obtain⟨d,kvs,rfl,rfl,hH,q⟩:=h;cases rx;cases rv;obtain⟨z,hd,ws,rel,dd⟩:=Je I.hok hH;refine call_meetsIn fi dd.typeIs PySem.F.entry_dict_values (PySem.F.args_dict_values_1 _) (meets_dict_values (Ry X.prog X.w) d hd) ⟨⟨ws,dd⟩,?_⟩;refine⟨.ref s.heap.objs.size,_,I.laid (o:=Ro s.heap.objs.size d) (λb u e=>Xb _ e) (XO _) ?_,Z,q _<|I.hok.fresh<|XO _⟩;have e:=Yj s.heap (o:={cls:=.type "dict_values",data:=.fields #[.ref d]}) rfl
 exact⟨⟨_,e,Z,Z⟩,⟨_,e⟩,λh1 h2 zz k=>by obtain⟨o,ho,r⟩:=zz;exact⟨o,k o ho,r⟩⟩
theorem qX{h:Heap}(dd:h.DictOf (Ry P w) d ws):∃ep,h.DictAt (Ry P w) d ws ep:=by obtain⟨o,es,ep,r⟩:=dd;exact⟨ep,o,es,r⟩
theorem qW{κ:Type}{kvs:List (κ×V)}{ws:List (κ×Value)}(h:KV kvs ws):Vals (kvs.map (·.2)) (ws.map (·.2)):=by
 induction h with
 |nil=>exact .nil
 |cons r t ih=>exact .cons r.2 ih
theorem ZI3 (hc:X.calm=true):Vp X (.type "list") (λxs H Q=>∃p d kvs,xs=[.ref p]/\H p=some (Ro p d)/\H d=some (.dK kvs)/\∀l,H l=none->Q (.ref l) (upd H l (.lst (kvs.map (·.2))))):=by
 intro pins s σ H xs us Q I r h;obtain⟨p,d,kvs,rfl,hp,hd,q⟩:=h;obtain⟨u,rfl,ru⟩:=WH r;obtain rfl:u=Value.ref p:=ru;obtain⟨hv,_,_⟩:=(show ObjOk X.prog X.w H s.heap p (Ro p d) from I.hok p _ hp);obtain⟨z,NV,ws,rel,dd⟩:=Je I.hok hd;obtain⟨ep,da⟩:=qX dd;have hl:ws.length=kvs.length:=rel.length.symm
 refine PySem.W.kdl_call (PySem.W.kdl_values (knd:=Ry X.prog X.w) (kvs:=ws) (ep:=ep) (r:=p) (d:=d)) (I.ok.hd hc) ⟨hv,da⟩ J λh' tk acc c' hk hS ha=>?_;have ea:acc.toList=ws.map (·.2):=by
  refine GK λi=>?_;cases e:acc.toList[i]? with
  |none=>
   have:ws.length<=i:=by
    have:=vE.mp e
    rwa[YC,ha.1]at this
   rw[vE.mpr (by rwa[Yb])]
  |some v=>
   obtain⟨k,ek⟩:=ha.2 i v (by simpa using e);rw[Yo,ek];rfl
 refine⟨.ref s.heap.objs.size,_,I.laid (o:=.lst (kvs.map (·.2))) hk (XO _) ⟨by rw[Yb];exact z,acc.toList,c',?_,by rw[hS]⟩,Z,q _<|I.hok.fresh<|XO _⟩;rw[ea];exact qW rel
end
inductive EqD (K:Ad) (H:Hp):Nat->V->V->Bool->Prop
 |flat {n:Nat} {x y:V} (fx:Tb x=true) (fy:Tb y=true):EqD K H n x y (Ta x y)
 |lsts {n:Nat} {a b:Addr} {xs ys:List V} {e:Nat->Bool} (ha:SqL K H a xs) (hb:SqL K H b ys) (hl:xs.length=ys.length) (h:∀i x y,xs[i]?=some x->ys[i]?=some y->EqD K H n x y (e i)):EqD K H (n+1) (.ref a) (.ref b) ((List.range xs.length).all e)
 |lens {n:Nat} {a b:Addr} {xs ys:List V} (ha:SqL K H a xs) (hb:SqL K H b ys) (hl:xs.length≠ys.length):EqD K H (n+1) (.ref a) (.ref b) false
 |tups {n:Nat} {a b:Addr} {xs ys:List V} {e:Nat->Bool} (ha:SqT K H a xs) (hb:SqT K H b ys) (h:∀i x y,xs[i]?=some x->ys[i]?=some y->EqD K H n x y (e i)):
   EqD K H (n+1) (.ref a) (.ref b) ((List.range<|min xs.length ys.length).all e&&xs.length == ys.length)
theorem qV(h:Tb x=true):Ta x x=true:=by cases x<;>first|rfl|(simp[Ta];done)|exact absurd (show false=true from h) Yz
section
variable{X:Cx}{pins:List (Addr×Obj)}{σ:St}{H:Hp}{s:Shared}
theorem Vals.at{j:Nat}(r:Vals xs us)(h:j<us.length):∃x,xs[j]?=some x/\RelV x us[j]:=by
 have hl:=r.length;have hx:xs[j]?=some (xs[j]'(by lia)):=Xw ur
 obtain⟨u,e,ru⟩:=r.get hx;rw[Xw h]at e;cases e;exact⟨_,hx,ru⟩
theorem EqD.self(q:EqD X.K H n x y b)(I:Inv X pins σ H s):x=y->b=true:=by
 induction q with
 |flat fx fy=>intro e;subst e;exact qV fx
 |@lsts n a b xs ys e ha hb hl h ih=>
  intro z;cases z;have e1:xs=ys:=I.list_inj ha hb
  subst e1;rw[RG];intro i hi;have hx:xs[i]?=some (xs[i]'(YI.mp hi)):=Xw _
  exact ih i _ _ hx hx rfl
 |@lens n a b xs ys ha hb hl=>
  intro z;cases z;exact absurd (XB List.length<|I.list_inj ha hb) hl
 |@tups n a b xs ys e ha hb h ih=>
  intro z;cases z;have e1:xs=ys:=I.tuple_inj ha hb
  subst e1;rw[Nat.min_self,Lz,RG];refine⟨λi hi=>?_,B⟩;have hx:xs[i]?=some (xs[i]'(YI.mp hi)):=Xw _
  exact ih i _ _ hx hx rfl
theorem EqD.at(q:EqD X.K H n x y b)(I:Inv X pins σ H s):∀{A:Around}{u v:Value},A.units+n<cLine->RelV x u->RelV y v->SeqAt.EqAt A s u v b:=by
 induction q with
 |flat fx fy=>intro A u v _ ru rv;exact Ea ru rv fx fy
 |@lsts n a b xs ys e ha hb hl h ih=>
  intro A u v hu ru rv;obtain rfl:u=Value.ref a:=ru;obtain rfl:v=Value.ref b:=rv;by_cases Vy:a=b
  .have z:=EqD.self (EqD.lsts ha hb hl h) I (XB V.ref Vy);rw[z,Vy];exact SeqAt.EqAt.same _
  obtain⟨us,rx,px,_⟩:=I.list ha;obtain⟨vs,ry,py,_⟩:=I.list hb;have l1:=rx.length
  have l2:=ry.length;have z:=SeqAt.RcAt.lists (A:=A) (s:=s) (e:=e) px.isList py.isList (by rw[Yc,Yc];lia) J λj h1 h2=>by obtain⟨x,ex,Px⟩:=rx.at (j:=j) (by simpa using h1);obtain⟨y,ey,Pw⟩:=ry.at (j:=j) (by simpa using h2);exact ih j x y ex ey (A:=A.in1) (by show A.units+1+n<cLine;lia) (by simpa using Px) (by simpa using Pw)
  rw[Yc,<-l1]at z;exact JB Vy z
 |@lens n a b xs ys ha hb hl=>
  intro A u v hu ru rv;obtain rfl:u=Value.ref a:=ru;obtain rfl:v=Value.ref b:=rv;obtain⟨us,rx,px,_⟩:=I.list ha;obtain⟨vs,ry,py,_⟩:=I.list hb;have l1:=rx.length
  have l2:=ry.length;have Vy:a≠b:=λz=>by subst z;exact hl (XB List.length<|I.list_inj ha hb)
  exact JB Vy (SeqAt.RcAt.lists_lengths px.isList py.isList (by rw[Yc,Yc];simp;lia) ur)
 |@tups n a b xs ys e ha hb h ih=>
  intro A u v hu ru rv;obtain rfl:u=Value.ref a:=ru;obtain rfl:v=Value.ref b:=rv;by_cases Vy:a=b
  .have z:=EqD.self (EqD.tups ha hb h) I (XB V.ref Vy);rw[z,Vy];exact SeqAt.EqAt.same _
  obtain⟨us,rx,px,_⟩:=I.tuple ha;obtain⟨vs,ry,py,_⟩:=I.tuple hb;have l1:=rx.length
  have l2:=ry.length;have z:=SeqAt.RcAt.tuples (A:=A) (s:=s) (e:=e) (show s.heap.IsTuple a us.toArray from px) (show s.heap.IsTuple b vs.toArray from py) ur λj h1 h2=>by obtain⟨x,ex,Px⟩:=rx.at (j:=j) (by simpa using h1);obtain⟨y,ey,Pw⟩:=ry.at (j:=j) (by simpa using h2);exact ih j x y ex ey (A:=A.in1) (by show A.units+1+n<cLine;omega) (by simpa using Px) (by simpa using Pw)
  rw[Yc,Yc,<-l1,<-l2]at z;exact JB Vy z
end
section
variable{X:Cx}
noncomputable def MP(K:Ad)(neg:Bool):R2:=λx y H Q=>∃n b p q,x=.ref p/\y=.ref q/\n<=6/\EqD K H n x y b/\Q (.bl<|if neg then !b else b) H
theorem qU(hu:X.A.units+8<cLine):WC X (compareOp .Eq) (MP X.K false):=by
 intro pins s σ H x y u v Q I ru rv h;obtain⟨n,b,p,q,rfl,rfl,hn,d,hq⟩:=h;obtain rfl:u=Value.ref p:=ru;obtain rfl:v=Value.ref q:=rv;have fin:EP X pins σ Q (.bool b) s:=⟨.bl b,H,I,Z,hq⟩
 cases d with
 |flat fx fy=>exact absurd (show false=true from fx) Yz
 |@lsts n _ _ xs ys e ha hb hl h=>
  obtain⟨us,rx,px,_⟩:=I.list ha;obtain⟨vs,ry,py,_⟩:=I.list hb;have l1:=rx.length
  have l2:=ry.length;refine SeqAt.eq_listAt (e:=e) px.isList py.isList (by rw[Yc,Yc];lia) J (λj h1 h2=>?_) (by rwa[Yc,<-l1]);obtain⟨x,ex,Px⟩:=rx.at (j:=j) (by simpa using h1);obtain⟨y,ey,Pw⟩:=ry.at (j:=j) (by simpa using h2);exact(h j x y ex ey).at I (A:=X.A.in1) (by show X.A.units+1+n<cLine;lia) (by simpa using Px) (by simpa using Pw)
 |@lens n _ _ xs ys ha hb hl=>
  obtain⟨us,rx,px,_⟩:=I.list ha;obtain⟨vs,ry,py,_⟩:=I.list hb;have l1:=rx.length
  have l2:=ry.length;exact SeqAt.eq_list_lengthsAt px.isList py.isList (by rw[Yc,Yc];simp;lia) ur fin
 |@tups n _ _ xs ys e ha hb h=>
  obtain⟨us,rx,px,_⟩:=I.tuple ha;obtain⟨vs,ry,py,_⟩:=I.tuple hb;have l1:=rx.length
  have l2:=ry.length;refine SeqAt.eq_tupleAt (e:=e) (show s.heap.IsTuple p us.toArray from px) (show s.heap.IsTuple q vs.toArray from py) ur (λj h1 h2=>?_) (by rwa[Yc,Yc,<-l1,<-l2]);obtain⟨x,ex,Px⟩:=rx.at (j:=j) (by simpa using h1);obtain⟨y,ey,Pw⟩:=ry.at (j:=j) (by simpa using h2);exact(h j x y ex ey).at I (A:=X.A.in1) (by show X.A.units+1+n<cLine;omega) (by simpa using Px) (by simpa using Pw)
theorem qT(hu:X.A.units+8<cLine):WC X (compareOp .NotEq) (MP X.K true):=by
 intro pins s σ H x y u v Q I ru rv h;obtain⟨n,b,p,q,rfl,rfl,hn,d,hq⟩:=h;obtain rfl:u=Value.ref p:=ru;obtain rfl:v=Value.ref q:=rv;have fin:EP X pins σ Q (.bool<|!b) s:=⟨.bl<|!b,H,I,Z,hq⟩
 cases d with
 |flat fx fy=>exact absurd (show false=true from fx) Yz
 |@lsts n _ _ xs ys e ha hb hl h=>
  obtain⟨us,rx,px,_⟩:=I.list ha;obtain⟨vs,ry,py,_⟩:=I.list hb;have l1:=rx.length
  have l2:=ry.length;refine SeqAt.RcNeAt.lists (e:=e) px.isList py.isList (by rw[Yc,Yc];omega) ur (λj h1 h2=>?_) _ _ _ _ (by rwa[Yc,<-l1]);obtain⟨x,ex,Px⟩:=rx.at (j:=j) (by simpa using h1);obtain⟨y,ey,Pw⟩:=ry.at (j:=j) (by simpa using h2);exact(h j x y ex ey).at I (A:=X.A.in1) (by show X.A.units+1+n<cLine;omega) (by simpa using Px) (by simpa using Pw)
 |@lens n _ _ xs ys ha hb hl=>
  obtain⟨us,rx,px,_⟩:=I.list ha;obtain⟨vs,ry,py,_⟩:=I.list hb;have l1:=rx.length
  have l2:=ry.length;exact SeqAt.RcNeAt.lists_lengths px.isList py.isList (by rw[Yc,Yc];simp;omega) ur _ _ _ _ fin
 |@tups n _ _ xs ys e ha hb h=>
  obtain⟨us,rx,px,_⟩:=I.tuple ha;obtain⟨vs,ry,py,_⟩:=I.tuple hb;have l1:=rx.length
  have l2:=ry.length;refine SeqAt.RcNeAt.tuples (e:=e) (show s.heap.IsTuple p us.toArray from px) (show s.heap.IsTuple q vs.toArray from py) ur (λj h1 h2=>?_) _ _ _ _ (by rwa[Yc,Yc,<-l1,<-l2]);obtain⟨x,ex,Px⟩:=rx.at (j:=j) (by simpa using h1);obtain⟨y,ey,Pw⟩:=ry.at (j:=j) (by simpa using h2);exact(h j x y ex ey).at I (A:=X.A.in1) (by show X.A.units+1+n<cLine;omega) (by simpa using Px) (by simpa using Pw)
end
end L2
namespace My
open PySem L2
noncomputable abbrev IL(ns:Ac):List V:=ns.map V.int
theorem Xx(ns:Ac):(IL ns).length=ns.length:=Yb ..
theorem xV(a b:Ac):IL (a++b)=IL a++IL b:=YJ ..
theorem ZN(a:Ac)(r:Int):IL (a++[r])=IL a++[.int r]:=YJ ..
theorem du(a:Ac)(n:Nat):IL (a.take n)=(IL a).take n:=List.map_take ..
theorem qS(a:Ac)(n:Nat):IL (a.drop n)=(IL a).drop n:=List.map_drop ..
theorem DG(a:Ac)(n:Nat)(z:Int):IL (a.set n z)=(IL a).set n (.int z):=List.map_set ..
theorem UA{i:Nat}{z:Int}(h:ns[i]?=some z):(IL ns)[i]?=some (.int z):=by rw[Yo,h];rfl
theorem Uz{i:Nat}{x:V}(h:(IL ns)[i]?=some x):∃z,x=.int z/\ns[i]?=some z:=by
 rw[Yo]at h;cases e:ns[i]? with
 |none=>rw[e]at h;cases h
 |some z=>rw[e]at h;exact⟨z,(Yh h).symm,Z⟩
theorem Zz{a:Addr}(hn:H a=none)(s:Same H H2):Same H (upd H2 a o):=λb u e=>by rw[Zc (Zd e hn)];exact s b u e
theorem Zu{p:Addr}(s:Same H H2)(hp:H2 p=none):Same H (upd H2 p o):=Zz (s.free hp) s
theorem XN{p:Addr}(hp:H p=none):Same H (upd H p o):=Zu (Same.refl H) hp
theorem Li(e:Same H H')(h:SqT K H a xs):SqT K H' a xs:=by
 rcases h with (h|⟨o,h⟩)|h
 .exact .inl (.inl<|e _ _ h)
 .exact .inl (.inr ⟨o,e _ _ h⟩)
 .exact .inr h
theorem MO{n:Nat}(h:n<=1000000):n<=sizeLine:=Ys h S
theorem Zl{n:Nat}(h:n<=1000000):n<sizeLine:=yU h S
theorem MN(hr:Room k A):A.units+8<cLine:=yU (Nat.add_le_add_left (by decide:8<=64) _) hr.units
theorem Zx{α:Type}{xs:List α}{i:Int}{n:Nat}{x:α}(hi:i=(n:Int))(h:xs[n]?=some x):Wo xs i=some x:=by
 subst hi;have hn:n<xs.length:=(Xs.mp h).1
 unfold Wo Oc;rw[if_pos (Int.natCast_nonneg n),if_pos ur];simpa using h
theorem xU{c A uj:Prop}[Decidable c](hc:c)(h:A):if decide c=true then A else uj:=by rwa[if_pos (Yn hc)]
theorem IZ{c A uj:Prop}[Decidable c](hc:¬c)(h:uj):if decide c=true then A else uj:=by rwa[if_neg (by simp[hc])]
theorem Lh{c A uj:Prop}[Decidable c](hc:c)(h:uj):if (!decide c)=true then A else uj:=by rwa[if_neg (by simp[hc])]
theorem qR{c A uj:Prop}[Decidable c](hc:¬c)(h:A):if (!decide c)=true then A else uj:=by rwa[if_pos (by simp[hc])]
theorem Xd{c A uj:Prop}[Decidable c](h1:c->A)(h2:¬c->uj):if decide c=true then A else uj:=by
 by_cases h:c
 .exact xU h (h1 h)
 .exact IZ h (h2 h)
theorem WN{c A uj:Prop}[Decidable c](h1:c->uj)(h2:¬c->A):if (!decide c)=true then A else uj:=by
 by_cases h:c
 .exact Lh h (h1 h)
 .exact qR h (h2 h)
theorem dt{b:Bool}{A uj:Prop}(h1:b=true->A)(h2:b=false->uj):if b=true then A else uj:=by
 cases b with
 |true=>exact We (h1 Z)
 |false=>exact WB (h2 Z)
theorem IY{b:Bool}{A uj:Prop}(h1:b=true->uj)(h2:b=false->A):if (!b)=true then A else uj:=by
 cases b with
 |true=>exact WB (h1 Z)
 |false=>exact We (h2 Z)
noncomputable def SqK(k:Bool)(K:Ad)(H:Hp)(a:Addr)(xs:List V):Prop:=match k with
 |false=>SqL K H a xs
 |true=>SqT K H a xs
theorem SqK.same(e:Same H H')(h:SqK k K H a xs):SqK k K H' a xs:=by
 cases k with
 |false=>exact e.seq h
 |true=>exact Li e h
theorem SqK.or(h:SqK k K H a xs):SqL K H a xs\/SqT K H a xs:=by
 cases k with
 |false=>exact .inl h
 |true=>exact .inr h
noncomputable def DF(K:Ad)(tl:TE):TI:=λσ H R=>tl σ H λx H1=>∃a,x=.ref a/\(((∃xs,SqL K H1 a xs)/\R (PX K a) H1)\/((∃xs,SqT K H1 a xs)/\R (PV K a) H1))
theorem IX(hl:PE X l tl):PI X tg l (DF X.K tl):=by
 intro pins s σ H R I h;refine thn (hl pins s σ H _ I h) λv s1 Xy=>?_;obtain⟨x,H1,I1,r1,q1⟩:=Xy;obtain⟨a,e,q⟩:=q1;subst e;cases r1;rcases q with ⟨⟨xs,hq⟩,q⟩|⟨⟨xs,hq⟩,q⟩
 .obtain⟨XW,rv,p,hz⟩:=I1.list hq;refine yN p.isList ?_;refine⟨s1.heap.objs.size,[s1.heap.objs.size],_,_,H1,Z,I1.kept (t':=s1.toks) λb o e=>Xb _ e,Ey a _,⟨_,Yj _ Z,Z,Z⟩,λb hb=>?_,q⟩;have e:b=s1.heap.objs.size:=by simpa using hb
  subst e;exact I1.fpOk (XO _) (I1.hok.fresh<|XO _)
 .obtain⟨XW,rv,p,hz⟩:=I1.tuple hq;refine wpAny_pyIter_tuple (show s1.heap.IsTuple a XW.toArray from p) ?_;refine⟨s1.heap.objs.size,[s1.heap.objs.size],_,_,H1,Z,I1.kept (t':=s1.toks) λb o e=>Xb _ e,d9 a _,⟨_,Yj _ Z,Z,Z⟩,λb hb=>?_,q⟩;have e:b=s1.heap.objs.size:=by simpa using hb
  subst e;exact I1.fpOk (XO _) (I1.hok.fresh<|XO _)
theorem xT{g:TG}{tb:TS}{um:Ends}(Pv:Nat->St->Hp->Prop)(h0:Pv 0 σ H)(hl:∀i σ H,i<=xs.length->Pv i σ H->SqK k K H a xs)
  (hs:∀i x σ H,xs[i]?=some x->Pv i σ H->g x σ H λσ2 H2=>tb {um with nx:=Pv<|i+1,ct:=Pv<|i+1,bk:=um.nx} σ2 H2)(hd:∀σ H,Pv xs.length σ H->um.nx σ H):
  (((∃xs,SqL K H a xs)/\∃W:Nat->Nat->St->Hp->Prop,(∃m,W 0 m σ H)/\∀i m σ H,W i m σ H->
   ((PX K a).stop i H/\um.nx σ H)\/((PX K a).go i H/\∃N:St->Hp->Prop,(∀σ' H',N σ' H'->∃m',m'<m/\W (i+1) m' σ' H')/\∀x H',(PX K a).yld i H x H'->g x σ H' λσ2 H2=>tb {um with nx:=N,ct:=N,bk:=um.nx} σ2 H2))\/
  ((∃xs,SqT K H a xs)/\∃W:Nat->Nat->St->Hp->Prop,(∃m,W 0 m σ H)/\∀i m σ H,W i m σ H->
   ((PV K a).stop i H/\um.nx σ H)\/((PV K a).go i H/\∃N:St->Hp->Prop,(∀σ' H',N σ' H'->∃m',m'<m/\W (i+1) m' σ' H')/\∀x H',(PV K a).yld i H x H'->g x σ H' λσ2 H2=>tb {um with nx:=N,ct:=N,bk:=um.nx} σ2 H2))):=by
 cases k with
 |false=>exact .inl ⟨⟨xs,hl 0 σ H (Ym _) h0⟩,tH (K:=K) (a:=a) (xs:=xs) Pv h0 hl hs hd⟩
 |true=>exact .inr ⟨⟨xs,hl 0 σ H (Ym _) h0⟩,d3 (K:=K) (a:=a) (xs:=xs) Pv h0 hl hs hd⟩
noncomputable def PairV(H:Hp)(v:V)(p:Int×Int):Prop:=∃t,v=.ref t/\H t=some (.tup [.int p.1,.int p.2])
noncomputable def PairsV(H:Hp)(xs:List V)(ps:Aa):Prop:=xs.length=ps.length/\∀(i:Nat)(p:Int×Int),ps[i]?=some p->∃v,xs[i]?=some v/\PairV H v p
theorem PairV.same(s:Same H H')(h:PairV H v p):PairV H' v p:=by obtain⟨t,e,q⟩:=h;exact⟨t,e,s _ _ q⟩
theorem PairsV.same(s:Same H H')(h:PairsV H xs ps):PairsV H' xs ps:=⟨h.1,λi p e=>by obtain⟨v,e1,q⟩:=h.2 i p e;exact⟨v,e1,q.same s⟩⟩
theorem PairsV.at(h:PairsV H xs ps){i:Nat}{v:V}(e:xs[i]?=some v):∃p,ps[i]?=some p/\PairV H v p:=by
 have hi:i<xs.length:=(Xs.mp e).1;have hp:i<ps.length:=by rwa[<-h.1]
 obtain⟨v',e1,q⟩:=h.2 i ps[i] (Xw hp);rw[e]at e1;cases e1;exact⟨_,Xw hp,q⟩
theorem PairsV.nil:PairsV H [] []:=⟨Z,λi p e=>by simp at e⟩
theorem PairsV.snoc(h:PairsV H xs ps)(q:PairV H v p):PairsV H (xs++[v]) (ps++[p]):=by
 refine⟨by rw[Xt,Xt,h.1];rfl,λi p' e=>?_⟩;by_cases hi:i<ps.length
 .rw[Yw hi]at e;rw[Yw (by rwa[h.1])];exact h.2 i p' e
 .have hl:i=ps.length:=by
   have:=(Xs.mp e).1
   rw[Xt,Yr]at this;lia
  subst hl;rw[Yv (XO _),Nu]at e;rw[Yv (by rw[h.1];exact XO _),h.1,Nu];have e':p=p':=Yh e
  subst e';exact⟨v,Z,q⟩
theorem PairsV.drop(h:PairsV H xs ps)(n:Nat):PairsV H (xs.drop n) (ps.drop n):=by refine⟨by rw[YV,YV,h.1],λi p e=>?_⟩;rw[Fv]at e ⊢;exact h.2 _ p e
theorem PairsV.take(h:PairsV H xs ps)(n:Nat):PairsV H (xs.take n) (ps.take n):=by
 refine⟨by rw[Yl,Yl,h.1],λi p e=>?_⟩;by_cases hi:i<n
 .rw[fg hi]at e ⊢;exact h.2 _ p e
 .rw[List.getElem?_take_eq_none J]at e;cases e
theorem PairsV.app(h:PairsV H xs ps)(h2:PairsV H ys qs):PairsV H (xs++ys) (ps++qs):=by
 refine⟨by rw[Xt,Xt,h.1,h2.1],λi p e=>?_⟩;by_cases hi:i<ps.length
 .rw[Yw hi]at e;rw[Yw (by rwa[h.1])];exact h.2 i p e
 .rw[Yv J]at e;rw[Yv (by rw[h.1];omega),h.1];exact h2.2 _ p e
theorem qQ:¬(("places":Str)="ties"):=by decide +kernel
noncomputable def wf (n:Int) (tl:Addr):List (Str×V):=XQ "ties" (.ref tl) (XQ "places" (.int n) [])
theorem IW (n:Int) (tl:Addr):(wf n tl).lookup ("places":Str)=some (.int n):=by unfold wf;rw[En,if_neg qQ,En,if_pos Z]
theorem Pu (n:Int) (tl:Addr):(wf n tl).lookup ("ties":Str)=some (.ref tl):=by unfold wf;rw[En,if_pos Z]
noncomputable def WebAt(C:Addr)(H:Hp)(w:Addr)(n:Int)(ps:Aa):Prop:=∃dx tl xs,H w=some (.ins C dx<|wf n tl)/\H tl=some (.lst xs)/\PairsV H xs ps
theorem WebAt.same(s:Same H H')(h:WebAt C H w n ps):WebAt C H' w n ps:=by obtain⟨dx,tl,xs,a,b,c⟩:=h;exact⟨dx,tl,xs,s _ _ a,s _ _ b,c.same s⟩
noncomputable def Zw(n:Int)(ps:Aa):Prop:=1<=n/\n<=14/\ps.length<=30/\∀p∈ps,0<=p.1/\p.1<n/\0<=p.2/\p.2<n
noncomputable def dr (K:Ad) (mg:Af) (x qual:Str) (st:Stmt) (fs:List Str):Prop:=∃C f fd,mg x=some (.ref C)/\Fun K "__init__" qual st f fd/\Cls K C/\Mk K C f/\∀a∈fs,NoAttr K C a
theorem DE{mg:Af}{oc:Value}{od an:Option Addr}{Uo:Array (Option Value)}{kV doc pm XG ct:Value}(X:K.In h)(G:h.Ns mainGlobals mg)
  (aC:PySem.W.nsIn K mainGlobals x=some (some<|.ref C))(a:PySem.W.findIn K (.ref C) "__init__"=some (some<|.ref f))(i:PySem.W.isFn K (.ref f)=true)
  (l:K.lookup f=some ⟨oc,od,.func<|PySem.W.fnOf "__init__" qual (Lj st) (RY st) (Xv st) .none kV doc pm an XG ct,Uo⟩)(c:PySem.W.codeIn K XG qual=true)(k:PySem.W.keepIn K (.ref f)=true)
  (pg:PySem.W.plainGet K C Str.empty=true)(hd:PySem.W.hasDictIn K C=true)(po:PySem.W.plainOver K C=true)(sa:PySem.W.findIn K (.ref C) "__setattr__"=some (some<|.builtin "object.__setattr__"))(mk:PySem.W.makesIn K C=true)(kc:PySem.W.keepIn K (.ref C)=true)
  (na:∀a∈fs,PySem.W.findIn K (.ref C) a=some none):dr K mg x qual st fs:=
 ⟨C,f,_,GD X G aC,xY l c k,⟨pg,hd,po,sa⟩,⟨mk,a,i,kc⟩,na⟩
theorem Ve{mg:Af}{z:Int}{v:Value}(X:K.In h)(G:h.Ns mainGlobals mg)(a:PySem.W.nsIn K mainGlobals x=some (some v))(e:∃tk,v=.int z tk):∃tk,mg x=some (.int z tk):=by obtain⟨tk,rfl⟩:=e;exact⟨tk,GD X G a⟩
theorem NU{x:V}{A uj:St->Hp->Prop}(h:A (σ.set i (some x)) H):SK i x σ H λσ2 H2=>tYes σ2 H2 λb H3=>if b=true then A σ2 H3 else uj σ2 H3:=
 (show if true=true then A (σ.set i<|some x) H else uj (σ.set i<|some x) H from We h)
theorem nm{x:V}{Q:St->Hp->Prop}(h:Q (σ.set i (some x)) H):SK i x σ H Q:=h
section
variable{K:Ad}{a:Addr}{xs:List V}{g:TG}{tt:TT}{te:TE}{o:Nat}{fr:List Nat}{σ:St}{H:Hp}{Q:VK}
noncomputable abbrev IV(Pv:Nat->List V->Hp->Prop)(g:TG)(tt:TT)(te:TE)(o:Nat)(fr:List Nat)(σ:St)(i:Nat)(x:V)(ys:List V)(H:Hp):Prop:=
 ∀uo:Nat->List V->Hp->Prop,(∀ys H,Pv (i+1) ys H->uo (i+1) ys H)->g x (σC o fr σ) H λσ2 H2=>tt σ2 H2 λb H3=>if b=true then te σ2 H3 λy H4=>uo (i+1) (ys++[y]) H4 else uo (i+1) ys H3
theorem Rn(Pv:Nat->List V->Hp->Prop)(h0:Pv 0 [] H)(hz:xs.length<sizeLine)(hl:∀i ys H,i<=xs.length->Pv i ys H->SqL K H a xs/\ys.length<=i)
  (hs:∀i x ys H,xs[i]?=some x->Pv i ys H->IV Pv g tt te o fr σ i x ys H)(hd:∀ys H,Pv xs.length ys H->∀p,H p=none->Q (.ref p) (upd H p<|.lst ys)):MS (PX K a) g tt te o fr σ H Q:=by
 refine⟨λi m ys H=>m=xs.length-i/\i<=xs.length/\Pv i ys H,⟨xs.length,B,Ym _,h0⟩,?_⟩;rintro i m ys H ⟨rfl,hi,p⟩;obtain⟨q,hy⟩:=hl i ys H hi p;by_cases Xh:i<xs.length
 .refine .inr ⟨⟨xs,xs[i],q,by simp[Xh]⟩,J,λx H' zz=>?_⟩;obtain⟨e,y⟩:=zz;subst e;have hx:=y xs q
  exact hs i x ys _ hx p (λj ys H=>∃m',m'<xs.length-i/\m'=xs.length-j/\j<=xs.length/\Pv j ys H) λys H p'=>⟨xs.length-(i+1),uu,Z,Xh,p'⟩
 .have e:i=xs.length:=J;subst e;exact .inl ⟨⟨xs,q,XO _⟩,J,hd ys H p⟩
theorem DD(Pv:Nat->List V->Hp->Prop)(h0:Pv 0 [] H)(hz:xs.length<sizeLine)(hl:∀i ys H,i<=xs.length->Pv i ys H->SqT K H a xs/\ys.length<=i)
  (hs:∀i x ys H,xs[i]?=some x->Pv i ys H->IV Pv g tt te o fr σ i x ys H)(hd:∀ys H,Pv xs.length ys H->∀p,H p=none->Q (.ref p) (upd H p<|.lst ys)):MS (PV K a) g tt te o fr σ H Q:=by
 refine⟨λi m ys H=>m=xs.length-i/\i<=xs.length/\Pv i ys H,⟨xs.length,B,Ym _,h0⟩,?_⟩;rintro i m ys H ⟨rfl,hi,p⟩;obtain⟨q,hy⟩:=hl i ys H hi p;by_cases Xh:i<xs.length
 .refine .inr ⟨⟨xs,xs[i],q,by simp[Xh]⟩,ur,λx H' zz=>?_⟩;obtain⟨e,y⟩:=zz;subst e;have hx:=y xs q
  exact hs i x ys _ hx p (λj ys H=>∃m',m'<xs.length-i/\m'=xs.length-j/\j<=xs.length/\Pv j ys H) λys H p'=>⟨xs.length-(i+1),ur,Z,Xh,p'⟩
 .have e:i=xs.length:=ur;subst e;exact .inl ⟨⟨xs,q,XO _⟩,ur,hd ys H p⟩
theorem xS(Pv:Nat->List V->Hp->Prop)(h0:Pv 0 [] H)(hz:xs.length<sizeLine)(hl:∀i ys H,i<=xs.length->Pv i ys H->SqK k K H a xs/\ys.length<=i)
  (hs:∀i x ys H,xs[i]?=some x->Pv i ys H->IV Pv g tt te o fr σ i x ys H)(hd:∀ys H,Pv xs.length ys H->∀p,H p=none->Q (.ref p) (upd H p<|.lst ys)):
  ((∃xs,SqL K H a xs)/\MS (PX K a) g tt te o fr σ H Q)\/((∃xs,SqT K H a xs)/\MS (PV K a) g tt te o fr σ H Q):=by
 cases k with
 |false=>exact .inl ⟨⟨xs,(hl 0 [] H (Ym _) h0).1⟩,Rn Pv h0 hz hl hs hd⟩
 |true=>exact .inr ⟨⟨xs,(hl 0 [] H (Ym _) h0).1⟩,DD Pv h0 hz hl hs hd⟩
theorem xR(Pv:Nat->List V->Hp->Prop)(h0:Pv 0 [] H)(hz:n<sizeLine)(hl:∀i ys H,i<=n->Pv i ys H->ys.length<=i)
  (hs:∀i ys H,i<n->Pv i ys H->IV Pv g tt te o fr σ i (.int<|lo+i) ys H)(hd:∀ys H,Pv n ys H->∀p,H p=none->Q (.ref p) (upd H p<|.lst ys)):MS (Lp lo n) g tt te o fr σ H Q:=by
 refine⟨λi m ys H=>m=n-i/\i<=n/\Pv i ys H,⟨n,B,Ym _,h0⟩,?_⟩;rintro i m ys H ⟨rfl,hi,p⟩;have hy:=hl i ys H hi p
 by_cases Xh:i<n
 .refine .inr ⟨Xh,J,λx H' zz=>?_⟩;obtain⟨e,y⟩:=zz;subst e;subst y;exact hs i ys _ Xh p (λj ys H=>∃m',m'<n-i/\m'=n-j/\j<=n/\Pv j ys H) λys H p'=>⟨n-(i+1),uu,Z,Xh,p'⟩
 .have e:i=n:=J;subst e;exact .inl ⟨XO _,J,hd ys H p⟩
end
theorem Gq{α:Type}{l:List α}(h:l.Nodup){i j:Nat}{x:α}(a:l[i]?=some x)(b:l[j]?=some x):i=j:=by obtain⟨h1,e1⟩:=Xs.mp a;obtain⟨h2,e2⟩:=Xs.mp b;exact(List.getElem_inj h).mp (e1.trans e2.symm)
theorem VZ{α:Type}{l:List α}{x d:α}(h:l[i]?=some x):l.getD i d=x:=by rw[WJ,h];rfl
theorem dq{α:Type}{l:List α}{x:α}(h:l.Nodup)(hx:x∉l):(l++[x]).Nodup:=by rw[YR];refine⟨h,B,λa ha b hb=>?_⟩;rw[XF]at hb;subst hb;rintro rfl;exact hx ha
theorem dk{g:TG}{tb:TS}{um:Ends}(Pv:Nat->St->Hp->Prop)(h0:Pv 0 σ H)(hl:∀i σ H,i<=xs.length->Pv i σ H->SqL K H a xs)
  (hs:∀(i:Nat) x σ H (p:Addr),H p=none->xs[i]?=some x->Pv i σ H->g (.ref p) σ (upd H p<|.tup [.int i,x]) λσ2 H2=>tb {um with nx:=Pv<|i+1,ct:=Pv<|i+1,bk:=um.nx} σ2 H2)(hd:∀σ H,Pv xs.length σ H->um.nx σ H):
  ∃W:Nat->Nat->St->Hp->Prop,(∃m,W 0 m σ H)/\∀i m σ H,W i m σ H->
   ((Gr K a).stop i H/\um.nx σ H)\/((Gr K a).go i H/\∃N:St->Hp->Prop,(∀σ' H',N σ' H'->∃m',m'<m/\W (i+1) m' σ' H')/\∀x H',(Gr K a).yld i H x H'->g x σ H' λσ2 H2=>tb {um with nx:=N,ct:=N,bk:=um.nx} σ2 H2):=by
 refine⟨λi m σ H=>m=xs.length-i/\i<=xs.length/\Pv i σ H,⟨xs.length,B,Ym _,h0⟩,?_⟩;rintro i m σ H ⟨rfl,hi,p⟩;have q:=hl i σ H hi p
 by_cases Xh:i<xs.length
 .refine .inr ⟨⟨xs,xs[i],q,by simp[Xh]⟩,Pv<|i+1,λσ' H' p'=>⟨xs.length-(i+1),ur,Z,Xh,p'⟩,λx H' zz=>?_⟩;obtain⟨T,y,hT,ex,eH,hy⟩:=zz;subst ex eH;exact hs i y σ H T hT (hy xs q) p
 .have e:i=xs.length:=J;subst e;exact .inl ⟨⟨xs,q,XO _⟩,hd σ H p⟩
theorem qP{i:Int}(h0:0<=i)(h1:i.toNat<=xs.length):Xi xs (some i) none=xs.drop i.toNat:=by
 have e:HT.Vu xs.length 0 (some i)=i.toNat:=by show(if i<0 then (i+(xs.length:Int)).toNat else min i.toNat xs.length)=i.toNat;rw[if_neg J];lia
 unfold Xi;rw[e,HT.VS];exact YN (by rw[YV];exact XO _)
theorem qO{i:Int}(h0:0<=i)(h1:i.toNat<=xs.length):Xi xs none (some i)=xs.take i.toNat:=by
 have e:HT.Vu xs.length xs.length (some i)=i.toNat:=by show(if i<0 then (i+(xs.length:Int)).toNat else min i.toNat xs.length)=i.toNat;rw[if_neg ur];omega
 unfold Xi;rw[e,HT.VS,uN,yC]
end My
namespace L2
open PySem PySem.Spec PyProof.Rows
section
variable{X:Cx}{a o e:Expr}{es:List Expr}{ta to:TE}{t:TA}{pos:Pos}
theorem Zb(K:Ad)(h:X.K=K:=by rfl):Gu X (Ef K):=h▸Ec
theorem ZF(K:Ad)(h:X.K=K:=by rfl):Gu X (Ee K):=h▸sI
theorem Vd(K:Ad)(h:X.K=K:=by rfl):x8 X (Eb K):=h▸sE
theorem IU(K:Ad)(h:X.K=K:=by rfl):WC X (compareOp .In) (λx y H Q=>∃p xs,y=.ref p/\(SqL K H p xs\/SqT K H p xs)/\Tb x=true/\xs.all Tb=true/\Q (.bl<|Gs x xs) H):=h▸Zt8
theorem ZW(K:Ad)(h:X.K=K:=by rfl):WC X (compareOp .NotIn) (λx y H Q=>∃p xs,y=.ref p/\(SqL K H p xs\/SqT K H p xs)/\Tb x=true/\xs.all Tb=true/\Q (.bl<|!Gs x xs) H):=h▸ZD4
theorem qN(K:Ad)(hu:X.A.units+8<cLine)(h:X.K=K:=by rfl):WC X (compareOp .Eq) (MP K false):=h▸qU hu
theorem IT(K:Ad)(hu:X.A.units+8<cLine)(h:X.K=K:=by rfl):WC X (compareOp .NotEq) (MP K true):=h▸qT hu
theorem qM(K:Ad)(h:X.K=K:=by rfl):WC X (binaryOp .Add) (Eg K):=h▸sM
theorem Zp(K:Ad)(he:PE X e ta)(hb:attributeBase e f X.env (eval e X.env)=eval e X.env)(h:X.K=K:=by rfl):PE X (.Attribute e f pos) (Em K ta f):=h▸sW he hb
theorem Zk (K:Ad) (h:X.K=K:=by rfl):Vp X (.builtin "len") (λxs H Q=>∃p ys,xs=[.ref p]/\(SqL K H p ys\/SqT K H p ys)/\Q (.int ys.length) H):=h▸ZV4
theorem Gp (K:Ad) (h:X.K=K:=by rfl):Vp X (.type "list") (λxs H Q=>∃p ys,xs=[.ref p]/\(SqL K H p ys\/SqT K H p ys)/\∀l,H l=none->Q (.ref l) (upd H l<|.lst ys)):=h▸ZT4
theorem ZK (K:Ad) (h:X.K=K:=by rfl):Vp X (.type "tuple") (λxs H Q=>∃p ys,xs=[.ref p]/\((SqL K H p ys/\∀l,H l=none->Q (.ref l) (upd H l<|.tup ys))\/(SqT K H p ys/\Q (.ref p) H))):=h▸Zi4
theorem qL (K:Ad) (hc:X.calm=true) (h:X.K=K:=by rfl):Vp X (.builtin "sum") (λxs H Q=>∃(p:Addr)(ns:Ac),xs=[.ref p]/\SqL K H p (ns.map V.int)/\Q (.int ns.sum) H):=h▸Zj4 hc
theorem ZR(K:Ad)(hl:PE X l tl)(h:X.K=K:=by rfl):PI X tg l (Ex K tl):=h▸tP hl
theorem DC(K:Ad)(hl:PE X l tl)(h:X.K=K:=by rfl):PI X tg l (Ew K tl):=h▸tO hl
theorem Lg(K:Ad)(hl:PE X l tl)(h:X.K=K:=by rfl):PI X tg l (My.DF K tl):=h▸My.IX hl
theorem Gn (K:Ad) {elts:List Expr} {x1:Nat} {SJ:Pos} {a:Expr} {ta:TA} {p pos:Pos} (hg:Gl X "enumerate") (hm:X.mg "enumerate"=none) (ha:PA X [a] ta) (hs:starEach [a] X.env=[(false,eval a X.env)]:=by rfl) (h:X.K=K:=by rfl):
  PI X (.Tuple elts x1 SJ) (.Call (.Name "enumerate" p) [a] [] pos) (DI K ta):=h▸q9 hg hm ha hs
theorem NT(K:Ad){es:List Expr}{k:Nat}{t:Nf}{n:Nat}(hc:X.calm=true)(ht:EE X es t)
  (hn:(assignEach es X.env).length=n:=by rfl)(Wx:(assignEach es X.env).findIdx? (·.1)=none:=by rfl)(h:X.K=K:=by rfl):PG X (.Tuple es k pos) (Jx K n t):=h▸tV hc ht hn Wx
theorem TY (K:Ad) {name:Str} {apos Xe:Pos} {T id:String} {r:V->List V->Hp->VK->Prop} (pa:PlainAttrs T) (slot:Slot T name id) (Jh:typeOf (.builtin id)=pure (.type "method_descriptor")) (hm:x6 X id r) (ho:PE X o to) (ha:PA X (e::es) t)
  (Vh:attributeBase o name X.env (eval o X.env)=eval o X.env:=by rfl)
  (Jg:((backTo Xe<|starEach (e::es) X.env).all (λx=>!x.1)&&(backToKw Xe<|keywordEach [] X.env).all (λx=>x.1.isSome)
   && decide ((e::es).length+([]:List Keyword).length+(if ([]:List Keyword).isEmpty then 0 else 1)<30))=true:=by rfl)
  (Vg:(apos.endLine == Xe.line)=true:=by rfl)(hs:starEach (e::es) X.env=(false,eval e X.env)::starEach es X.env:=by rfl)(Vf:(backTo Xe<|starEach es X.env).any (·.1)=false:=by rfl)(h:X.K=K:=by rfl):
  PE X (.Call (.Attribute o name apos) (e::es) [] Xe) (dJ K T r to t):=h▸su pa slot Jh hm ho ha Vh Jg Vg hs Vf
theorem qK (K:Ad) {name:Str} {apos Xe:Pos} {T id:String} {r:V->List V->Hp->VK->Prop} (pa:PlainAttrs T) (slot:Slot T name id) (Jh:typeOf (.builtin id)=pure (.type "method_descriptor")) (hm:x6 X id r) (ho:PE X o to)
  (Vh:attributeBase o name X.env (eval o X.env)=eval o X.env:=by rfl)(Vg:(apos.endLine == Xe.line)=true:=by rfl)(h:X.K=K:=by rfl):PE X (.Call (.Attribute o name apos) [] [] Xe) (DX K T r to):=h▸sv pa slot Jh hm ho Vh Vg
end
end L2
namespace My
noncomputable abbrev mk(m:Ac)(i:Nat):Int:=m.getD i 0
noncomputable def pm(m:Ac)(a b:Nat):Ac:=
 if min (mk m a) (mk m b)<max (mk m a) (mk m b) then m.map (λk=>if k=max (mk m a) (mk m b) then min (mk m a) (mk m b) else k) else m
noncomputable def lm(m:Ac)(a b:Nat):Ac:=
 if mk m a≠mk m b then m.map (λk=>if k=mk m b then mk m a else k) else m
noncomputable def SameP(m l:Ac):Prop:=m.length=l.length/\∀i j,i<m.length->j<m.length->(mk m i=mk m j↔mk l i=mk l j)
theorem xQ(m:Ac)(f:Int->Int)(h:i<m.length):mk (m.map f) i=f (mk m i):=by simp[mk,WJ,Yo,Xw h]
theorem Pr(m:Ac)(a b:Nat):(pm m a b).length=m.length:=by unfold pm;split<;>simp
theorem xP(m:Ac)(a b:Nat):(lm m a b).length=m.length:=by unfold lm;split<;>simp
noncomputable def Gm(m:Ac)(a b i j:Nat):Prop:=mk m i=mk m j\/((mk m i=mk m a\/mk m i=mk m b)/\(mk m j=mk m a\/mk m j=mk m b))
theorem IS{x y p q:Int}:((if x=q then p else x)=(if y=q then p else y))↔(x=y\/((x=p\/x=q)/\(y=p\/y=q))):=by grind
theorem dj{x y p:Int}:x=y↔(x=y\/((x=p\/x=p)/\(y=p\/y=p))):=⟨.inl,λh=>h.elim id λh=>(h.1.elim id id).trans (h.2.elim id id).symm⟩
theorem qJ(hi:i<m.length)(hj:j<m.length):mk (pm m a b) i=mk (pm m a b) j↔Gm m a b i j:=by
 unfold pm Gm;split
 .rename_i h;rw[xQ _ _ hi,xQ _ _ hj];by_cases xO:mk m a<mk m b
  .rw[uV (JO xO),JD (JO xO)];exact IS
  .rw[JE (GB.mp xO),uU<|GB.mp xO,Or.comm (a:=mk m i=mk m a),Or.comm (a:=mk m j=mk m a)];exact IS
 .rename_i h;have hh:=GB.mp h
  rw[show mk m a=mk m b from Int.le_antisymm (RA (Int.le_max_left _ _)<|RA hh<|Int.min_le_right _ _) (RA (Int.le_max_right _ _)<|RA hh<|Int.min_le_left _ _)];exact dj
theorem DB(hi:i<m.length)(hj:j<m.length):mk (lm m a b) i=mk (lm m a b) j↔Gm m a b i j:=by
 unfold lm Gm;split
 .rename_i h;rw[xQ _ _ hi,xQ _ _ hj];exact IS
 .rename_i h;rw[show mk m a=mk m b from Classical.not_not.mp h];exact dj
theorem SameP.step{m l:Ac}(s:SameP m l){a b:Nat}(ha:a<m.length)(hb:b<m.length):SameP (pm m a b) (lm l a b):=by obtain⟨hl,h⟩:=s;refine⟨by rw[Pr,xP,hl],λi j hi hj=>?_⟩;rw[Pr]at hi hj;rw[qJ hi hj,DB ur ur];unfold Gm;rw[h i j hi hj,h i a hi ha,h i b hi hb,h j a hj ha,h j b hj hb]
noncomputable def Xu(n:Nat)(es:List (Nat×Nat)):Ac:=es.foldl (λm e=>pm m e.1 e.2) ((List.range n).map λ(i:Nat)=>(i:Int))
noncomputable def WQ(n:Nat)(es:List (Nat×Nat)):Ac:=es.foldl (λm e=>lm m e.1 e.2) ((List.range n).map λ(i:Nat)=>(i:Int))
theorem ZD(n:Nat)(es:List (Nat×Nat)):(Xu n es).length=n:=by
 have:∀(es:List (Nat×Nat))(m:Ac),(es.foldl (λm e=>pm m e.1 e.2) m).length=m.length:=by
  intro es
  induction es with
  |nil=>intro m;rfl
  |cons e es ih=>intro m;rw[yM,ih,Pr]
 unfold Xu;rw[this];simp
theorem ZG(n:Nat)(es:List (Nat×Nat)):(WQ n es).length=n:=by
 have:∀(es:List (Nat×Nat))(m:Ac),(es.foldl (λm e=>lm m e.1 e.2) m).length=m.length:=by
  intro es
  induction es with
  |nil=>intro m;rfl
  |cons e es ih=>intro m;rw[yM,ih,xP]
 unfold WQ;rw[this];simp
theorem qI(n:Nat)(es:List (Nat×Nat))(e:Nat×Nat):Xu n (es++[e])=pm (Xu n es) e.1 e.2:=by unfold Xu;rw[Nm];rfl
theorem MM(n:Nat)(es:List (Nat×Nat))(e:Nat×Nat):WQ n (es++[e])=lm (WQ n es) e.1 e.2:=by unfold WQ;rw[Nm];rfl
theorem xN:∀{es:List (Nat×Nat)},(∀e∈es,e.1<n/\e.2<n)->SameP (Xu n es) (WQ n es):=by
 intro es;have key:∀(es:List (Nat×Nat))(m l:Ac),SameP m l->m.length=n->(∀e∈es,e.1<n/\e.2<n)->SameP (es.foldl (λm e=>pm m e.1 e.2) m) (es.foldl (λm e=>lm m e.1 e.2) l):=by
  intro es
  induction es with
  |nil=>intro m l s _ _;exact s
  |cons e es ih=>
   intro m l s hm he;have h1:=he e Ya
   exact ih _ _ (s.step ur ur) (by rwa[Pr]) λx hx=>he x (Yf _ hx)
 exact key es _ _ ⟨Z,λi j _ _=>Iff.rfl⟩ B
noncomputable def SD(g:List (Int×Ac))(place k:Int):List (Int×Ac):=
 if k∈g.map (·.1) then g.map (λkv=>if kv.1=k then (kv.1,kv.2++[place]) else kv) else g++[(k,[place])]
noncomputable def Xr(M:Ac):Nat->List (Int×Ac)
 |0=>[]
 |i+1=>SD (Xr M i) (i:Int) (mk M i)
noncomputable def IQ(M:Ac):List (Int×Ac):=Xr M M.length
theorem ML(g:List (Int×Ac))(p k:Int):(SD g p k).map (·.1)=if k∈g.map (·.1) then g.map (·.1) else g.map (·.1)++[k]:=by
 unfold SD;split
 .rw[Lv];refine YY λkv _=>?_;show(if kv.1=k then (kv.1,kv.2++[p]) else kv).1=kv.1
  split<;>rfl
 .simp
theorem Zc6(h:(g.map (·.1)).Nodup):((SD g p k).map (·.1)).Nodup:=by
 rw[ML];split
 .exact h
 .rename_i hk;rw[YR];refine⟨h,B,λa ha b hb=>?_⟩;rw[XF]at hb;subst hb;rintro rfl;exact hk ha
theorem qH(M:Ac):∀i,((Xr M i).map (·.1)).Nodup
 |0=>by simp[Xr]
 |i+1=>Zc6 (qH M i)
theorem Vc(M:Ac):∀i kv,kv∈Xr M i->∀z:Int,z∈kv.2↔(0<=z/\z<(i:Int)/\mk M z.toNat=kv.1)
 |0,kv,h,z=>by simp[Xr]at h
 |i+1,kv,h,z=>by
  unfold Xr SD at h;split at h
  .rename_i hk;obtain⟨xM,h0,e⟩:=YA.mp h;have ih:=Vc M i xM h0 z
   by_cases hc:xM.1=mk M i
   .rw[if_pos hc]at e;subst e;rw[Xz,ih,XF];constructor
    .rintro(⟨a,b,c⟩|rfl)
     .exact⟨a,J,c⟩
     .exact⟨J,J,by simpa using hc.symm⟩
    .rintro⟨a,b,c⟩;by_cases hz:z<(i:Int)
     .exact .inl ⟨a,hz,c⟩
     .exact .inr J
   .rw[if_neg hc]at e;subst e;rw[ih];constructor
    .rintro⟨a,b,c⟩;exact⟨a,ur,c⟩
    .rintro⟨a,b,c⟩;refine⟨a,?_,c⟩;by_cases hz:z<(i:Int)
     .exact hz
     .have e:z.toNat=i:=uu;rw[e]at c;exact absurd c.symm hc
  .rename_i hk;rcases Xz.mp h with h0|h0
   .have ih:=Vc M i kv h0 z;rw[ih];constructor
    .rintro⟨a,b,c⟩;exact⟨a,J,c⟩
    .rintro⟨a,b,c⟩;refine⟨a,?_,c⟩;by_cases hz:z<(i:Int)
     .exact hz
     .have e:z.toNat=i:=uu;rw[e]at c;exact absurd (YA.mpr ⟨kv,h0,c.symm⟩) hk
   .rw[XF]at h0;subst h0;simp only[XF];constructor
    .rintro rfl;exact⟨J,J,B⟩
    .rintro⟨a,b,c⟩;by_cases hz:z<(i:Int)
     .exfalso;have key:=grpA_key M i z.toNat J
      rw[c]at key;exact hk key
     .lia
where
 grpA_key (M:Ac):∀i j,j<i->mk M j∈(Xr M i).map (·.1)
  |0,j,h=>absurd h (Wk j)
  |i+1,j,h=>by
   show mk M j∈(SD (Xr M i) (i:Int)<|mk M i).map (·.1);rw[ML];by_cases hj:j<i
   .have:=grpA_key M i j hj
    split
    .exact this
    .exact Yd _ this
   .have e:j=i:=J;subst e;split
    .assumption
    .simp
theorem grpA_key(h:j<i):mk M j∈(Xr M i).map (·.1):=Vc.grpA_key M i j h
theorem xK(M:Ac):∀i k,k∈(Xr M i).map (·.1)->∃j,j<i/\mk M j=k
 |0,k,h=>by simp[Xr]at h
 |i+1,k,h=>by
  have h:k∈(SD (Xr M i) (i:Int)<|mk M i).map (·.1):=h;rw[ML]at h;have old:k∈(Xr M i).map (·.1)->∃j,j<i+1/\mk M j=k:=λq=>by obtain⟨j,hj,e⟩:=xK M i k q;exact⟨j,J,e⟩
  split at h
  .exact old h
  .rcases Xz.mp h with q|q
   .exact old q
   .rw[XF]at q;exact⟨i,J,q.symm⟩
theorem di(hM:1<=M.length):(IQ M).length=1↔∀i j,i<M.length->j<M.length->mk M i=mk M j:=by
 unfold IQ;constructor
 .intro h i j hi hj;obtain⟨kv,e⟩:=eS.mp h;have h1:=grpA_key (M:=M) hi
  have h2:=grpA_key (M:=M) hj;rw[e]at h1 h2;rw[yS,XF]at h1 h2;rw[h1,h2]
 .intro h;have nd:=qH M M.length
  have h0:=grpA_key (M:=M) (i:=M.length) (j:=0) J;generalize hg:(Xr M M.length)=g at *
  match g,hg with
  |[],_=>simp at h0
  |[kv],_=>rfl
  |a::b::r,hg=>
   exfalso;obtain⟨i,hi,e1⟩:=xK M M.length a.1 (by rw[hg];simp)
   obtain⟨j,hj,e2⟩:=xK M M.length b.1 (by rw[hg];simp);have e3:=h i j hi hj
   have:a.1=b.1:=by rw[<-e1,<-e2,e3]
   simp[this]at nd
theorem SameP.one(s:SameP m l):(∀i j,i<m.length->j<m.length->mk m i=mk m j)↔(∀i j,i<l.length->j<l.length->mk l i=mk l j):=by
 obtain⟨hl,h⟩:=s;rw[<-hl];constructor
 .intro q i j hi hj;exact(h i j hi hj).mp (q i j hi hj)
 .intro q i j hi hj;exact(h i j hi hj).mpr (q i j hi hj)
theorem qG:∀{i:Nat}{kv:Int×Ac},kv∈Xr M i->kv.2.length<=i
 |0,kv,h=>by simp[Xr]at h
 |i+1,kv,h=>by
  unfold Xr SD at h;split at h
  .obtain⟨xM,h0,e⟩:=YA.mp h;have ih:=qG h0
   by_cases hc:xM.1=mk M i
   .rw[if_pos hc]at e;subst e;rw[Xt,Yr];lia
   .rw[if_neg hc]at e;subst e;lia
  .rcases Xz.mp h with h0|h0
   .have ih:=qG h0;omega
   .rw[XF]at h0;subst h0;simp
end My
namespace My
open PySem L2 PyProof.Rows
theorem ZT(z:Int)(l:Ac):Gs (.int z) (IL l)=decide (z∈l):=by
 unfold Gs;rw[List.any_map];rw[QH,Fn,YT];constructor
 .rintro⟨y,hy,e⟩;have e':y=z:=by simpa[Ta] using e
  rwa[<-e']
 .intro h;exact⟨z,h,by simp[Ta]⟩
theorem ZI(l:Ac):(IL l).all Tb=true:=by rw[List.all_map,RG];intro x _;rfl
theorem ZB:decide (V.int a=V.int b)=decide (a=b):=by
 by_cases h:a=b
 .subst h;simp
 .have h':¬V.int a=V.int b:=λz=>h (V.int.inj z);rw[YW h,YW h']
end My
namespace My
open PySem L2
noncomputable def IsSet(m:Nat)(ns:Ac):Prop:=∀i z,ns[i]?=some z->0<=z/\z<(m:Int)/\∀y,i≠0->ns[i-1]?=some y->y<z
noncomputable def XT(ps:Aa)(ns:Ac):List (Nat×Nat):=ns.map λz=>((ps.getD z.toNat (0,0)).1.toNat,(ps.getD z.toNat (0,0)).2.toNat)
theorem Zg6{ns:Ac}{z:Int}(h:ns[i]?=some z):XT ps (ns.take (i+1))=XT ps (ns.take i)++[((ps.getD z.toNat (0,0)).1.toNat,(ps.getD z.toNat (0,0)).2.toNat)]:=by unfold XT;rw[YL,h];simp
theorem NS(h:i<m.length):m[i]?=some (mk m i):=by rw[Xw h];simp[mk,WJ,Xw h]
theorem Zl8(n:Int):Wa 0 n=(List.range n.toNat).map λ(i:Nat)=>(i:Int):=by unfold Wa;rw[Ni];refine YY λi _=>?_;lia
noncomputable def UN(g:List (Int×Ac))(as:List Addr):List (Key×V):=List.zipWith (λkv a=>((Sum.inl kv.1:Key),V.ref a)) g as
theorem Zt7(h:as.length=g.length):(UN g as).length=g.length:=by unfold UN;rw[NA];grind
theorem dh:∀{g:List (Int×Ac)}{as:List Addr},as.length=g.length->(UN g as).map (·.2)=as.map V.ref
 |[],[],_=>rfl
 |[],_::_,h=>by simp at h
 |_::_,[],h=>by simp at h
 |kv::g,a::as,h=>by show V.ref a::(UN g as).map (·.2)=V.ref a::as.map V.ref;rw[dh (Nv h)]
theorem df:∀{g g':List (Int×Ac)}{as:List Addr},g.map (·.1)=g'.map (·.1)->UN g as=UN g' as
 |[],[],_,_=>rfl
 |[],_::_,_,h=>by simp at h
 |_::_,[],_,h=>by simp at h
 |kv::g,xJ::g',[],_=>rfl
 |kv::g,xJ::g',a::as,h=>by
  rw[WD,WD,List.cons.injEq]at h;show((Sum.inl kv.1:Key),V.ref a)::UN g as=((Sum.inl xJ.1:Key),V.ref a)::UN g' as
  rw[h.1,df h.2]
theorem de:∀{g:List (Int×Ac)}{as:List Addr}{kv:Int×Ac}{a:Addr},as.length=g.length->UN (g++[kv]) (as++[a])=UN g as++[((Sum.inl kv.1:Key),V.ref a)]
 |[],[],_,_,_=>rfl
 |[],_::_,_,_,h=>by simp at h
 |_::_,[],_,_,h=>by simp at h
 |x::g,y::as,kv,a,h=>by show _::UN (g++[kv]) (as++[a])=_::(UN g as++_);rw[de (Nv h)]
theorem qF:∀{g:List (Int×Ac)}{as:List Addr}{k:Int},as.length=g.length->
  (Wn (UN g as) (Sum.inl k:Key)=none/\k∉g.map (·.1))\/∃(j:Nat)(kv:Int×Ac)(a:Addr),g[j]?=some kv/\as[j]?=some a/\kv.1=k/\Wn (UN g as) (Sum.inl k:Key)=some (.ref a)
 |[],[],k,_=>.inl ⟨Z,B⟩
 |[],_::_,_,h=>by simp at h
 |_::_,[],_,h=>by simp at h
 |kv::g,a::as,k,h=>by
  by_cases e:kv.1=k
  .refine .inr ⟨0,kv,a,Z,Z,e,?_⟩;show Wn (((Sum.inl kv.1:Key),V.ref a)::UN g as) _=_
   rw[rZ (by rw[e])]
  .have e':¬((Sum.inl kv.1:Key)=Sum.inl k):=λz=>e (Sum.inl.inj z);have ev:Wn (UN (kv::g)<|a::as) (Sum.inl k:Key)=Wn (UN g as) (Sum.inl k:Key):=rY (p:=((Sum.inl kv.1:Key),V.ref a)) e'
   rcases qF (g:=g) (as:=as) (k:=k) (Nv h) with ⟨h1,h2⟩|⟨j,xJ,a',h1,h2,h3,h4⟩
   .refine .inl ⟨by rw[ev];exact h1,?_⟩;rw[WD,Ye];rintro(z|z)
    .exact e z.symm
    .exact h2 z
   .exact .inr ⟨j+1,xJ,a',by simpa using h1,by simpa using h2,h3,by rwa[ev]⟩
structure GrpAt (H0 H:Hp) (g:List (Int×Ac)) (as:List Addr):Prop where
 len:as.length=g.length
 nd:as.Nodup
 at_:∀(i:Nat)(kv:Int×Ac)(a:Addr),g[i]?=some kv->as[i]?=some a->H a=some (.lst<|IL kv.2)
 new:∀a∈as,H0 a=none
theorem GrpAt.same(s:Same H H')(h:GrpAt H0 H g as):GrpAt H0 H' g as:=⟨h.len,h.nd,λi kv a e1 e2=>s _ _<|h.at_ i kv a e1 e2,h.new⟩
theorem GrpAt.mem(h:GrpAt H0 H g as){a:Addr}(ha:a∈as):∃l,H a=some (.lst l):=by
 obtain⟨i,hi,e⟩:=RC ha;have hg:i<g.length:=by rwa[<-h.len]
 exact⟨_,h.at_ i g[i] a (Xw hg)<|by rw[Xw hi,e]⟩
theorem IsSet.all(h:IsSet m ns):∀z∈ns,0<=z/\z<(m:Int):=λz hz=>by obtain⟨i,hi,e⟩:=RC hz;obtain⟨a,b,_⟩:=h i z (by rw[Xw hi,e]);exact⟨a,b⟩
theorem IsSet.nil(m:Nat):IsSet m []:=λi z e=>by simp at e
theorem IsSet.up(h:IsSet m ns):IsSet (m+1) ns:=λi z e=>by obtain⟨a,b,c⟩:=h i z e;exact⟨a,ur,c⟩
theorem IsSet.snoc(h:IsSet m ns):IsSet (m+1) (ns++[(m:Int)]):=λi z e=>by
 by_cases hi:i<ns.length
 .rw[Yw hi]at e;obtain⟨a,b,c⟩:=h i z e;refine⟨a,J,λy h0 ey=>?_⟩;rw[Yw ur]at ey;exact c y h0 ey
 .have hl:i=ns.length:=by
   have:=(Xs.mp e).1
   rw[Xt,Yr]at this;lia
  subst hl;rw[Yv (XO _),Nu]at e;have e:(m:Int)=z:=Yh e
  subst e;refine⟨J,J,λy h0 ey=>?_⟩;rw[Yw ur]at ey;exact(h _ y ey).2.1
theorem IsSet.len:∀{ns:Ac},IsSet m ns->ns.length<=m:=λ{ns} h=>by
 have key:∀(i:Nat)(z:Int),ns[i]?=some z->(i:Int)<=z:=by
  intro i
  induction i with
  |zero=>intro z e;exact(h 0 z e).1
  |succ i ih=>
   intro z e;have hi:i<ns.length:=by have:=(Xs.mp e).1;lia
   have e2:ns[i]?=some ns[i]:=Xw hi
   have:=ih _ e2
   have:=(h (i+1) z e).2.2 ns[i] J (by rwa[vf])
   lia
 by_cases h0:ns.length=0
 .lia
 .have e:ns[ns.length-1]?=some (ns[ns.length-1]'(by lia)):=Xw _;have a:=key _ _ e
  have b:=(h _ _ e).2.1;lia
end My
namespace L2
open PySem PySem.Spec PyProof.Rows
section
variable{X:Cx}
noncomputable def qE(K:Ad):V->List V->Hp->VK->Prop:=λx vs H Q=>∃(p:Addr)(ns:Ac)(z:Int)(j:Nat),x=.ref p/\vs=[.int z]/\SqL K H p (ns.map V.int)/\ns[j]?=some z/\(∀i,i<j->ns[i]?≠some z)/\Q (.int j) H
theorem ZA8 (K:Ad) (h:X.K=K:=by rfl):Ob X "list.index" (qE K):=by
 subst h;intro pins s σ H x vs v us Q I rx rv h;obtain⟨p,ns,z,j,rfl,rfl,hq,hj,SY,q⟩:=h;cases rx;obtain⟨u,rfl,t,rfl⟩:=rv.one;obtain⟨XW,r,⟨o,n,e,hc,hd,IP⟩,hz⟩:=I.list hq;have hl:XW.length=ns.length:=by rw[<-r.length,Yb]
 have MK:j<ns.length:=(Xs.mp hj).1;have hsz:sizeLine=16777216:=TQ
 rw[Yb]at hz;obtain⟨oc,od,qD,Uo⟩:=o;have hc:oc=.type "list":=hc
 have IP:qD=.seq XW.toArray n:=IP;subst hc IP;have at_:∀(i:Nat)(hi:i<XW.length),∃tk,XW[i]=.int (ns[i]'(by lia)) tk:=λi hi=>by
  obtain⟨x,ex,rx⟩:=r.at hi;rw[Yo,Xw ur]at ex;have ex:V.int (ns[i]'(by omega))=x:=Yh ex
  subst ex;exact rx
 refine Oi F.slot_list_index ⟨_,e,Z⟩ F.entry_list_index (F.args_list_index_2 _ _) (SeqAt.list_indexAt p XW.toArray n od Uo (.int z t) (λy=>Ua (.int z) y) j (by rw[Yc];lia) J ?_ ?_) ⟨e,λy hy=>?_,?_⟩
 .obtain⟨tk,e1⟩:=at_ j ur;have e2:ns[j]'(by lia)=z:=by rw[Xw MK]at hj;exact Yh hj
  have e3:XW.toArray[j]'(by rw[Yc];lia)=.int z tk:=by rw[<-e2];simpa using e1
  rw[e3];simp[Ua,Ta]
 .intro m hm hmj;have Lf:m<XW.length:=by rwa[Yc]at hm
  obtain⟨tk,e1⟩:=at_ m Lf;have e3:XW.toArray[m]'hm=.int (ns[m]'(by omega)) tk:=by simpa using e1
  rw[e3];have XJ:=SY m hmj
  rw[Xw ur]at XJ;have IM:ns[m]'(by omega)≠z:=λw=>XJ (XB some w)
  simp[Ua,Ta,IM]
 .refine DY (x:=.int z) ⟨t,Z⟩ Z r ?_ y (by simpa using hy);rw[List.all_map,RG];intro _ _;rfl
 .exact⟨.int j,H,I.tok _,⟨_,Z⟩,q⟩
theorem qC{XW:Array Value}{bs:List Bool}(h:∀(i:Nat)(v:Value),XW[i]?=some v->∃b,bs[i]?=some b/\v=.bool b):TruthOf prog w A (λi v=>XW[i]?=some v) (λi=>bs.getD i false):=by
 intro i v s Q E hP hQ;obtain⟨b,eb,rfl⟩:=h i v hP;have hQ:Q (bs.getD i false) s:=hQ
 rw[WJ,eb]at hQ;exact Qj hQ
theorem qB(bs:List Bool):(List.range bs.length).any (λi=>bs.getD i false)=bs.any id:=by
 rw[QH,Fn,Fn];constructor
 .rintro⟨i,hi,e⟩;have hi:=YI.mp hi
  rw[WJ,Xw hi]at e;exact⟨_,Ny hi,e⟩
 .rintro⟨b,hb,e⟩;obtain⟨i,hi,ei⟩:=RC hb;refine⟨i,YI.mpr hi,?_⟩;rwa[WJ,Xw hi,ei]
theorem qA{bs:List Bool}(r:Vals (bs.map V.bl) XW):∀(i:Nat)(v:Value),XW.toArray[i]?=some v->∃b,bs[i]?=some b/\v=.bool b:=λi v e=>by
 have e:XW[i]?=some v:=by simpa using e
 have hi:i<XW.length:=(Xs.mp e).1;obtain⟨x,ex,rx⟩:=r.at hi;rw[Yo]at ex;cases eb:bs[i]? with
 |none=>rw[eb]at ex;cases ex
 |some b=>
  rw[eb]at ex;have ex:V.bl b=x:=Yh ex
  subst ex;rw[Xw hi]at e;have e:XW[i]=v:=Yh e
  rw[e]at rx;exact⟨b,Z,rx⟩
theorem Za9 (K:Ad) (hc:X.calm=true) (h:X.K=K:=by rfl):Vp X (.builtin "any") (λxs H Q=>∃(p:Addr)(bs:List Bool),xs=[.ref p]/\SqL K H p (bs.map V.bl)/\Q (.bl<|bs.any id) H):=by
 subst h;intro pins s σ H xs us Q I r h;obtain⟨p,bs,rfl,hq,q⟩:=h;obtain⟨u,rfl,ru⟩:=WH r;obtain rfl:u=Value.ref p:=ru;obtain⟨XW,rv,pl,hz⟩:=I.list hq;have hl:XW.toArray.size=bs.length:=by rw[Yc,<-rv.length,Yb]
 have XJ:p≠s.heap.objs.size:=Yy (by obtain⟨_,_,e,_⟩:=pl;exact Yp e);refine call_any_walk (yN pl.isList ⟨s.heap.objs.size,_,_,_,_,_,_,Z,Walks.list (A:=X.A.in1) (I.ok.hd hc) s.heap.objs.size p XJ XW.toArray,⟨⟨_,Yj _ Z,Z,Z⟩,pl.isList.push _⟩,qC<|qA rv,λh' tk hk=>?_⟩);rw[hl,qB];refine⟨.bl<|bs.any id,H,I.kept λb o e=>hk b o ?_<|Xb _ e,Z,q⟩;intro z;rw[XF.mp z]at e;exact absurd (Yp e) (RF _)
end
end L2
namespace My
open PySem L2
section
variable{K:Ad}{H:Hp}{α:Type}[DecidableEq α]
noncomputable def Bears(R:V->α->Prop)(xs:List V)(l:List α):Prop:=xs.length=l.length/\∀(i:Nat)(a:α),l[i]?=some a->∃x,xs[i]?=some x/\R x a
theorem Bears.at{R:V->α->Prop}(h:Bears R xs l){i:Nat}{x:V}(e:xs[i]?=some x):∃a,l[i]?=some a/\R x a:=by
 have hi:i<xs.length:=(Xs.mp e).1;have hl:i<l.length:=by rwa[<-h.1]
 obtain⟨x',e1,q⟩:=h.2 i l[i] (Xw hl);rw[e]at e1;cases e1;exact⟨_,Xw hl,q⟩
theorem Le{l m:List α}(h:l.length=m.length):(List.range l.length).all (λi=>decide (l[i]?=m[i]?))=decide (l=m):=by
 rw[QH,RG,YT];constructor
 .intro q;refine GK λi=>?_;by_cases hi:i<l.length
  .exact Yu (q i<|YI.mpr hi)
  .rw[Vv J,Vv J]
 .rintro rfl i _;simp
theorem qz{R:V->α->Prop}(hp:SqL K H p xs)(hq:SqL K H q ys)(h1:Bears R xs l)(h2:Bears R ys m)(hR:∀x y a b,R x a->R y b->EqD K H n x y (decide (a=b))):EqD K H (n+1) (.ref p) (.ref q) (decide (l=m)):=by
 by_cases hl:xs.length=ys.length
 .have e:=Le (l:=l) (m:=m) (by rw[<-h1.1,<-h2.1,hl]);rw[<-e,<-h1.1];refine EqD.lsts hp hq hl λi x y ex ey=>?_;obtain⟨a,ea,ra⟩:=h1.at ex;obtain⟨b,eb,rb⟩:=h2.at ey;rw[ea,eb,show decide (some a=some b)=decide (a=b) by simp];exact hR x y a b ra rb
 .have e:decide (l=m)=false:=YW λz=>hl (by rw[h1.1,h2.1,z]);rw[e];exact EqD.lens hp hq hl
theorem qy{R:V->α->Prop}(hp:SqT K H p xs)(hq:SqT K H q ys)(h1:Bears R xs l)(h2:Bears R ys m)(hR:∀x y a b,R x a->R y b->EqD K H n x y (decide (a=b))):EqD K H (n+1) (.ref p) (.ref q) (decide (l=m)):=by
 have key:=EqD.tups (e:=λi=>decide<|l[i]?=m[i]?) hp hq λi x y ex ey=>by obtain⟨a,ea,ra⟩:=h1.at ex;obtain⟨b,eb,rb⟩:=h2.at ey;rw[ea,eb,show decide (some a=some b)=decide (a=b) by simp];exact hR x y a b ra rb
 by_cases hl:xs.length=ys.length
 .have e:=Le (l:=l) (m:=m) (by rw[<-h1.1,<-h2.1,hl]);rwa[<-hl,Nat.min_self,h1.1,e,show(l.length == l.length)=true by simp,Bool.and_true]at key
 .have e:decide (l=m)=false:=YW λz=>hl (by rw[h1.1,h2.1,z]);rw[show(xs.length == ys.length)=false by simpa using hl,Bool.and_false]at key;rwa[e]
theorem MJ(ns:Ac):Bears (λx (z:Int)=>x=.int z) (IL ns) ns:=⟨Xx ns,λi z e=>⟨_,UA e,Z⟩⟩
theorem dc{a b:Int}(hx:x=.int a)(hy:y=.int b):EqD K H n x y (decide (a=b)):=by
 subst hx hy;have e:decide (a=b)=Ta (.int a) (.int b):=by show decide (a=b)=(a == b);rw[Bool.beq_eq_decide_eq]
 rw[e];exact EqD.flat Z rfl
theorem c9(hp:SqL K H p (IL ns))(hq:SqL K H q (IL ms)):EqD K H 1 (.ref p) (.ref q) (decide (ns=ms)):=
 qz hp hq (MJ ns) (MJ ms) λ_ _ _ _=>dc
theorem IK(hp:SqT K H p (IL ns))(hq:SqT K H q (IL ms)):EqD K H 1 (.ref p) (.ref q) (decide (ns=ms)):=
 qy hp hq (MJ ns) (MJ ms) λ_ _ _ _=>dc
noncomputable def Rm(H:Hp)(v:V)(l:Ac):Prop:=∃a,v=.ref a/\H a=some (.lst<|IL l)
end
end My
namespace My
noncomputable def Wi(M:Ac)(p:Nat):Bool:=(List.range p).all λi=>decide (mk M i≠mk M p)
noncomputable def UM(M:Ac)(k:Int)(i:Nat):Ac:=((List.range i).filter λj=>decide<|mk M j=k).map λ(j:Nat)=>(j:Int)
noncomputable def Vt(M:Ac)(i:Nat):List Nat:=(List.range i).filter (Wi M)
theorem XD:Wi M p=true↔∀i,i<p->mk M i≠mk M p:=by
 unfold Wi;rw[RG];constructor
 .intro h i hi;exact Yu (h i<|YI.mpr hi)
 .intro h i hi;exact Yn (h i<|YI.mp hi)
theorem qx(M:Ac)(k:Int)(i:Nat):UM M k (i+1)=UM M k i++(if mk M i=k then [(i:Int)] else []):=by
 unfold UM;rw[GH,Ql,YJ];congr 1;by_cases h:mk M i=k
 .rw[if_pos h,YO,if_pos (by simpa using h)];rfl
 .rw[if_neg h,YO,if_neg (by simpa using h)];rfl
theorem c8(M:Ac)(i:Nat):Vt M (i+1)=Vt M i++(if Wi M i=true then [i] else []):=by
 unfold Vt;rw[GH,Ql];congr 1;by_cases h:Wi M i=true
 .rw[if_pos h,YO,if_pos h];rfl
 .rw[if_neg h,YO,if_neg h];rfl
theorem c7(M:Ac):∀i,Xr M i=(Vt M i).map λp=>(mk M p,UM M (mk M p) i)
 |0=>rfl
 |i+1=>by
  have ih:=c7 M i;show SD (Xr M i) (i:Int) (mk M i)=_
  have hk:(mk M i∈(Xr M i).map (·.1))↔Wi M i≠true:=by
   constructor
   .intro h q;obtain⟨j,hj,e⟩:=xK M i _ h;exact XD.mp q j hj e
   .intro h;by_cases q:∃j,j<i/\mk M j=mk M i
    .obtain⟨j,hj,e⟩:=q;rw[<-e];exact grpA_key hj
    .exact absurd (XD.mpr λj hj e=>q ⟨j,hj,e⟩) h
  unfold SD;by_cases h:mk M i∈(Xr M i).map (·.1)
  .have hf:=hk.mp h;rw[if_pos h,c8,if_neg hf,YH,ih,Lv];refine YY λp _=>?_;show(if mk M p=mk M i then (mk M p,UM M (mk M p) i++[(i:Int)]) else (mk M p,UM M (mk M p) i))=(mk M p,UM M (mk M p)<|i+1)
   rw[qx];by_cases e:mk M p=mk M i
   .rw[if_pos e,if_pos e.symm]
   .rw[if_neg e,if_neg λz=>e z.symm,YH]
  .have hf:Wi M i=true:=by
    cases q:Wi M i with
    |true=>rfl
    |false=>exact absurd (hk.mpr<|by rw[q];exact Yz) h
   rw[if_neg h,c8,if_pos hf,YJ,ih];congr 1
   .refine YY λp hp=>?_;have Pq:p<i:=YI.mp (Yg.mp hp).1
    rw[qx,if_neg λz=>XD.mp hf p Pq z.symm,YH]
   .show [(mk M i,[(i:Int)])]=[(mk M i,UM M (mk M i)<|i+1)];rw[qx,if_pos Z];have e0:UM M (mk M i) i=[]:=by unfold UM;rw[eQ.mpr λj hj=>by simpa using XD.mp hf j (YI.mp hj)];rfl
    rw[e0];rfl
end My
namespace My
open PySem L2
theorem Bears.snoc{α:Type}[DecidableEq α]{R:V->α->Prop}{xs:List V}{l:List α}{x:V}{a:α}(h:Bears R xs l)(hx:R x a):Bears R (xs++[x]) (l++[a]):=by
 refine⟨by rw[Xt,Xt,h.1];rfl,λi b e=>?_⟩;by_cases hi:i<l.length
 .rw[Yw hi]at e;rw[Yw (by rwa[h.1])];exact h.2 i b e
 .have hl:i=l.length:=by
   have:=(Xs.mp e).1
   rw[Xt,Yr]at this;lia
  subst hl;rw[Yv (XO _),Nu]at e;rw[Yv (by rw[h.1];exact XO _),h.1,Nu];have e':a=b:=Yh e
  subst e';exact⟨x,Z,hx⟩
theorem Bears.imp{α:Type}[DecidableEq α]{R R':V->α->Prop}{xs:List V}{l:List α}(h:Bears R xs l)(f:∀x a,R x a->R' x a):Bears R' xs l:=⟨h.1,λi a e=>by obtain⟨x,e1,r⟩:=h.2 i a e;exact⟨x,e1,f x a r⟩⟩
end My
namespace L2
open PySem PySem.Spec PyProof.Rows
theorem ObjOk.there(x:ObjOk P w H h a o):∃u,h.get? a=some u:=by
 cases o with
 |lst xs=>obtain⟨_,_,_,_,e⟩:=x;exact⟨_,e⟩
 |tup xs=>obtain⟨_,_,_,o,e,_⟩:=x;exact⟨_,e⟩
 |dK kvs=>obtain⟨_,_,_,_,o,_,_,e,_⟩:=x;exact⟨_,e⟩
 |dT kvs=>obtain⟨_,_,_,_,o,_,_,e,_⟩:=x;exact⟨_,e⟩
 |set uo n=>obtain⟨o,_,_,_,e,_⟩:=x;exact⟨_,e⟩
 |ins C dx fs=>obtain⟨_,_,_,e,_⟩:=x;exact⟨_,e⟩
 |own y=>exact x
 |xd fs=>obtain⟨_,⟨_,_,_,e,_⟩,_⟩:=x;exact⟨_,e⟩
 |rng lo hi=>obtain⟨_,_,_,e⟩:=x;exact⟨_,e⟩
 |frz ob u=>obtain⟨e,_⟩:=x;exact⟨_,e⟩
 |tbl ps=>exact⟨_,x⟩
 |met f y=>exact⟨_,x⟩
 |ext φ=>obtain⟨_,e,_⟩:=x;exact e
structure Fly (h0:Heap) (H:Hp) (e C:Addr) (h:Heap):Prop where
 ex:∃oe vs T oT ts a0,h.get? e=some oe/\oe.cls=.ref C/\oe.data=.fields vs/\vs[0]?=some a0/\vs[1]?=some (.ref T)/\T≠e/\h.get? T=some oT/\oT.data=.fields ts/\ts[3]?=some .none/\h0.get? T=none/\H T=none
 new:h0.get? e=none
 free:H e=none
noncomputable def Vb(P:Program)(w:World):SF:=λouter H s E ev s'=>∃e C H',ev=Value.ref e/\s'.os=s.os/\AllBare s'.gens/\Un (Wd outer) [] H H' s.heap s'.heap/\HOk P w H' s'.heap/\Fly s.heap H' e C s'.heap/\E (.ref C) none H'
section
variable{X:Cx}{pins:List (Addr×Obj)}{σ:St}{H:Hp}{s:Shared}{e C:Addr}
noncomputable abbrev WU(X:Cx)(h:Heap)(ns:List Addr):Heap:=PySem.W.hideAll h (Wd X.stack++ns)
theorem IJ{b:Addr}{o:Obj}(q:h.get? b=some o)(h1:b∉Wd X.stack)(h2:b∉ns):(WU X h ns).get? b=some o:=
 PySem.W.hideAll_get _ q λz=>(Xz.mp z).elim h1 h2
theorem DA:(WU X h ns).StaysIn h:=λ_ _ q=>PySem.W.of_hideAll _ q
theorem Inv.was(I:Inv X pins σ H s)(hex:X.ex=[]){b:Addr}(h:s.heap.get? b=none):X.s₀.heap.get? b=none:=by
 cases q:X.s₀.heap.get? b with
 |none=>rfl
 |some o=>
  obtain⟨o',e⟩:=I.base.there b o q (by rw[hex];simp);rw[h]at e;cases e
theorem c6(ok:HOk P w H h)(hf:∀b∈Wd X.stack,H b=none)(VE:∀b∈ns,H b=none)(k:(WU X h ns).StaysIn h'):HOk P w H h':=λa o q=>
 (ok a o q).stay (λb u hb g=>k b u (IJ g (λz=>by
  have:=hf b z
  rcases hb with rfl|hb
  .rw[q]at this;cases this
  .rw[hb]at this;cases this) λz=>by
  have:=VE b z
  rcases hb with rfl|hb
  .rw[q]at this;cases this
  .rw[hb]at this;cases this)) (λ_ z=>z) λ_ _ z=>z
theorem ZZ8(Wx:X.stack=X.env::X.outer)(Rk:X.env.frame=some X.env.locals):Wd X.stack=X.env.locals::Wd X.outer:=by rw[Wx];unfold Wd;rw[Fw,Rk]
theorem Ld(Wx:X.stack=X.env::X.outer)(Rk:X.env.frame=some X.env.locals)(hex:X.ex=[])(I:Inv X pins σ H s)(VE:∀b∈ns,X.s₀.heap.get? b=none/\H b=none) 
  (RW:Heap.FlyingW (WU X s.heap ns) X.outer e (.ref C) a0 h')(up:s.heap.UpToSlots h')(ne:X.s₀.heap.get? e=none)(fe:H e=none)(hE:E (.ref C) none H)(hs:s'.heap=h')(ho:s'.os=s.os)(hg:s'.gens=s.gens):
  Vb X.prog X.w X.outer X.H₀ X.s₀ E (.ref e) s':=by
 subst hs;have fst:=ZZ8 (X:=X) Wx Rk
 have xH:∀b o,X.s₀.heap.get? b=some o->b≠X.env.locals:=λb o q=>Yy (Yt (Yp q) I.ok.above);have Dz:∀b o,X.s₀.heap.get? b=some o->b∉ns:=λb o q z=>by rw[(VE b z).1]at q;cases q
 have Lc:∀b o,X.s₀.heap.get? b=some o->b∉Wd X.outer->b∉Wd X.stack:=λb o q n z=>by
  rw[fst]at z;rcases Ye.mp z with z|z
  .exact xH b o q z
  .exact n z
 have SA:∀b,b∉X.ex:=λb z=>by rw[hex]at z;cases z
 have keep:∀b o u,X.s₀.heap.get? b=some o->b∉Wd X.outer->s.heap.get? b=some u->s'.heap.get? b=some u:=λb o u q n g=>RW.1 b u (IJ g (Lc b o q n)<|Dz b o q);have slot:∀b u,b∈Wd X.outer->s.heap.get? b=some u->∃sl,s'.heap.get? b=some {u with slots:=sl}:=λb u hb g=>by obtain⟨_,o',Wu,hd⟩:=I.funs.mem hb;rw[g]at Wu;cases Wu;exact up b u g hd
 refine⟨e,C,H,Z,ho.trans I.os,hg▸I.bare,⟨λb o q n hb _=>?_,λb o q n hb _=>?_,λb o q n _=>I.base.free b o q n<|SA b,λb o q _=>?_,I.base.tups,I.base.frzs,I.base.tbls⟩,c6 I.hok I.stkFree (λb hb=>(VE b hb).2) RW.1,⟨?_,ne,fe⟩,hE⟩
 .exact keep b o o q hb (I.base.keep b o q n hb<|SA b)
 .obtain⟨sl,g⟩:=I.base.slot b o q n hb (SA b);obtain⟨ET,g'⟩:=slot b _ hb g;exact⟨ET,g'⟩
 .obtain⟨u,g⟩:=I.base.there b o q (SA b);by_cases hb:b∈Wd X.outer
  .obtain⟨sl,g'⟩:=slot b u hb g;exact⟨_,g'⟩
  .exact⟨u,keep b o u q hb g⟩
 .obtain⟨f1,f2,f3,oe,vs,T,oT,ts,he,⟨hc,h0⟩,hd,h1,xG,Dy,hT,Gk,h3⟩:=RW;refine⟨oe,vs,T,oT,ts,a0,he,hc,hd,h0,h1,Dy,hT,Gk,h3,?_,?_⟩
  .cases q:X.s₀.heap.get? T with
   |none=>rfl
   |some o=>
    obtain⟨u,g⟩:=I.base.there T o q (SA T);by_cases hb:T∈Wd X.outer
    .obtain⟨_,o',Wu,Qc⟩:=f3.mem hb;rw[hT]at Wu;cases Wu;exact absurd Gk (Qc ts)
    .rw[IJ g (Lc T o q hb) (Dz T o q)]at xG;cases xG
  .cases q:H T with
   |none=>rfl
   |some ho=>
    obtain⟨u,g⟩:=(I.hok T ho q).there;rw[IJ g (λz=>by rw[I.stkFree T z]at q;cases q) (λz=>by rw[(VE T z).2]at q;cases q)]at xG;cases xG
theorem c5(Wx:X.stack=X.env::X.outer)(I:Inv X pins σ H s)(F:Fly h0 H e C s.heap):∃T a0,Heap.FlyingW (WU X s.heap [e,T]) X.stack e (.ref C) a0 s.heap/\h0.get? T=none/\H T=none:=by obtain⟨oe,vs,T,oT,ts,a0,he,hc,hd,qw,h1,Dy,hT,Gk,h3,nT,fT⟩:=F.ex;refine⟨T,a0,⟨DA,vq _ B,?_,oe,vs,T,oT,ts,he,⟨hc,qw⟩,hd,h1,vq _ B,Dy,hT,Gk,h3⟩,nT,fT⟩;exact eY I.stack λenv II a hf=>Yd _ (yT.mpr ⟨env,II,hf⟩)
theorem ZH8(Wx:X.stack=X.env::X.outer)(Rk:X.env.frame=some X.env.locals)(hex:X.ex=[])(I:Inv X pins σ H s)(F:Fly X.s₀.heap H e C s.heap)(hE:E (.ref C) none H){E':Ae}:
  wpAny (model X.prog X.w) X.A (leaving X.env<|.ref e) (λ_ UD=>Vb X.prog X.w X.outer X.H₀ X.s₀ E (.ref e) UD) E' s:=by
 obtain⟨T,a0,fl,nT,fT⟩:=c5 Wx I F;rw[Wx]at fl;refine wpAny_leaves_onW (by rw[I.ok.frames,Wx]) Rk fl λh' fl' up=>?_;refine Ld Wx Rk hex I (λb hb=>?_) fl' up F.new F.free hE Z Z rfl;rcases Ye.mp hb with rfl|hb
 .exact⟨F.new,F.free⟩
 .rw[XF.mp hb];exact⟨nT,fT⟩
theorem Ze7(Wx:X.stack=X.env::X.outer)(Rk:X.env.frame=some X.env.locals)(hex:X.ex=[])(I:Inv X pins σ H s)(hm:Heap.MadeExcOf s.heap h' e (.ref C) vs)(hE:E (.ref C) none H){E':Ae}:
  wpAny (model X.prog X.w) X.A (leaving X.env<|.ref e) (λ_ UD=>Vb X.prog X.w X.outer X.H₀ X.s₀ E (.ref e) UD) E' {s with heap:=h'}:=by
 have ff:s.heap.FunFrames (WU X s.heap []) X.stack:=eY I.stack λenv II a hf=>Yd _ (yT.mpr ⟨env,II,hf⟩);rw[Wx]at ff;refine wpAny_leaves_madeW (base:=WU X s.heap []) (h:=s.heap) (by rw[I.ok.frames,Wx]) Rk DA ff hm λIG t fl _ _ up=>?_;have fe:H e=none:=by
  cases q:H e with
  |none=>rfl
  |some ho=>
   obtain⟨u,g⟩:=(I.hok e ho q).there;rw[hm.new]at g;cases g
 exact Ld (s':={s with heap:=IG}) Wx Rk hex I (λb hb=>by cases hb) fl ((Heap.UpToSlots.of_keeps hm.keeps).trans up) (I.was hex hm.new) fe hE Z Z rfl
theorem Inv.flown(I:Inv X pins σ H s)(h:Vb X.prog X.w X.stack H s E ev s'):∃e C H',ev=Value.ref e/\Inv X pins σ H' s'/\Fly s.heap H' e C s'.heap/\E (.ref C) none H':=by obtain⟨e,C,H',rfl,ho,hg,u,ok,F,hE⟩:=h;exact⟨e,C,H',Z,I.call' (ch:=[]) ho u ok hg (λ_ z=>nomatch z),F,hE⟩
theorem Fly.older(F:Fly h0 H e C h)(k:∀b,h0.get? b=none->h1.get? b=none):Fly h1 H e C h:=by obtain⟨oe,vs,T,oT,ts,a0,he,hc,hd,qw,Lb,Dy,hT,Gk,h3,nT,fT⟩:=F.ex;exact⟨⟨oe,vs,T,oT,ts,a0,he,hc,hd,qw,Lb,Dy,hT,Gk,h3,k _ nT,fT⟩,k _ F.new,F.free⟩
end
section
variable{P:Program}{w:World}{K:Ad}{mg:Af}{base:Heap}
theorem cZ:Ll (Vb P w) (Wq (Vb P w) P w K mg base N qual scope f cd A outer s H E) E:=by intro pins σ H1 s1 ev s' I h;obtain⟨e,C,H',rfl,AP,F,hE⟩:=I.flown h;exact ZH8 Z Z Z AP (F.older λb hb=>I.was Z hb) hE
theorem Fun.okX{x qual:Str}{st:Stmt}{f:Addr}{fd:FuncData}{N ps:List Str}{k:Nat}{sp:Sp}(F:Fun K x qual st f fd)(uo:FnScope N ps (Xv st))(len:∀vs H Q E,sp vs H Q E->vs.length=ps.length)
  (hbody:∀XG A outer s H vs Q E,Room k (A.deeper<|envOfC qual (Xv st) s.heap.objs.size f XG)->sp vs H Q E->
   ∃t,PSs (Wq (Vb P w) P w K mg base N qual (Xv st) f XG A outer s H E) (RY st) t/\t {nx:=λ_ H'=>Q .non H',rt:=Q} (start N vs) H):FnOk P w K mg base (Vb P w) (k+1) f fd ps sp:=by obtain⟨oc,od,kV,doc,pm,an,XG,ct,Uo,rfl,lk,Ub⟩:=F.ex;exact Jj lk Ub uo len λA outer s H vs Q E hr UT=>hbody XG A outer s H vs Q E hr UT
end
structure XCls (K:Ad) (C:Addr):Prop where
 ex:PySem.W.excIn K C [.type "ValueError",.type "Exception",.type "BaseException",.type "object"] "ValueError.__new__"=true
 ga:PySem.W.findIn K (.ref C) "__getattribute__"=some (some<|.builtin "BaseException.__getattribute__")
 gh:PySem.W.findIn K (.ref C) "__getattr__"=some none
 cl:PySem.W.findIn K (.ref C) "__class__"=some (some<|.builtin "object.__class__")
 ob:PySem.W.mroIn K C (.type "object")=some true
 bx:PySem.W.mroIn K C (.type "BaseException")=some true
theorem XCls.obj {K:Ad} {C:Addr} {h:Heap} (c:XCls K C) (X:K.In h):∃bm N nm q bs hdct sn sub ab col dd k0 k1 k2 k3 k5 mN,h.get? C=some (excClassObj nm q C N bs bm hdct sn sub ab col dd k0 k1 k2 k3 k5 "ValueError.__new__")/\h.Ns N mN/\mN "__init__"=none/\OwnTail h [.type "ValueError",.type "Exception",.type "BaseException",.type "object"] bm:=by
 have q:=c.ex;unfold PySem.W.excIn at q;split at q
 .rename_i dd cd sl ho;split at q
  .rename_i C' bm k0 k1 k2 k3 n k5 hm hs;simp only[Lz,Sd,Bool.not_eq_true']at q;obtain⟨⟨⟨⟨⟨rfl,rfl⟩,Dx⟩,ht⟩,hok⟩,xF⟩:=q;obtain⟨nm,bs,mro,ns,qn,hd,sn,sub,ab,col,del⟩:=cd;dsimp only at hm Dx hok xF;subst hm Dx;have IF:sl=#[k0,k1,k2,k3,some<|.builtin "ValueError.__new__",k5]:=by obtain⟨l⟩:=sl;simp only at hs;rw[hs]
   subst IF;exact⟨bm,ns,nm,qn,bs,hd,sn,sub,ab,col,dd,k0,k1,k2,k3,k5,_,X _ _ ho,.of_isNs<|PySem.W.isNs_of_in X hok,PySem.W.nsMap_none_of_in X hok xF,PySem.W.tail_of_in X ht⟩
  .cases q
 .cases q
noncomputable def Dw(C:Addr)(E:XK)(t:TA):TS:=λ_ σ H=>t σ H λvs H1=>vs.length<=sizeLine/\E (.ref C) none H1
theorem cY{P:Program}{w:World}{K:Ad}{mg:Af}{base:Heap}{N:List Str}{qual:Str}{scope:Scope}{f:Addr}{cd:Value}{A:Around}{outer:List Env}{s0:Shared}{H0:Hp}{E:XK}{C:Addr}{x:Str}{np Xe pos:Pos}{e₀:Expr}{rest:List Expr}{t:TA}
  (c:XCls K C)(hm:mg x=some (.ref C))(ha:PA (Wq (Vb P w) P w K mg base N qual scope f cd A outer s0 H0 E) (e₀::rest) t)
  (hg:Gl (Wq (Vb P w) P w K mg base N qual scope f cd A outer s0 H0 E) x:=by rfl)(hd:(x == ("__debug__":Str))=false:=by decide)
  (he:starEach (e₀::rest) (Wq (Vb P w) P w K mg base N qual scope f cd A outer s0 H0 E).env=(false,eval e₀ (Wq (Vb P w) P w K mg base N qual scope f cd A outer s0 H0 E).env)::starEach rest (Wq (Vb P w) P w K mg base N qual scope f cd A outer s0 H0 E).env:=by rfl)
  (Vf:(backTo Xe<|starEach rest (Wq (Vb P w) P w K mg base N qual scope f cd A outer s0 H0 E).env).any (·.1)=false:=by rfl):
  PS (Wq (Vb P w) P w K mg base N qual scope f cd A outer s0 H0 E) (.Raise (some<|.Call (.Name x np) (e₀::rest) [] Xe) none pos) (Dw C E t):=by
 intro pins s σ H um I h;obtain⟨tl,NN,nm,q,bs,hdct,sn,sub,ab,col,dd,k0,k1,k2,k3,k5,mN,hC,hN,xF,T⟩:=c.obj I.ok.mod.kin;refine wpAny_Raise_call_subT (C:=C) (nm:=nm) (q:=q) (N:=NN) (bs:=bs) (bm:=tl) (hdct:=hdct) (sn:=sn) (sub:=sub) (ab:=ab) (col:=col) (dd:=dd) (k0:=k0) (k1:=k1) (k2:=k2) (k3:=k3) (k5:=k5)
  EZ (mN:=mN) (T.hasType EZ.hasBase) (I.ok.hd Z) (by rw[he];show(false||(backTo Xe<|starEach rest _).any (·.1))=false;rw[Vf];rfl) xF (PZ I hg hm ⟨Z,?_⟩ hd)
 have h:=ha Xe pins s σ H _ I h;rw[he]at h ⊢;refine Calls.evalArgs_plain (Ut h (λvs s₂ h₂=>?_) λ_ _ y=>y);obtain⟨zs,H2,I2,rz,hz,hE⟩:=h₂;refine⟨Z,by rw[<-rz.length];exact hz,I2.bk _ _ hC,hN.keeps I2.bk,T.keeps I2.bk,λh' e hme=>?_⟩;exact Ze7 Z Z Z I2 hme hE
section
variable{X:Cx}{pins:List (Addr×Obj)}{σ:St}{H:Hp}{s:Shared}
theorem Inv.held(I:Inv X pins σ H s){tk:Nat}(VE:∀b∈ns,X.s₀.heap.get? b=none/\H b=none/\(∀p∈X.pn++pins,p.1≠b))(k:(WU X s.heap ns).StaysIn h')(up:s.heap.UpToSlots h'):Inv X pins σ H {s with heap:=h',toks:=tk}:=by
 have Dz:∀b o,X.s₀.heap.get? b=some o->b∉ns:=λb o q z=>by rw[(VE b z).1]at q;cases q
 have xH:∀b o,X.s₀.heap.get? b=some o->b≠X.env.locals:=λb o q=>Yy (Yt (Yp q) I.ok.above);have Lc:∀b,b≠X.env.locals->b∉X.fs->b∉Wd X.stack:=λb h1 h2 z=>(Ye.mp<|I.stkSub b z).elim h1 h2
 have slot:∀b u,b∈X.fs->s.heap.get? b=some u->∃sl,h'.get? b=some {u with slots:=sl}:=λb u hb g=>by obtain⟨_,o',Wu,hd⟩:=I.funs.mem hb;rw[g]at Wu;cases Wu;exact up b u g hd
 have cellK:∀c v,s.heap.IsCell c v->h'.IsCell c v:=λc v ⟨o,ho,hd⟩=>by
  obtain⟨sl,g⟩:=up c o ho λvs q=>by rw[hd]at q;cases q
  exact⟨_,g,hd⟩
 refine⟨I.ok,I.os,I.bare,⟨λb o q n hb hx=>?_,λb o q n hb hx=>?_,I.base.free,λb o q hx=>?_,I.base.tups,I.base.frzs,I.base.tbls⟩,?_,λx c q=>?_,I.free,I.freeC,λp hp=>?_,c6 I.hok I.stkFree (λb hb=>(VE b hb).2.1) k,I.len⟩
 .exact k b o (IJ (I.base.keep b o q n hb hx) (Lc b (xH b o q) hb)<|Dz b o q)
 .obtain⟨sl,g⟩:=I.base.slot b o q n hb hx;obtain⟨ET,g'⟩:=slot b _ hb g;exact⟨ET,g'⟩
 .obtain⟨u,g⟩:=I.base.there b o q hx;by_cases hb:b∈X.fs
  .obtain⟨sl,g'⟩:=slot b u hb g;exact⟨_,g'⟩
  .exact⟨u,k b u<|IJ g (Lc b (xH b o q) hb)<|Dz b o q⟩
 .obtain⟨m,hn,hl⟩:=I.loc;refine⟨m,up.ns hn,λi x v e1 e2 e3=>?_⟩;obtain⟨u,r,l⟩:=hl i x v e1 e2 e3;refine⟨u,r,?_⟩;rcases l with l|⟨kk,c,q,z⟩
  .exact .inl l
  .exact .inr ⟨kk,c,q,cellK c _ z⟩
 .obtain⟨v,z⟩:=I.cell x c q;exact⟨v,cellK c v z⟩
 .obtain⟨q,n,ne,nf,d⟩:=I.pin p hp;exact⟨k p.1 p.2<|IJ q (Lc p.1 ne nf) λz=>(VE p.1 z).2.2 p hp Z,n,ne,nf,d⟩
end
noncomputable abbrev TF(X:Cx)(pins:List (Addr×Obj))(R:St->XK):Cx:={X with pn:=X.pn++pins,xe:=λev s'=>∃σ H1 s1,Inv X pins σ H1 s1/\Vb X.prog X.w X.stack H1 s1 (R σ) ev s'}
noncomputable abbrev IE(X:Cx)(pins:List (Addr×Obj))(e:Addr)(oe:Obj):Cx:={X with A:=X.A.mark<|some<|.ref e,calm:=false,pn:=X.pn++pins++[(e,oe)],xe:=λ_ _=>False}
section
variable{X:Cx}{pins pins':List (Addr×Obj)}{σ:St}{H:Hp}{s:Shared}{R:St->XK}{e:Addr}{oe:Obj}
theorem Inv.inTry(I:Inv X pins σ H s):Inv (TF X pins R) [] σ H s:=
 ⟨⟨I.ok.mod,I.ok.kind,I.ok.glob,I.ok.blt,I.ok.above,I.ok.inj,I.ok.has,I.ok.cab,I.ok.hd,I.ok.frames,I.ok.stk,I.ok.exf,I.ok.bs,I.ok.bsz,I.ok.noex,I.ok.exfs,I.ok.funs,I.ok.frf⟩,I.os,I.bare,I.base,I.loc,I.cell,I.free,I.freeC,λp hp=>I.pin p (by simpa using hp),I.hok,I.len⟩
theorem Inv.outTry(I:Inv (TF X pins R) pins' σ H s):Inv X pins σ H s:=
 ⟨⟨I.ok.mod,I.ok.kind,I.ok.glob,I.ok.blt,I.ok.above,I.ok.inj,I.ok.has,I.ok.cab,I.ok.hd,I.ok.frames,I.ok.stk,I.ok.exf,I.ok.bs,I.ok.bsz,I.ok.noex,I.ok.exfs,I.ok.funs,I.ok.frf⟩,I.os,I.bare,I.base,I.loc,I.cell,I.free,I.freeC,λp hp=>I.pin p<|Yd _ hp,I.hok,I.len⟩
theorem SP.outTry{f:Flow}(h:SP (TF X pins R) [] um f s):SP X pins um f s:=by
 cases f with
 |next=>obtain⟨σ',H',I,q⟩:=h;exact⟨σ',H',I.outTry,q⟩
 |brk=>obtain⟨σ',H',I,q⟩:=h;exact⟨σ',H',I.outTry,q⟩
 |cont=>obtain⟨σ',H',I,q⟩:=h;exact⟨σ',H',I.outTry,q⟩
 |ret u=>obtain⟨v,σ',H',I,r,q⟩:=h;exact⟨v,σ',H',I.outTry,r,q⟩
theorem Inv.inHan(I:Inv X pins σ H s)(h1:s.heap.get? e=some oe)(h2:H e=none)(h3:e≠X.env.locals)(h4:e∉X.fs)(h5:∀v,oe.data≠.cell v):Inv (IE X pins e oe) [] σ H s:=
 ⟨⟨I.ok.mod,I.ok.kind,I.ok.glob,I.ok.blt,I.ok.above,I.ok.inj,I.ok.has,I.ok.cab,(λz=>(nomatch z)),I.ok.frames,I.ok.stk,I.ok.exf,I.ok.bs,I.ok.bsz,I.ok.noex,I.ok.exfs,I.ok.funs,I.ok.frf⟩,I.os,I.bare,I.base,I.loc,I.cell,I.free,I.freeC,λp hp=>by
  rw[YH]at hp;rcases Xz.mp hp with z|z
  .exact I.pin p z
  .rw[XF.mp z];exact⟨h1,h2,h3,h4,h5⟩,I.hok,I.len⟩
theorem Inv.outHan(hd:X.calm=true->X.A.handled=none)(fr:X.A.frames=some X.stack)(I:Inv (IE X pins e oe) pins' σ H s):Inv X pins σ H s:=
 ⟨⟨I.ok.mod,I.ok.kind,I.ok.glob,I.ok.blt,I.ok.above,I.ok.inj,I.ok.has,I.ok.cab,hd,fr,I.ok.stk,I.ok.exf,I.ok.bs,I.ok.bsz,I.ok.noex,I.ok.exfs,I.ok.funs,I.ok.frf⟩,I.os,I.bare,I.base,I.loc,I.cell,I.free,I.freeC,λp hp=>I.pin p<|Yd _<|Yd _ hp,I.hok,I.len⟩
end
noncomputable def ID(CX:SF)(X:Cx)(R:St->XK):Prop:=∀pins σ H s e s',Inv X pins σ H s->CX X.stack H s (R σ) e s'->X.xe e s'
theorem pxT{R:St->XK}(hP:P=X.prog:=by rfl)(hw:w=X.w:=by rfl):ID (Vb P w) (TF X pins R) R:=by subst hP hw;exact λ_ σ H s _ _ I h=>⟨σ,H,s,I.outTry,h⟩
noncomputable def Dv(sp:Sp)(Vo:List V)(R:St->XK)(t:TA):TE:=λσ H Q=>t σ H λvs H1=>sp (vs++Vo) H1 Q (R σ)
section
variable{X:Cx}{CX:SF}{k:Nat}{f:Addr}{fd:FuncData}{ps:List Str}{sp:Sp}{Vo:List V}{ds:Ag}{R:St->XK}{x:Str}{p pos:Pos}{e:Expr}{es:List Expr}{t:TA}
theorem qv(F:FnOk X.prog X.w X.K X.mg X.base CX k f fd ps sp)(hr:Room k X.A)(hb:Binds X.K fd ps ds)(hd:Vals Vo ds)(hx:ID CX X R)
  (I:Inv X pins σ H s)(r:Vals vs us)(h:sp (vs++Vo) H Q (R σ)):wpAny (model X.prog X.w) X.A (call (.ref f) us) (EP X pins σ Q) X.xe s:=by
 have r2:Vals (vs++Vo) (us++ds):=r.append hd;have hl:(us++ds).length=ps.length:=by rw[<-r2.length];exact F.len _ _ _ _ h
 refine Gz (Nr (F.run X.A X.stack s H ⟨us,[]⟩ (us++ds) (vs++Vo) Q (R σ) hr I.env0 (hb s us I.kIn hl) r2 h) λr s' hq=>?_);cases r with
 |error e=>exact hx pins σ H s e s' I hq
 |ok fl=>
  cases fl with
  |ret u=>exact I.after hq
  |next=>exact False.elim hq
  |brk=>exact False.elim hq
  |cont=>exact False.elim hq
theorem qu(F:FnOk X.prog X.w X.K X.mg X.base CX k f fd ps sp)(hr:Room k X.A)(hg:Gl X x)(hm:X.mg x=some (.ref f))(hk:PySem.W.keepIn X.K (.ref f)=true)(hb:Binds X.K fd ps ds)(hd:Vals Vo ds)(hx:ID CX X R)
  (ha:PA X (e::es) t)(Up:(x == ("__debug__":Str))=false:=by decide)(he:starEach (e::es) X.env=(false,eval e X.env)::starEach es X.env:=by rfl)(Vn:(backTo pos<|starEach es X.env).any (·.1)=false:=by rfl):
  PE X (.Call (.Name x p) (e::es) [] pos) (Dv sp Vo R t):=by intro pins s σ H Q I h;refine Qk (PZ I hg hm ?_ Up);refine vg (h₀:=X.base) I.ok.mod.kin hk (thn (ha pos pins s σ H _ I h) λus s1 ⟨vs,H1,I1,r,q⟩=>⟨I1.kIn,?_⟩) he Vn;exact qv F hr hb hd hx I1 r q
end
theorem cX{a:Int}(h1:-(10^70)<a)(h2:a<10^70):a.natAbs.log2<1920:=by
 have h:a.natAbs<10^70:=ur;by_cases h0:a.natAbs=0
 .rw[h0];decide
 .exact(Nat.log2_lt h0).mpr (Nat.lt_trans h S)
noncomputable def PJ(X:Cx)(es:List Expr)(t:St->Hp->(Hp->Prop)->Prop):Prop:=∀n pins s σ H acc Q,acc.length<=4000*n->n+es.length<=100->Inv X pins σ H s->t σ H Q->
 wpAny (model X.prog X.w) X.A (joinParts acc<|evalEach es X.env) (λv s'=>∃x tk H',v=Value.str x tk/\Inv X pins σ H' s'/\Q H') X.xe s
section
variable{X:Cx}{es:List Expr}{e:Expr}{te:TE}{t:St->Hp->(Hp->Prop)->Prop}{pos:Pos}
theorem IC:4000*100<=sizeLine:=by decide
theorem Du:PJ X [] (λ_ H Q=>Q H):=λn pins s σ H acc Q ha hn I h=>by refine joinParts_nil ⟨acc,_,H,Z,I.tok _,h⟩ (Ys ha<|Ys (vk _ ?_) IC);simpa using hn
theorem Dt{x:Str}{j:Nat}{p:Pos}(hr:PJ X es t)(hz:x.length<=4000:=by decide +kernel):PJ X (.Constant (.str x) j p::es) t:=λn pins s σ H acc Q ha hn I h=>by
 have hl:(acc++x).length=acc.length+x.length:=strLen_append ..;rw[Yq]at hn;have hb:(acc++x).length<=4000*(n+1):=by rw[hl];lia
 refine joinParts_cons (Calls.Constant_str ⟨Ys hb<|Ys (vk _ J) IC,?_⟩);exact hr (n+1) pins _ σ H _ Q hb J (I.tok _) h
noncomputable def qt(te:TE)(t:St->Hp->(Hp->Prop)->Prop):St->Hp->(Hp->Prop)->Prop:=λσ H Q=>te σ H λv H1=>∃a:Int,v=.int a/\-(10^70)<a/\a<10^70/\t σ H1 Q
theorem Ds(he:PE X e te)(hr:PJ X es t):PJ X (.FormattedValue e (-1) none p::es) (qt te t):=λn pins s σ H acc Q ha hn I h=>by
 rw[Yq]at hn;refine joinParts_cons (FormattedValue_plain<|thn (he pins s σ H _ I h) λu s1 Xy=>?_);obtain⟨v,H1,I1,r,a,ev,a1,a2,q⟩:=Xy;subst ev;obtain⟨tk,rfl⟩:=r;have Dr:=cX a1 a2
 have hlen:(Str.ofString<|toString a).length<=4000:=by have z:=int_text_length_le (k:=1920) S Dr;rw[PySem.ofString_length];lia
 refine formatField_int_small Dr ?_;have hl:(acc++Str.ofString (toString a)).length=acc.length+(Str.ofString<|toString a).length:=strLen_append ..
 have hb:(acc++Str.ofString (toString a)).length<=4000*(n+1):=by rw[hl];lia
 refine⟨Ys hb<|Ys (vk _ J) IC,?_⟩;exact hr (n+1) pins _ σ H1 _ Q hb J (I1.tok _) q
noncomputable def Dq(t:St->Hp->(Hp->Prop)->Prop):TE:=λσ H Q=>t σ H λH'=>∀x:Str,Q (.str x) H'
theorem cW{v₁ v₂:Expr}{rest:List Expr}(h:PJ X (v₁::v₂::rest) t)(hn:(v₁::v₂::rest).length<=100:=by decide):PE X (.JoinedStr (v₁::v₂::rest) pos) (Dq t):=λpins s σ H Q I hq=>
 JoinedStr_many (thn (h 0 pins s σ H Str.empty _ S (by simpa using hn) I hq) λu s1 ⟨x,tk,H1,eu,I1,q⟩=>by subst eu;exact⟨.str x,H1,I1,⟨tk,Z⟩,q x⟩)
end
theorem Sz:Ll (Vb P w) X E0:=λ_ _ _ _ _ _ _ h=>by obtain⟨_,_,_,_,_,_,_,_,_,z⟩:=h;exact z.elim
end L2
namespace My
open PySem L2
theorem qr{p1 p2:Addr}(h1:H p1=some (.lst (IL l1)))(h2:H p2=some (.lst (IL l2)))(hl:l1.length+l2.length<=1000000)(k:∀r,H r=none->Q (.ref r) (upd H r (.lst (IL (l1++l2))))):DV (.ref p1) (.ref p2) H Q:=by
 refine⟨p1,p2,_,_,Z,Z,h1,h2,?_,λr hr=>?_⟩
 .rw[Xx,Xx];exact MO hl
 .have:=k r hr
  rwa[xV]at this
theorem xI{α:Type}{p:α->Prop}{w:α}(h:p w):∃x,p x:=⟨w,h⟩
end My
namespace L2
open PySem PySem.Spec PyProof.Rows
theorem Pp:∀{us:Ag}{ns:Ac},IntsAre us ns->Vals (ns.map V.int) us
 |[],[],_=>.nil
 |_::_,[],h=>by cases h
 |[],_::_,h=>by cases h
 |u::us,n::ns,h=>by
  cases h with
  |cons _ _ t=>exact .cons ⟨_,Z⟩ (Pp t)
theorem Vals.rev{xs:List V}{us:Ag}(h:Vals xs us):Vals xs.reverse us.reverse:=by
 induction h with
 |nil=>exact .nil
 |cons r t ih=>
  rw[ve,ve];exact ih.append (.cons r .nil)
section
variable{X:Cx}
theorem qq (K:Ad) (hk:X.K=K:=by rfl):Vp X (.builtin "sorted") (λxs H Q=>∃p ns,xs=[.ref p]/\SqL K H p (ns.map V.int)/\ns.length<64/\
  ∀ms:Ac,ms.Perm ns->ms.Pairwise (·<=·)->∀l,H l=none->Q (.ref l) (upd H l<|.lst<|ms.map V.int)):=by
 subst hk;intro pins s σ H xs us Q I r h;obtain⟨p,ns,rfl,hq,hn,q⟩:=h;obtain⟨u,rfl,ru⟩:=WH r;obtain rfl:u=Value.ref p:=ru;obtain⟨XW,rv,pl,hz⟩:=I.list hq;have hi:=ZQ rv
 have hl:XW.length=ns.length:=by rw[<-rv.length,Yb]
 refine sorted_ints pl.isList hi J λout ms h1 h2 h3=>?_;obtain⟨e,he⟩:=sortedAll_at s.heap XW out;have NR:ms.length=ns.length:=h2.length_eq
 refine⟨.ref<|s.heap.objs.size+1,_,I.laid (t':=s.toks) (o:=.lst<|ms.map V.int) (λb o g=>sortedAll_old g) (Uc _) ⟨?_,out.toList,e,Pp h1,?_⟩,Z,q ms h2 h3 _<|I.hok.fresh<|Uc _⟩
 .rw[Yb,NR]
  have:sizeLine=16777216:=TQ
  lia
 .exact he
theorem qp:typeLookup (.type "list_reverseiterator") "__length_hint__"=pure (some (.builtin "list_reverseiterator.__length_hint__")):=by rw[GF,GN];kernel_rfl
theorem Zu8:typeLookup (.type "list_reverseiterator") "__len__"=pure none:=by rw[GF,GN];kernel_rfl
theorem qo {E:Ae} {s:Shared} {r:Addr} {Q:Bool->Shared->Prop} (hT:s.TypeIs (.ref r) "list_reverseiterator") (h:Q false s):wpAny (model prog w) A (Builtin.List.listLengthHint (.ref r)) Q E s:=by
 unfold Builtin.List.listLengthHint;refine XU (wpAny_specialOf hT Zu8 ?_);show wpAny _ A (specialOf (Value.ref r) (Str.ofString "__length_hint__") >>= _) _ _ _
 refine XU (wpAny_specialOf hT qp ?_);generalize Dp:("list_reverseiterator.__length_hint__":String)=qm
 wp_delta
 rw[show splitId qm=some ("list_reverseiterator","__length_hint__") from by subst Dp;decide +kernel];subst Dp;refine XU (yK (T:="list_reverseiterator") (b:=true) hT (by rw[yD];kernel_rfl) ?_);exact Yk h
section
variable{prog:Program}{w:World}{A:Around}{E:Ae}{s:Shared}{it a:Addr}{items:Array Value}
theorem Zb7{R:Result->Shared->Prop}(hh:A.handled=none)(hi:s.heap.IsRevIter it a ((items.size:Int)-1))(hl:s.heap.IsList a items)(XJ:a≠it){uo:Addr}(h1:uo≠it)(h2:uo≠a){c0:Nat}
  (hS:s.heap.get? uo=some {cls:=.type "list",data:=.seq #[] c0})(hz:items.size<=sizeLine)
  (k:∀h' tk acc c,(∀b o,b≠uo->b≠it->s.heap.get? b=some o->h'.get? b=some o)->h'.get? uo=some {cls:=.type "list",dict:=none,data:=.seq acc c,slots:=#[]}->ItemsOf (λi v=>items[items.size-1-i]?=some v) acc items.size->R (.ok<|.ret res) {s with heap:=h',toks:=tk}):
  wpAny (model prog w) A.in1 (Builtin.List.listExtendWith (.ref uo) (.ref it) res)
   (λfin s'=>match fin with | .done f=>R (.ok f) s' | .again c'=>c'.quiet=true/\codeAny (model prog w) A c' R s') (λe s'=>R (.error e) s') s:=by
 have W:=Walks.listRev (prog:=prog) (w:=w) (A:=A.in1) hh it a XJ items;have Sy:uo∉[it,a]:=by simp only[Ye,JF,or_false,not_or];exact⟨h1,h2⟩
 have Gj:(0<=items.size/\s.heap.IsRevIter it a ((items.size:Int)-1-((0:Nat):Int))/\s.heap.IsList a items):=⟨Ym _,by rw[show((items.size:Int)-1-((0:Nat):Int))=(items.size:Int)-1 by lia];exact hi,hl⟩;have hT:s.TypeIs (.ref it) "list_reverseiterator":=hi.typeIs
 have key:codeAny (model prog w) A (.builtin "list.extend.loop" ⟨[.ref uo,.ref it,res],[]⟩) R s:=by
  refine codeAny_extend_loopS W.toS hz uo Sy res items.size 0 _ #[] c0 Z (Ym _) Gj hS (ItemsOf.nil _) λs' acc c hm SX VR=>?_;rw[Moved.eq_with hm];refine k s'.heap s'.toks acc c (λb o hb hbi e=>hm.heap b o (λhmem=>?_) e) SX VR;rcases Ye.mp hmem with e'|hmem
  .exact hb e'
  .exact hbi (XF.mp hmem)
 unfold Builtin.List.listExtendWith;refine XU (Fc (T:="list_reverseiterator") hT ?_);have e1:Builtin.List.listSameRef (.ref uo) (.ref it)=false:=by simp[Builtin.List.listSameRef,h1]
 rw[if_neg (by rw[e1];decide)];refine XU (wpAny_pyIter_revIter hi ?_);refine XU (Sf<|qo hT ?_);rw[if_neg S];exact Yk ⟨Ur ft _,key⟩
theorem Dn{Q:Ae}(hh:A.handled=none)(hi:s.heap.IsRevIter it a ((items.size:Int)-1))(hl:s.heap.IsList a items)(XJ:a≠it)(hz:items.size<=sizeLine)
  (k:∀h' tk acc c,(∀b o,b≠it->s.heap.get? b=some o->h'.get? b=some o)->h'.get? s.heap.objs.size=some {cls:=.type "list",dict:=none,data:=.seq acc c,slots:=#[]}->ItemsOf (λi v=>items[items.size-1-i]?=some v) acc items.size->
   Q (.ref s.heap.objs.size) {s with heap:=h',toks:=tk}):wpAny (model prog w) A (call (.type "list") [.ref it]) Q E s:=by
 obtain⟨oi,hoi,_⟩:=id hi;obtain⟨ol,QB,_⟩:=id hl;have n1:s.heap.objs.size≠it:=RE (Yp hoi)
 have n2:s.heap.objs.size≠a:=RE (Yp QB);refine callType_codes (Q₁:=λob s₁=>ob=.ref s.heap.objs.size/\s₁={s with heap:=s.heap.push {cls:=.type "list",data:=.seq #[]} }) PySem.F.called_list (PySem.F.typeCall_list_1 _) PySem.F.entry_list_init (code_list_new _ ⟨Z,Z⟩) λob s₁ z=>?_;obtain⟨rfl,rfl⟩:=z;have Gi:(s.heap.push {cls:=.type "list",data:=.seq #[]}).get? s.heap.objs.size=some {cls:=.type "list",data:=.seq #[]}:=Yj _ rfl
 refine⟨⟨_,Gi,Z⟩,PySem.F.args_list_init_2 _ _,?_⟩;show wpAny _ A.in1.in1 (do let old <-Builtin.List.listItems (.ref s.heap.objs.size);Builtin.List.listUpdate (.ref s.heap.objs.size) λ_=>#[];letGo old.toList.reverse;Builtin.List.listExtendWith (.ref s.heap.objs.size) (.ref it) .none) _ _ _
 refine XU ?_;unfold Builtin.List.listItems;refine XU (JS Gi Z<|Yk ?_);refine XU (yH (a:=s.heap.objs.size) Gi Z ?_);have Dm:=Vk (Obj.mapSeq λ_=>(#[]:Array Value)) Gi rfl
 have IB:∀b o,b≠s.heap.objs.size->s.heap.get? b=some o->((s.heap.push {cls:=.type "list",data:=.seq #[]}).update s.heap.objs.size (Obj.mapSeq λ_=>(#[]:Array Value))).get? b=some o:=
  λb o hb e=>(QP _ _<|XI hb).trans (Xb _ e)
 refine XU (GA ?_);refine Zb7 (A:=A.in1) (items:=items) hh (hi.at λo e=>IB it o (XI n1) e) (hl.at λo e=>IB a o (XI n2) e) XJ n1 n2 Dm hz λh' tk acc c hk SX VR=>?_;exact⟨Z,k h' tk acc c (λb o hb e=>hk b o (Yy<|Yp e) hb<|IB b o (Yy<|Yp e) e) SX VR⟩
end
end
section
variable{X:Cx}{p p2 pos Va:Pos}{e:Expr}{t:TA}
noncomputable def ql(K:Ad)(t:TA):TE:=λσ H Q=>t σ H λvs H1=>∃a ys,vs=[.ref a]/\SqL K H1 a ys/\∀l,H1 l=none->Q (.ref l) (upd H1 l<|.lst ys.reverse)
theorem Dl (K:Ad) (hc:X.calm=true) (g1:Gl X "list") (m1:X.mg "list"=none) (g2:Gl X "reversed") (m2:X.mg "reversed"=none) (ha:PA X [e] t) (hk:X.K=K:=by rfl)
  (he:starEach [e] X.env=[(false,eval e X.env)]:=by rfl)
  (Py:starEach [.Call (.Name "reversed" p2) [e] [] Va] X.env=[(false,eval (.Call (.Name "reversed" p2) [e] [] Va) X.env)]:=by rfl):
  PE X (.Call (.Name "list" p) [.Call (.Name "reversed" p2) [e] [] Va] [] pos) (ql K t):=by
 subst hk;intro pins s σ H Q I h;refine Qk (QF I g1 m1 Boot.«list» ?_);refine TR ?_ (by rw[Py];rfl) rfl;rw[Py];show wpAny _ _ (spliced<|(false,eval (.Call (.Name "reversed" p2) [e] [] Va) X.env)::backTo pos []) _ _ s
 refine uS ?_;refine Qk (QF I g2 m2 Boot.«reversed» ?_);refine TR (thn (ha Va pins s σ H _ I h) λus s1 zz=>?_) (by rw[he];rfl) rfl;obtain⟨vs,H1,I1,r1,q1⟩:=zz;obtain⟨a,ys,rfl,hq,q⟩:=q1;obtain⟨u,rfl,ru⟩:=WH r1;obtain rfl:u=Value.ref a:=ru;obtain⟨XW,rv,pl,hz⟩:=I1.list hq;refine call_reversed_list pl.isList ?_;refine uL ?_;have el:XW.toArray.size=ys.length:=by rw[Yc,<-rv.length]
 have hit:(s1.heap.push<|revObj a<|(XW.toArray.size:Int)-1).IsRevIter s1.heap.objs.size a ((XW.toArray.size:Int)-1):=⟨_,Yj _ Z,Z,Z⟩;have XJ:a≠s1.heap.objs.size:=Yy (by obtain⟨_,_,e,_⟩:=pl;exact Yp e)
 refine Dn (I.ok.hd hc) hit (pl.isList.push _) XJ (by rwa[el]) λh' tk acc c hk hS xE=>?_;have La:XW.length=ys.length:=rv.length.symm
 have ea:acc.toList=XW.reverse:=by
  refine GK λi=>?_;have h1:=xE.1
  by_cases hi:i<XW.length
  .obtain⟨v,ev⟩:∃v,acc[i]?=some v:=⟨_,YE<|by rwa[h1,Yc]⟩;have h2:=xE.2 i v ev
   rw[Ka hi];have e3:acc.toList[i]?=some v:=by simpa using ev
   rw[e3];have e4:XW[XW.length-1-i]?=some v:=by simpa using h2
   rw[e4]
  .rw[Vv (by rw[YC,h1,Yc];grind),Vv (by rw[YM];omega)]
 rw[size_push']at hS ⊢;refine⟨.ref<|s1.heap.objs.size+1,_,I1.laid (o:=.lst ys.reverse) (h':=h') (t':=tk) (λb o e=>hk b o (Yy<|Yp e)<|Xb _ e) (Uc _) ⟨?_,acc.toList,c,?_,?_⟩,Z,q _<|I1.hok.fresh<|Uc _⟩
 .rw[YM];exact hz
 .rw[ea];exact rv.rev
 .rw[hS]
end
end L2
namespace My
open PySem L2
theorem XX:IsSet m ns↔(∀z∈ns,0<=z/\z<(m:Int))/\ns.Pairwise (·<·):=by
 constructor
 .intro h;refine⟨h.all,?_⟩;rw[GP];intro i j hi hj Um
  induction j with
  |zero=>exact absurd Um (Wk i)
  |succ j ih=>
   have qk:j<ns.length:=uu;have key:=(h (j+1) ns[j+1]<|Xw hj).2.2 ns[j] J (by rw[vf];exact Xw qk)
   by_cases e:i=j
   .subst e;exact key
   .have:=ih qk J
    lia
 .rintro⟨ha,hp⟩ i z hz;obtain⟨hi,ei⟩:=Xs.mp hz;have hm:=ha z (Xf hz)
  refine⟨hm.1,hm.2,λy h0 hy=>?_⟩;obtain⟨Po,ei'⟩:=Xs.mp hy
  have:=GP.mp hp (i-1) i Po hi J
  rwa[ei,ei']at this
theorem IA{ns:Ac}(h:ns.Pairwise (·<·)):ns.Nodup:=h.imp λVy e=>J
theorem IsSet.nodup(h:IsSet m ns):ns.Nodup:=IA (XX.mp h).2
end My
namespace My
theorem MI{α:Type}{P:List α->Prop}(h0:P [])(h1:∀l x,P l->P (l++[x])):∀l,P l:=by
 intro l;rw[<-List.reverse_reverse l]
 induction l.reverse with
 |nil=>exact h0
 |cons x r ih=>
  rw[ve];exact h1 _ _ ih
inductive Conn (es:List (Nat×Nat)):Nat->Nat->Prop
 |refl (i:Nat):Conn es i i
 |edge {a b:Nat} (h:(a,b)∈es):Conn es a b
 |symm {i j:Nat}:Conn es i j->Conn es j i
 |trans {i j k:Nat}:Conn es i j->Conn es j k->Conn es i k
theorem Conn.mono(h:∀e∈es,e∈fs)(c:Conn es i j):Conn fs i j:=by
 induction c with
 |refl i=>exact .refl i
 |edge q=>exact .edge (h _ q)
 |symm _ ih=>exact .symm ih
 |trans _ _ i1 i2=>exact .trans i1 i2
theorem xD{n i:Nat}(h:i<n):mk ((List.range n).map λ(i:Nat)=>(i:Int)) i=(i:Int):=by rw[mk_map' h]
where
 mk_map' {n i:Nat} (h:i<n):mk ((List.range n).map λ(i:Nat)=>(i:Int)) i=(i:Int):=by simp[mk,WJ,Yo,vj h]
noncomputable def InN(n:Nat)(es:List (Nat×Nat)):Prop:=∀e∈es,e.1<n/\e.2<n
theorem InN.snoc{e:Nat×Nat}(h:InN n (es++[e])):InN n es/\e.1<n/\e.2<n:=⟨λx hx=>h x<|Yd _ hx,h e B⟩
theorem Dk:∀es:List (Nat×Nat),InN n es->∀e∈es,mk (WQ n es) e.1=mk (WQ n es) e.2:=by
 refine MI (λ_ e h=>by cases h) λes x ih hn e he=>?_;obtain⟨h1,h2,h3⟩:=hn.snoc;have hl:=ZG n es
 have hx:=hn e he;rw[MM];refine(DB J J).mpr ?_;rcases Xz.mp he with q|q
 .exact .inl (ih h1 e q)
 .rw[XF.mp q];exact .inr ⟨.inl Z,.inr Z⟩
theorem Dj:∀es:List (Nat×Nat),InN n es->∀i j,i<n->j<n->mk (WQ n es) i=mk (WQ n es) j->Conn es i j:=by
 refine MI (λ_ i j hi hj h=>?_) λes x ih hn i j hi hj h=>?_
 .have h:mk ((List.range n).map λ(i:Nat)=>(i:Int)) i=mk ((List.range n).map λ(i:Nat)=>(i:Int)) j:=h;rw[xD hi,xD hj]at h
  have:i=j:=J
  subst this;exact .refl i
 .obtain⟨h1,h2,h3⟩:=hn.snoc;have hl:=ZG n es
  have up:∀{i j:Nat},Conn es i j->Conn (es++[x]) i j:=λc=>c.mono λe he=>Yd _ he;have ex:Conn (es++[x]) x.1 x.2:=.edge B
  rw[MM]at h;rcases(DB J J).mp h with q|⟨q1,q2⟩
  .exact up (ih h1 i j hi hj q)
  .have ci:Conn (es++[x]) i x.1:=by
    rcases q1 with q|q
    .exact up (ih h1 i _ hi h2 q)
    .exact(up<|ih h1 i _ hi h3 q).trans ex.symm
   have cj:Conn (es++[x]) j x.1:=by
    rcases q2 with q|q
    .exact up (ih h1 j _ hj h2 q)
    .exact(up<|ih h1 j _ hj h3 q).trans ex.symm
   exact ci.trans cj.symm
theorem qj(hn:InN n es)(c:Conn es i j):i=j\/(i<n/\j<n/\mk (WQ n es) i=mk (WQ n es) j):=by
 induction c with
 |refl i=>exact .inl rfl
 |edge q=>exact .inr ⟨(hn _ q).1,(hn _ q).2,Dk es hn _ q⟩
 |symm _ ih=>
  rcases ih with e|⟨a,b,c⟩
  .exact .inl e.symm
  .exact .inr ⟨b,a,c.symm⟩
 |trans _ _ i1 i2=>
  rcases i1 with e|⟨a,b,c⟩
  .rw[e];exact i2
  .rcases i2 with e|⟨a',b',c'⟩
   .rw[<-e];exact .inr ⟨a,b,c⟩
   .exact .inr ⟨a,b',c.trans c'⟩
theorem ZY(hn:InN n es)(hi:i<n)(hj:j<n):mk (WQ n es) i=mk (WQ n es) j↔Conn es i j:=by
 constructor
 .exact Dj es hn i j hi hj
 .intro c;rcases qj hn c with e|⟨_,_,e⟩
  .rw[e]
  .exact e
theorem Rj(hn:InN n es)(hi:i<n)(hj:j<n):mk (Xu n es) i=mk (Xu n es) j↔Conn es i j:=by
 rw[<-ZY hn hi hj];have s:=xN (n:=n) (es:=es) hn
 exact s.2 i j (by rwa[ZD]) (by rwa[ZD])
noncomputable def cnt(M:Ac):Nat:=(Vt M M.length).length
theorem xC(M:Ac):∃p,p<=i/\mk M p=mk M i/\Wi M p=true:=by
 induction i using Nat.strongRecOn with
 |ind i ih=>
  by_cases h:Wi M i=true
  .exact⟨i,XO _,Z,h⟩
  .have:∃j,j<i/\mk M j=mk M i:=by
    by_cases q:∃j,j<i/\mk M j=mk M i
    .exact q
    .exact absurd (XD.mpr λj hj e=>q ⟨j,hj,e⟩) h
   obtain⟨j,hj,e⟩:=this;obtain⟨p,h1,h2,h3⟩:=ih j hj;exact⟨p,J,h2.trans e,h3⟩
theorem ZR7{p q:Nat->Bool}{x n:Nat}(hx:x<n)(hpx:p x=true)(h:∀y,y<n->q y=(p y && !decide (y=x))):((List.range n).filter q).length+1=((List.range n).filter p).length:=by
 induction n with
 |zero=>exact absurd hx (Wk x)
 |succ n ih=>
  rw[GH,Ql,Ql,Xt,Xt];by_cases e:x=n
  .subst e;have e1:(List.range x).filter q=(List.range x).filter p:=LC λy hy=>by have hy:=YI.mp hy;rw[h y J,show decide (y=x)=false from YW J];simp
   have e2:q x=false:=by rw[h x J];simp
   rw[e1];simp[YO,e2,hpx]
  .have hq:q n=p n:=by rw[h n J,show decide (n=x)=false from YW λz=>e z.symm];simp
   have:=ih J λy hy=>h y J
   simp only[YO,uW,hq];lia
theorem xB(hp:Wi M p=true)(hq:Wi M q=true)(e:mk M p=mk M q):p=q:=by
 rcases Nat.lt_trichotomy p q with h|h|h
 .exact absurd e (XD.mp hq p h)
 .exact h
 .exact absurd e.symm (XD.mp hp q h)
theorem xA(ha:a<m.length)(hb:b<m.length)(XJ:mk m a≠mk m b):cnt (lm m a b)+1=cnt m:=by
 obtain⟨A,Sx,TX,MH⟩:=xC m (i:=a);obtain⟨uj,cV,MG,qi⟩:=xC m (i:=b);have hAB:A≠uj:=λe=>XJ (by rw[<-TX,<-MG,e])
 unfold cnt Vt;rw[xP];refine ZR7 (x:=max A uj) uu ?_ λy hy=>?_
 .rcases Nat.le_total A uj with h|h
  .rw[Nat.max_eq_right h];exact qi
  .rw[Nat.max_eq_left h];exact MH
 .rw[QH,Lz,XD,XD];have key:∀i,i<y->(mk (lm m a b) i=mk (lm m a b) y↔Gm m a b i y):=λi hi=>DB J hy
  have qh:(!decide (y=max A uj))=true↔y≠max A uj:=B;rw[qh];constructor
  .intro q;refine⟨λi hi e=>q i hi<|(key i hi).mpr (.inl e),λe=>?_⟩;rcases Nat.lt_or_gt_of_ne hAB with h|h
   .have ey:y=uj:=J;subst ey;exact q A h ((key A h).mpr (.inr ⟨.inl TX,.inr MG⟩))
   .have ey:y=A:=uu;subst ey;exact q uj h ((key uj h).mpr (.inr ⟨.inr MG,.inl TX⟩))
  .rintro⟨q1,q2⟩ i hi e;rcases(key i hi).mp e with e|⟨e1,e2⟩
   .exact q1 i hi e
   .have fy:Wi m y=true:=XD.mpr q1;rcases e2 with e2|e2
    .have ey:y=A:=xB fy MH (e2.trans TX.symm);rcases e1 with e1|e1
     .exact q1 i hi (e1.trans e2.symm)
     .obtain⟨p,p1,p2,p3⟩:=xC m (i:=i)
      have:p=uj:=xB p3 qi (by rw[p2,e1,MG])
      grind
    .have ey:y=uj:=xB fy qi (e2.trans MG.symm);rcases e1 with e1|e1
     .obtain⟨p,p1,p2,p3⟩:=xC m (i:=i)
      have:p=A:=xB p3 MH (by rw[p2,e1,TX])
      grind
     .exact q1 i hi (e1.trans e2.symm)
theorem qg(n:Nat):cnt ((List.range n).map λ(i:Nat)=>(i:Int))=n:=by
 unfold cnt Vt;rw[Yb,Om];have e:(List.range n).filter (Wi<|(List.range n).map λ(i:Nat)=>(i:Int))=List.range n:=by
  refine vi.mpr λp hp=>XD.mpr λi hi e=>?_;have hp:=YI.mp hp
  rw[xD J,xD hp]at e;lia
 rw[e,Om]
theorem qf(hM:1<=M.length):cnt M=1↔∀i j,i<M.length->j<M.length->mk M i=mk M j:=by
 have e:cnt M=(IQ M).length:=by unfold cnt IQ;rw[c7,Yb]
 rw[e];exact di hM
end My
namespace My
open PySem L2
theorem qd{i:Int}{n:Nat}(h0:0<=i)(h1:i<(n:Int)):seqIndex? i n=some i.toNat:=by have e:(if i<0 then i+(n:Int) else i)=i:=if_neg J;unfold seqIndex?;simp only[e];rw[if_pos (by simp;lia)]
noncomputable def Zh(n:Int)(ps:Aa)(ns:Ac):Prop:=IsSet ps.length ns/\(ns.length:Int)=n-1/\∀i j,i<n.toNat->j<n.toNat->Conn (XT ps ns) i j
theorem ZO(g:Zw n ps)(h:∀z∈ns,0<=z/\z<(ps.length:Int)):InN n.toNat (XT ps ns):=λe he=>by
 obtain⟨z,hz,rfl⟩:=YA.mp he;obtain⟨z0,z1⟩:=h z hz;have hp:ps[z.toNat]?=some (ps[z.toNat]'(by lia)):=Xw _
 rw[VZ hp];obtain⟨b1,b2,b3,b4⟩:=g.2.2.2 _ (Xf hp);exact⟨J,J⟩
theorem ZC(h:∀z∈ns,z∈ms):∀e∈XT ps ns,e∈XT ps ms:=λe he=>by obtain⟨z,hz,rfl⟩:=YA.mp he;exact YA.mpr ⟨z,h z hz,Z⟩
theorem Di(h:InN n es):(∀i j,i<(WQ n es).length->j<(WQ n es).length->mk (WQ n es) i=mk (WQ n es) j)↔∀i j,i<n->j<n->Conn es i j:=by
 rw[ZG];constructor
 .intro q i j hi hj;exact(ZY h hi hj).mp (q i j hi hj)
 .intro q i j hi hj;exact(ZY h hi hj).mpr (q i j hi hj)
theorem cU(hn:1<=n)(h:InN n es):(IQ (Xu n es)).length=1↔∀i j,i<n->j<n->Conn es i j:=by rw[di (by rwa[ZD]),(xN h).one];exact Di h
theorem KZ(h:∀z,z∈ns↔z∈ms):Conn (XT ps ns) i j↔Conn (XT ps ms) i j:=
 ⟨λc=>c.mono<|ZC λz hz=>(h z).mp hz,λc=>c.mono<|ZC λz hz=>(h z).mpr hz⟩
section
variable{K:Ad}{a:Addr}{xs:List V}{g:TG}{tt:TT}{te:TE}{o:Nat}{fr:List Nat}{σ:St}{H:Hp}{Q:VK}
theorem xy(Pv:Nat->List V->Hp->Prop)(h0:Pv 0 [] H)(hz:xs.length<sizeLine)(hl:∀i ys H,i<=xs.length->Pv i ys H->SqL K H a xs/\ys.length<=i)
  (hs:∀(i:Nat) x ys H (p:Addr),H p=none->xs[i]?=some x->Pv i ys H->IV Pv g tt te o fr σ i (.ref p) ys (upd H p<|.tup [.int i,x]))(hd:∀ys H,Pv xs.length ys H->∀p,H p=none->Q (.ref p) (upd H p<|.lst ys)):MS (Gr K a) g tt te o fr σ H Q:=by
 refine⟨λi m ys H=>m=xs.length-i/\i<=xs.length/\Pv i ys H,⟨xs.length,B,Ym _,h0⟩,?_⟩;rintro i m ys H ⟨rfl,hi,p⟩;obtain⟨q,hy⟩:=hl i ys H hi p;by_cases Xh:i<xs.length
 .refine .inr ⟨⟨xs,xs[i],q,by simp[Xh]⟩,J,λx H' zz=>?_⟩;obtain⟨T,y,hT,ex,eH,hyy⟩:=zz;subst ex eH;exact hs i y ys H T hT (hyy xs q) p (λj ys H=>∃m',m'<xs.length-i/\m'=xs.length-j/\j<=xs.length/\Pv j ys H) λys H p'=>⟨xs.length-(i+1),uu,Z,Xh,p'⟩
 .have e:i=xs.length:=J;subst e;exact .inl ⟨⟨xs,q,XO _⟩,J,hd ys H p⟩
end
noncomputable def unlike(M:Ac)(ps:Aa)(i:Nat):Ac:=((List.range i).filter λk=>decide<|mk M (ps.getD k (0,0)).1.toNat≠mk M (ps.getD k (0,0)).2.toNat).map λ(k:Nat)=>(k:Int)
theorem Dh(M:Ac)(ps:Aa)(i:Nat):unlike M ps (i+1)=unlike M ps i++(if mk M (ps.getD i (0,0)).1.toNat≠mk M (ps.getD i (0,0)).2.toNat then [(i:Int)] else []):=by
 unfold unlike;rw[GH,Ql,YJ];congr 1;by_cases h:mk M (ps.getD i (0,0)).1.toNat≠mk M (ps.getD i (0,0)).2.toNat
 .rw[if_pos h,YO,if_pos (Yn h)];rfl
 .rw[if_neg h,YO,if_neg (by simpa using h)];rfl
theorem Zv6(M:Ac)(ps:Aa)(i:Nat):(unlike M ps i).length<=i:=by unfold unlike;rw[Yb];exact Ys (YG _ _) B
noncomputable def wo(ns:Ac)(z:Int):Ac:=ns.filter λy=>decide (y≠z)
theorem Xq{z y:Int}:y∈wo ns z↔y∈ns/\y≠z:=by unfold wo;rw[Yg];simp
theorem Pn(ns:Ac)(z:Int):(wo ns z).length<=ns.length:=YG _ _
theorem cT{ns:Ac}{y z:Int}(h:ns[i]?=some y):wo (ns.take (i+1)) z=wo (ns.take i) z++(if y≠z then [y] else []):=by
 unfold wo;rw[YL,h,Ql];congr 1;by_cases e:y≠z
 .rw[if_pos e];show List.filter _ [y]=_;rw[YO,if_pos (Yn e)];rfl
 .rw[if_neg e];show List.filter _ [y]=_;rw[YO,if_neg (by simpa using e)];rfl
theorem ZZ5(g:Zw n ps)(hM:M.length=n.toNat)(s:SameP M L):unlike M ps ps.length=unlike L ps ps.length:=by
 unfold unlike;congr 1;refine LC λk hk=>?_;have hk:=YI.mp hk
 have hp:ps[k]?=some ps[k]:=Xw hk;rw[VZ hp];obtain⟨b1,b2,b3,b4⟩:=g.2.2.2 _ (Xf hp)
 have:=s.2 ps[k].1.toNat ps[k].2.toNat uu uu
 rw[QH,YT,YT];exact not_congr this
noncomputable def TB(n:Int)(ps:Aa)(ns:Ac)(z:Int)(l:Ac):Ac:=l.filter λy=>decide (z∈unlike (WQ n.toNat<|XT ps<|wo ns y) ps ps.length)
theorem cS{l:Ac}{y:Int}(h:l[i]?=some y):
  TB n ps ns z (l.take<|i+1)=TB n ps ns z (l.take i)++(if z∈unlike (WQ n.toNat<|XT ps<|wo ns y) ps ps.length then [y] else []):=by
 unfold TB;rw[YL,h,Ql];congr 1;by_cases e:z∈unlike (WQ n.toNat<|XT ps<|wo ns y) ps ps.length
 .rw[if_pos e];show List.filter _ [y]=_;rw[YO,if_pos (Yn e)];rfl
 .rw[if_neg e];show List.filter _ [y]=_;rw[YO,if_neg (by simpa using e)];rfl
theorem Gh(n:Int)(ps:Aa)(ns:Ac)(z:Int)(l:Ac):(TB n ps ns z l).length<=l.length:=YG _ _
theorem Zu6{z:Int}(h0:0<=z)(h1:z<(ps.length:Int)):z∈unlike M ps ps.length↔mk M (ps.getD z.toNat (0,0)).1.toNat≠mk M (ps.getD z.toNat (0,0)).2.toNat:=by
 unfold unlike;rw[YA];constructor
 .rintro⟨k,hk,rfl⟩
  have:=Yu (Yg.mp hk).2
  rwa[YD]
 .intro h;exact⟨z.toNat,Yg.mpr ⟨YI.mpr uu,Yn h⟩,J⟩
theorem Ri{a b:Ac}(h:a.Perm b)(h1:a.Pairwise (·<=·))(h2:b.Pairwise (·<=·)):a=b:=by
 induction a generalizing b with
 |nil=>exact(List.Perm.nil_eq h)
 |cons x a ih=>
  cases b with
  |nil=>exact absurd h.length_eq B
  |cons y b=>
   obtain⟨hx,ha⟩:=YQ.mp h1;obtain⟨hy,hb⟩:=YQ.mp h2;have e:x=y:=by
    have m1:y∈x::a:=h.mem_iff.mpr Ya;have m2:x∈y::b:=h.mem_iff.mp Ya
    rcases Ye.mp m1 with e1|e1
    .exact e1.symm
    .rcases Ye.mp m2 with e2|e2
     .exact e2
     .have:=hx y e1;have:=hy x e2;lia
   subst e;rw[ih (List.Perm.cons_inv h) ha hb]
end My
namespace L2
open PySem PySem.Spec PyProof.Rows
section
variable{prog:Program}{w:World}{A:Around}{E:Ae}{s:Shared}
theorem Zi6 {tp:Addr} {vs:Ag} {Q:List Value->Shared->Prop} {ot:Obj} (ht:s.heap.get? tp=some ot) (hc:ot.cls=.type "tuple") (hd:ot.data=.seq vs.toArray m) (hz:vs.length<=sizeLine)
  (k:Q vs {s with heap:=(s.heap.push<|seqObj "list" #[] 0).update s.heap.objs.size (Obj.mapSeq (·++vs.toArray))}):wpAny (model prog w) A (collect<|.ref tp) Q E s:=by
 have cR:(s.heap.push<|seqObj "list" #[] 0).get? tp=some ot:=Xb _ ht;have NQ:(s.heap.push<|seqObj "list" #[] 0).get? s.heap.objs.size=some (seqObj "list" #[] 0):=Yj _ rfl
 unfold collect;refine XU (yG<|Sh uK ?_);show wpAny _ _ (do again (.builtin "list.__iadd__" ⟨[<-newList [],.ref tp],[]⟩)) _ _ s
 refine XU (JR<|Yk ⟨yP _ D,Sh entry_list_iadd' ?_⟩);show wpAny _ _ (Builtin.List.listExtendWith (.ref s.heap.objs.size) (.ref tp)<|.ref s.heap.objs.size) _ _ {s with heap:=s.heap.push (seqObj "list" #[] 0)}
 unfold Builtin.List.listExtendWith;refine XU (Fc (T:="tuple") ⟨ot,cR,hc⟩ ?_);rw[if_pos (by rw[show(Value.type "tuple" == Value.type "tuple")=true from Z];simp)];refine XU (listItems_at cR hd ?_);refine XU (listItems_at (xs:=#[]) (n:=0) NQ Z ?_);rw[if_neg B];refine XU (SN (xs:=#[]) (n:=0) NQ Z ?_ (Ym _)<|by show(#[]++vs.toArray).size<=sizeLine+1;simp only[Array.size_append,Yc,TN];lia);refine Yk ?_;refine XU (EX (yy NQ _) ?_);show wpAny _ _ (pure ((#[]:Array Value)++vs.toArray).toList) Q E _
 rw[show((#[]:Array Value)++vs.toArray).toList=vs by simp];exact Yk k
theorem qc {tp:Addr} {Q:Ae} {ot:Obj} (ht:s.heap.get? tp=some ot) (hc:ot.cls=.type "tuple") (hd:ot.data=.seq vs.toArray m) (hI:IntsAre vs ns) (Qz:vs.length<64)
  (k:∀out ms,IntsAre out.toList ms->ms.Perm ns->ms.Pairwise (·<=·)->Q (.ref<|s.heap.objs.size+1) {s with heap:=sortedAll s.heap vs out}):
  wpAny (model prog w) A (call (.builtin "sorted") [.ref tp]) Q E s:=by
 have IF:sizeLine=16777216:=TQ;have hsz:((s.heap.push<|seqObj "list" #[] 0).update s.heap.objs.size (Obj.mapSeq (·++vs.toArray))).objs.size=s.heap.objs.size+1:=by rw[Heap.size_update,size_push']
 have Jz:(((s.heap.push<|seqObj "list" #[] 0).update s.heap.objs.size (Obj.mapSeq (·++vs.toArray))).push (seqObj "list" vs.toArray 0)).get? (s.heap.objs.size+1)=some (seqObj "list" vs.toArray 0):=by rw[<-hsz];exact Yj _ rfl
 refine Calls.call_function_entry kind_sorted plain_sorted entry_sorted (args_sorted1 _) ?_;unfold Builtin.«sorted»;refine XU (m:=checkCount "sorted" 1 1 _) (Yk ?_);refine XU (Zi6 ht hc hd J ?_);refine XU (JR ?_);show wpAny _ _ _ _ _ {s with heap:=((s.heap.push<|seqObj "list" #[] 0).update s.heap.objs.size (Obj.mapSeq (·++vs.toArray))).push (seqObj "list" vs.toArray 0)}
 rw[hsz];refine XU (Sf<|Ly slot_list_sort ⟨_,Jz,Z⟩ entry_list_sort (list_sort_tree Jz hI Qz λout ms b1 b2 b3=>⟨_,Z,?_⟩)<|args_list_sort _);exact Yk ⟨_,Z,k out ms b1 b2 b3⟩
end
section
variable{X:Cx}
theorem Dg (K:Ad) (hk:X.K=K:=by rfl):Vp X (.builtin "sorted") (λxs H Q=>∃p ns,xs=[.ref p]/\SqT K H p (ns.map V.int)/\ns.length<64/\
  ∀ms:Ac,ms.Perm ns->ms.Pairwise (·<=·)->∀l,H l=none->Q (.ref l) (upd H l<|.lst<|ms.map V.int)):=by
 subst hk;intro pins s σ H xs us Q I r h;obtain⟨p,ns,rfl,hq,hn,q⟩:=h;obtain⟨u,rfl,ru⟩:=WH r;obtain rfl:u=Value.ref p:=ru;obtain⟨XW,rv,⟨ot,h1,h2,m,h3⟩,hz⟩:=I.tuple hq;have hi:=ZQ rv
 have hl:XW.length=ns.length:=by rw[<-rv.length,Yb]
 refine qc h1 h2 h3 hi J λout ms b1 b2 b3=>?_;obtain⟨e,he⟩:=sortedAll_at s.heap XW out;have NR:ms.length=ns.length:=b2.length_eq
 refine⟨.ref<|s.heap.objs.size+1,_,I.laid (t':=s.toks) (o:=.lst<|ms.map V.int) (λb o g=>sortedAll_old g) (Uc _) ⟨?_,out.toList,e,Pp b1,he⟩,Z,q ms b2 b3 _<|I.hok.fresh<|Uc _⟩;rw[Yb,NR]
 have:sizeLine=16777216:=TQ
 lia
noncomputable def Iz(K:Ad):R2:=λx y H Q=>∃a b xs ys,x=.ref a/\y=.ref b/\SqT K H a xs/\SqT K H b ys/\xs.length+ys.length<=sizeLine/\
 (xs=[]->Q (.ref b) H)/\(xs≠[]->ys=[]->Q (.ref a) H)/\(xs≠[]->ys≠[]->∀p,H p=none->Q (.ref p) (upd H p<|.tup<|xs++ys))
theorem Iy(K:Ad)(hk:X.K=K:=by rfl):WC X (binaryOp .Add) (Iz K):=by
 intro pins s σ H x y v u Q I rx ry h;obtain⟨a,b,xs,ys,e1,e2,ha,hb,hz,q0,q1,q2⟩:=id h;by_cases hx:xs=[]
 .subst hk e1 e2;cases rx;cases ry;obtain⟨XW,r1,p1,_⟩:=I.tuple ha;obtain⟨VF,r2,p2,_⟩:=I.tuple hb;have hi:XW=[]:=r1.nil_iff.mpr hx
  obtain⟨⟨cls,dd,data,sl⟩,ho,hc,n,hd⟩:=id p1;obtain⟨⟨sP,yd,data2,x9⟩,SE,Vi,n2,hd2⟩:=id p2;simp only at hc hd Vi hd2;subst hc hd Vi hd2;exact concat_meets ⟨_,ho,Z⟩ ⟨_,SE,Z⟩ uJ seq_tuple_add vy vD (JM _ _)
   (tuple_addW0 a b XW.toArray VF.toArray n n2 dd yd sl x9<|by simp[hi]) ⟨ho,SE,⟨.ref b,H,I,Z,q0 hx⟩⟩
 .exact qM K hk pins s σ H x y v u Q I rx ry ⟨a,b,xs,ys,e1,e2,ha,hb,hx,hz,q1 hx,q2 hx⟩
end
end L2
namespace My
open PySem L2
theorem Df(h:mk m a=mk m b):lm m a b=m:=by unfold lm;rw[if_neg λz=>z h]
theorem cQ(ha:a<m.length)(hb:b<m.length):cnt m<=cnt (lm m a b)+1:=by
 by_cases e:mk m a=mk m b
 .rw[Df e];lia
 .have:=xA ha hb e;lia
theorem xx:∀es:List (Nat×Nat),InN n es->n<=cnt (WQ n es)+es.length:=by
 refine MI (λ_=>?_) λes x ih hn=>?_
 .have:cnt (WQ n [])=n:=qg n
  lia
 .obtain⟨h1,h2,h3⟩:=hn.snoc;have hl:=ZG n es
  have:=cQ (m:=WQ n es) (a:=x.1) (b:=x.2) J J
  have:=ih h1
  rw[MM,Xt,Yq,TN];lia
theorem xw(h:1<=M.length):1<=cnt M:=by unfold cnt Vt;refine yX (a:=0) (Yg.mpr ⟨YI.mpr J,XD.mpr λi hi=>absurd hi<|Wk i⟩)
theorem UZ(hn:1<=n)(h:InN n es):cnt (WQ n es)=1↔∀i j,i<n->j<n->Conn es i j:=by rw[qf (by rwa[ZG])];exact Di h
theorem cP(hn:ts.Nodup)(ho:o∈ts):(wo ts o).length+1=ts.length:=by
 induction ts with
 |nil=>cases ho
 |cons x r ih=>
  obtain⟨h1,h2⟩:=QI.mp hn;unfold wo;rw[YO];by_cases e:x=o
  .subst e;rw[if_neg B]
   have:r.filter (λy=>decide<|y≠x)=r:=vi.mpr λy hy=>Yn λe=>h1 (e▸hy)
   rw[this];rfl
  .rw[if_pos (Yn e)]
   have:=ih h2 ((Ye.mp ho).resolve_left λz=>e z.symm)
   unfold wo at this;rw[Yq,Yq];lia
noncomputable def Zt(ps:Aa)(z:Int):Nat×Nat:=((ps.getD z.toNat (0,0)).1.toNat,(ps.getD z.toNat (0,0)).2.toNat)
theorem KY(ps:Aa)(ns:Ac)(z:Int):XT ps (ns++[z])=XT ps ns++[Zt ps z]:=by unfold XT Zt;rw[YJ];rfl
theorem Ul(g:Zw n ps)(z0:0<=z)(z1:z<(ps.length:Int)):(Zt ps z).1<n.toNat/\(Zt ps z).2<n.toNat:=by
 have:=ZO (ns:=[z]) g (λy hy=>by rw[XF.mp hy];exact⟨z0,z1⟩)
 exact this (Zt ps z) (by unfold XT Zt;simp)
theorem De(hT:Zh n ps ts):∀y∈wo ts o,0<=y/\y<(ps.length:Int):=λy hy=>hT.1.all y (Xq.mp hy).1
theorem Iw(g:Zw n ps)(hT:Zh n ps ts)(ho:o∈ts)(z0:0<=z)(z1:z<(ps.length:Int)):
  (∀i j,i<n.toNat->j<n.toNat->Conn (XT ps<|wo ts o++[z]) i j)↔¬Conn (XT ps<|wo ts o) (Zt ps z).1 (Zt ps z).2:=by
 have hn:1<=n.toNat:=by have:=g.1;lia
 have hw:=cP hT.1.nodup ho;have hl:(ts.length:Int)=n-1:=hT.2.1
 have i0:InN n.toNat (XT ps<|wo ts o):=ZO g (De hT);have hz:=Ul g z0 z1
 have ob:=hT.1.all o ho;have Pm:=Ul g ob.1 ob.2
 have i1:InN n.toNat (XT ps (wo ts o)++[Zt ps z]):=λe he=>(Xz.mp he).elim (i0 e) λq=>by rwa[XF.mp q]
 have i2:InN n.toNat (XT ps (wo ts o)++[Zt ps o]):=λe he=>(Xz.mp he).elim (i0 e) λq=>by rwa[XF.mp q]
 have hL:=ZG n.toNat (XT ps<|wo ts o);have le:(XT ps<|wo ts o).length=(wo ts o).length:=by unfold XT;rw[Yb]
 rw[KY];constructor
 .intro hc c;have h1:cnt (WQ n.toNat<|XT ps (wo ts o)++[Zt ps z])=1:=(UZ hn i1).mpr hc
  rw[MM,Df ((ZY i0 hz.1 hz.2).mpr c)]at h1
  have:=xx _ i0
  lia
 .intro hc;have h2:cnt (WQ n.toNat<|XT ps (wo ts o)++[Zt ps o])=1:=by
   refine(UZ hn i2).mpr λi j hi hj=>?_;rw[<-KY];refine(KZ λy=>?_).mp (hT.2.2 i j hi hj);rw[Xz,Xq,XF];constructor
   .intro hy;by_cases e:y=o
    .exact .inr e
    .exact .inl ⟨hy,e⟩
   .rintro(q|q)
    .exact q.1
    .rw[q];exact ho
  rw[MM]at h2;have h3:=cQ (m:=WQ n.toNat<|XT ps<|wo ts o) (a:=(Zt ps o).1) (b:=(Zt ps o).2) J J
  have h4:=xA (m:=WQ n.toNat<|XT ps<|wo ts o) (a:=(Zt ps z).1) (b:=(Zt ps z).2) J J λe=>hc ((ZY i0 hz.1 hz.2).mp e);have h5:=xw (M:=lm (WQ n.toNat<|XT ps<|wo ts o) (Zt ps z).1 (Zt ps z).2) (by rw[xP];lia)
  refine(UZ hn i1).mp ?_;rw[MM];lia
noncomputable def UY(n:Int)(ps:Aa)(ts:Ac)(o:Int):Ac:=unlike (WQ n.toNat<|XT ps<|wo ts o) ps ps.length
theorem Zw6{z:Int}(h:z∈unlike M ps i):0<=z/\z<(i:Int):=by
 unfold unlike at h;obtain⟨k,hk,rfl⟩:=YA.mp h
 have:=YI.mp (Yg.mp hk).1
 lia
theorem ZU(g:Zw n ps)(hT:Zh n ps ts)(z0:0<=z)(z1:z<(ps.length:Int)):z∈UY n ps ts o↔¬Conn (XT ps (wo ts o)) (Zt ps z).1 (Zt ps z).2:=by have hz:=Ul g z0 z1;unfold UY;rw[Zu6 z0 z1];exact not_congr (ZY (ZO g<|De hT) hz.1 hz.2)
noncomputable def exg(n:Int)(ps:Aa)(ts:Ac)(o z:Int):Prop:=o∈ts/\z≠o/\z∈UY n ps ts o
noncomputable instance (n:Int) (ps:Aa) (ts:Ac) (o z:Int):Decidable (exg n ps ts o z):=by unfold exg;infer_instance
theorem Gg(g:Zw n ps)(hT:Zh n ps ts):
  exg n ps ts o z↔o∈ts/\z∉ts/\0<=z/\z<(ps.length:Int)/\∀i j,i<n.toNat->j<n.toNat->Conn (XT ps<|wo ts o++[z]) i j:=by
 constructor
 .rintro⟨h1,h2,h3⟩;obtain⟨z0,z1⟩:=Zw6 h3;have hc:=(ZU g hT z0 z1).mp h3
  refine⟨h1,λhz=>hc ?_,z0,z1,(Iw g hT h1 z0 z1).mpr hc⟩;refine .edge ?_;exact YA.mpr ⟨z,Xq.mpr ⟨hz,h2⟩,Z⟩
 .rintro⟨h1,h2,z0,z1,hc⟩;exact⟨h1,λe=>h2<|e▸h1,(ZU g hT z0 z1).mpr ((Iw g hT h1 z0 z1).mp hc)⟩
end My
namespace L2
open PySem PySem.Spec PyProof.Rows
section
variable{X:Cx}
theorem qb{e:Addr->Bool}(I:Inv X pins σ H s)(hu:A.units+n<cLine)(rx:RelV x w){xs:List V}{us:Ag}(h0:Vals xs us)(h:∀v∈xs,∃a,v=.ref a/\EqD X.K H n v x (e a)):∀u∈us,SeqAt.EqAt A s u w (match u with | .ref a=>e a|_=>false):=by
 induction h0 with
 |nil=>intro u hu;cases hu
 |@cons y u xs us r t ih=>
  intro u' qa;rcases Ye.mp qa with rfl|qa
  .obtain⟨a,rfl,q⟩:=h y Ya;obtain rfl:u'=Value.ref a:=r;exact q.at I hu Z rx
  .exact ih (λv hv=>h v<|Yf _ hv) u' qa
end
end L2
namespace My
open PySem L2
theorem Gf{o y:Int}(g:Zw n ps)(hT:Zh n ps ts)(ho:o∈ts)(hy:y∈ts):y∈UY n ps ts o↔y=o:=by
 have yb:=hT.1.all y hy;rw[ZU g hT yb.1 yb.2];constructor
 .intro h;by_cases e:y=o
  .exact e
  .exact absurd (.edge<|YA.mpr ⟨y,Xq.mpr ⟨hy,e⟩,Z⟩) h
 .rintro rfl;refine(Iw g hT hy yb.1 yb.2).mp λi j hi hj=>(KZ λz=>?_).mp (hT.2.2 i j hi hj);rw[Xz,Xq,XF];constructor
  .intro hz;by_cases e:z=y
   .exact .inr e
   .exact .inl ⟨hz,e⟩
  .rintro(q|q)
   .exact q.1
   .rw[q];exact hy
theorem VD:y∈TB n ps ts z l↔y∈l/\z∈UY n ps ts y:=by unfold TB;rw[Yg,YT];exact Iff.rfl
theorem xu(g:Zw n ps)(hT:Zh n ps ts)(hx:exg n ps ts o z)(Vs:ms.Perm (wo ts o++[z]))(Sw:ms.Pairwise (·<=·)):Zh n ps ms:=by
 obtain⟨ho,hz,z0,z1,hc⟩:=(Gg g hT).mp hx;have nd:(wo ts o++[z]).Nodup:=dq (hT.1.nodup.sublist List.filter_sublist) λh=>hz (Xq.mp h).1
 have ndm:ms.Nodup:=Vs.nodup_iff.mpr nd;have hl:=cP hT.1.nodup ho
 have RZ:=Vs.length_eq;rw[Xt,Yr]at RZ;refine⟨XX.mpr ⟨λy hy=>?_,(List.pairwise_and_iff.mpr ⟨Sw,ndm⟩).imp λ{x y} h=>by have:=h.1;have:=h.2;lia⟩,by rw[RZ,hl];exact hT.2.1,λi j hi hj=>(KZ λy=>Vs.mem_iff).mpr (hc i j hi hj)⟩;rcases Xz.mp (Vs.mem_iff.mp hy) with h|h
 .exact hT.1.all y (Xq.mp h).1
 .rw[XF.mp h];exact⟨z0,z1⟩
section
variable{n:Int}{ps:Aa}{ts ms:Ac}{o z:Int}(g:Zw n ps)(hT:Zh n ps ts)(hx:exg n ps ts o z)(Vs:ms.Perm (wo ts o++[z]))(Sw:ms.Pairwise (·<=·))
include g hT hx Vs Sw
theorem xt{y:Int}:y∈ms↔(y∈ts/\y≠o)\/y=z:=by rw[Vs.mem_iff,Xz,Xq,XF]
end
noncomputable def WU(n:Nat)(ps:Aa):Nat->Ac
 |0=>[]
 |k+1=>if mk (WQ n<|XT ps<|WU n ps k) (Zt ps (k:Int)).1=mk (WQ n<|XT ps<|WU n ps k) (Zt ps (k:Int)).2 then WU n ps k else WU n ps k++[(k:Int)]
theorem Ge(n:Nat)(ps:Aa)(k:Nat):WU n ps (k+1)=if mk (WQ n (XT ps (WU n ps k))) (Zt ps (k:Int)).1=mk (WQ n (XT ps (WU n ps k))) (Zt ps (k:Int)).2 then WU n ps k else WU n ps k++[(k:Int)]:=rfl
theorem Gd:∀k,∀z∈WU n ps k,0<=z/\z<(k:Int)
 |0,z,h=>by cases h
 |k+1,z,h=>by
  rw[Ge]at h;split at h
  .have:=Gd k z h;lia
  .rcases Xz.mp h with h|h
   .have:=Gd k z h;lia
   .rw[XF.mp h];lia
theorem Dc:∀k,(WU n ps k).Pairwise (·<·)
 |0=>List.Pairwise.nil
 |k+1=>by
  rw[Ge];split
  .exact Dc k
  .rw[Oq];exact⟨Dc k,GO ..,λa ha b hb=>by rw[XF.mp hb];exact(Gd k a ha).2⟩
theorem p9(hk:k<=ps.length):IsSet ps.length (WU n ps k):=XX.mpr ⟨λz hz=>by have:=Gd k z hz;lia,Dc k⟩
theorem xr(g:Zw n ps)(hk:k<=ps.length):InN n.toNat (XT ps (WU n.toNat ps k)):=ZO g (p9 hk).all
theorem xq:∀k,j<=k->∀z,z∈WU n ps j↔z∈WU n ps k/\z<(j:Int)
 |0,h,z=>by
  have:j=0:=J
  subst this;exact⟨λh=>(by cases h),λh=>h.1⟩
 |k+1,h,z=>by
  by_cases e:j=k+1
  .subst e;exact⟨λh=>⟨h,(Gd _ z h).2⟩,λh=>h.1⟩
  .have ih:=xq (n:=n) (ps:=ps) (j:=j) k J z;rw[Ge,ih];split
   .exact Iff.rfl
   .rw[Xz,XF];constructor
    .rintro⟨h1,h2⟩;exact⟨.inl h1,h2⟩
    .rintro⟨h1|h1,h2⟩
     .exact⟨h1,h2⟩
     .lia
theorem cO(g:Zw n ps)(hk:k<=ps.length)(hj:j<k)(hn:(j:Int)∉WU n.toNat ps k):Conn (XT ps (WU n.toNat ps j)) (Zt ps (j:Int)).1 (Zt ps (j:Int)).2:=by
 have he:=Ul (z:=(j:Int)) g J J;have h1:(j:Int)∉WU n.toNat ps (j+1):=λh=>hn ((xq k hj _).mp h).1
 rw[Ge]at h1;split at h1
 .rename_i h;exact(ZY (xr g J) he.1 he.2).mp h
 .exact absurd (Yi _<|XF.mpr Z) h1
theorem xp(g:Zw n ps):∀k,k<=ps.length->cnt (WQ n.toNat (XT ps (WU n.toNat ps k)))+(WU n.toNat ps k).length=n.toNat
 |0,_=>qg n.toNat
 |k+1,hk=>by
  have ih:=xp g k J;have he:=Ul (z:=(k:Int)) g J J
  have hl:=ZG n.toNat (XT ps<|WU n.toNat ps k);rw[Ge];split
  .exact ih
  .rename_i h;rw[KY,MM,Xt,Yr]
   have:=xA (m:=WQ n.toNat<|XT ps<|WU n.toNat ps k) J J h
   grind
theorem cN(g:Zw n ps)(ht:∀z∈ts,0<=z/\z<(ps.length:Int))(c:Conn (XT ps ts) i j):Conn (XT ps (WU n.toNat ps ps.length)) i j:=by
 induction c with
 |refl i=>exact .refl i
 |symm _ ih=>exact .symm ih
 |trans _ _ i1 i2=>exact .trans i1 i2
 |@edge a b h=>
  obtain⟨z,hz,e⟩:=YA.mp h;obtain⟨z0,z1⟩:=ht z hz;have ez:z=((z.toNat:Nat):Int):=J
  by_cases hm:z∈WU n.toNat ps ps.length
  .exact .edge (YA.mpr ⟨z,hm,e⟩)
  .rw[ez]at hm;have c:=cO g (XO _) J hm
   have c2:=c.mono (ZC λy hy=>((xq ps.length J y).mp hy).1);rw[<-ez]at c2;have ea:a=(Zt ps z).1:=(XB Prod.fst e).symm
   have eb:b=(Zt ps z).2:=(XB Prod.snd e).symm;rwa[ea,eb]
theorem p8(g:Zw n ps)(hT:Zh n ps ts):Zh n ps (WU n.toNat ps ps.length):=by
 have hc:∀i j,i<n.toNat->j<n.toNat->Conn (XT ps<|WU n.toNat ps ps.length) i j:=λi j hi hj=>cN g hT.1.all (hT.2.2 i j hi hj);have h1:=(UZ (by have:=g.1;lia)<|xr g<|XO _).mpr hc
 have h2:=xp g ps.length (XO _);exact⟨p9<|XO _,by have:=g.1;grind,hc⟩
theorem cM(g:Zw n ps)(h:¬((WU n.toNat ps ps.length).length:Int)<n-1):Zh n ps (WU n.toNat ps ps.length):=by
 have h2:=xp g ps.length (XO _);have h3:=xw (M:=WQ n.toNat<|XT ps<|WU n.toNat ps ps.length) (by rw[ZG];have:=g.1;grind)
 exact⟨p9<|XO _,by have:=g.1;grind,(UZ (by have:=g.1;grind)<|xr g<|XO _).mp J⟩
theorem p7:∀{a b:Ac},a.length=b.length->HT.lexLt a b=true->∃p x y r s,a=p++x::r/\b=p++y::s/\x<y
 |[],[],_,h=>by cases h
 |[],_::_,e,_=>by simp at e
 |_::_,[],e,_=>by simp at e
 |x::xs,y::ys,e,h=>by
  rw[HT.Xk]at h;by_cases q:x=y
  .subst q;rw[if_pos Z]at h;obtain⟨p,u,v,r,s,e1,e2,e3⟩:=p7 (by simpa using e) h;exact⟨x::p,u,v,r,s,by rw[e1];rfl,by rw[e2];rfl,e3⟩
  .rw[if_neg q]at h;exact⟨[],x,y,xs,ys,Z,Z,Yu h⟩
theorem SW:∀{a b:Ac},HT.lexLt a b=false->HT.lexLt b a=false->a=b
 |[],[],_,_=>rfl
 |[],_::_,h,_=>by cases h
 |_::_,[],_,h=>by cases h
 |x::xs,y::ys,h1,h2=>by
  rw[HT.Xk]at h1 h2;by_cases q:x=y
  .subst q;rw[if_pos Z]at h1 h2;rw[SW h1 h2]
  .rw[if_neg q]at h1;rw[if_neg λe=>q e.symm]at h2
   have:=of_decide_eq_false h1
   have:=of_decide_eq_false h2
   lia
theorem ZV8(g:Zw n ps)(hT:Zh n ps ts):HT.lexLt ts (WU n.toNat ps ps.length)=false:=by
 have hG:=p8 g hT;cases h:HT.lexLt ts (WU n.toNat ps ps.length) with
 |false=>rfl
 |true=>
  exfalso;obtain⟨p,x,y,r,s,e1,e2,MF⟩:=p7 (by have:=hT.2.1;have:=hG.2.1;lia) h
  have hx:x∈ts:=by rw[e1];simp
  obtain⟨x0,x1⟩:=hT.1.all x hx;have xo:=(XX.mp hT.1).2
  have ag:=Dc (n:=n.toNat) (ps:=ps) ps.length;rw[e1,Oq]at xo;rw[e2,Oq]at ag;have px:∀z∈p,z<x:=λz hz=>xo.2.2 z hz x Ya
  have ys:∀z∈y::s,x<z:=λz hz=>by
   rcases Ye.mp hz with e|hz
   .rw[e];exact MF
   .have:=(YQ.mp ag.2.1).1 z hz;lia
  have ex:x=((x.toNat:Nat):Int):=J;have hn:((x.toNat:Nat):Int)∉WU n.toNat ps ps.length:=by
   rw[<-ex,e2,Xz];rintro(h|h)
   .have:=px x h;lia
   .have:=ys x h;omega
  have c:=cO g (XO _) uu hn;have c2:Conn (XT ps<|wo ts x) (Zt ps x).1 (Zt ps x).2:=by
   rw[<-ex]at c;refine c.mono (ZC λz hz=>?_);obtain⟨h1,h2⟩:=(xq ps.length J z).mp hz;rw[<-ex]at h2;rw[e2,Xz]at h1;rcases h1 with h1|h1
   .exact Xq.mpr ⟨by rw[e1];exact Yd _ h1,J⟩
   .have:=ys z h1;lia
  exact(ZU g hT x0 x1).mp ((Gf g hT hx hx).mpr Z) c2
theorem cL:∀{a b c:Ac},HT.lexLt a b=true->HT.lexLt b c=true->HT.lexLt a c=true
 |[],[],_,h,_=>by cases h
 |[],_::_,[],_,h=>by cases h
 |[],_::_,_::_,_,_=>rfl
 |_::_,[],_,h,_=>by cases h
 |_::_,_::_,[],_,h=>by cases h
 |x::xs,y::ys,z::zs,h1,h2=>by
  rw[HT.Xk]at h1 h2 ⊢;by_cases e1:x=y
  .subst e1;rw[if_pos Z]at h1;by_cases e2:x=z
   .subst e2;rw[if_pos Z]at h2 ⊢;exact cL h1 h2
   .rw[if_neg e2]at h2 ⊢;exact h2
  .rw[if_neg e1]at h1;have h1:=Yu h1
   by_cases e2:y=z
   .subst e2;rw[if_neg e1];exact Yn h1
   .rw[if_neg e2]at h2;have h2:=Yu h2
    rw[if_neg J];exact Yn ur
theorem p6:∀a:Ac,HT.lexLt a a=false
 |[]=>rfl
 |x::xs=>by rw[HT.Xk,if_pos Z];exact p6 xs
theorem RV(bt:Nat->Nat->Bool):∀j,argBest bt j<=j
 |0=>XO _
 |j+1=>by
  unfold argBest;split
  .exact XO _
  .have:=RV bt j;lia
noncomputable def WA(H:Hp)(v:V)(l:Ac):Prop:=∃a,v=.ref a/\H a=some (.tup<|IL l)
noncomputable def Tz(s:Ac):Int:=match s.getLast? with|none=>0|some x=>x+1
noncomputable def Uk(m:Int)(s:Ac):Ab:=(List.range (m-Tz s).toNat).map λ(i:Nat)=>s++[Tz s+(i:Int)]
noncomputable def Pl(m:Int):Nat->Ab
 |0=>[[]]
 |k+1=>(Pl m k).flatMap (Uk m)
theorem p0(s:Ac)(x:Int):Tz (s++[x])=x+1:=by unfold Tz;rw[List.getLast?_append];rfl
theorem Wh{s l:Ac}:l∈Uk m s↔∃t,Tz s<=t/\t<m/\l=s++[t]:=by
 unfold Uk;rw[YA];constructor
 .rintro⟨i,hi,rfl⟩
  have:=YI.mp hi
  exact⟨_,J,ur,Z⟩
 .rintro⟨t,h1,h2,rfl⟩;exact⟨(t-Tz s).toNat,YI.mpr J,by rw[show Tz s+(((t-Tz s).toNat:Nat):Int)=t by lia]⟩
theorem Tx{t:Int}:IsSet m (s++[t])↔IsSet m s/\Tz s<=t/\0<=t/\t<(m:Int):=by
 rw[XX,XX,Oq];have last:(∀a∈s,∀b∈[t],a<b)/\s.Pairwise (·<·)->Tz s<=t\/t<0:=by
  rintro⟨h,_⟩;unfold Tz;cases e:s.getLast? with
  |none=>by_cases h0:0<=t;exact .inl h0;exact .inr J
  |some x=>have:=h x (vo e) t B;exact .inl (by show x+1<=t;lia)
 constructor
 .rintro⟨h1,h2,_,h3⟩;have ht:=h1 t B
  refine⟨⟨λz hz=>h1 z<|Yd _ hz,h2⟩,?_,ht⟩;rcases last ⟨h3,h2⟩ with h|h
  .exact h
  .omega
 .rintro⟨⟨h1,h2⟩,h3,h4,h5⟩;refine⟨λz hz=>?_,h2,GO ..,λa ha b hb=>?_⟩
  .rcases Xz.mp hz with h|h
   .exact h1 z h
   .rw[XF.mp h];exact⟨h4,h5⟩
  .rw[XF.mp hb];have key:∀{s:Ac}{a:Int},s.Pairwise (·<·)->a∈s->a<Tz s:=by
    refine λ{s}=>MI (P:=λs=>∀{a:Int},s.Pairwise (·<·)->a∈s->a<Tz s) (λ{a} _ h=>by cases h) (λl x ih {a} hp h=>?_) s;rw[p0];rw[Oq]at hp;rcases Xz.mp h with h|h
    .have:=hp.2.2 a h x B;lia
    .rw[XF.mp h];lia
   have:=key h2 ha
   lia
theorem VQ{m:Nat}:∀{k:Nat}{l:Ac},l∈Pl (m:Int) k↔l.length=k/\IsSet m l
 |0,l=>by
  show l∈[[]]↔_;rw[XF];constructor
  .rintro rfl;exact⟨Z,λi z e=>by simp at e⟩
  .rintro⟨h,_⟩;exact YZ.mp h
 |k+1,l=>by
  show l∈(Pl (m:Int) k).flatMap (Uk m)↔_;rw[List.mem_flatMap];constructor
  .rintro⟨s,hs,hl⟩;obtain⟨t,h1,h2,rfl⟩:=Wh.mp hl;obtain⟨e,hI⟩:=VQ.mp hs;have n0:0<=Tz s:=by
    unfold Tz;cases q:s.getLast? with
    |none=>exact Np 0
    |some x=>have:=(hI.all x<|vo q).1;show 0<=x+1;lia
   exact⟨by rw[Xt,e];rfl,Tx.mpr ⟨hI,h1,J,h2⟩⟩
  .rintro⟨e,hI⟩;have XJ:l≠[]:=λz=>by rw[z]at e;simp at e
   obtain⟨s,t,rfl⟩:∃s t,l=s++[t]:=⟨l.dropLast,l.getLast XJ,(Fb XJ).symm⟩;obtain⟨h1,h2,h3,h4⟩:=Tx.mp hI;exact⟨s,VQ.mpr ⟨by rw[Xt]at e;simpa using e,h1⟩,Wh.mpr ⟨t,h2,h4,Z⟩⟩
theorem pZ(h:IsSet m s):(Uk (m:Int) s).length<=m:=by
 unfold Uk;rw[Yb,Om];have n0:0<=Tz s:=by
  unfold Tz;cases q:s.getLast? with
  |none=>exact Np 0
  |some x=>have:=(h.all x<|vo q).1;show 0<=x+1;lia
 omega
theorem cK:∀L:Ab,(∀s∈L,IsSet m s)->(L.flatMap (Uk (m:Int))).length<=m*L.length
 |[],_=>Ym _
 |s::L,h=>by
  have:=cK L λx hx=>h x (Yf _ hx)
  have:=pZ (h s Ya)
  rw[List.flatMap_cons,Xt,Yq,Nat.mul_succ];lia
theorem CZ:∀{w t:Ac},t.Pairwise (·<·)->w.Pairwise (·<·)->(∀z∈t,z∈w)->t.Sublist w
 |[],[],_,_,_=>List.Sublist.slnil
 |[],x::t,_,_,h=>absurd (h x Ya) B
 |y::w,[],_,_,_=>List.nil_sublist _
 |y::w,x::t,ht,hw,h=>by
  obtain⟨h1,h2⟩:=YQ.mp ht;obtain⟨h3,h4⟩:=YQ.mp hw;by_cases e:x=y
  .subst e;refine List.Sublist.cons₂ _ (CZ h2 h4 λz hz=>?_);rcases Ye.mp (h z<|Yf _ hz) with q|q
   .have:=h1 z hz;lia
   .exact q
  .have hx:x∈w:=(Ye.mp<|h x Ya).resolve_left e;refine List.Sublist.cons _ (CZ ht h4 λz hz=>?_);rcases Ye.mp (h z hz) with q|q
   .have:=h3 x hx
    rcases Ye.mp hz with q2|q2
    .rw[q2];exact hx
    .have:=h1 z q2;lia
   .exact q
noncomputable def NP(M:Ac)(es:List (Nat×Nat)):Ac:=es.foldl (λm e=>pm m e.1 e.2) M
theorem pY(M:Ac)(es:List (Nat×Nat))(e:Nat×Nat):NP M (es++[e])=pm (NP M es) e.1 e.2:=by unfold NP;rw[Nm];rfl
theorem ZT6(M:Ac):∀es:List (Nat×Nat),(NP M es).length=M.length:=by
 intro es;unfold NP
 induction es generalizing M with
 |nil=>rfl
 |cons e l ih=>rw[yM,ih,Pr]
theorem cJ{i:Int}(h0:0<=i):Xi xs none (some i)=xs.take i.toNat:=by
 have e:HT.Vu xs.length xs.length (some i)=min i.toNat xs.length:=by show(if i<0 then (i+(xs.length:Int)).toNat else min i.toNat xs.length)=_;rw[if_neg J]
 unfold Xi;rw[e,HT.VS,uN,yC];by_cases h:i.toNat<=xs.length
 .rw[Fm h]
 .rw[JG J,YN<|XO _,YN ur]
noncomputable def Wg(m:Nat):Ac:=(List.range m).map λ(i:Nat)=>(i:Int)
theorem XA{z:Int}:z∈Wg m↔0<=z/\z<(m:Int):=by
 unfold Wg;rw[YA];constructor
 .rintro⟨i,hi,rfl⟩
  have:=YI.mp hi
  lia
 .intro h;exact⟨z.toNat,YI.mpr J,J⟩
theorem ZM(m:Nat):(Wg m).length=m:=by unfold Wg;simp
theorem Gb(m:Nat):(Wg m).Pairwise (·<·):=by unfold Wg;rw[LD];exact Qf.imp λh=>ur
theorem Ga(m:Nat):IsSet m (Wg m):=XX.mpr ⟨λz hz=>XA.mp hz,Gb m⟩
theorem pX(m:Nat):Wa 0 (m:Int)=Wg m:=by unfold Wa Wg;rw[Ni,YD];exact YY λi _=>J
noncomputable def xn(n:Int)(ps:Aa):Prop:=∀i j,i<n.toNat->j<n.toNat->Conn (XT ps<|Wg ps.length) i j
end My
namespace L2
open PySem PySem.Spec PyProof.Rows
section
variable{prog:Program}{w:World}{A:Around}{E:Ae}{s:Shared}
theorem Zk6{r:Addr}{a b c:Int}{t u v:Tok}{n:Nat}{Q:List Value->Shared->Prop}(hh:A.handled=none)(hr:IsRange s.heap r a b c t u v)(hm:Builtin.Range.small a b c=true)(hn:Builtin.Range.rangeSize a b c=n)(hl:n<=2^24)
  (k:∀h' tk acc,(∀b o,s.heap.get? b=some o->h'.get? b=some o)->ItemsOf (λi v=>∃t,v=.int (a+i*c) t) acc n->Q acc.toList {s with heap:=h',toks:=tk}):wpAny (model prog w) A (collect<|.ref r) Q E s:=by
 have NQ:(s.heap.push<|seqObj "list" #[] 0).get? s.heap.objs.size=some (seqObj "list" #[] 0):=Yj _ rfl;unfold collect;refine XU (yG<|Sh uK ?_);show wpAny _ A.in1 (do again (.builtin "list.__iadd__" ⟨[<-newList [],.ref r],[]⟩)) _ _ s
 refine XU (JR<|Yk ⟨yP _ D,Sh entry_list_iadd' ?_⟩);show wpAny _ A.in1 (Builtin.List.listExtendWith (.ref s.heap.objs.size) (.ref r)<|.ref s.heap.objs.size) _ _ {s with heap:=s.heap.push (seqObj "list" #[] 0)}
 refine Ut (wpAny_extend_range (A:=A) (R:=λx s'=>∃h' tk acc c',x=.ok (.ret<|.ref s.heap.objs.size)/\s'={s with heap:=h',toks:=tk}/\(∀b o,s.heap.get? b=some o->h'.get? b=some o)/\
   h'.get? s.heap.objs.size=some {cls:=.type "list",dict:=none,data:=.seq acc c',slots:=#[]}/\ItemsOf (λi v=>∃t,v=.int (a+i*c) t) acc n)
  (s:={s with heap:=s.heap.push (seqObj "list" #[] 0)}) hh (Xb _ hr) hm hn hl _ _ 0 NQ λh' tk acc c' k1 k2 k3=>⟨h',tk,acc,c',Z,Z,λb o e=>k1 b o (Yy<|Yp e)<|Xb _ e,k2,k3⟩) (λfin s' z=>?_) (λe s' z=>?_)
 .cases fin with
  |done f=>
   obtain⟨h',tk,acc,c',e,rfl,k1,k2,k3⟩:=z;cases e;refine XU (EX k2 ?_);exact Yk (k h' tk acc k1 k3)
  |again c'=>
   refine⟨z.1,Nr z.2 λx s2 z=>?_⟩;obtain⟨h',tk,acc,c',rfl,rfl,k1,k2,k3⟩:=z;refine XU (EX k2 ?_);exact Yk (k h' tk acc k1 k3)
 .obtain⟨h',tk,acc,c',e,_⟩:=z;cases e
theorem pW{r:Addr}{a b c:Int}{t u v:Tok}{n:Nat}(hm:Builtin.Range.small a b c=true)(hn:Builtin.Range.rangeSize a b c=n)(hl:n<=2^24):
  Meets (Builtin.«tuple.__new__» ⟨[.type "tuple",.ref r],[]⟩) (λA R s=>A.handled=none/\IsRange s.heap r a b c t u v/\∀(h':Heap)(tk:Nat)(acc:Array Value),(∀b o,s.heap.get? b=some o->h'.get? b=some o)->ItemsOf (λi v=>∃t,v=.int (a+i*c) t) acc n->
   R (.ok<|.ret<|.ref h'.objs.size) {s with heap:=h'.push<|seqObj "tuple" acc 0,toks:=tk}):=
 .of_wp λprog w A R s h=>by
  obtain⟨hh,hr,h⟩:=h;have e1:=sub_tuple_self
  have e2:=init_tuple_lookup;have e3:=madeHere_tuple
  have hT:s.TypeIs (.ref r) "range":=⟨_,hr,Z⟩;have CY:A.in1.handled=none:=hh
  wp_walk using Fc hT,Zk6 CY hr hm hn hl
  intro h' tk acc hk VR;show wpAny _ _ (Builtin.Tuple.tupleExact acc.toList.toArray >>= ret) _ _ _
  unfold Builtin.Tuple.tupleExact;have e:acc.toList.toArray=acc:=B
  rw[e];refine XU (Nz ?_<|by show acc.size<=sizeLine;rwa[VR.1,TQ]);exact Yk ⟨_,Z,h h' tk acc hk VR⟩
theorem ZZ2{r:Addr}{a b c:Int}{t u v:Tok}{n:Nat}{Q:Ae}(hh:A.handled=none)(hr:IsRange s.heap r a b c t u v)(hm:Builtin.Range.small a b c=true)(hn:Builtin.Range.rangeSize a b c=n)(hl:n<=2^24)
  (k:∀(h':Heap)(tk:Nat)(acc:Array Value),(∀b o,s.heap.get? b=some o->h'.get? b=some o)->ItemsOf (λi v=>∃t,v=.int (a+i*c) t) acc n->Q (.ref h'.objs.size) {s with heap:=h'.push<|seqObj "tuple" acc 0,toks:=tk}):wpAny (model prog w) A (call (.type "tuple") [.ref r]) Q E s:=
 callType_new F.called_tuple S (F.typeCall_tuple_1 _) (F.newCall_tuple_1 _) (λo=>F.args_object_init_2 o _) F.entry_tuple_new (pW (t:=t) (u:=u) (v:=v) hm hn hl)
  ⟨hh,hr,λh' tk acc hk VR=>⟨⟨_,Yj _ Z,Z⟩,k h' tk acc hk VR⟩⟩
end
section
variable{X:Cx}
theorem ZG3 (hc:X.calm=true):Vp X (.type "tuple") (λxs H Q=>∃p lo hi,xs=[.ref p]/\H p=some (.rng lo hi)/\(-(2^62)<=lo/\lo<2^62/\-(2^62)<=hi/\hi<2^62)/\(hi-lo).toNat<=16777216/\
  ∀l,H l=none->Q (.ref l) (upd H l<|.tup<|(Wa lo hi).map V.int)):=by
 intro pins s σ H xs us Q I r h;obtain⟨p,lo,hi,rfl,hp,⟨b1,b2,b3,b4⟩,hz,q⟩:=h;obtain⟨u,rfl,ru⟩:=WH r;obtain rfl:u=Value.ref p:=ru;obtain⟨t,u,v,e⟩:=(show ObjOk X.prog X.w H s.heap p (.rng lo hi) from I.hok p _ hp);have hn:Builtin.Range.rangeSize lo hi 1=(((hi-lo).toNat:Nat):Int):=by rw[rangeSize_one];split<;>grind
 refine ZZ2 (I.ok.hd hc) (t:=t) (u:=u) (v:=v) e (small_one b1 b2 b3 b4) hn hz λh' tk acc hk ha=>?_;have hl:acc.toList.length=(hi-lo).toNat:=by rw[YC];exact ha.1
 have rv:Vals ((Wa lo hi).map V.int) acc.toList:=dw (lo:=lo) hl λj w ew=>by obtain⟨t,e⟩:=ha.2 j w (by simpa using ew);exact⟨t,by rw[e,Nq]⟩
 have I1:Inv X pins σ H {s with heap:=h',toks:=tk}:=I.kept (t':=tk) hk;have pV:((Wa lo hi).map V.int).length<=sizeLine:=by
  rw[Yb,dy]
  have:sizeLine=16777216:=TQ
  lia
 have I2:Inv X pins σ (upd H h'.objs.size<|.tup<|(Wa lo hi).map V.int) {s with heap:=h'.push<|seqObj "tuple" acc.toList.toArray 0,toks:=tk}:=
  I1.laid (t':=tk) (λb o e=>Xb _ e) (XO _) (show ObjOk X.prog X.w _ _ _ (.tup<|(Wa lo hi).map V.int) from⟨pV,acc.toList,rv,IsTup.new _ _⟩)
 have ea:acc.toList.toArray=acc:=B;rw[ea]at I2;exact⟨.ref h'.objs.size,_,I2,Z,q _<|I1.hok.fresh<|XO _⟩
end
end L2
namespace My
open PySem L2
noncomputable def Rh(n:Nat)(ps:Aa)(G:Ac)(z:Int):Ac:=if mk (WQ n<|XT ps G) (Zt ps z).1=mk (WQ n<|XT ps G) (Zt ps z).2 then G else G++[z]
noncomputable def WR(n:Nat)(ps:Aa)(zs:Ac):Ac:=zs.foldl (Rh n ps) []
theorem ME(n:Nat)(ps:Aa)(zs:Ac)(z:Int):WR n ps (zs++[z])=Rh n ps (WR n ps zs) z:=by unfold WR;rw[Nm];rfl
theorem xm(n:Nat)(ps:Aa)(zs:Ac):∀ys,∃us,WR n ps (zs++ys)=WR n ps zs++us/\us.Sublist ys:=by
 refine MI ⟨[],B⟩ λys y ih=>?_;obtain⟨us,e,s⟩:=ih;rw[<-QJ,ME,e];unfold Rh;split
 .exact⟨us,Z,s.trans<|List.sublist_append_left _ _⟩
 .exact⟨us++[y],by rw[QJ],s.append<|List.Sublist.refl _⟩
theorem xk(n:Nat)(ps:Aa)(zs:Ac):(WR n ps zs).Sublist zs:=by obtain⟨us,e,s⟩:=xm n ps [] zs;rw[Oj]at e;rwa[e]
theorem cI(n:Nat)(ps:Aa):∀k,WR n ps ((List.range k).map λ(i:Nat)=>(i:Int))=WU n ps k
 |0=>rfl
 |k+1=>by rw[GH,YJ,yS,ME,cI n ps k,Ge];rfl
theorem pU(h:∀z∈zs,0<=z/\z<(ps.length:Int)):∀z∈WR n ps zs,0<=z/\z<(ps.length:Int):=λz hz=>h z ((xk n ps zs).subset hz)
theorem FZ(g:Zw n ps)(h:∀z∈zs,0<=z/\z<(ps.length:Int)):InN n.toNat (XT ps (WR n.toNat ps zs)):=ZO g (pU h)
theorem xj(g:Zw n ps):∀zs:Ac,(∀z∈zs,0<=z/\z<(ps.length:Int))->cnt (WQ n.toNat (XT ps (WR n.toNat ps zs)))+(WR n.toNat ps zs).length=n.toNat:=by
 refine MI (λ_=>qg n.toNat) λzs z ih h=>?_;have h1:∀z∈zs,0<=z/\z<(ps.length:Int):=λy hy=>h y (Yd _ hy)
 have ih:=ih h1;obtain⟨z0,z1⟩:=h z (Yi _<|XF.mpr Z);have he:=Ul (z:=z) g z0 z1
 have hl:=ZG n.toNat (XT ps<|WR n.toNat ps zs);rw[ME];unfold Rh;split
 .exact ih
 .rename_i h;rw[KY,MM,Xt,Yr]
  have:=xA (m:=WQ n.toNat<|XT ps<|WR n.toNat ps zs) J J h
  grind
theorem cH(g:Zw n ps)(h:∀z∈zs,0<=z/\z<(ps.length:Int)):(WR n.toNat ps zs).length<=14:=by
 have:=xj g zs h
 have:=g.2.1
 lia
theorem pT(g:Zw n ps):∀zs:Ac,(∀z∈zs,0<=z/\z<(ps.length:Int))->∀{i j:Nat},Conn (XT ps zs) i j->Conn (XT ps (WR n.toNat ps zs)) i j:=by
 refine MI (λ_ _ _ c=>c) λzs z IH h i j c=>?_;have h1:∀z∈zs,0<=z/\z<(ps.length:Int):=λy hy=>h y (Yd _ hy)
 obtain⟨z0,z1⟩:=h z (Yi _<|XF.mpr Z);have he:=Ul (z:=z) g z0 z1
 have up:∀{a b:Nat},Conn (XT ps<|WR n.toNat ps zs) a b->Conn (XT ps<|WR n.toNat ps<|zs++[z]) a b:=λc=>by
  rw[ME];unfold Rh;split
  .exact c
  .exact c.mono (ZC λy hy=>Yd _ hy)
 have own:Conn (XT ps<|WR n.toNat ps<|zs++[z]) (Zt ps z).1 (Zt ps z).2:=by
  rw[ME];unfold Rh;split
  .rename_i e;exact(ZY (FZ g h1) he.1 he.2).mp e
  .rw[KY];exact .edge (Yi _<|XF.mpr Z)
 induction c with
 |refl i=>exact .refl i
 |symm _ ih=>exact .symm ih
 |trans _ _ i1 i2=>exact .trans i1 i2
 |@edge a b e=>
  rw[KY]at e;rcases Xz.mp e with e|e
  .exact up (IH h1<|.edge e)
  .have e:=XF.mp e;have ea:a=(Zt ps z).1:=XB Prod.fst e
   have eb:b=(Zt ps z).2:=XB Prod.snd e;rwa[ea,eb]
theorem cG(g:Zw n ps):xn n ps↔¬((WU n.toNat ps ps.length).length:Int)<n-1:=by
 constructor
 .intro h;have hc:∀i j,i<n.toNat->j<n.toNat->Conn (XT ps<|WU n.toNat ps ps.length) i j:=λi j hi hj=>cN g (λz hz=>XA.mp hz) (h i j hi hj)
  have h1:=(UZ (by have:=g.1;lia)<|xr g<|XO _).mpr hc;have h2:=xp g ps.length (XO _)
  have:=g.1
  grind
 .intro h i j hi hj;exact((cM g h).2.2 i j hi hj).mono (ZC λz hz=>XA.mpr (by have:=Gd ps.length z hz;lia))
end My
namespace PyProof.Rows
open PySem
noncomputable abbrev dK:Keyed:=(Value.none,Value.none)
section
variable{O:KeyOrd}{key:Keyed->O.α}{kd:SortKind}
noncomputable def RK(O:KeyOrd)(key:Keyed->O.α)(x y:Keyed):Prop:=O.kle (key x) (key y)
noncomputable abbrev LoS:=Option (Array Keyed)×Array Keyed×Nat×Nat×Nat×Nat×Nat
noncomputable abbrev HiS:=Option (Array Keyed)×Nat×Nat×Array Keyed×Nat×Nat×Nat
noncomputable def CW:List (List Keyed)->Nat->List (Nat×Nat)
 |[],_=>[]
 |g::gs,o=>(o,g.length)::CW gs (o+g.length)
structure PI (O:KeyOrd) (key:Keyed->O.α) (kd:SortKind) (a₀:Array Keyed) (st:SortSt) (Iv:List (List Keyed)) (rest:List Keyed):Prop where
 kind:kindOf st=kd
 fail:failedOf st=none
 perm:(arrOf st).Perm a₀
 arr:(arrOf st).toList=Iv.flatten++rest
 srt:∀g∈Iv,1<=g.length/\g.Pairwise (RK O key)
 pend:(pendingOf st).toList.map (λp=>(p.1,p.2.1))=CW Iv 0
end
end PyProof.Rows
namespace L2
open PySem PySem.Spec PyProof.Rows
section
noncomputable def sameBut(a:Addr)(h h':Heap):Prop:=∀b o,b≠a->h.get? b=some o->h'.get? b=some o
end
end L2
namespace My
open PySem L2
noncomputable abbrev MD(a b:Ac):Prop:=HT.lexLt a b=true
theorem cF:∀p a b,HT.lexLt (p++a) (p++b)=HT.lexLt a b
 |[],a,b=>rfl
 |x::p,a,b=>by rw[Fo,Fo,HT.Xk,if_pos Z,cF p]
theorem cE:∀{s t:Ac}(a b:Ac),s.length=t.length->HT.lexLt s t=true->HT.lexLt (s++a) (t++b)=true
 |[],[],a,b,_,h=>by cases h
 |[],_::_,a,b,e,_=>by simp at e
 |_::_,[],a,b,e,_=>by simp at e
 |x::s,y::t,a,b,e,h=>by
  rw[HT.Xk]at h;rw[Fo,Fo,HT.Xk];split
  .rename_i q;rw[if_pos q]at h;exact cE a b (by simpa using e) h
  .rename_i q;rwa[if_neg q]at h
theorem pS(m:Int):∀k,∀l∈Pl m k,l.length=k
 |0,l,h=>by rw[XF.mp h];rfl
 |k+1,l,h=>by obtain⟨s,hs,hl⟩:=List.mem_flatMap.mp h;obtain⟨t,_,_,rfl⟩:=Wh.mp hl;rw[Xt,pS m k s hs];rfl
theorem KW(m:Int):∀k,(Pl m k).Pairwise MD
 |0=>GO ..
 |k+1=>by
  show((Pl m k).flatMap (Uk m)).Pairwise MD;rw[List.pairwise_flatMap];refine⟨λs _=>?_,fc (λ{s t} hs ht Wx=>?_)<|KW m k⟩
  .unfold Uk;rw[LD];refine Qf.imp λ{i j} Um=>?_;show HT.lexLt _ _=true
   rw[cF,HT.Xk,if_neg J];exact Yn J
  .intro x hx y hy;obtain⟨u,_,_,rfl⟩:=Wh.mp hx;obtain⟨v,_,_,rfl⟩:=Wh.mp hy;exact cE _ _ (by rw[pS m k s hs,pS m k t ht]) Wx
theorem Iu{α:Type}[DecidableEq α]:∀{l m:List α},l.Nodup->(∀x∈l,x∈m)->l.length<=m.length
 |[],m,_,_=>Ym _
 |x::l,m,h,hs=>by
  obtain⟨h1,h2⟩:=QI.mp h;have hx:=hs x Ya
  have:=Iu (l:=l) (m:=m.erase x) h2 λy hy=>(vn λ(e:y=x)=>h1<|e▸hy).mpr (hs y<|Yf _ hy)
  rw[JJ hx]at this
  have:=yX hx
  rw[Yq];grind
theorem CV(g:Zw n ps)(hT:Zh n ps T)(z0:0<=z)(z1:z<(ps.length:Int)):Conn (XT ps (TB n ps T z T)) (Zt ps z).1 (Zt ps z).2:=by
 have he:=Ul (z:=z) g z0 z1;have key:∀um:Ac,(∀o∈um,o∈T/\z∉UY n ps T o)->Conn (XT ps<|T.filter λy=>decide<|y∉um) (Zt ps z).1 (Zt ps z).2:=by
  intro um
  induction um with
  |nil=>
   intro _;have e:(T.filter λy=>decide<|y∉([]:Ac))=T:=vi.mpr λy _=>B
   rw[e];exact hT.2.2 _ _ he.1 he.2
  |cons o um ih=>
   intro hD;have c:=ih λy hy=>hD y (Yf _ hy)
   obtain⟨xi,yr⟩:=hD o Ya;by_cases ye:o∈um
   .refine c.mono (ZC λy hy=>?_);obtain⟨h1,h2⟩:=Yg.mp hy;have h2:=Yu h2
    exact Yg.mpr ⟨h1,Yn λh=>(Ye.mp h).elim (λe=>h2<|e▸ye) h2⟩
   .refine Yx λSY=>?_;have CU:∀y,y∈(T.filter λy=>decide<|y∉o::um)->y∈wo T o:=λy hy=>by
     obtain⟨h1,h2⟩:=Yg.mp hy;have h2:=Yu h2
     exact Xq.mpr ⟨h1,λe=>h2<|by rw[e];exact Ya⟩
    have c2:Conn (XT ps<|(T.filter λy=>decide<|y∉o::um)++[o]) (Zt ps z).1 (Zt ps z).2:=(KZ λy=>by
     rw[Xz,Yg,Yg,XF];simp only[JW,Ye,not_or];constructor
     .rintro⟨h1,h2⟩;by_cases e:y=o
      .exact .inr e
      .exact .inl ⟨h1,e,h2⟩
     .rintro(⟨h1,_,h2⟩|e)
      .exact⟨h1,h2⟩
      .rw[e];exact⟨xi,ye⟩).mp c
    have Wm:∀y∈(T.filter λy=>decide<|y∉o::um),0<=y/\y<(ps.length:Int):=λy hy=>hT.1.all y (Yg.mp hy).1;obtain⟨o0,o1⟩:=hT.1.all o xi;have Wc:InN n.toNat (XT ps<|T.filter λy=>decide<|y∉o::um):=ZO g Wm
    have pR:InN n.toNat (XT ps<|(T.filter λy=>decide<|y∉o::um)++[o]):=ZO g λy hy=>by
     rcases Xz.mp hy with h|h
     .exact Wm y h
     .rw[XF.mp h];exact⟨o0,o1⟩
    have Pm:=Ul (z:=o) g o0 o1;have hl:=ZG n.toNat (XT ps<|T.filter λy=>decide<|y∉o::um)
    have own:¬Conn (XT ps<|wo T o) (Zt ps o).1 (Zt ps o).2:=(ZU g hT o0 o1).mp ((Gf g hT xi xi).mpr Z);have cw:Conn (XT ps<|wo T o) (Zt ps z).1 (Zt ps z).2:=Yx λh=>yr ((ZU g hT z0 z1).mpr h)
    have up:∀{i j:Nat},i<n.toNat->j<n.toNat->mk (WQ n.toNat<|XT ps<|T.filter λy=>decide<|y∉o::um) i=mk (WQ n.toNat<|XT ps<|T.filter λy=>decide<|y∉o::um) j->Conn (XT ps<|wo T o) i j:=λhi hj e=>((ZY Wc hi hj).mp e).mono (ZC CU);have m:=(ZY pR he.1 he.2).mpr c2
    rw[KY,MM,DB J J]at m;rcases m with m|⟨m1,m2⟩
    .exact SY ((ZY Wc he.1 he.2).mp m)
    .rcases m1 with m1|m1<;>rcases m2 with m2|m2
     .exact SY ((ZY Wc he.1 he.2).mp (m1.trans m2.symm))
     .exact own (((up he.1 Pm.1 m1).symm.trans cw).trans (up he.2 Pm.2 m2))
     .exact own (((up he.2 Pm.1 m2).symm.trans cw.symm).trans (up he.1 Pm.2 m1))
     .exact SY ((ZY Wc he.1 he.2).mp (m1.trans m2.symm))
 have c:=key (T.filter λy=>decide<|z∉UY n ps T y) λo ho=>by obtain⟨h1,h2⟩:=Yg.mp ho;exact⟨h1,Yu h2⟩
 refine c.mono (ZC λy hy=>?_);obtain⟨h1,h2⟩:=Yg.mp hy;have h2:=Yu h2
 exact VD.mpr ⟨h1,Yx λh=>h2<|Yg.mpr ⟨h1,Yn h⟩⟩
theorem Ir{a b:Ac}(ha:a.Pairwise (·<·))(hb:b.Pairwise (·<·))(h:∀z,z∈a↔z∈b):a=b:=
 (CZ ha hb λz hz=>(h z).mp hz).eq_of_length (uY (CZ ha hb λz hz=>(h z).mp hz).length_le (CZ hb ha λz hz=>(h z).mpr hz).length_le)
theorem xh{i:Int}(h0:0<=i):Xi xs (some i) none=xs.drop i.toNat:=by
 have e:HT.Vu xs.length 0 (some i)=min i.toNat xs.length:=by show(if i<0 then (i+(xs.length:Int)).toNat else min i.toNat xs.length)=_;rw[if_neg J]
 unfold Xi;rw[e,HT.VS,YN (by rw[YV];exact XO _)];by_cases h:i.toNat<=xs.length
 .rw[Fm h]
 .rw[JG J,LH<|XO _,LH ur]
noncomputable def cutz{α:Type}(l:List α)(z:Int):List α:=l.take z.toNat++l.drop (z.toNat+1)
theorem pQ{z:Int}(h0:0<=z):Xi xs none (some z)++Xi xs (some (z+1)) none=cutz xs z:=by rw[cJ h0,xh J,show(z+1).toNat=z.toNat+1 by lia];rfl
theorem pP{α:Type}(l:List α)(z:Int):(cutz l z).length<=l.length:=by unfold cutz;rw[Xt,Yl,YV];grind
noncomputable def dn(lo hi i:Int):Int:=if i=hi then lo else if i<hi then i else i-1
theorem cD(i:Nat):Wg (i+1)=Wg i++[(i:Int)]:=by unfold Wg;rw[GH,YJ];rfl
end My
namespace L2
open PySem PySem.Spec PyProof.Rows
theorem WG{N a b:St->Hp->Prop}{r:VK}{σ:St}{H:Hp}(h:N σ H):Ends.nx {nx:=N,rt:=r,bk:=a,ct:=b} σ H:=h
end L2
namespace My
theorem CT{α:Type}{l:List α}(h:l.length=1):∃a,l=[a]:=by
 cases l with
 |nil=>cases h
 |cons a l=>cases l with
  |nil=>exact⟨a,Z⟩
  |cons b l=>simp at h
theorem CS{α:Type}{l:List α}(h:l.length=2):∃a b,l=[a,b]:=by
 cases l with
 |nil=>cases h
 |cons a l=>
  obtain⟨b,rfl⟩:=CT (Nv h);exact⟨a,b,Z⟩
theorem CQ{α:Type}{l:List α}(h:l.length=3):∃a b c,l=[a,b,c]:=by
 cases l with
 |nil=>cases h
 |cons a l=>
  obtain⟨b,c,rfl⟩:=CS (Nv h);exact⟨a,b,c,Z⟩
theorem CO{α:Type}{l:List α}(h:l.length=4):∃a b c d,l=[a,b,c,d]:=by
 cases l with
 |nil=>cases h
 |cons a l=>
  obtain⟨b,c,d,rfl⟩:=CQ (Nv h);exact⟨a,b,c,d,Z⟩
end My
namespace My
open PySem L2
theorem ZJ{l:Ac}{f:Int->Bool}{y:Int}(h:l[i]?=some y):(l.take (i+1)).filter f=(l.take i).filter f++(if f y=true then [y] else []):=by
 rw[YL,h,Ql];congr 1;by_cases e:f y=true
 .rw[if_pos e];show List.filter _ [y]=_;rw[YO,if_pos e];rfl
 .rw[if_neg e];show List.filter _ [y]=_;rw[YO,if_neg e];rfl
theorem Conn.lift(h:∀e∈es,Conn fs e.1 e.2)(c:Conn es i j):Conn fs i j:=by
 induction c with
 |refl i=>exact .refl i
 |edge e=>exact h _ e
 |symm _ ih=>exact ih.symm
 |trans _ _ Pk SV=>exact Pk.trans SV
theorem pO(g:Zw n ps)(hT:Zh n ps T)(hW:Zh n ps W)(hz:z∈T)(hzW:z∉W):∃y,exg n ps T z y/\exg n ps W y z:=by
 obtain⟨z0,z1⟩:=hT.1.all z hz;refine Yx λSY=>?_;refine(ZU g hT z0 z1).mp ((Gf g hT hz hz).mpr Z) ((CV g hW z0 z1).lift λe he=>?_);unfold XT at he;obtain⟨y,hy,rfl⟩:=YA.mp he;obtain⟨pN,hyc⟩:=VD.mp hy;obtain⟨y0,y1⟩:=hW.1.all y pN;have cC:y≠z:=λe=>hzW (e▸pN)
 have:=(ZU (o:=z) g hT y0 y1)
 exact Yx λh=>SY ⟨y,⟨hz,cC,this.mpr h⟩,⟨pN,XI cC,hyc⟩⟩
theorem pM(l:Ac):∃m:Ac,m.Perm l/\m.Pairwise (·<=·):=by
 induction l with
 |nil=>exact⟨[],.refl _,.nil⟩
 |cons x l ih=>
  obtain⟨m,h1,h2⟩:=ih;have key:∀m:Ac,m.Pairwise (·<=·)->∃k:Ac,k.Perm (x::m)/\k.Pairwise (·<=·):=by
   intro m
   induction m with
   |nil=>intro _;exact⟨[x],.refl _,GO _ _⟩
   |cons y m SV=>
    intro hp;obtain⟨hy,hm⟩:=YQ.mp hp;by_cases MF:x<=y
    .refine⟨x::y::m,.refl _,YQ.mpr ⟨λz hz=>?_,hp⟩⟩;rcases Ye.mp hz with e|e
     .rw[e];exact MF
     .exact RA MF (hy z e)
    .obtain⟨k,k1,k2⟩:=SV hm;refine⟨y::k,(k1.cons y).trans (List.Perm.swap x y m),YQ.mpr ⟨λz hz=>?_,k2⟩⟩;rcases Ye.mp (k1.mem_iff.mp hz) with e|e
     .rw[e];lia
     .exact hy z e
  obtain⟨k,k1,k2⟩:=key m h2;exact⟨k,k1.trans<|h1.cons x,k2⟩
theorem pL(s:SameP M N):cnt M=cnt N:=by
 unfold cnt Vt;rw[<-s.1];refine XB List.length (LC λp hp=>?_);have hp:=YI.mp hp
 rw[QH,XD,XD];constructor
 .intro h i hi e;exact h i hi ((s.2 i p J hp).mpr e)
 .intro h i hi e;exact h i hi ((s.2 i p J hp).mp e)
theorem cB(g:Zw n ps)(hU:Zh n ps U):∀V:Ac,V.Nodup->(∀z∈V,z∈U)->WR n.toNat ps V=V:=by
 refine MI (λ_ _=>rfl) λV z ih hn hs=>?_;have Rx:=YR.mp hn
 have hV:∀y∈V,y∈U:=λy hy=>hs y (Yd _ hy);have hz:z∈U:=hs z (Yi _<|XF.mpr Z)
 have hzV:z∉V:=λh=>Rx.2.2 z h z (XF.mpr Z) rfl;obtain⟨z0,z1⟩:=hU.1.all z hz;have he:=Ul (z:=z) g z0 z1
 rw[ME,ih Rx.1 hV];unfold Rh;rw[if_neg];intro e;have c:=(ZY (ZO g λy hy=>hU.1.all y<|hV y hy) he.1 he.2).mp e
 exact(ZU g hU z0 z1).mp ((Gf g hU hz hz).mpr Z) (c.mono<|ZC λy hy=>Xq.mpr ⟨hV y hy,λe'=>hzV<|by rwa[<-e']⟩)
theorem pK{as bs:Ac}(g:Zw n ps)(h:∀y∈as,0<=y/\y<(ps.length:Int))(z0:0<=z)(z1:z<(ps.length:Int))(hz:z∉WR n.toNat ps (as++z::bs)):Conn (XT ps (WR n.toNat ps as)) (Zt ps z).1 (Zt ps z).2:=by
 obtain⟨us,e,_⟩:=xm n.toNat ps (as++[z]) bs;rw[QJ]at e;have e:WR n.toNat ps (as++z::bs)=WR n.toNat ps (as++[z])++us:=e
 rw[e,ME]at hz;have he:=Ul (z:=z) g z0 z1
 refine(ZY (FZ g h) he.1 he.2).mp (Yx λXJ=>hz ?_);unfold Rh;rw[if_neg XJ];exact Yd _ (Yi _<|XF.mpr Z)
theorem pJ{as bs:Ac}{y:Int}(h:y∈WR n ps as):y∈WR n ps (as++bs):=by obtain⟨us,e,_⟩:=xm n ps as bs;rw[e];exact Yd _ h
theorem cz{α:Type}(p:α->Bool)(l:List α):(l.filter p).length+(l.filter λx=>!p x).length=l.length:=by
 induction l with
 |nil=>rfl
 |cons x l ih=>
  rw[YO,YO];cases p x with
  |true=>simp only[Oh,Bool.not_true,Fu,JI,Yq];lia
  |false=>simp only[Bool.not_false,Oh,Fu,JI,Yq];lia
noncomputable def Fr(n:Nat)(ps:Aa)(l:Ac):Bool:=decide (WR n ps l=l)
noncomputable def Wd(n:Nat)(ps:Aa)(k:Nat):Ab:=(Pl (ps.length:Int) k).filter (Fr n ps)
theorem pI(g:Zw n ps):l∈Wd n.toNat ps (n-1).toNat↔Zh n ps l:=by
 unfold Wd;rw[Yg,VQ];have g1:=g.1
 constructor
 .rintro⟨⟨h1,h2⟩,h3⟩;have e:WR n.toNat ps l=l:=Yu h3
  have c:=xj g l h2.all;rw[e]at c;exact⟨h2,J,(UZ uu<|ZO g h2.all).mp uu⟩
 .intro h;exact⟨⟨by have:=h.2.1;lia,h.1⟩,Yn<|cB g h l h.1.nodup λz hz=>hz⟩
theorem xg(hT:Zh n ps T):T.Pairwise (·<·):=(XX.mp hT.1).2
theorem UX{a:Ac}(h:a.Pairwise (·<=·))(hn:a.Nodup):a.Pairwise (·<·):=(h.and hn).imp λh=>by have:=h.1;have:=h.2;lia
theorem ZU8(g:Zw n ps):∀zs:Ac,(∀z∈zs,0<=z/\z<(ps.length:Int))->(WR n.toNat ps zs).Nodup:=by
 refine MI (λ_=>List.Pairwise.nil) λzs z ih hb=>?_;have PB:∀y∈zs,0<=y/\y<(ps.length:Int):=λy hy=>hb y (Yd _ hy)
 obtain⟨z0,z1⟩:=hb z (Yi _<|XF.mpr Z);have he:=Ul (z:=z) g z0 z1
 rw[ME];unfold Rh;split
 .exact ih PB
 .next XJ=>
  refine YR.mpr ⟨ih PB,B,λa ha b pH e=>?_⟩;rw[XF.mp pH]at e;subst e;refine XJ ((ZY (FZ g PB) he.1 he.2).mpr (.edge ?_));exact YA.mpr ⟨a,ha,Z⟩
theorem Zd6(g:Zw n ps)(hb:∀z∈zs,0<=z/\z<(ps.length:Int))(hl:¬((WR n.toNat ps zs).length:Int)<n-1)(Vs:ms.Perm (WR n.toNat ps zs))(Sw:ms.Pairwise (·<=·)):Zh n ps ms:=by
 have g1:=g.1;have h2:=xj g zs hb
 have h3:=xw (M:=WQ n.toNat<|XT ps<|WR n.toNat ps zs) (by rw[ZG];grind);have Pj:=(UZ uu<|FZ g hb).mp uu
 refine⟨XX.mpr ⟨λz hz=>hb z<|(xk _ _ _).subset (Vs.mem_iff.mp hz),UX Sw<|Vs.nodup_iff.mpr<|ZU8 g zs hb⟩,by rw[Vs.length_eq];grind,λi j hi hj=>?_⟩;exact(KZ λy=>Vs.mem_iff).mpr (Pj i j hi hj)
theorem pG{I os U:Ac}(g:Zw n ps)(hU:Zh n ps U)(hI:I.Nodup)(pF:∀z∈I,z∈U)(pE:∀z∈U,z∈I++os)(hb:∀z∈I++os,0<=z/\z<(ps.length:Int)):(WR n.toNat ps (I++os)).take I.length=I/\¬((WR n.toNat ps (I++os)).length:Int)<n-1:=by
 have g1:=g.1;obtain⟨us,e,_⟩:=xm n.toNat ps I os;rw[cB g hU I hI pF]at e;refine⟨by rw[e,List.take_left],?_⟩;have Pj:∀i j,i<n.toNat->j<n.toNat->Conn (XT ps<|WR n.toNat ps<|I++os) i j:=λi j hi hj=>pT g _ hb ((hU.2.2 i j hi hj).mono (ZC pE))
 have h1:=(UZ J<|FZ g hb).mpr Pj;have h2:=xj g (I++os) hb
 grind
theorem xf{p r:Ac}{x:Int}(h:(p++x::r).Pairwise (·<·)):(∀z∈p,z<x)/\∀z∈x::r,x<=z:=by
 have a:=Oq.mp h;refine⟨λz hz=>a.2.2 z hz x Ya,λz hz=>?_⟩;rcases Ye.mp hz with h|h
 .rw[h];exact Np _
 .exact JO ((YQ.mp a.2.1).1 z h)
theorem Zn7{I os U F:Ac}(g:Zw n ps)(hU:Zh n ps U)(pF:∀z∈I,z∈U)(pE:∀z∈U,z∈I++os)(hb:∀z∈I++os,0<=z/\z<(ps.length:Int))(ho:os.Pairwise (·<·))(hF:Zh n ps F)(hf:F.Perm (WR n.toNat ps (I++os)))(hIF:∀z∈I,z∈F):HT.lexLt U F=false:=by
 cases NO:HT.lexLt U F with
 |false=>rfl
 |true=>
  exfalso;obtain⟨p,x,y,r,s,eU,ef,MF⟩:=p7 (by have:=hF.2.1;have:=hU.2.1;lia) NO
  have Iq:x∈U:=by rw[eU];exact Yi _ Ya
  obtain⟨x0,x1⟩:=hU.1.all x Iq;have aU:=xf (eU▸xg hU)
  have aF:=xf (ef▸xg hF);have pD:x∉F:=λh=>by
   rw[ef]at h;rcases Xz.mp h with h|h
   .have:=aU.1 x h
    lia
   .have:=aF.2 x h
    lia
  have hxI:x∉I:=λh=>pD (hIF x h);have hxo:x∈os:=(Xz.mp<|pE x Iq).resolve_left hxI
  obtain⟨as,bs,eo⟩:=List.append_of_mem hxo;have ao:=xf (eo▸ho)
  have PB:∀z∈I++as,0<=z/\z<(ps.length:Int):=λz hz=>hb z ((Xz.mp hz).elim (λh=>Yd _ h) λh=>Yi _<|by rw[eo];exact Yd _ h);have hxG:x∉WR n.toNat ps ((I++as)++x::bs):=by rw[QJ,<-eo];exact λh=>pD (hf.mem_iff.mpr h)
  have c:=pK g PB x0 x1 hxG;refine(ZU g hU x0 x1).mp ((Gf g hU Iq Iq).mpr Z) (c.mono<|ZC λz hz=>?_);have FY:z∈F:=hf.mem_iff.mpr (by
   have:=pJ (bs:=x::bs) hz
   rwa[QJ,<-eo]at this)
  have hzx:z≠x:=λe=>pD (e▸FY);refine Xq.mpr ⟨?_,hzx⟩;rcases Xz.mp ((xk _ _ _).subset hz) with h|h
  .exact pF z h
  .have h1:=ao.1 z h;rw[ef]at FY;rcases Xz.mp FY with h|h
   .rw[eU];exact Yd _ h
   .have:=aF.2 z h
    lia
noncomputable def With(n:Int)(ps:Aa)(I O U:Ac):Prop:=Zh n ps U/\(∀z∈I,z∈U)/\∀z∈O,z∉U
theorem With.sub{I O U os:Ac}(h:With n ps I O U)(ho:∀z,z∈os↔(0<=z/\z<(ps.length:Int))/\z∉O):∀z∈U,z∈I++os:=λz hz=>Yi _ ((ho z).mpr ⟨h.1.1.all z hz,λh2=>h.2.2 z h2 hz⟩)
noncomputable def CN(H:Hp)(v:V)(o:Option Ac):Prop:=match o with|none=>v=.non|some l=>WA H v l
noncomputable def TC(n:Int)(ps:Aa)(c:Nat):Prop:=∃L:Ab,L.Nodup/\(∀l,l∈L↔Zh n ps l)/\L.length=c
theorem TC.uniq(h1:TC n ps c)(h2:TC n ps d):c=d:=by obtain⟨L,a1,a2,rfl⟩:=h1;obtain⟨M,b1,b2,rfl⟩:=h2;exact((LI a1 b1).mpr λl=>by rw[a2,b2]).length_eq
theorem Ph:IsSet (m+1) (T++[(m:Int)])↔IsSet m T:=by
 constructor
 .intro h;have a:=XX.mp h
  have b:=Oq.mp a.2;refine XX.mpr ⟨λz hz=>?_,b.1⟩;have c:=a.1 z (Yd _ hz)
  have d:=b.2.2 z hz m (XF.mpr Z);omega
 .exact λh=>h.snoc
theorem cy(h:IsSet (m+1) T):IsSet m T\/∃T',T=T'++[(m:Int)]/\IsSet m T':=by
 have a:=XX.mp h;by_cases hm:(m:Int)∈T
 .obtain⟨p,r,e⟩:=List.append_of_mem hm;have b:=xf (e▸a.2)
  cases r with
  |nil=>exact .inr ⟨p,e,Ph.mp<|e▸h⟩
  |cons y r=>
   have h1:=a.1 y (by rw[e];simp);have h2:=(YQ.mp (Oq.mp<|e▸a.2).2.1).1 y Ya
   omega
 .refine .inl (XX.mpr ⟨λz hz=>?_,a.2⟩);have h1:=a.1 z hz
  have h2:z≠(m:Int):=λe=>hm (e▸hz);lia
theorem cx{es:List (Nat×Nat)}{a b i j:Nat}(c:Conn (es++[(a,b)]) i j):Conn (es++[(b,a)]) i j:=c.lift λe he=>by
 rcases Xz.mp he with q|q
 .exact .edge (Yd _ q)
 .rw[XF.mp q];exact .symm (.edge B)
end My
namespace L2
open PySem PySem.Spec PyProof.Rows
noncomputable def FX(K:Ad)(a b:Addr):It:=
 ⟨λi H=>∃xs ys x y,SqL K H a xs/\SqL K H b ys/\xs[i]?=some x/\ys[i]?=some y,λi H v H'=>∃T x y,H T=none/\v=.ref T/\H'=upd H T (.tup [x,y])/\(∀xs,SqL K H a xs->xs[i]?=some x)/\∀ys,SqL K H b ys->ys[i]?=some y,
  λi H=>∃xs ys,SqL K H a xs/\SqL K H b ys/\(xs.length<=i\/ys.length<=i)⟩
theorem pC{P:Program}{w:World}{K:Ad}{elts:List Expr}{x1:Nat}{pos:Pos}(a b z TI TO i1 i2:Addr)(um:ZipApart z TI TO i1 i2 a b):
  Turn P w K (.Tuple elts x1 pos) (FX K a b) [z,TI,TO,i1,i2] z (λi h=>IsZip h z TI TO .none/\IsPair h TI (.ref i1) (.ref i2)/\(∃c d,IsPair h TO c d)/\h.IsListIter i1 a i/\h.IsListIter i2 b i) where
 mem:=B
 obj:=λi h st c hc=>by
  obtain⟨hz,Pg,⟨u,v,NM⟩,⟨o1,e1,_,d1⟩,⟨o2,e2,_,d2⟩⟩:=st;have WI:c=z\/c=TI\/c=TO\/c=i1\/c=i2:=by simpa using hc
  rcases WI with rfl|rfl|rfl|rfl|rfl
  .exact⟨_,hz,λv q=>by have q':Data.fields _=Data.cell v:=q;cases q'⟩
  .exact⟨_,Pg,λv q=>by have q':Data.seq _ _=Data.cell v:=q;cases q'⟩
  .exact⟨_,NM,λv q=>by have q':Data.seq _ _=Data.cell v:=q;cases q'⟩
  .exact⟨o1,e1,λv q=>by rw[d1]at q;cases q⟩
  .exact⟨o2,e2,λv q=>by rw[d2]at q;cases q⟩
 keep:=λi h h' st k=>by obtain⟨hz,Pg,⟨u,v,NM⟩,h1,h2⟩:=st;exact⟨k z B _ hz,k TI B _ Pg,⟨u,v,k TO B _ NM⟩,h1.at λo e=>k i1 B o e,h2.at λo e=>k i2 B o e⟩
 item:=by
  intro X hP hw hK hc i pins s σ H E I hf st hg;subst hP hw hK;obtain⟨xs,ys,x,y,hq,KU,hx,hy⟩:=hg;obtain⟨hz,Pg,⟨u0,v0,NM⟩,h1,h2⟩:=st;obtain⟨XW,rv,p,_⟩:=I.list hq;obtain⟨u,hu,ru⟩:=rv.get hx;obtain⟨VF,xc,p2,_⟩:=I.list KU;obtain⟨v,hv,pB⟩:=xc.get hy;have fz:=hf z B
  have Rg:=hf TO B;have Rf:=hf i1 B
  have Rc:=hf i2 B;have rf:H s.heap.objs.size=none:=I.hok.fresh (XO _)
  refine wpAny_pyNext_zip_item um hz Pg NM h1 h2 p.isList p2.isList (x:=u) (y:=v) (by simpa using hu) (by simpa using hv) λh' a1 a2 a3 a4 a5 hsz hk=>?_;have NX:∀b ob,s.heap.get? b=some ob->b≠s.heap.objs.size:=λb ob z=>Yy (Yp z)
  have Pz:∀b ob,H b=some ob->b≠s.heap.objs.size:=λb ob z=>Yy (I.hok.lt z);have NW:∀c ob,H c=some ob->c≠z/\c≠TO/\c≠i1/\c≠i2:=λc ob q=>⟨λe=>(by rw[e,fz.1]at q;cases q),λe=>(by rw[e,Rg.1]at q;cases q),λe=>(by rw[e,Rf.1]at q;cases q),λe=>(by rw[e,Rc.1]at q;cases q)⟩
  have KS:∀c o,c∉[z,TO,i1,i2]->s.heap.get? c=some o->h'.get? c=some o:=λc o Wj q=>hk c o (λe=>Wj<|by simp[e]) (λe=>Wj<|by simp[e]) (λe=>Wj<|by simp[e]) (λe=>Wj<|by simp[e]) q;have I1:Inv X pins σ (upd H s.heap.objs.size<|.tup [x,y]) {s with heap:=h'}:=by
   refine I.step (g':=s.gens) (d':=s.drawn) (t':=s.toks) (ch:=[z,TO,i1,i2]) (λc hb=>?_) (λc o _ _ Wj q _=>KS c o Wj q) (λc o _ _ Wj q _=>⟨o.slots,KS c o Wj q⟩)
    (λc o _ q n=>by rwa[Zc (NX c o q)]) (λc o Wj q=>⟨o,KS c o Wj q⟩) (λc ys q=>by rwa[Zc (Pz c _ q)]) (λc o v q=>by rwa[Zc (Pz c _ q)])
    (λc ps q=>⟨#[],by rw[Zc (Pz c _ q),q];simp⟩) (λm hm=>?_) (λc v' q=>?_) I.bare
   .have WI:c=z\/c=TO\/c=i1\/c=i2:=by simpa using hb
    rcases WI with rfl|rfl|rfl|rfl
    .exact⟨fz.2.2.2.1,fz.2.1,fz.2.2.2.2.1,fz.2.2.2.2.2⟩
    .exact⟨Rg.2.2.2.1,Rg.2.1,Rg.2.2.2.2.1,Rg.2.2.2.2.2⟩
    .exact⟨Rf.2.2.2.1,Rf.2.1,Rf.2.2.2.2.1,Rf.2.2.2.2.2⟩
    .exact⟨Rc.2.2.2.1,Rc.2.1,Rc.2.2.2.2.1,Rc.2.2.2.2.2⟩
   .obtain⟨o,es,ep,Wu,r⟩:=hm;exact⟨o,es,ep,hk _ o (XI fz.2.1) (XI Rg.2.1) (XI Rf.2.1) (XI Rc.2.1) Wu,r⟩
   .by_cases hb:c=s.heap.objs.size
    .subst hb;rw[XS]at q;cases q;exact⟨by show 2<=sizeLine;decide,[u,v],.cons ru<|.cons pB .nil,⟨_,a5,Z,_,Z⟩⟩
    .rw[Zc hb]at q;refine(I.hok c v' q).stay (λe w' WI q'=>?_) (λe q=>by rwa[Zc (Pz e _ q)]) λe ys q=>by rwa[Zc (Pz e _ q)]
     rcases WI with rfl|WI
     .have:=NW e _ q
      exact hk e w' this.1 this.2.1 this.2.2.1 this.2.2.2 q'
     .have:=NW e _ WI
      exact hk e w' this.1 this.2.1 this.2.2.1 this.2.2.2 q'
  refine⟨_,Z,wpAny_letOwnedTupleGo_zip a1 λh2 pV Td=>?_⟩;have fT:z≠s.heap.objs.size:=NX z _ hz
  have I2:Inv X pins σ (upd H s.heap.objs.size<|.tup [x,y]) {s with heap:=h2}:=Inv.turned (s:={s with heap:=h'}) (h':=h2) (t':=s.toks) (it:=z) I1 (λb o hb q=>Td.extBut b o hb q) (by rw[Zc fT];exact fz.1) fz.2.1 fz.2.2.2.1 fz.2.2.2.2.1 fz.2.2.2.2.2;refine⟨.ref s.heap.objs.size,_,I2,Z,⟨_,x,y,rf,Z,Z,λys Jc=>by rw[I.list_inj Jc hq];exact hx,λys Jc=>by rwa[I.list_inj Jc KU]⟩,
   ⟨pV,Td.extBut _ _ um.TIz (KS _ _ (by have:=um.TIz;have:=um.TITO;have:=um.TIi1;have:=um.TIi2;simp;exact⟨um.TIz,um.TITO,um.TIi1,um.TIi2⟩) Pg),⟨u,v,Td.extBut _ _ um.TOz a2⟩,a3.at λo q=>Td.extBut i1 o um.i1z q,a4.at λo q=>Td.extBut i2 o um.i2z q⟩,λc hc=>?_⟩
  have WI:c=z\/c=TI\/c=TO\/c=i1\/c=i2:=by simpa using hc
  have hn:=(hf c hc).1;rcases WI with rfl|rfl|rfl|rfl|rfl
  .rw[Zc fT];exact hn
  .rw[Zc (NX _ _ Pg)];exact hn
  .rw[Zc (NX _ _ NM)];exact hn
  .obtain⟨o,eo,_⟩:=h1;rwa[Zc (NX _ o eo)]
  .obtain⟨o,eo,_⟩:=h2;rwa[Zc (NX _ o eo)]
 done:=by
  intro X hP hw hK hc i pins s σ H E I hf st hg;subst hP hw hK;obtain⟨xs,ys,hq,KU,pz⟩:=hg;obtain⟨hz,Pg,⟨u0,v0,NM⟩,h1,h2⟩:=st;obtain⟨XW,rv,p,_⟩:=I.list hq;obtain⟨VF,xc,p2,_⟩:=I.list KU;have l1:=rv.length
  have l2:=xc.length;have fz:=hf z B
  have Rg:=hf TO B;have Rf:=hf i1 B
  have Rc:=hf i2 B;refine wpAny_pyNext_zip_end (I.ok.hd hc) um hz Pg NM h1 h2 p.isList p2.isList (by
   rcases pz with e|e
   .exact .inl (by simp;lia)
   .exact .inr<|by simp;lia) λh' hk=>⟨Z,?_⟩
  have KS:∀c o,c∉[z,TO,i1,i2]->s.heap.get? c=some o->h'.get? c=some o:=λc o Wj q=>hk c o (λe=>Wj<|by simp[e]) (λe=>Wj<|by simp[e]) (λe=>Wj<|by simp[e]) (λe=>Wj<|by simp[e]) q;have NW:∀c ob,H c=some ob->c≠z/\c≠TO/\c≠i1/\c≠i2:=λc ob q=>⟨λe=>(by rw[e,fz.1]at q;cases q),λe=>(by rw[e,Rg.1]at q;cases q),λe=>(by rw[e,Rf.1]at q;cases q),λe=>(by rw[e,Rc.1]at q;cases q)⟩
  refine I.step (g':=s.gens) (d':=s.drawn) (t':=s.toks) (ch:=[z,TO,i1,i2]) (λc hb=>?_) (λc o _ _ Wj q _=>KS c o Wj q) (λc o _ _ Wj q _=>⟨o.slots,KS c o Wj q⟩)
   (λc o _ q n=>n) (λc o Wj q=>⟨o,KS c o Wj q⟩) (λc ys q=>q) (λc o v q=>q)
   (λc ps q=>⟨#[],by rw[q];simp⟩) (λm hm=>?_) (λc v' q=>?_) I.bare
  .have WI:c=z\/c=TO\/c=i1\/c=i2:=by simpa using hb
   rcases WI with rfl|rfl|rfl|rfl
   .exact⟨fz.2.2.2.1,fz.2.1,fz.2.2.2.2.1,fz.2.2.2.2.2⟩
   .exact⟨Rg.2.2.2.1,Rg.2.1,Rg.2.2.2.2.1,Rg.2.2.2.2.2⟩
   .exact⟨Rf.2.2.2.1,Rf.2.1,Rf.2.2.2.2.1,Rf.2.2.2.2.2⟩
   .exact⟨Rc.2.2.2.1,Rc.2.1,Rc.2.2.2.2.1,Rc.2.2.2.2.2⟩
  .obtain⟨o,es,ep,Wu,r⟩:=hm;exact⟨o,es,ep,hk _ o (XI fz.2.1) (XI Rg.2.1) (XI Rf.2.1) (XI Rc.2.1) Wu,r⟩
  .refine(I.hok c v' q).stay (λe w' WI q'=>?_) (λe q=>q) λe ys q=>q;rcases WI with rfl|WI
   .have:=NW e _ q
    exact hk e w' this.1 this.2.1 this.2.2.1 this.2.2.2 q'
   .have:=NW e _ WI
    exact hk e w' this.1 this.2.1 this.2.2.1 this.2.2.2 q'
 self:=λ_ _ _ _ _ st h=>wpAny_pyIter_zip st.1 h
noncomputable def pw(K:Ad)(ta:TA):TI:=λσ H R=>ta σ H λvs H1=>∃a b,vs=[.ref a,.ref b]/\(∃xs ys,SqL K H1 a xs/\SqL K H1 b ys)/\R (FX K a b) H1
section
variable{X:Cx}
theorem CM (K:Ad) {elts:List Expr} {x1:Nat} {SJ:Pos} {e f:Expr} {ta:TA} {p pos:Pos} (hg:Gl X "zip") (hm:X.mg "zip"=none) (ha:PA X [e,f] ta) (hs:starEach [e,f] X.env=(false,eval e X.env)::starEach [f] X.env:=by rfl) (Vn:(backTo pos<|starEach [f] X.env).any (·.1)=false:=by rfl) (hk:X.K=K:=by rfl):
  PI X (.Tuple elts x1 SJ) (.Call (.Name "zip" p) [e,f] [] pos) (pw K ta):=by
 subst hk;intro pins s σ H R I h;refine Call_ (QF I hg hm Boot.«zip»<|TR (thn (ha pos pins s σ H _ I h) λus s1 Xy=>?_) hs Vn);obtain⟨vs,H1,I1,r1,q1⟩:=Xy;obtain⟨a,b,ev,⟨xs,ys,hq,KU⟩,q⟩:=q1;subst ev;obtain⟨u,u',rfl,ru,ru'⟩:=Jm r1;obtain rfl:u=Value.ref a:=ru;obtain rfl:u'=Value.ref b:=ru';obtain⟨XW,rv,pl,_⟩:=I1.list hq;obtain⟨VF,xc,cu,_⟩:=I1.list KU;have lt1:a<s1.heap.objs.size:=by obtain⟨_,_,e,_⟩:=pl;exact Yp e
 have lt2:b<s1.heap.objs.size:=by obtain⟨_,_,e,_⟩:=cu;exact Yp e
 have um:ZipApart (s1.heap.objs.size+4) (s1.heap.objs.size+2) (s1.heap.objs.size+3) s1.heap.objs.size (s1.heap.objs.size+1) a b:=by
  have key:∀n x y:Nat,x<n->y<n->ZipApart (n+4) (n+2) (n+3) n (n+1) x y:=λn x y h1 h2=>by constructor<;>(intro q;have q':(_:Nat)=_:=q;lia)
  exact key _ _ _ lt1 lt2
 refine call_zip_2 pl.isList cu.isList λh' hz Pg NM pq Wb hsz hk=>?_;refine wpAny_pyIter_zip (s:={s1 with heap:=h'}) hz ?_;refine⟨s1.heap.objs.size+4,[s1.heap.objs.size+4,s1.heap.objs.size+2,s1.heap.objs.size+3,s1.heap.objs.size,s1.heap.objs.size+1],_,_,H1,Z,I1.kept (t':=s1.toks) hk,pC a b _ _ _ _ _ um,⟨hz,Pg,⟨_,_,NM⟩,pq,Wb⟩,λc hc=>?_,q⟩;have hle:s1.heap.objs.size<=c:=by
  have WI:c=s1.heap.objs.size+4\/c=s1.heap.objs.size+2\/c=s1.heap.objs.size+3\/c=s1.heap.objs.size\/c=s1.heap.objs.size+1:=by simpa using hc
  rcases WI with e|e|e|e|e<;>rw[e]<;>first|exact XO _|exact Nat.le_add_right _ _
 exact I1.fpOk hle (I1.hok.fresh hle)
end
end L2
namespace My
open PySem L2
section
variable{K:Ad}{a b:Addr}{xs ys:List V}{g:TG}{tt:TT}{te:TE}{o:Nat}{fr:List Nat}{σ:St}{H:Hp}{Q:VK}
theorem pj(Pv:Nat->List V->Hp->Prop)(h0:Pv 0 [] H)(MF:xs.length=ys.length)(hz:xs.length<sizeLine)(hl:∀i zs H,i<=xs.length->Pv i zs H->SqL K H a xs/\SqL K H b ys/\zs.length<=i)
  (hs:∀(i:Nat) x y zs H (p:Addr),H p=none->xs[i]?=some x->ys[i]?=some y->Pv i zs H->IV Pv g tt te o fr σ i (.ref p) zs (upd H p<|.tup [x,y]))(hd:∀zs H,Pv xs.length zs H->∀p,H p=none->Q (.ref p) (upd H p<|.lst zs)):MS (FX K a b) g tt te o fr σ H Q:=by
 refine⟨λi m zs H=>m=xs.length-i/\i<=xs.length/\Pv i zs H,⟨xs.length,B,Ym _,h0⟩,?_⟩;rintro i m zs H ⟨rfl,hi,p⟩;obtain⟨q,q2,hy⟩:=hl i zs H hi p;by_cases Xh:i<xs.length
 .refine .inr ⟨⟨xs,ys,xs[i],ys[i]'(by lia),q,q2,by simp[Xh],Xw ur⟩,J,λx H' ⟨T,u,v,hT,ex,eH,hu,hv⟩=>?_⟩;subst ex eH;exact hs i u v zs H T hT (hu xs q) (hv ys q2) p (λj zs H=>∃m',m'<xs.length-i/\m'=xs.length-j/\j<=xs.length/\Pv j zs H) λzs H p'=>⟨xs.length-(i+1),uu,Z,Xh,p'⟩
 .have e:i=xs.length:=J;subst e;exact .inl ⟨⟨xs,ys,q,q2,.inl<|XO _⟩,J,hd zs H p⟩
end
end My
namespace My
noncomputable abbrev Mx:=Nat->Nat->Int
noncomputable def sm:Nat->(Nat->Int)->Int
 |0,_=>0
 |n+1,f=>sm n f+f n
theorem ZE{f g:Nat->Int}:∀{n:Nat},(∀i,i<n->f i=g i)->sm n f=sm n g
 |0,_=>rfl
 |n+1,h=>by show sm n f+f n=sm n g+g n;rw[ZE λi hi=>h i J,h n J]
theorem Ip{f g:Nat->Int}:∀{n:Nat},sm n (λi=>f i+g i)=sm n f+sm n g
 |0=>rfl
 |n+1=>by show sm n (λi=>f i+g i)+(f n+g n)=sm n f+f n+(sm n g+g n);rw[Ip];lia
theorem Rb{c:Int}{f:Nat->Int}:∀{n:Nat},sm n (λi=>c*f i)=c*sm n f
 |0=>(Se c).symm
 |n+1=>by show sm n (λi=>c*f i)+c*f n=c*(sm n f+f n);rw[Rb,JN]
theorem Uj:∀{n:Nat},sm n (λ_=>0)=0
 |0=>rfl
 |n+1=>by show sm n (λ_=>0)+0=0;rw[Uj];rfl
theorem Io{f:Nat->Int}(h:∀i,i<n->f i=0):sm n f=0:=by rw[ZE h];exact Uj
theorem CL{f:Nat->Int}:∀{n:Nat},sm (n+1) f=f 0+sm n (λi=>f (i+1))
 |0=>by show 0+f 0=f 0+0;lia
 |n+1=>by show sm (n+1) f+f (n+1)=f 0+(sm n (λi=>f<|i+1)+f (n+1));rw[CL];lia
theorem ph{f:Nat->Nat->Int}:∀{n:Nat},sm n (λi=>sm m (f i))=sm m (λj=>sm n λi=>f i j)
 |0=>Uj.symm
 |n+1=>by show sm n (λi=>sm m<|f i)+sm m (f n)=sm m λj=>sm n (λi=>f i j)+f n j;rw[ph,Ip]
noncomputable def sk(j k:Nat):Nat:=if k<j then k else k+1
noncomputable def mn(A:Mx)(j:Nat):Mx:=λi k=>A (i+1) (sk j k)
noncomputable def sg(j:Nat):Int:=if j%2=0 then 1 else -1
theorem MC(j:Nat):sg (j+1)=- sg j:=by
 unfold sg;by_cases h:j%2=0
 .rw[if_pos h,if_neg ur]
 .rw[if_neg h,if_pos J];rfl
noncomputable def det:Nat->Mx->Int
 |0,_=>1
 |n+1,A=>sm (n+1) λj=>sg j*A 0 j*det n (mn A j)
theorem Pf{j k n:Nat}(h:k<n):sk j k<n+1:=by unfold sk;split<;>lia
theorem Zn:∀{n:Nat}{A uj:Mx},(∀i j,i<n->j<n->A i j=uj i j)->det n A=det n uj
 |0,_,_,_=>rfl
 |n+1,A,uj,h=>ZE λj hj=>by rw[h 0 j J hj,Zn (A:=mn A j) (uj:=mn uj j) λi k hi hk=>h (i+1) (sk j k) J (Pf hk)]
theorem Im:∀{n:Nat}{A uj C:Mx}{c:Int}{i:Nat},i<n->(∀r j,r<n->j<n->r≠i->A r j=uj r j/\A r j=C r j)->(∀j,j<n->A i j=c*uj i j+C i j)->det n A=c*det n uj+det n C
 |0,_,_,_,_,_,hi,_,_=>absurd hi (Wk _)
 |n+1,A,uj,C,c,i,hi,h1,h2=>by
  show sm (n+1) (λj=>sg j*A 0 j*det n (mn A j))=c*sm (n+1) (λj=>sg j*uj 0 j*det n (mn uj j))+sm (n+1) λj=>sg j*C 0 j*det n (mn C j);rw[<-Rb,<-Ip];refine ZE λj hj=>?_;cases i with
  |zero=>
   have e1:det n (mn uj j)=det n (mn A j):=Zn λr k hr hk=>(h1 (r+1) (sk j k) ur (Pf hk) J).1.symm;have e2:det n (mn C j)=det n (mn A j):=Zn λr k hr hk=>(h1 (r+1) (sk j k) J (Pf hk) J).2.symm
   rw[e1,e2,h2 j hj];generalize det n (mn A j)=d;generalize sg j=s;rw[JN,yA,<-Sg s c,Qi s c,Sg c s,Sg c]
  |succ i=>
   have e:=Im (n:=n) (A:=mn A j) (uj:=mn uj j) (C:=mn C j) (c:=c) (i:=i) J (λr k hr hk XJ=>h1 (r+1) (sk j k) J (Pf hk) J) λk hk=>h2 (sk j k) (Pf hk);have e0:=h1 0 j J hj J
   rw[e,<-e0.1,<-e0.2];generalize det n (mn uj j)=d;generalize det n (mn C j)=d';generalize sg j*A 0 j=s;rw[JN,<-Sg,<-Sg,Qi s c]
theorem pf(h:j<=k):mn (mn A j) k i l=mn (mn A (k+1)) j i l:=by
 show A (i+1+1) (sk j<|sk k l)=A (i+1+1) (sk (k+1)<|sk j l);refine XB _ ?_;unfold sk;by_cases h1:l<j
 .rw[if_pos (show l<k by lia),if_pos h1,if_pos (show l<k+1 by lia)]
 .rw[if_neg h1];by_cases h2:l<k
  .rw[if_pos h2,if_neg h1,if_pos (show l+1<k+1 by lia)]
  .rw[if_neg h2,if_neg (show ¬l+1<j by lia),if_neg (show ¬l+1<k+1 by lia)]
theorem pe:∀{n:Nat}{A:Mx}{i:Nat},i+1<n->(∀j,j<n->A i j=A (i+1) j)->det n A=0
 |0,_,_,hi,_=>absurd hi (Wk _)
 |n+1,A,i+1,hi,h=>Io λj hj=>by rw[pe (A:=mn A j) (i:=i) J λk hk=>h (sk j k)<|Pf hk,Se]
 |1,_,0,hi,_=>absurd hi ur
 |n+2,A,0,_,h=>by
  obtain⟨t,ht⟩:∃t:Nat->Nat->Int,t=λj k=>sg j*A 0 j*(sg k*A 1 (sk j k)*det n (mn (mn A j) k)):=⟨_,Z⟩;have e1:det (n+2) A=sm (n+2) λj=>sm (n+1) (t j):=ZE λj hj=>by rw[ht,Rb];rfl
  have e2:∀j k,j<=k->k<n+1->t (k+1) j=- t j k:=λj k hjk hk=>by
   rw[ht];show sg (k+1)*A 0 (k+1)*(sg j*A 1 (sk (k+1) j)*det n (mn (mn A<|k+1) j))=- (sg j*A 0 j*(sg k*A 1 (sk j k)*det n (mn (mn A j) k)))
   have f1:sk (k+1) j=j:=by unfold sk;rw[if_pos J]
   have f2:sk j k=k+1:=by unfold sk;rw[if_neg J]
   have f3:det n (mn (mn A<|k+1) j)=det n (mn (mn A j) k):=Zn λi l _ _=>(pf hjk).symm;rw[f1,f2,f3,MC,<-h j J,<-h (k+1) J];generalize det n (mn (mn A j) k)=d;generalize A 0 j=x;generalize A 0 (k+1)=y;generalize sg j=s;generalize sg k=u;simp only[yB,Int.neg_inj];simp only[Qi,Nl,Sg]
  have e3:sm (n+2) (λj=>sm (n+1)<|t j)=sm (n+2) (λj=>sm (n+1) λk=>if k<j then t j k else 0)+sm (n+2) (λj=>sm (n+1) λk=>if k<j then 0 else t j k):=by rw[<-Ip];refine ZE λj _=>?_;rw[<-Ip];refine ZE λk _=>?_;split<;>lia
  have e4:sm (n+2) (λj=>sm (n+1) λk=>if k<j then t j k else 0)=sm (n+1) (λk=>sm (n+1) λj=>if k<=j then t (j+1) k else 0):=by
   rw[ph];refine ZE λk _=>?_;rw[CL,if_neg J,JQ];refine ZE λj _=>?_;by_cases c:k<=j
   .rw[if_pos c,if_pos ur]
   .rw[if_neg c,if_neg J]
  have e5:sm (n+2) (λj=>sm (n+1) λk=>if k<j then 0 else t j k)=sm (n+1) (λj=>sm (n+1) λk=>if j<=k then t j k else 0):=by
   show sm (n+1) (λj=>sm (n+1) λk=>if k<j then 0 else t j k)+sm (n+1) (λk=>if k<n+1 then 0 else t (n+1) k)=_;rw[Io (f:=λk=>if k<n+1 then 0 else t (n+1) k) λk hk=>if_pos hk,RD];refine ZE λj _=>ZE λk _=>?_;by_cases c:j<=k
   .rw[if_pos c,if_neg J]
   .rw[if_neg c,if_pos J]
  rw[e1,e3,e4,e5,<-Ip];refine Io λj hj=>?_;rw[<-Ip];refine Io λk hk=>?_;by_cases c:j<=k
  .rw[if_pos c,if_pos c,e2 j k c hk];lia
  .rw[if_neg c,if_neg c];rfl
noncomputable def put2(A:Mx)(i:Nat)(x y:Nat->Int):Mx:=λr=>if r=i then x else if r=i+1 then y else A r
theorem pd{x x' y:Nat->Int}(hi:i+1<n):det n (put2 A i (λj=>x j+x' j) y)=det n (put2 A i x y)+det n (put2 A i x' y):=by
 have:=Im (n:=n) (A:=put2 A i (λj=>x j+x' j) y) (uj:=put2 A i x y) (C:=put2 A i x' y) (c:=1) (i:=i) J (λr j _ _ XJ=>by unfold put2;rw[if_neg XJ,if_neg XJ,if_neg XJ];exact⟨Z,Z⟩) (λj _=>by unfold put2;rw[if_pos Z,if_pos Z,if_pos Z,SO])
 rw[this,SO]
theorem cq{x y y':Nat->Int}(hi:i+1<n):det n (put2 A i x λj=>y j+y' j)=det n (put2 A i x y)+det n (put2 A i x y'):=by
 have ne:¬i+1=i:=J
 have:=Im (n:=n) (A:=put2 A i x λj=>y j+y' j) (uj:=put2 A i x y) (C:=put2 A i x y') (c:=1) (i:=i+1) J (λr j _ _ XJ=>by unfold put2;rw[if_neg XJ,if_neg XJ,if_neg XJ];exact⟨Z,Z⟩) (λj _=>by unfold put2;rw[if_neg ne,if_neg ne,if_neg ne,if_pos Z,if_pos Z,if_pos Z,SO])
 rw[this,SO]
theorem o9{x:Nat->Int}(hi:i+1<n):det n (put2 A i x x)=0:=pe hi λj _=>by unfold put2;rw[if_pos Z,if_neg J,if_pos Z]
theorem o8{x y:Nat->Int}(hi:i+1<n):det n (put2 A i y x)=- det n (put2 A i x y):=by have h:=o9 (A:=A) (x:=λj=>x j+y j) hi;rw[pd hi,cq hi,cq hi,o9 hi,o9 hi]at h;lia
theorem o7:put2 A i (A i) (A (i+1))=A:=by
 funext r
 unfold put2;by_cases h:r=i
 .rw[if_pos h,h]
 .rw[if_neg h];by_cases h2:r=i+1
  .rw[if_pos h2,h2]
  .rw[if_neg h2]
theorem cn(hi:i+1<n):det n (put2 A i (A (i+1)) (A i))=- det n A:=by
 have:=o8 (A:=A) (x:=A i) (y:=A<|i+1) hi
 rwa[o7]at this
theorem xb:∀{d:Nat}{A:Mx},a+d+1<n->(∀j,j<n->A a j=A (a+d+1) j)->det n A=0
 |0,A,hn,h=>pe hn h
 |d+1,A,hn,h=>by
  have e:=cn (n:=n) (A:=A) (i:=a+d+1) J;have z:det n (put2 A (a+d+1) (A<|a+d+1+1)<|A<|a+d+1)=0:=by refine xb (a:=a) (d:=d) J λj hj=>?_;unfold put2;rw[if_neg J,if_neg J,if_pos Z];exact h j hj
  lia
noncomputable def rotN(k t i:Nat):Nat:=if i<k then i else if i=k then k+t else if i<=k+t then i-1 else i
theorem Zk8(k i:Nat):rotN k 0 i=i:=by
 unfold rotN;by_cases h:i<k
 .rw[if_pos h]
 .rw[if_neg h];by_cases h2:i=k
  .rw[if_pos h2,h2];rfl
  .rw[if_neg h2,if_neg J]
theorem o6:∀{t:Nat}{A:Mx},k+t<n->det n (λi=>A (rotN k t i))=sg t*det n A
 |0,A,_=>by rw[show sg 0=1 from Z,SO];exact Zn λi j _ _=>by rw[Zk8]
 |t+1,A,h=>by
  have e:=o6 (n:=n) (k:=k) (t:=t) (A:=put2 A (k+t) (A<|k+t+1)<|A<|k+t) J;rw[cn J]at e;have f:det n (λi=>A<|rotN k (t+1) i)=det n (λi=>put2 A (k+t) (A<|k+t+1) (A<|k+t)<|rotN k t i):=Zn λi j _ _=>by
   refine congrFun ?_ j;have r1:rotN k (t+1) i=if i<k then i else if i=k then k+(t+1) else if i<=k+(t+1) then i-1 else i:=rfl
   have r2:rotN k t i=if i<k then i else if i=k then k+t else if i<=k+t then i-1 else i:=rfl
   unfold put2;by_cases h1:i<k
   .rw[if_pos h1]at r1 r2;rw[r1,r2,if_neg J,if_neg J]
   .rw[if_neg h1]at r1 r2;by_cases h2:i=k
    .rw[if_pos h2]at r1 r2;rw[r1,r2,if_pos Z];rfl
    .rw[if_neg h2]at r1 r2;by_cases h3:i<=k+t
     .rw[if_pos J]at r1;rw[if_pos h3]at r2;rw[r1,r2,if_neg J,if_neg J]
     .rw[if_neg h3]at r2;by_cases h4:i=k+t+1
      .rw[if_pos J]at r1;rw[r1,r2,if_neg uu,if_pos h4];exact XB A J
      .rw[if_neg J]at r1;rw[r1,r2,if_neg J,if_neg h4]
  rw[f,e,MC,Int.mul_neg,yB]
theorem o5:∀{n:Nat}{A:Mx},(∀i,i<n+1->A i 0=0)->det (n+1) A=0
 |0,A,h=>by show 0+sg 0*A 0 0*1=0;rw[h 0 ur,Se];rfl
 |n+1,A,h=>Io λj hj=>by
  cases j with
  |zero=>rw[h 0 J,Se,Ff]
  |succ j=>
   rw[o5 (A:=mn A<|j+1) λi hi=>?_,Se];show A (i+1) (sk (j+1) 0)=0
   rw[show sk (j+1) 0=0 from Z];exact h (i+1) J
theorem o4(h:∀i,i<n->A (i+1) 0=0):det (n+1) A=A 0 0*det n (λi j=>A (i+1) (j+1)):=by
 show sm (n+1) (λj=>sg j*A 0 j*det n (mn A j))=_;rw[CL,Io λj hj=>?_]
 .rw[RD,show sg 0=1 from Z,SO];refine XB (A 0 0 * ·) (Zn λi j _ _=>?_);rfl
 .cases n with
  |zero=>exact absurd hj (Wk _)
  |succ n=>
   rw[o5 (A:=mn A<|j+1) λi hi=>?_,Se];exact h i hi
theorem cm{i:Nat}(hi:i<n)(h:∀j,j<n->A i j=0):det n A=0:=by
 have:=Im (A:=A) (uj:=A) (C:=A) (c:=1) hi (λr j _ _ _=>⟨Z,Z⟩) (λj hj=>by rw[h j hj];rfl)
 grind
theorem cg{c:Int}:∀{n:Nat}{A:Mx},det n (λi j=>c*A i j)=c^n*det n A
 |0,_=>by show(1:Int)=c^0*1;rw[JP];rfl
 |n+1,A=>by
  show sm (n+1) (λj=>sg j*(c*A 0 j)*det n (mn (λi j=>c*A i j) j))=c^(n+1)*sm (n+1) λj=>sg j*A 0 j*det n (mn A j);rw[<-Rb];refine ZE λj _=>?_;have e:det n (mn (λi j=>c*A i j) j)=c^n*det n (mn A j):=cg (A:=mn A j)
  rw[e,Fe];generalize det n (mn A j)=d;generalize c^n=p;generalize sg j=s;generalize A 0 j=x;simp only[Qi,Nl,Sg]
noncomputable def offN(R:Mx):Mx:=λi j=>R 0 0*R (i+1) (j+1)-R (i+1) 0*R 0 (j+1)
noncomputable def WM(R:Mx)(k:Nat):Mx:=λr j=>if r=0 then R 0 j else if r<=k then R 0 0*R r j-R r 0*R 0 j else R r j
theorem cf{m:Nat}:∀{k:Nat},k<m+1->det (m+1) (WM R k)=R 0 0^k*det (m+1) R
 |0,_=>by
  rw[JP,SO];refine Zn λi j _ _=>?_;unfold WM;by_cases h:i=0
  .rw[if_pos h,h]
  .rw[if_neg h,if_neg J]
 |k+1,hk=>by
  have ih:=cf (m:=m) (R:=R) (k:=k) J;obtain⟨C,hC⟩:∃C:Mx,C=λr j=>if r=k+1 then-R (k+1) 0*R 0 j else WM R k r j:=⟨_,Z⟩
  obtain⟨uj,hB⟩:∃uj:Mx,uj=λr j=>if r=k+1 then R 0 j else WM R k r j:=⟨_,Z⟩
  obtain⟨t9,hZ⟩:∃t9:Mx,t9=λr j=>if r=k+1 then 0 else WM R k r j:=⟨_,Z⟩
  have hBz:det (m+1) uj=0:=xb (n:=m+1) (a:=0) (d:=k) J λj hj=>by
   rw[hB];show(if 0=k+1 then _ else WM R k 0 j)=if 0+k+1=k+1 then _ else _
   rw[if_neg J,if_pos J];rfl
  have hZz:det (m+1) t9=0:=cm (i:=k+1) hk λj hj=>by rw[hZ];exact if_pos rfl
  have hCz:det (m+1) C=0:=by
   have:=Im (A:=C) (uj:=uj) (C:=t9) (c:=- R (k+1) 0) hk (λr j _ _ XJ=>by
    rw[hC,hB,hZ];show(if r=k+1 then _ else WM R k r j)=(if r=k+1 then _ else WM R k r j)/\(if r=k+1 then _ else WM R k r j)=(if r=k+1 then _ else WM R k r j)
    rw[if_neg XJ,if_neg XJ,if_neg XJ];exact⟨Z,Z⟩) (λj _=>by
    rw[hC,hB,hZ];show(if k+1=k+1 then _ else _)=_*(if k+1=k+1 then _ else _)+(if k+1=k+1 then _ else _)
    rw[if_pos Z,if_pos Z,if_pos Z,RD])
   rw[this,hBz,hZz,Se];rfl
  have:=Im (A:=WM R<|k+1) (uj:=WM R k) (C:=C) (c:=R 0 0) hk (λr j _ _ XJ=>by
   have e1:WM R (k+1) r j=WM R k r j:=by
    unfold WM;by_cases h0:r=0
    .rw[if_pos h0,if_pos h0]
    .rw[if_neg h0,if_neg h0];by_cases h1:r<=k
     .rw[if_pos h1,if_pos J]
     .rw[if_neg h1,if_neg J]
   refine⟨e1,?_⟩;rw[hC,e1];show _=if r=k+1 then _ else _
   rw[if_neg XJ]) (λj _=>by
   have e1:WM R (k+1) (k+1) j=R 0 0*R (k+1) j-R (k+1) 0*R 0 j:=by unfold WM;rw[if_neg J,if_pos J]
   have e2:WM R k (k+1) j=R (k+1) j:=by unfold WM;rw[if_neg ur,if_neg J]
   rw[e1,e2,hC];show _=_+(if k+1=k+1 then-R (k+1) 0*R 0 j else _)
   rw[if_pos Z,yB]
   rfl)
  rw[this,hCz,ih,RD,Fe];rw[<-Sg,Qi (R 0 0)]
theorem o3:R 0 0*det m (offN R)=R 0 0^m*det (m+1) R:=by
 rw[<-cf (k:=m) J,o4 λi hi=>?_]
 .have e0:WM R m 0 0=R 0 0:=if_pos rfl;rw[e0];refine XB (R 0 0 * ·) (Zn λi j hi hj=>?_);unfold WM offN;rw[if_neg J,if_pos J]
 .unfold WM;rw[if_neg J,if_pos J,Qi];lia
noncomputable def ex(k:Nat)(r:Nat->Nat)(i:Nat):Nat:=if i<k then i else k+r (i-k)
noncomputable def RU(A:Mx)(k M:Nat)(R:Mx)(last:Int):Prop:=last≠0/\∀m r c,(∀i,i<m+1->r i<M/\c i<M)->
 det (m+1) (λi j=>R (r i)<|c j)=det (k+m+1) (λi j=>A (ex k r i)<|ex k c j)*last^m
theorem Zc9(A:Mx)(n:Nat):RU A 0 n A 1:=⟨S,λm r c _=>by rw[Int.one_pow,Nq,Lw];refine Zn λi j _ _=>?_;unfold ex;rw[if_neg (Wk _),if_neg<|Wk _,Lw,Lw,yC,yC]⟩
theorem Il{p:Int}(h:p≠0):∀n:Nat,p^n≠0
 |0=>by rw[JP];decide
 |n+1=>by rw[Fe];exact Int.mul_ne_zero (Il h n) h
noncomputable def Pe(r:Nat->Nat):Nat->Nat
 |0=>0
 |i+1=>r i+1
theorem CK(k:Nat)(r:Nat->Nat)(i:Nat):ex k (Pe r) i=ex (k+1) r i:=by
 unfold ex;by_cases h:i<k
 .rw[if_pos h,if_pos J]
 .rw[if_neg h];by_cases h2:i=k
  .rw[if_pos J,h2,Nu];rfl
  .rw[if_neg J];obtain⟨d,rfl⟩:∃d,i=k+d+1:=⟨i-k-1,uu⟩;rw[show k+d+1-k=d+1 by lia,show k+d+1-(k+1)=d by lia];show k+(r d+1)=k+1+r d
   lia
theorem KR{k M:Nat}(h:RU A k (M+1) R last)(hp:R 0 0≠0){m:Nat}{r c:Nat->Nat}(hb:∀i,i<m+1->r i<M/\c i<M):
  det (m+1) (λi j=>offN R (r i)<|c j)=R 0 0^m*(last^(m+1)*det (k+1+m+1) λi j=>A (ex (k+1) r i)<|ex (k+1) c j):=by
 have e1:=o3 (m:=m+1) (R:=λi j=>R (Pe r i)<|Pe c j);have e2:=h.2 (m+1) (Pe r) (Pe c) λi hi=>by
  cases i with
  |zero=>exact⟨Nat.succ_pos _,Nat.succ_pos _⟩
  |succ i=>have:=hb i J;exact⟨Nat.succ_lt_succ this.1,Nat.succ_lt_succ this.2⟩
 have e3:det (m+1) (offN λi j=>R (Pe r i)<|Pe c j)=det (m+1) (λi j=>offN R (r i)<|c j):=rfl;have e4:det (k+(m+1)+1) (λi j=>A (ex k (Pe r) i)<|ex k (Pe c) j)=det (k+1+m+1) (λi j=>A (ex (k+1) r i)<|ex (k+1) c j):=by rw[show k+(m+1)+1=k+1+m+1 by lia];exact Zn λi j _ _=>by rw[CK,CK]
 rw[e3]at e1;rw[e4]at e2;have e5:R (Pe r 0) (Pe c 0)=R 0 0:=rfl
 rw[e5,e2]at e1;generalize det (m+1) (λi j=>offN R (r i)<|c j)=x at *;generalize det (k+1+m+1) (λi j=>A (ex (k+1) r i)<|ex (k+1) c j)=y at *;rw[Fe]at e1;refine fo hp ?_;rw[e1,Qi y,Qi<|R 0 0^m,Sg]
theorem oZ(A:Mx):det 1 A=A 0 0:=by show 0+sg 0*A 0 0*1=A 0 0;rw[show sg 0=1 from Z];lia
theorem oY{k M:Nat}(h:RU A k (M+1) R last)(hp:R 0 0≠0)(hi:i<M)(hj:j<M):
  offN R i j=last*det (k+2) (λa b=>A (ex (k+1) (λ_=>i) a)<|ex (k+1) (λ_=>j) b):=by
 have:=KR h hp (m:=0) (r:=λ_=>i) (c:=λ_=>j) λ_ _=>⟨hi,hj⟩
 rwa[oZ,JP,SO,Fe,JP,SO]at this
theorem oX(h:RU A k (M+1) R last)(hp:R 0 0≠0)(hR:∀i j,i<M->j<M->R' i j=(offN R i j).fdiv last):RU A (k+1) M R' (R 0 0):=by
 refine⟨hp,λm r c hb=>?_⟩;have oW:∀i j,i<M->j<M->offN R i j=last*R' i j:=λi j hi hj=>by rw[hR i j hi hj,oY h hp hi hj,Int.mul_fdiv_cancel_left _ h.1]
 have e1:=KR h hp hb;have e2:det (m+1) (λi j=>offN R (r i)<|c j)=last^(m+1)*det (m+1) (λi j=>R' (r i)<|c j):=by rw[<-cg];exact Zn λi j hi hj=>oW _ _ (hb i hi).1 (hb j hj).2
 rw[e2]at e1;refine fo (Il h.1<|m+1) ?_;rw[e1];generalize det (k+1+m+1) (λi j=>A (ex (k+1) r i)<|ex (k+1) c j)=y;rw[Nl,Qi y]
theorem oV(h:RU A k M R last)(ht:t<M):RU (λi=>A (rotN k t i)) k M (λi=>R (rotN 0 t i)) last:=by
 refine⟨h.1,λm r c hb=>?_⟩;have e:=h.2 m (λi=>rotN 0 t<|r i) c λi hi=>⟨by
  have:=(hb i hi).1
  unfold rotN;rw[if_neg J];split
  .lia
  .split<;>lia,(hb i hi).2⟩
 rw[e];refine XB (· * last^m) (Zn λi j _ _=>?_);refine XB (λa=>A a<|ex k c j) ?_;unfold ex;by_cases hi:i<k
 .rw[if_pos hi,if_pos hi];unfold rotN;rw[if_pos hi]
 .rw[if_neg hi,if_neg hi];show k+rotN 0 t (r<|i-k)=rotN k t (k+r (i-k))
  generalize r (i-k)=a;have r1:rotN 0 t a=if a<0 then a else if a=0 then 0+t else if a<=0+t then a-1 else a:=rfl
  have r2:rotN k t (k+a)=if k+a<k then k+a else if k+a=k then k+t else if k+a<=k+t then k+a-1 else k+a:=rfl
  rw[if_neg J]at r1 r2;by_cases h1:a=0
  .rw[if_pos h1]at r1;rw[if_pos J]at r2;rw[r1,r2];lia
  .rw[if_neg h1]at r1;rw[if_neg J]at r2;by_cases h2:a<=t
   .rw[if_pos J]at r1;rw[if_pos J]at r2;rw[r1,r2];lia
   .rw[if_neg J]at r1;rw[if_neg J]at r2;rw[r1,r2]
theorem MB(k i:Nat):ex k (λi=>i) i=i:=by
 unfold ex;by_cases h:i<k
 .rw[if_pos h]
 .rw[if_neg h];show k+(i-k)=i
  grind
theorem oU{k M:Nat}(h:RU A k (M+1) R last)(h0:∀i,i<M+1->R i 0=0):det (k+M+1) A=0:=by
 have e:=h.2 M (λi=>i) (λi=>i) λi hi=>⟨hi,hi⟩;rw[o5 (A:=λi j=>R i j) h0]at e;have e2:det (k+M+1) (λi j=>A (ex k (λi=>i) i)<|ex k (λi=>i) j)=det (k+M+1) A:=Zn λi j _ _=>by rw[MB,MB]
 rw[e2]at e;rcases Int.mul_eq_zero.mp e.symm with z|z
 .exact z
 .exact absurd z (Il h.1 M)
theorem oS(h:RU A k 1 R last):R 0 0=det (k+1) A:=by
 have e:=h.2 0 (λi=>i) (λi=>i) λi hi=>⟨J,ur⟩;rw[oZ,JP,Nq]at e;have e2:det (k+0+1) (λi j=>A (ex k (λi=>i) i)<|ex k (λi=>i) j)=det (k+1) A:=Zn λi j _ _=>by rw[MB,MB]
 rwa[e2]at e
end My
namespace L2
open PySem PySem.Spec PyProof.Rows
noncomputable def oR(i j:Int):Prop:=i.natAbs<2^9000/\j.natAbs<2^9000
noncomputable def oQ(i j:Int):Prop:=j≠0/\j.natAbs<2^9000
theorem cb(h:a.natAbs<2^9000):Builtin.Int.intBits a<=9000:=PySem.intBits_le_iff.mpr h
section
variable{X:Cx}
theorem oP:WC X (binaryOp .Mult) (rI oR λi j=>.int (i*j)):=Gv λ_ _ _ _ _ _ _ hc q=>mul_int q (.of_bits (Ys (cb hc.1) S)<|Ys (cb hc.2) S)
theorem oO:WC X (binaryOp .FloorDiv) (rI oQ λi j=>.int (i.fdiv j)):=Gv λ_ _ _ _ _ _ _ hc q=>floordiv_int hc.1 q (.inl<|PyProof.noPylong_of_log2<|(Nat.log2_lt (by have:=hc.1;lia)).mpr hc.2)
end
end L2
namespace My
noncomputable def fnL(L:Ab):Mx:=λi j=>(L.getD i []).getD j 0
theorem UL{l:Ac}{x:Int}(h:L[i]?=some l)(h2:l[j]?=some x):fnL L i j=x:=by
 have e:L.getD i []=l:=by rw[WJ,h];rfl
 unfold fnL;rw[e,WJ,h2];rfl
noncomputable def xa(uj:Nat):Nat->Nat
 |0=>1
 |n+1=>(n+1)*(uj*xa uj n)
theorem CJ{f:Nat->Int}{C:Nat}:∀{n:Nat},(∀i,i<n->(f i).natAbs<=C)->(sm n f).natAbs<=n*C
 |0,_=>by show(0:Int).natAbs<=0*C;rw[Nat.zero_mul];exact XO 0
 |n+1,h=>by
  have h1:=CJ (n:=n) λi hi=>h i J;have h2:=h n J
  have h3:(sm n f+f n).natAbs<=(sm n f).natAbs+(f n).natAbs:=Int.natAbs_add_le ..;show(sm n f+f n).natAbs<=(n+1)*C
  rw[Nat.succ_mul];lia
theorem b9:∀{n:Nat}{A:Mx},(∀i j,i<n->j<n->(A i j).natAbs<=uj)->(det n A).natAbs<=xa uj n
 |0,_,_=>XO 1
 |n+1,A,h=>by
  refine CJ λj hj=>?_;have e:(sg j).natAbs=1:=by unfold sg;split<;>rfl
  rw[uM,uM,e,Nat.one_mul];exact JT (h 0 j J hj) (b9 λi k hi hk=>h (i+1) (sk j k) J<|Pf hk)
theorem CI{b:Nat}:∀{n:Nat},n<=16->xa (2^b) n<=2^((b+4)*n)
 |0,_=>by show 1<=2^((b+4)*0);rw[Nat.mul_zero];exact XO 1
 |n+1,h=>by
  have ih:=CI (b:=b) (n:=n) J;have e:2^((b+4)*(n+1))=16*(2^b*2^((b+4)*n)):=by rw[Nat.mul_succ,Nat.pow_add,Nat.pow_add,Nj<|2^((b+4)*n),Nj (2^b)<|2^4,Nat.mul_assoc]
  rw[e];show(n+1)*(2^b*xa (2^b) n)<=_
  exact JT h (JT (XO _) ih)
theorem oN(hn:n<=16)(h:∀i j,i<n->j<n->(A i j).natAbs<=2^400):(det n A).natAbs<2^9000:=by
 have h1:=b9 h;have h2:=CI (b:=400) hn
 have h3:2^((400+4)*n)<=2^(404*16):=vp S (JT (XO _) hn);have h4:2^(404*16)<2^9000:=Nat.pow_lt_pow_right S S
 exact yU (Ys h1<|Ys h2 h3) h4
theorem oM(h:RU A k M R last){i j:Nat}(hi:i<M)(hj:j<M):R i j=det (k+1) (λa b=>A (ex k (λ_=>i) a) (ex k (λ_=>j) b)):=by
 have:=h.2 0 (λ_=>i) (λ_=>j) λ_ _=>⟨hi,hj⟩
 rwa[oZ,JP,Nq]at this
theorem Zd9{k M n:Nat}(h:RU A k M R last)(hn:k+M=n)(hn16:n<=16)(hA:∀i j,i<n->j<n->(A i j).natAbs<=2^400){i j:Nat}(hi:i<M)(hj:j<M):(R i j).natAbs<2^9000:=by
 rw[oM h hi hj];refine oN J λa b ha hb=>hA _ _ ?_ ?_
 .have e:ex k (λ_=>i) a=if a<k then a else k+i:=rfl
  rw[e];split<;>lia
 .have e:ex k (λ_=>j) b=if b<k then b else k+j:=rfl
  rw[e];split<;>lia
theorem oK{L:Ab}{l:Ac}(h:L[t]?=some l)(i:Nat):(l::L.eraseIdx t)[i]?=L[rotN 0 t i]?:=by
 have ht:=(Xs.mp h).1;have r:rotN 0 t i=if i<0 then i else if i=0 then 0+t else if i<=0+t then i-1 else i:=rfl
 rw[if_neg J]at r;cases i with
 |zero=>
  rw[if_pos Z,Lw]at r;rw[r,h];rfl
 |succ i=>
  rw[if_neg J,Lw]at r;rw[r,List.getElem?_cons_succ,vw];by_cases c:i+1<=t
  .rw[if_pos c,if_pos J];rfl
  .rw[if_neg c,if_neg J]
theorem oJ{l:Ac}(h:L[t]?=some l):fnL (l::L.eraseIdx t)=λi=>fnL L (rotN 0 t i):=by
 funext i j
 show((l::L.eraseIdx t).getD i []).getD j 0=(L.getD (rotN 0 t i) []).getD j 0;refine XB (λr:Ac=>r.getD j 0) ?_;rw[WJ,WJ,oK h]
noncomputable def Pd(y:Int)(p:Ac)(last:Int)(l:Ac):Ac:=List.zipWith (λown other=>(y*own-l.headD 0*other).fdiv last) l.tail p
theorem b7(h:l.length=p.length+1):(Pd y p last l).length=p.length:=by unfold Pd;rw[NA,yQ];grind
theorem CH{L:Ab}{M:Nat}(hp:p.length=M)(hL:L.length=M)(hl:∀l∈L,l.length=M+1){i j:Nat}(hi:i<M)(hj:j<M):
  fnL (L.map<|Pd y p last) i j=(offN (fnL<|(y::p)::L) i j).fdiv last:=by
 obtain⟨l,KQ⟩:∃l,L[i]?=some l:=⟨_,Xw J⟩;have US:=hl l (Xf KQ)
 obtain⟨x,l',rfl⟩:∃x l',l=x::l':=by
  cases l with
  |nil=>cases US
  |cons x l'=>exact⟨x,l',Z⟩
 have Qb:l'.length=M:=by rw[Yq]at US;lia
 obtain⟨u,hu⟩:∃u,l'[j]?=some u:=⟨_,Xw J⟩;obtain⟨v,hv⟩:∃v,p[j]?=some v:=⟨_,Xw J⟩;have e1:fnL (L.map<|Pd y p last) i j=(y*u-x*v).fdiv last:=UL (l:=Pd y p last<|x::l') (by rw[Yo,KQ];rfl) (by
  show(List.zipWith _ l' p)[j]?=_;rw[LG,hu,hv]
  rfl)
 have e2:fnL ((y::p)::L) 0 0=y:=rfl;have e3:fnL ((y::p)::L) (i+1) (j+1)=u:=UL (l:=x::l') KQ hu
 have e4:fnL ((y::p)::L) (i+1) 0=x:=UL (l:=x::l') KQ rfl;have e5:fnL ((y::p)::L) 0 (j+1)=v:=UL (l:=y::p) Z hv
 rw[e1];unfold offN;rw[e2,e3,e4,e5]
end My
namespace My
open PySem L2
noncomputable def CG(K:Ad)(H:Hp)(v:V)(l:Ac):Prop:=∃r k,v=.ref r/\SqK k K H r (IL l)
noncomputable def LiV(d:Addr)(H:Hp)(v:V)(l:Ac):Prop:=∃r,v=.ref r/\H r=some (.lst<|IL l)/\r≠d
theorem LiV.same(s:Same H H')(h:LiV d H v l):LiV d H' v l:=by obtain⟨r,e,h,n⟩:=h;exact⟨r,e,s _ _ h,n⟩
theorem LiV.mut(h:LiV d H v l):LiV d (upd H d o) v l:=by obtain⟨r,e,h,n⟩:=h;exact⟨r,e,by rw[Zc n];exact h,n⟩
theorem LiV.list(h:LiV d H v l):Rm H v l:=by obtain⟨r,e,h,_⟩:=h;exact⟨r,e,h⟩
theorem Bears.erase{α:Type}[DecidableEq α]{R:V->α->Prop}{xs:List V}{l:List α}(h:Bears R xs l)(t:Nat):Bears R (xs.eraseIdx t) (l.eraseIdx t):=by
 have hl:=h.1;refine⟨by rw[vm,vm,hl],λi a e=>?_⟩;rw[vw]at e;rw[vw];split at e
 .next c=>rw[if_pos c];exact h.2 _ _ e
 .next c=>rw[if_neg c];exact h.2 _ _ e
theorem bZ(x:Int)(l:Ac):Xi (IL (x::l)) (some 1) none=IL l:=by rw[xh S];rfl
theorem oH(t:Nat):sg t*sg t=1:=by unfold sg;split<;>rfl
end My
namespace My
theorem oG{f:Nat->Nat->Int}:sm n (λi=>sm m λj=>f i j)=sm m (λj=>sm n λi=>f i j):=ph
theorem bY:∀{n:Nat}{A:Mx},det (n+1) A=sm (n+1) λi=>sg i*A i 0*det n (λr c=>A (sk i r) (c+1))
 |0,A=>rfl
 |n+1,A=>by
  have e1:det (n+2) A=sg 0*A 0 0*det (n+1) (mn A 0)+sm (n+1) λj=>sg (j+1)*A 0 (j+1)*det (n+1) (mn A<|j+1):=CL;have e2:sm (n+2) (λi=>sg i*A i 0*det (n+1) λr c=>A (sk i r)<|c+1)=sg 0*A 0 0*det (n+1) (λr c=>A (sk 0 r)<|c+1)+sm (n+1) λi=>sg (i+1)*A (i+1) 0*det (n+1) (λr c=>A (sk (i+1) r)<|c+1):=CL
  rw[e1,e2];have e3:det (n+1) (mn A 0)=det (n+1) (λr c=>A (sk 0 r)<|c+1):=Zn λr c _ _=>rfl
  rw[e3];refine XB (λz:Int=>sg 0*A 0 0*det (n+1) (λr c=>A (sk 0 r)<|c+1)+z) ?_;obtain⟨um,hD⟩:∃um:Nat->Nat->Int,um=λi j=>det n (λr c=>A (sk i r+1)<|sk (j+1)<|c+1):=⟨_,Z⟩;have e4:∀j,j<n+1->det (n+1) (mn A<|j+1)=sm (n+1) λi=>sg i*A (i+1) 0*um i j:=λj _=>by rw[bY,hD];rfl
  have e5:∀i,i<n+1->det (n+1) (λr c=>A (sk (i+1) r)<|c+1)=sm (n+1) λj=>sg j*A 0 (j+1)*um i j:=λi hi=>by
   show sm (n+1) (λj=>sg j*A (sk (i+1) 0) (j+1)*det n (mn (λr c=>A (sk (i+1) r)<|c+1) j))=_;refine ZE λj _=>?_;rw[hD];show sg j*A (sk (i+1) 0) (j+1)*det n (mn (λr c=>A (sk (i+1) r)<|c+1) j)=sg j*A 0 (j+1)*det n (λr c=>A (sk i r+1)<|sk (j+1)<|c+1)
   rw[show sk (i+1) 0=0 from Z];refine XB (sg j*A 0 (j+1) * ·) (Zn λr c _ _=>?_);show A (sk (i+1)<|r+1) (sk j c+1)=A (sk i r+1) (sk (j+1)<|c+1)
   have f1:sk (i+1) (r+1)=sk i r+1:=by
    unfold sk;by_cases h:r<i
    .rw[if_pos h,if_pos J]
    .rw[if_neg h,if_neg J]
   have f2:sk j c+1=sk (j+1) (c+1):=by
    unfold sk;by_cases h:c<j
    .rw[if_pos h,if_pos J]
    .rw[if_neg h,if_neg J]
   rw[f1,f2]
  have e6:sm (n+1) (λj=>sg (j+1)*A 0 (j+1)*det (n+1) (mn A<|j+1))=sm (n+1) λj=>sm (n+1) λi=>sg (j+1)*A 0 (j+1)*(sg i*A (i+1) 0*um i j):=ZE λj hj=>by rw[e4 j hj,Rb]
  have e7:sm (n+1) (λi=>sg (i+1)*A (i+1) 0*det (n+1) λr c=>A (sk (i+1) r)<|c+1)=sm (n+1) λi=>sm (n+1) λj=>sg (i+1)*A (i+1) 0*(sg j*A 0 (j+1)*um i j):=ZE λi hi=>by rw[e5 i hi,Rb]
  rw[e6,e7,oG];refine ZE λi _=>ZE λj _=>?_;rw[MC,MC];generalize um i j=d;generalize A 0 (j+1)=x;generalize A (i+1) 0=y;generalize sg i=s;generalize sg j=u;simp only[yB,Int.neg_inj];simp only[Qi,Nl,Sg]
theorem Pc:∀{n:Nat}{A:Mx},det n (λi j=>A j i)=det n A
 |0,_=>rfl
 |n+1,A=>by
  rw[bY (A:=A)];refine ZE λj _=>?_;show sg j*A j 0*det n (λi k=>A (sk j k)<|i+1)=sg j*A j 0*det n (λr c=>A (sk j r)<|c+1)
  rw[<-Pc (A:=λr c=>A (sk j r)<|c+1)]
theorem oE{n a b:Nat}(ha:a<n)(hb:b<n)(XJ:a≠b)(h:∀j,j<n->A a j=A b j):det n A=0:=by
 rcases Nat.lt_or_gt_of_ne XJ with c|c
 .obtain⟨d,rfl⟩:∃d,b=a+d+1:=⟨b-a-1,uu⟩;exact xb hb h
 .obtain⟨d,rfl⟩:∃d,a=b+d+1:=⟨a-b-1,uu⟩;exact xb ha λj hj=>(h j hj).symm
noncomputable def putr(A:Mx)(i:Nat)(x:Nat->Int):Mx:=λr=>if r=i then x else A r
theorem bX{c:Int}{x y:Nat->Int}(hi:i<n):det n (putr A i λj=>c*x j+y j)=c*det n (putr A i x)+det n (putr A i y):=
 Im hi (λr j _ _ XJ=>by unfold putr;rw[if_neg XJ,if_neg XJ,if_neg XJ];exact⟨Z,Z⟩) (λj _=>by unfold putr;rw[if_pos Z,if_pos Z,if_pos Z])
theorem bW:putr A i (A i)=A:=by
 funext r
 unfold putr;by_cases h:r=i
 .rw[if_pos h,h]
 .rw[if_neg h]
theorem bV{n a b:Nat}{c:Int}(ha:a<n)(hb:b<n)(XJ:a≠b):det n (putr A a λj=>A a j+c*A b j)=det n A:=by
 have e:(λj=>A a j+c*A b j)=λj=>c*A b j+A a j:=by funext j;lia
 rw[e,bX ha,bW,oE ha hb XJ (A:=putr A a<|A b) λj _=>?_,Se,JQ];unfold putr;rw[if_pos Z,if_neg (XI XJ)]
theorem oB(a i:Nat):rotN 0 a (i+1)=sk a i:=by
 have r:rotN 0 a (i+1)=if i+1<0 then i+1 else if i+1=0 then 0+a else if i+1<=0+a then i+1-1 else i+1:=rfl
 rw[if_neg J,if_neg J]at r;rw[r];unfold sk;by_cases h:i<a
 .rw[if_pos h,if_pos J];lia
 .rw[if_neg h,if_neg J]
theorem bU{f:Nat->Int}{a:Nat}:∀{n:Nat},a<n->(∀j,j<n->j≠a->f j=0)->sm n f=f a
 |0,h,_=>absurd h (Wk _)
 |n+1,h,h0=>by
  show sm n f+f n=f a;by_cases c:a=n
  .rw[Io λi hi=>h0 i uu J,c,JQ]
  .rw[bU (n:=n) J λj hj XJ=>h0 j J XJ,h0 n J J,RD]
theorem oz(ha:a<n+1):det (n+1) (putr A a λj=>if j=a then 1 else 0)=det n (λi j=>A (sk a i) (sk a j)):=by
 have e:=o6 (n:=n+1) (k:=0) (t:=a) (A:=putr A a λj=>if j=a then 1 else 0) J;have r0:rotN 0 a 0=a:=by show(if 0<0 then 0 else if 0=0 then 0+a else _)=a;rw[if_neg J,if_pos Z,Lw]
 have top:det (n+1) (λi=>putr A a (λj=>if j=a then 1 else 0)<|rotN 0 a i)=sg a*det n (λi j=>A (sk a i)<|sk a j):=by
  show sm (n+1) (λj=>sg j*putr A a (λj=>if j=a then 1 else 0) (rotN 0 a 0) j*det n (mn (λi=>putr A a (λj=>if j=a then 1 else 0)<|rotN 0 a i) j))=_;rw[bU ha λj _ XJ=>?_]
  .rw[r0];have e1:putr A a (λj=>if j=a then 1 else 0) a a=1:=by unfold putr;rw[if_pos Z,if_pos Z]
   rw[e1,Nq];refine XB (sg a * ·) (Zn λi j _ _=>?_);show putr A a (λj=>if j=a then 1 else 0) (rotN 0 a<|i+1) (sk a j)=A (sk a i) (sk a j)
   rw[oB];unfold putr;rw[if_neg (by unfold sk;split<;>lia)]
  .rw[r0];have e1:putr A a (λj=>if j=a then 1 else 0) a j=0:=by unfold putr;rw[if_pos Z,if_neg XJ]
   rw[e1,Se,Ff]
 rw[top]at e;have h:=XB (sg a * ·) e
 simp only[<-Sg]at h;rw[show sg a*sg a=1 by unfold sg;split<;>rfl,SO,SO]at h
 exact h.symm
theorem bT{w:Int}(ha:a<n+1):det (n+1) (λi j=>A i j+w*((if i=a then 1 else 0)*(if j=a then 1 else 0)))=det (n+1) A+w*det n (λi j=>A (sk a i) (sk a j)):=by
 have e:det (n+1) (λi j=>A i j+w*((if i=a then 1 else 0)*(if j=a then 1 else 0)))=det (n+1) (putr A a λj=>w*(λj=>if j=a then 1 else 0) j+A a j):=Zn λi j _ _=>by
  unfold putr;by_cases h:i=a
  .subst h;rw[if_pos Z,if_pos Z,SO];show A i j+w*(if j=i then 1 else 0)=w*(if j=i then 1 else 0)+A i j
   exact Int.add_comm ..
  .rw[if_neg h,if_neg h,Ff,Se,RD]
 rw[e,bX ha,bW,oz ha];lia
noncomputable def ind(u v i:Nat):Int:=(if i=u then 1 else 0)-(if i=v then 1 else 0)
noncomputable def Qy(A:Mx)(a b:Nat):Mx:=λi j=>(A i j+(if i=b then A a j else 0))+(if j=b then A i a+(if i=b then A a a else 0) else 0)
theorem bS(ha:a<n)(hb:b<n)(XJ:a≠b):det n (Qy A a b)=det n A:=by
 have e1:det n A=det n (putr A b λj=>A b j+1*A a j):=(bV hb ha<|XI XJ).symm;obtain⟨R,hR⟩:∃R:Mx,R=putr A b (λj=>A b j+1*A a j):=⟨_,Z⟩;have e2:det n R=det n (putr (λi j=>R j i) b λj=>(λi j=>R j i) b j+1*(λi j=>R j i) a j):=by rw[bV (A:=λi j=>R j i) hb ha (XI XJ)];exact Pc.symm
 rw[e1,<-hR,e2,<-Pc (A:=putr (λi j=>R j i) b λj=>(λi j=>R j i) b j+1*(λi j=>R j i) a j)];refine Zn λi j _ _=>?_;have rv:∀r c,R r c=A r c+(if r=b then A a c else 0):=λr c=>by
  rw[hR];unfold putr;by_cases h:r=b
  .rw[if_pos h,if_pos h,h];lia
  .rw[if_neg h,if_neg h];lia
 unfold Qy;show _=(putr (λi j=>R j i) b λj=>R j b+1*R j a) j i
 unfold putr;by_cases h:j=b
 .rw[if_pos h,if_pos h,rv,rv,h];by_cases h2:i=b
  .rw[if_pos h2,if_pos h2];lia
  .rw[if_neg h2,if_neg h2];lia
 .rw[if_neg h,if_neg h];show _=R i j
  rw[rv];lia
theorem oy{w:Int}(ha:a<n+1)(hb:b<n+1)(XJ:a≠b):det (n+1) (λi j=>A i j+w*(ind a b i*ind a b j))=det (n+1) A+w*det n (λi j=>Qy A a b (sk a i) (sk a j)):=by
 have e1:=bS (A:=λi j=>A i j+w*(ind a b i*ind a b j)) ha hb XJ;have e2:det (n+1) (Qy (λi j=>A i j+w*(ind a b i*ind a b j)) a b)=det (n+1) (λi j=>Qy A a b i j+w*((if i=a then 1 else 0)*(if j=a then 1 else 0))):=Zn λi j _ _=>by
  have na:¬a=b:=XJ;have nb:¬b=a:=XI XJ
  unfold Qy ind;by_cases hi:i=b
  .subst hi;by_cases hj:j=i
   .subst hj;simp[na,nb];lia
   .by_cases Qx:j=a
    .subst Qx;simp[na,nb,hj];lia
    .simp[na,nb,hj,Qx]
  .by_cases Wb:i=a
   .subst Wb;by_cases hj:j=b
    .subst hj;simp[na,nb];lia
    .by_cases Qx:j=i
     .subst Qx;simp[na,nb]
     .simp[na,nb,hj,Qx]
   .by_cases hj:j=b
    .subst hj;simp[na,nb,hi,Wb]
    .by_cases Qx:j=a
     .subst Qx;simp[na,nb,hi,Wb]
     .simp[na,nb,hi,Wb,hj,Qx]
 rw[<-e1,e2,bT ha,bS ha hb XJ]
end My
namespace My
open PySem L2
noncomputable abbrev Ed:=Nat×Nat×Int
noncomputable def lapE:List Ed->Mx
 |[]=>λ_ _=>0
 |e::E=>λi j=>e.2.2*(ind e.1 e.2.1 i*ind e.1 e.2.1 j)+lapE E i j
theorem ox(E:List Ed)(e:Ed)(i j:Nat):lapE (E++[e]) i j=lapE E i j+e.2.2*(ind e.1 e.2.1 i*ind e.1 e.2.1 j):=by
 induction E with
 |nil=>show _+0=0+_;lia
 |cons f E ih=>
  show _+lapE (E++[e]) i j=_+lapE E i j+_;rw[ih];lia
noncomputable def TV(E:List Ed)(z:Int):Nat×Nat:=((E.getD z.toNat (0,0,0)).1,(E.getD z.toNat (0,0,0)).2.1)
noncomputable def UK(E:List Ed):Ac->Int
 |[]=>1
 |z::T=>(E.getD z.toNat (0,0,0)).2.2*UK E T
theorem ou(E:List Ed)(uo T:Ac):UK E (uo++T)=UK E uo*UK E T:=by
 induction uo with
 |nil=>show _=1*_;rw[SO];rfl
 |cons z uo ih=>show _*UK E (uo++T)=_*_*_;rw[ih,Sg]
noncomputable def IsT(k:Nat)(E:List Ed)(T:Ac):Prop:=IsSet E.length T/\T.length=k/\∀i j,i<k+1->j<k+1->Conn (T.map<|TV E) i j
noncomputable def TW(k:Nat)(E:List Ed)(s:Int):Prop:=∃L:Ab,L.Nodup/\(∀T,T∈L↔IsT k E T)/\(L.map<|UK E).sum=s
theorem bR{E:List Ed}{e:Ed}{z:Int}(h0:0<=z)(h1:z<(E.length:Int)):(E++[e]).getD z.toNat (0,0,0)=E.getD z.toNat (0,0,0):=by rw[WJ,WJ,Yw J]
theorem bQ(E:List Ed)(e:Ed):(E++[e]).getD (E.length:Int).toNat (0,0,0)=e:=by rw[WJ,YD,Yv<|XO _,Nu];rfl
theorem Ik{e:Ed}(h:IsSet E.length T):T.map (TV (E++[e]))=T.map (TV E):=YY λz hz=>by
 have:=h.all z hz
 unfold TV;rw[bR this.1 this.2]
theorem Ij{e:Ed}(h:∀z∈T,0<=z/\z<(E.length:Int)):UK (E++[e]) T=UK E T:=by
 induction T with
 |nil=>rfl
 |cons z T ih=>
  have hz:=h z Ya;show _*UK (E++[e]) T=_*UK E T
  rw[bR hz.1 hz.2,ih λy hy=>h y (Yf _ hy)]
theorem w9{e:Ed}(h:IsSet E.length T):IsT k (E++[e]) T↔IsT k E T:=by
 have h2:IsSet (E++[e]).length T:=by rw[Xt];exact h.up
 constructor
 .rintro⟨_,a,b⟩;exact⟨h,a,by rwa[Ik h]at b⟩
 .rintro⟨_,a,b⟩;exact⟨h2,a,by rwa[Ik h]⟩
theorem CF{e:Ed}(h:IsSet E.length T):(T++[(E.length:Int)]).map (TV (E++[e]))=T.map (TV E)++[(e.1,e.2.1)]:=by
 rw[YJ,Ik h];show _++[TV (E++[e]) (E.length:Int)]=_
 unfold TV;rw[bQ]
noncomputable def sh(a x:Nat):Nat:=if x<a then x else x-1
noncomputable def dl(a b x:Nat):Nat:=if x=a then sh a b else sh a x
theorem Pb(a y:Nat):sh a (sk a y)=y:=by
 unfold sk;by_cases h:y<a
 .rw[if_pos h];unfold sh;rw[if_pos h]
 .rw[if_neg h];unfold sh;rw[if_neg J];lia
theorem CD(a y:Nat):sk a y≠a:=by unfold sk;split<;>lia
theorem MA(h:x≠a):sk a (sh a x)=x:=by
 unfold sh;by_cases c:x<a
 .rw[if_pos c];unfold sk;rw[if_pos c]
 .rw[if_neg c];unfold sk;rw[if_neg J];lia
theorem Mz(a b y:Nat):dl a b (sk a y)=y:=by unfold dl;rw[if_neg (CD a y),Pb]
theorem Ii(hx:x≠a)(hy:y≠a)(h:sh a x=sh a y):x=y:=by
 have:=XB (sk a) h
 rwa[MA hx,MA hy]at this
theorem oq(XJ:b≠a)(h:dl a b x=dl a b y):x=y\/(x=a/\y=b)\/(x=b/\y=a):=by
 unfold dl at h;by_cases hx:x=a
 .rw[if_pos hx]at h;by_cases hy:y=a
  .exact .inl (hx.trans hy.symm)
  .rw[if_neg hy]at h;exact .inr (.inl ⟨hx,(Ii XJ hy h).symm⟩)
 .rw[if_neg hx]at h;by_cases hy:y=a
  .rw[if_pos hy]at h;exact .inr (.inr ⟨Ii hx XJ h,hy⟩)
  .rw[if_neg hy]at h;exact .inl (Ii hx hy h)
theorem oo(a b:Nat)(XJ:b≠a):dl a b a=dl a b b:=by unfold dl;rw[if_pos Z,if_neg XJ]
theorem om{es:List (Nat×Nat)}{i j:Nat}(XJ:b≠a)(c:Conn (es++[(a,b)]) i j):Conn (es.map λe=>(dl a b e.1,dl a b e.2)) (dl a b i) (dl a b j):=by
 induction c with
 |refl i=>exact .refl _
 |edge q=>
  rcases Xz.mp q with q|q
  .exact .edge (YA.mpr ⟨_,q,Z⟩)
  .have e:=XF.mp q;injection e with e1 e2
   rw[e1,e2,oo a b XJ];exact .refl _
 |symm _ ih=>exact .symm ih
 |trans _ _ a b=>exact .trans a b
theorem oj{es:List (Nat×Nat)}{u v:Nat}(XJ:b≠a)(c:Conn (es.map λe=>(dl a b e.1,dl a b e.2)) u v):∀i j,dl a b i=u->dl a b j=v->Conn (es++[(a,b)]) i j:=by
 have he:Conn (es++[(a,b)]) a b:=.edge B;have same:∀i j,dl a b i=dl a b j->Conn (es++[(a,b)]) i j:=λi j e=>by
  rcases oq XJ e with e|⟨e1,e2⟩|⟨e1,e2⟩
  .rw[e];exact .refl _
  .rw[e1,e2];exact he
  .rw[e1,e2];exact he.symm
 induction c with
 |refl u=>exact λi j e1 e2=>same i j (e1.trans e2.symm)
 |edge q=>
  intro i j e1 e2;obtain⟨⟨x,y⟩,MF,e⟩:=YA.mp q;injection e with x1 x2
  exact(same i x<|e1.trans x1.symm).trans (.trans (.edge<|Yd _ MF)<|same y j<|x2.trans e2.symm)
 |symm _ ih=>exact λi j e1 e2=>(ih j i e2 e1).symm
 |@trans x y z _ _ Pk SV=>exact λi j e1 e2=>(Pk i (sk a y) e1<|Mz a b y).trans (SV (sk a y) j (Mz a b y) e2)
theorem Mw{a b x k:Nat}(ha:a<k+1)(hb:b<k+2)(XJ:b≠a)(hx:x<k+2):dl a b x<k+1:=by
 unfold dl sh;by_cases h:x=a
 .rw[if_pos h];split<;>grind
 .rw[if_neg h];split<;>grind
theorem bP{a b k:Nat}{es:List (Nat×Nat)}(ha:a<k+1)(hb:b<k+2)(XJ:b≠a):(∀i j,i<k+2->j<k+2->Conn (es++[(a,b)]) i j)↔∀i j,i<k+1->j<k+1->Conn (es.map λe=>(dl a b e.1,dl a b e.2)) i j:=by
 constructor
 .intro c i j h1 h2
  have:=om XJ (c (sk a i) (sk a j) (Pf h1)<|Pf h2)
  rwa[Mz,Mz]at this
 .exact λc i j h1 h2=>oj XJ (c _ _ (Mw ha hb XJ h1)<|Mw ha hb XJ h2) i j Z rfl
noncomputable def SU(a b:Nat)(E:List Ed):List Ed:=E.map λe=>(dl a b e.1,dl a b e.2.1,e.2.2)
theorem bO{z:Int}(h0:0<=z)(h1:z<(E.length:Int)):(SU a b E).getD z.toNat (0,0,0)=(dl a b (E.getD z.toNat (0,0,0)).1,dl a b (E.getD z.toNat (0,0,0)).2.1,(E.getD z.toNat (0,0,0)).2.2):=by unfold SU;rw[WJ,WJ,Yo,Xw ur];rfl
theorem bN(h:IsSet E.length T):T.map (TV (SU a b E))=(T.map (TV E)).map λe=>(dl a b e.1,dl a b e.2):=by
 rw[Lv];refine YY λz hz=>?_
 have:=h.all z hz
 unfold TV;rw[bO this.1 this.2];rfl
theorem oh(h:∀z∈T,0<=z/\z<(E.length:Int)):UK (SU a b E) T=UK E T:=by
 induction T with
 |nil=>rfl
 |cons z T ih=>
  have hz:=h z Ya;show _*UK (SU a b E) T=_*UK E T
  rw[bO hz.1 hz.2,ih λy hy=>h y (Yf _ hy)]
theorem KP{e:Ed}(ha:a<k+1)(hb:b<k+2)(XJ:b≠a)(he:(e.1=a/\e.2.1=b)\/(e.1=b/\e.2.1=a))(h:IsSet E.length T):IsT (k+1) (E++[e]) (T++[(E.length:Int)])↔IsT k (SU a b E) T:=by
 have hl:(SU a b E).length=E.length:=Yb ..;have hc:(∀i j,i<k+2->j<k+2->Conn ((T++[(E.length:Int)]).map (TV<|E++[e])) i j)↔∀i j,i<k+2->j<k+2->Conn (T.map (TV E)++[(a,b)]) i j:=by
  rw[CF h];rcases he with ⟨e1,e2⟩|⟨e1,e2⟩
  .rw[e1,e2]
  .rw[e1,e2];exact⟨λc i j x y=>cx<|c i j x y,λc i j x y=>cx<|c i j x y⟩
 have h2:IsSet (E++[e]).length (T++[(E.length:Int)]):=by rw[Xt];exact h.snoc
 constructor
 .rintro⟨_,x,y⟩;refine⟨hl▸h,?_,?_⟩
  .rw[Xt,Yr]at x;lia
  .rw[bN h];exact(bP ha hb XJ).mp (hc.mp y)
 .rintro⟨_,x,y⟩;rw[bN h]at y;refine⟨h2,by rw[Xt,Yr,x],hc.mpr<|(bP ha hb XJ).mpr y⟩
theorem CC{E:List Ed}{e:Ed}(hE:∀f∈E,f.1<k+1/\f.2.1<k+1)(he:e.1=e.2.1)(h:IsSet E.length T):¬IsT k (E++[e]) (T++[(E.length:Int)]):=by
 rintro⟨_,x,y⟩;rw[CF h]at y;have Pj:∀i j,i<k+1->j<k+1->Conn (T.map<|TV E) i j:=λi j hi hj=>(y i j hi hj).lift λf hf=>by
  rcases Xz.mp hf with q|q
  .exact .edge q
  .rw[XF.mp q,he];exact .refl _
 have Wc:InN (k+1) (T.map<|TV E):=λf hf=>by
  obtain⟨z,hz,rfl⟩:=YA.mp hf
  have:=h.all z hz
  unfold TV;rw[WJ,Xw J];exact hE _ (Ny _)
 have h2:=(UZ J Wc).mpr Pj;have h3:=xx _ Wc
 rw[Yb]at h3;rw[Xt,Yr]at x;lia
theorem CB{e:Ed}(hE:∀f∈E,f.1<k+1/\f.2.1<k+1)(he:e.1=e.2.1)(h:TW k E s):TW k (E++[e]) s:=by
 obtain⟨L,a1,a2,a3⟩:=h;refine⟨L,a1,λT=>?_,?_⟩
 .rw[a2];constructor
  .exact λh=>(w9 h.1).mpr h
  .intro h;have hs:=h.1
   rw[Xt]at hs;rcases cy hs with c|⟨T',c,c2⟩
   .exact(w9 c).mp h
   .exact absurd (c▸h) (CC hE he c2)
 .rw[<-a3];refine XB List.sum (YY λT hT=>Ij ((a2 T).mp hT).1.all)
theorem og(a b:Ac):(a++b).sum=a.sum+b.sum:=by
 induction a with
 |nil=>rw[Oj,List.sum_nil,JQ]
 |cons x a ih=>rw[Fo,Fj,Fj,ih];lia
theorem Ze8(w:Int)(l:Ab)(f:Ac->Int):(l.map λT=>f T*w).sum=w*(l.map f).sum:=by
 induction l with
 |nil=>rw[List.map_nil,List.map_nil,List.sum_nil,Se]
 |cons x l ih=>rw[WD,WD,Fj,Fj,ih,JN,Qi]
theorem CA{e:Ed}(ha:a<k+1)(hb:b<k+2)(XJ:b≠a)(he:(e.1=a/\e.2.1=b)\/(e.1=b/\e.2.1=a))(h1:TW (k+1) E s1)(h2:TW k (SU a b E) s2):TW (k+1) (E++[e]) (s1+e.2.2*s2):=by
 obtain⟨L,a1,a2,a3⟩:=h1;obtain⟨M,b1,b2,b3⟩:=h2;have hl:(SU a b E).length=E.length:=Yb ..
 refine⟨L++M.map (·++[(E.length:Int)]),YR.mpr ⟨a1,?_,λx hx y hy c=>?_⟩,λT=>?_,?_⟩
 .exact List.Pairwise.map _ (λx y h c=>h<|List.append_cancel_right c) b1
 .obtain⟨z,hz,c2⟩:=YA.mp hy
  have:=((a2 x).mp hx).1.all (E.length:Int) (by rw[c,<-c2];simp)
  lia
 .rw[Xz,a2,YA];constructor
  .rintro(h|⟨T',hT,rfl⟩)
   .exact(w9 h.1).mpr h
   .have:=(b2 T').mp hT
    exact(KP ha hb XJ he<|hl▸this.1).mpr this
  .intro h;have hs:=h.1
   rw[Xt]at hs;rcases cy hs with c|⟨T',c,c2⟩
   .exact .inl ((w9 c).mp h)
   .exact .inr ⟨T',(b2 T').mpr ((KP ha hb XJ he c2).mp (c▸h)),c.symm⟩
 .rw[YJ,og,Lv];have e1:L.map (UK<|E++[e])=L.map (UK E):=YY λT hT=>Ij ((a2 T).mp hT).1.all
  have e2:M.map (UK (E++[e])∘(·++[(E.length:Int)]))=M.map λT=>UK (SU a b E) T*e.2.2:=YY λT hT=>by
   have hs:IsSet E.length T:=hl▸((b2 T).mp hT).1;show UK (E++[e]) (T++[(E.length:Int)])=_
   rw[ou,Ij hs.all,oh hs.all];show _*(((E++[e]).getD (E.length:Int).toNat (0,0,0)).2.2*1)=_
   rw[bQ,Nq]
  rw[e1,e2,a3,Ze8,b3]
theorem Cz(XJ:b≠a):ind (dl a b u) (dl a b v) i=ind u v (sk a i)+(if sk a i=b then ind u v a else 0):=by
 have key:∀x:Nat,((if i=dl a b x then 1 else 0:Int))=(if sk a i=x then 1 else 0)+(if sk a i=b then (if a=x then 1 else 0) else 0):=λx=>by
  unfold dl;by_cases hx:x=a
  .rw[if_pos hx,if_neg<|show ¬sk a i=x from hx▸CD a i,JQ];by_cases h:sk a i=b
   .rw[if_pos h,if_pos hx.symm,if_pos];rw[<-h,Pb]
   .rw[if_neg h,if_neg];intro e;exact h (by rw[e,MA XJ])
  .rw[if_neg hx];have e2:(if sk a i=b then (if a=x then 1 else 0:Int) else 0)=0:=by rw[if_neg (XI hx)];split<;>rfl
   rw[e2,RD];by_cases h:sk a i=x
   .rw[if_pos h,if_pos];rw[<-h,Pb]
   .rw[if_neg h,if_neg];intro e;exact h (by rw[e,MA hx])
 unfold ind;rw[key u,key v];by_cases h:sk a i=b
 .rw[if_pos h,if_pos h,if_pos h];lia
 .rw[if_neg h,if_neg h,if_neg h];lia
theorem bM(XJ:b≠a)(i j:Nat):∀E:List Ed,lapE (SU a b E) i j=Qy (lapE E) a b (sk a i) (sk a j)
 |[]=>by
  show(0:Int)=_;unfold Qy lapE;by_cases h:sk a i=b
  .by_cases h2:sk a j=b
   .rw[if_pos h,if_pos h2];rfl
   .rw[if_pos h,if_neg h2];rfl
  .by_cases h2:sk a j=b
   .rw[if_neg h,if_pos h2];rfl
   .rw[if_neg h,if_neg h2];rfl
 |e::E=>by
  have ih:=bM XJ i j E;show e.2.2*(ind (dl a b e.1) (dl a b e.2.1) i*ind (dl a b e.1) (dl a b e.2.1) j)+lapE (SU a b E) i j=_
  rw[ih,Cz XJ,Cz XJ];unfold Qy;show _=(e.2.2*(ind e.1 e.2.1 (sk a i)*ind e.1 e.2.1 (sk a j))+lapE E (sk a i) (sk a j)+(if sk a i=b then e.2.2*(ind e.1 e.2.1 a*ind e.1 e.2.1 (sk a j))+lapE E a (sk a j) else 0))+(if sk a j=b then (e.2.2*(ind e.1 e.2.1 (sk a i)*ind e.1 e.2.1 a)+lapE E (sk a i) a)+(if sk a i=b then e.2.2*(ind e.1 e.2.1 a*ind e.1 e.2.1 a)+lapE E a a else 0) else 0)
  generalize ind e.1 e.2.1 (sk a i)=x;generalize ind e.1 e.2.1 (sk a j)=y;generalize ind e.1 e.2.1 a=z;generalize e.2.2=w;by_cases h:sk a i=b
  .by_cases h2:sk a j=b
   .simp only[if_pos h,if_pos h2,JN,yA];lia
   .simp only[if_pos h,if_neg h2,JN,yA,RD,Se];lia
  .by_cases h2:sk a j=b
   .simp only[if_neg h,if_pos h2,JN,yA,RD,Ff];lia
   .simp only[if_neg h,if_neg h2,RD]
theorem bL(u v i:Nat):ind v u i=- ind u v i:=by unfold ind;lia
theorem n9{e:Ed}(ha:a<k+1)(hb:b<k+2)(XJ:b≠a)(he:(e.1=a/\e.2.1=b)\/(e.1=b/\e.2.1=a)):det (k+1) (lapE (E++[e]))=det (k+1) (lapE E)+e.2.2*det k (lapE (SU a b E)):=by
 have e1:det (k+1) (lapE<|E++[e])=det (k+1) (λi j=>lapE E i j+e.2.2*(ind a b i*ind a b j)):=Zn λi j _ _=>by
  rw[ox];rcases he with ⟨x,y⟩|⟨x,y⟩
  .rw[x,y]
  .rw[x,y,bL a b i,bL a b j,Int.neg_mul_neg]
 have e2:det k (lapE<|SU a b E)=det k (λi j=>Qy (lapE E) a b (sk a i)<|sk a j):=Zn λi j _ _=>bM XJ i j E;rw[e1,e2];by_cases hk:b<k+1
 .exact oy ha hk (XI XJ)
 .have e3:det (k+1) (λi j=>lapE E i j+e.2.2*(ind a b i*ind a b j))=det (k+1) (λi j=>lapE E i j+e.2.2*((if i=a then 1 else 0)*(if j=a then 1 else 0))):=Zn λi j hi hj=>by unfold ind;rw[if_neg (show ¬i=b by lia),if_neg (show ¬j=b by lia),Ni,Ni]
  have e4:det k (λi j=>Qy (lapE E) a b (sk a i)<|sk a j)=det k (λi j=>lapE E (sk a i)<|sk a j):=Zn λi j hi hj=>by
   have h1:=Pf (j:=a) hi;have h2:=Pf (j:=a) hj
   unfold Qy;rw[if_neg (show ¬sk a i=b by lia),if_neg (show ¬sk a j=b by lia),RD,RD]
  rw[e3,e4];exact bT ha
theorem bK{e:Ed}(he:e.1=e.2.1):lapE (E++[e])=lapE E:=by
 funext i j
 rw[ox,he];unfold ind;rw[Int.sub_self,Ff,Se,RD]
theorem w4:∀m k E,E.length=m->(∀e∈E,e.1<k+1/\e.2.1<k+1)->TW k E (det k (lapE E))
 |0,k,E,hm,_=>by
  obtain rfl:=YZ.mp hm;cases k with
  |zero=>
   refine⟨[[]],B,λT=>?_,Z⟩;rw[XF];constructor
   .rintro rfl;exact⟨IsSet.nil _,Z,λi j hi hj=>by
     have:i=j:=J
     rw[this];exact .refl j⟩
   .intro h;exact YZ.mp h.2.1
  |succ k=>
   refine⟨[],.nil,λT=>⟨λh=>(by cases h),λh=>?_⟩,?_⟩
   .have h1:=h.1.len;have h2:=h.2.1
    rw[TN]at h1;lia
   .exact(cm (i:=0) J λj _=>rfl).symm
 |m+1,k,E,hm,hE=>by
  obtain⟨E',e,rfl⟩:∃E' e,E=E'++[e]:=⟨E.dropLast,E.getLast (λh=>by rw[h]at hm;cases hm),(Fb _).symm⟩;have Lf:E'.length=m:=by rw[Xt]at hm;simpa using hm
  have n8:∀f∈E',f.1<k+1/\f.2.1<k+1:=λf hf=>hE f (Yd _ hf);have he:=hE e B
  have ih:=w4 m k E' Lf n8;by_cases hl:e.1=e.2.1
  .rw[bK hl];exact CB n8 hl ih
  .obtain⟨k',rfl⟩:∃k',k=k'+1:=⟨k-1,J⟩;obtain⟨a,b,ha,hb,XJ,Vy⟩:∃a b,a<k'+1/\b<k'+2/\b≠a/\((e.1=a/\e.2.1=b)\/(e.1=b/\e.2.1=a)):=by
    by_cases c:e.1<k'+1
    .exact⟨e.1,e.2.1,c,he.2,λh=>hl h.symm,.inl ⟨Z,Z⟩⟩
    .exact⟨e.2.1,e.1,J,he.1,hl,.inr ⟨Z,Z⟩⟩
   have SV:=w4 m k' (SU a b E') (by unfold SU;rwa[Yb]) λf hf=>by
    obtain⟨g,hg,rfl⟩:=YA.mp hf
    have:=n8 g hg
    exact⟨Mw ha hb XJ this.1,Mw ha hb XJ this.2⟩
   rw[n9 ha hb XJ Vy];exact CA ha hb XJ Vy ih SV
noncomputable def Vx(ps:Aa)(ws:Ac):List Ed:=List.zipWith (λp w=>(p.1.toNat,p.2.toNat,w)) ps ws
theorem bJ(h1:1<=n)(hw:ws.length=ps.length):IsT (n-1).toNat (Vx ps ws) T↔Zh n ps T:=by
 have hl:(Vx ps ws).length=ps.length:=by unfold Vx;rw[NA];grind
 have hm:IsSet ps.length T->T.map (TV<|Vx ps ws)=XT ps T:=λhs=>YY λz hz=>by
  have:=hs.all z hz
  unfold TV Vx;rw[WJ,LG,Xw J,Xw (show z.toNat<ws.length by lia),WJ,Xw ur];rfl
 unfold IsT Zh;rw[hl];constructor
 .rintro⟨a,b,c⟩;rw[hm a]at c;exact⟨a,J,λi j hi hj=>c i j J uu⟩
 .rintro⟨a,b,c⟩;rw[hm a];exact⟨a,J,λi j hi hj=>c i j J J⟩
theorem Cy(h:∀e∈E,e.2.2=1):∀{T:Ac},(∀z∈T,0<=z/\z<(E.length:Int))->UK E T=1
 |[],_=>rfl
 |z::T,hb=>by
  have hz:=hb z Ya;show(E.getD z.toNat (0,0,0)).2.2*UK E T=1
  rw[Cy h λy hy=>hb y<|Yf _ hy,Nq,WJ,Xw J];exact h _ (Ny _)
theorem n6{l:Ab}{f:Ac->Int}(h:∀T∈l,f T=1):(l.map f).sum=(l.length:Int):=by
 induction l with
 |nil=>rfl
 |cons x l ih=>
  rw[WD,Fj,ih λT hT=>h T<|Yf _ hT,h x Ya,Yq];lia
theorem Cw(g:Zw n ps)(ws:Ac):∀e∈Vx ps ws,e.1<(n-1).toNat+1/\e.2.1<(n-1).toNat+1:=λe he=>by
 unfold Vx at he;obtain⟨i,hi⟩:=Qm he;rw[LG]at hi;have g1:=g.1
 cases h1:ps[i]? with
 |none=>rw[h1]at hi;cases hi
 |some p=>
  cases h2:ws[i]? with
  |none=>rw[h1,h2]at hi;cases hi
  |some w=>
   rw[h1,h2]at hi;obtain rfl:=Yh hi;obtain⟨a,b,c,d⟩:=g.2.2.2 p (Xf h1);exact⟨by show p.1.toNat<_;grind,by show p.2.toNat<_;lia⟩
theorem n5(g:Zw n ps){L:Ab}(hL:L.Nodup)(hm:∀l,l∈L↔Zh n ps l):det (n-1).toNat (lapE (Vx ps (List.replicate ps.length 1)))=(L.length:Int):=by
 have g1:=g.1;have hw:(List.replicate ps.length (1:Int)).length=ps.length:=YK
 obtain⟨M,a1,a2,a3⟩:=w4 _ (n-1).toNat (Vx ps<|List.replicate ps.length 1) Z (Cw g _);have hl:(Vx ps<|List.replicate ps.length 1).length=ps.length:=by unfold Vx;rw[NA,hw];grind
 have w1:∀e∈Vx ps (List.replicate ps.length (1:Int)),e.2.2=1:=λe he=>by
  unfold Vx at he;obtain⟨i,hi⟩:=Qm he;rw[LG]at hi;cases h1:ps[i]? with
  |none=>rw[h1]at hi;cases hi
  |some p=>
   cases h2:(List.replicate ps.length (1:Int))[i]? with
   |none=>rw[h1,h2]at hi;cases hi
   |some w=>
    rw[h1,h2]at hi;obtain rfl:=Yh hi;exact yZ (Xf h2)
 rw[<-a3,n6 λT hT=>Cy w1 ((a2 T).mp hT).1.all];have hp:M.Perm L:=(LI a1 hL).mpr λl=>by rw[a2,hm,bJ g1 hw]
 rw[hp.length_eq]
end My
namespace L2
open PySem PySem.Spec PyProof.Rows
section
variable{X:Cx}
noncomputable def n4(K:Ad):V->V->Hp->VK->Prop:=λx y H Q=>∃p xs i v,x=.ref p/\y=.int i/\SqL K H p xs/\0<=i/\xs[i.toNat]?=some v/\Q v H
theorem wZ(K:Ad)(hk:X.K=K:=by rfl):Ez X (n4 K):=by
 subst hk;intro pins s σ H o i ov iv Q I ro ri h;obtain⟨p,xs,j,z,rfl,rfl,hq,h0,he,q⟩:=h;cases ro;obtain⟨t,rfl⟩:=ri;obtain⟨XW,r,pl,hz⟩:=I.list hq;obtain⟨w,ew,MV⟩:=r.get he;have hl:=r.length
 have hn:=Jn;have Xh:=(Xs.mp he).1
 exact wpAny_getItem_list pl.isList h0 J (by simpa using ew) ⟨z,H,I,MV,q⟩
end
end L2
namespace My
open PySem L2
theorem nZ{g:TG}{tb:TS}{um:Ends}(MF:xs.length=ys.length)(Pv:Nat->St->Hp->Prop)(h0:Pv 0 σ H)(hl:∀i σ H,i<=xs.length->Pv i σ H->SqL K H a xs/\SqL K H b ys)
  (hs:∀(i:Nat) x y σ H (p:Addr),H p=none->xs[i]?=some x->ys[i]?=some y->Pv i σ H->g (.ref p) σ (upd H p<|.tup [x,y]) λσ2 H2=>tb {um with nx:=Pv<|i+1,ct:=Pv<|i+1,bk:=um.nx} σ2 H2)(hd:∀σ H,Pv xs.length σ H->um.nx σ H):
  ∃W:Nat->Nat->St->Hp->Prop,(∃m,W 0 m σ H)/\∀i m σ H,W i m σ H->
   ((FX K a b).stop i H/\um.nx σ H)\/((FX K a b).go i H/\∃N:St->Hp->Prop,(∀σ' H',N σ' H'->∃m',m'<m/\W (i+1) m' σ' H')/\∀x H',(FX K a b).yld i H x H'->g x σ H' λσ2 H2=>tb {um with nx:=N,ct:=N,bk:=um.nx} σ2 H2):=by
 refine⟨λi m σ H=>m=xs.length-i/\i<=xs.length/\Pv i σ H,⟨xs.length,B,Ym _,h0⟩,?_⟩;rintro i m σ H ⟨rfl,hi,p⟩;obtain⟨q,q2⟩:=hl i σ H hi p;by_cases Xh:i<xs.length
 .refine .inr ⟨⟨xs,ys,xs[i],ys[i]'(by lia),q,q2,by simp[Xh],Xw ur⟩,Pv<|i+1,λσ' H' p'=>⟨xs.length-(i+1),uu,Z,Xh,p'⟩,λx H' ⟨T,u,v,hT,ex,eH,hu,hv⟩=>?_⟩;subst ex eH;exact hs i u v σ H T hT (hu xs q) (hv ys q2) p
 .have e:i=xs.length:=J;subst e;exact .inl ⟨⟨xs,ys,q,q2,.inl<|XO _⟩,hd σ H p⟩
structure TabAt (H0:Hp) (r:Addr) (n:Nat) (H:Hp) (ys:List V) (L:Ab):Prop where
 tab:H r=some (.lst ys)
 rows:Bears (LiV r H) ys L
 len:L.length=n
 all:∀l∈L,l.length=n
 nd:ys.Nodup
 new:∀A,V.ref A∈ys->H0 A=none
theorem TabAt.same(s:Same H H')(h:TabAt H0 r n H ys L):TabAt H0 r n H' ys L:=⟨s _ _ h.tab,h.rows.imp λ_ _ q=>q.same s,h.len,h.all,h.nd,h.new⟩
theorem TabAt.at(h:TabAt H0 r n H ys L){i:Nat}(hi:i<n):∃A l,ys[i]?=some (.ref A)/\L[i]?=some l/\H A=some (.lst (IL l))/\l.length=n/\H0 A=none/\A≠r:=by have hl:=h.len;obtain⟨l,e⟩:∃l,L[i]?=some l:=⟨_,Xw J⟩;obtain⟨v,e1,A,rfl,e2,e3⟩:=h.rows.2 i l e;exact⟨A,l,e1,e,e2,h.all l<|Xf e,h.new A<|Xf e1,e3⟩
theorem TabAt.put(h:TabAt H0 r n H ys L){l l':Ac}(e1:ys[i]?=some (.ref A))(e2:L[i]?=some l)(e3:A≠r)(hl:l'.length=n):TabAt H0 r n (upd H A (.lst (IL l'))) ys (L.set i l'):=by
 have hi:=(Xs.mp e2).1;have VC:=(Xs.mp e1).1
 refine⟨by rw[Zc (XI e3)];exact h.tab,⟨by rw[Lx];exact h.rows.1,λj m em=>?_⟩,by rw[Lx];exact h.len,λm hm=>?_,h.nd,h.new⟩
 .rw[Fs]at em;by_cases c:i=j
  .subst c;rw[if_pos Z,if_pos hi]at em;obtain rfl:=Yh em;exact⟨_,e1,A,Z,XS,e3⟩
  .rw[if_neg c]at em;obtain⟨v,f1,uj,rfl,f2,f3⟩:=h.rows.2 j m em;refine⟨_,f1,uj,Z,?_,f3⟩;rw[Zc]
   .exact f2
   .intro e;rw[e]at f1;exact c (Gq h.nd e1 f1)
 .rcases List.mem_or_eq_of_mem_set hm with e|e
  .exact h.all m e
  .rw[e];exact hl
theorem nY{L:Ab}{l:Ac}(hi:L[i]?=some l)(hj:j<l.length)(a b:Nat):fnL (L.set i (l.set j x)) a b=if a=i/\b=j then x else fnL L a b:=by
 have VC:=(Xs.mp hi).1;unfold fnL;by_cases ha:a=i
 .subst ha;have e1:(L.set a<|l.set j x).getD a []=l.set j x:=by rw[WJ,Fs,if_pos Z,if_pos VC];rfl
  have e2:L.getD a []=l:=by rw[WJ,hi];rfl
  rw[e1,e2];by_cases hb:b=j
  .subst hb;rw[if_pos ⟨Z,Z⟩,WJ,Fs,if_pos Z,if_pos hj];rfl
  .rw[if_neg λh=>hb h.2,WJ,Fs,if_neg<|XI hb,<-WJ]
 .have e1:(L.set i<|l.set j x).getD a []=L.getD a []:=by rw[WJ,WJ,Fs,if_neg (XI ha)]
  rw[e1,if_neg λh=>ha h.1]
theorem four{A:Mx}{u v:Nat}{w:Int}(XJ:u≠v)(a b:Nat){uj C um E:Mx}(h1:∀a b,uj a b=if a=u/\b=u then A u u+w else A a b)(h2:∀a b,C a b=if a=v/\b=v then uj v v+w else uj a b)(h3:∀a b,um a b=if a=u/\b=v then C u v-w else C a b)(h4:∀a b,E a b=if a=v/\b=u then um v u-w else um a b):E a b=A a b+w*(ind u v a*ind u v b):=by
 have nv:¬v=u:=XI XJ;unfold ind;by_cases x1:a=u
 .subst x1;by_cases y1:b=a
  .subst y1;simp[h4,h3,h2,h1,XJ,nv]
  .by_cases y2:b=v
   .subst y2;simp[h4,h3,h2,h1,XJ,nv];lia
   .simp[h4,h3,h2,h1,XJ,nv,y1,y2]
 .by_cases x2:a=v
  .subst x2;by_cases y1:b=u
   .subst y1;simp[h4,h3,h2,h1,XJ,nv];omega
   .by_cases y2:b=a
    .subst y2;simp[h4,h3,h2,h1,XJ,nv]
    .simp[h4,h3,h2,h1,XJ,nv,y1,y2]
  .simp[h4,h3,h2,h1,XJ,nv,x1,x2]
theorem nX{ps:Aa}{ws:Ac}{p:Int×Int}{w:Int}(hp:ps[i]?=some p)(hw:ws[i]?=some w):Vx (ps.take (i+1)) (ws.take (i+1))=Vx (ps.take i) (ws.take i)++[(p.1.toNat,p.2.toNat,w)]:=by
 have h1:=(Xs.mp hp).1;have h2:=(Xs.mp hw).1
 unfold Vx;rw[YL,YL,hp,hw];rw[List.zipWith_append (by rw[Yl,Yl];grind)];rfl
theorem Conn.image{f:Nat->Nat}(h:∀e∈es,Conn fs (f e.1) (f e.2))(c:Conn es i j):Conn fs (f i) (f j):=by
 induction c with
 |refl i=>exact .refl _
 |edge e=>exact h _ e
 |symm _ ih=>exact ih.symm
 |trans _ _ Pk SV=>exact Pk.trans SV
theorem nW(g:Zw n ps)(h:IsSet ps.length T)(c:∀i j,i<n.toNat->j<n.toNat->Conn (XT ps T) i j):n-1<=(T.length:Int):=by
 have g1:=g.1;have Wc:=ZO (ns:=T) g h.all
 have h2:=(UZ J Wc).mpr c;have h3:=xx _ Wc
 rw[show(XT ps T).length=T.length from Yb ..]at h3;lia
end My
namespace L2
open PySem
noncomputable def Ra(t:SetTable):Prop:=t.place.toList.Pairwise (·<·)
theorem wY{xs:Array Nat}(h:xs.toList.Pairwise (·<·)){i k a b:Nat}(nV:i<k)(ha:xs[i]?=some a)(hb:xs[k]?=some b):a<b:=by rw[<-YS]at ha hb;obtain⟨h1,e1⟩:=Xs.mp ha;obtain⟨h2,e2⟩:=Xs.mp hb;rw[<-e1,<-e2];exact GP.mp h i k h1 h2 nV
theorem nU(h:xs.toList.Pairwise (·<·)):∀f lo hi,hi-lo<=f->lo<=hi->hi<=xs.size->(∀i v,xs[i]?=some v->i<lo->v<j)->(∀i v,xs[i]?=some v->hi<=i->j<=v)->
  SetTable.below.go xs j f lo hi<=xs.size/\∀i v,xs[i]?=some v->(i<SetTable.below.go xs j f lo hi↔v<j)
 |0,lo,hi,hf,hl,hs,a,b=>by
  have e:lo=hi:=uu;unfold SetTable.below.go;refine⟨J,λi v hv=>⟨a i v hv,λhvj=>Nat.lt_of_not_le λhc=>?_⟩⟩
  have:=b i v hv J
  lia
 |f+1,lo,hi,hf,hl,hs,a,b=>by
  unfold SetTable.below.go;by_cases c:lo<hi
  .rw[if_pos c];dsimp only;obtain⟨m,hm⟩:∃m,xs[(lo+hi)/2]?=some m:=⟨_,YE J⟩;have em:xs.getD ((lo+hi)/2) j=m:=by rw[YB,hm];rfl
   rw[em];by_cases d:m<j
   .rw[if_pos d];refine nU h f _ hi uu J hs (λi v hv Wb=>?_) b;by_cases e:i=(lo+hi)/2
    .rw[e,hm]at hv;exact Yh hv▸d
    .have:=wY h (show i<(lo+hi)/2 by lia) hv hm
     lia
   .rw[if_neg d];refine nU h f lo _ uu J J a λi v hv Wb=>?_;by_cases e:i=(lo+hi)/2
    .rw[e,hm]at hv
     have:=Yh hv
     lia
    .have:=wY h (show(lo+hi)/2<i by lia) hm hv
     lia
  .rw[if_neg c];refine⟨uu,λi v hv=>⟨a i v hv,λhvj=>Nat.lt_of_not_le λhc=>?_⟩⟩
   have:=b i v hv J
   lia
theorem wX(h:xs.toList.Pairwise (·<·))(j:Nat):SetTable.below xs j<=xs.size/\∀i v,xs[i]?=some v->(i<SetTable.below xs j↔v<j):=
 nU h xs.size 0 xs.size J (Ym _) (XO _) (λi v _ h=>absurd h<|Wk _) λi v hv hi=>by rw[Qe hi]at hv;cases hv
theorem nS(h:xs.toList.Pairwise (·<·)){i v:Nat}(hv:xs[i]?=some v):SetTable.below xs v=i:=by
 obtain⟨h1,h2⟩:=wX h v;have a:¬i<SetTable.below xs v:=λq=>by have:=(h2 i v hv).mp q;lia
 refine uY J (yR λq=>?_);have Xh:=(Array.getElem?_eq_some_iff.mp hv).1
 obtain⟨u,hu⟩:∃u,xs[SetTable.below xs v]?=some u:=⟨_,YE J⟩;have b:=wY h q hu hv
 have:=(h2 _ u hu).mpr b
 lia
theorem nR(h:xs.toList.Pairwise (·<·)){i v:Nat}(hv:xs[i]?=some v):SetTable.below xs (v+1)=i+1:=by
 obtain⟨h1,h2⟩:=wX h (v+1);have a:=(h2 i v hv).mpr (Ol v)
 refine uY (yR λq=>?_) a;obtain⟨u,hu⟩:∃u,xs[i+1]?=some u:=⟨_,YE J⟩;have b:=(h2 _ u hu).mp q
 have:=wY h (Ol i) hv hu
 lia
theorem nQ(h:xs.toList.Pairwise (·<·)):SetTable.below xs 0=0:=by obtain⟨h1,h2⟩:=wX h 0;refine Nat.le_zero.mp (yR λq=>?_);obtain⟨u,hu⟩:∃u,xs[0]?=some u:=⟨_,YE J⟩;exact Wk _ ((h2 _ u hu).mp q)
noncomputable def FW(t:SetTable)(j:Nat):Prop:=t.place[SetTable.below t.place j]?≠some j
theorem nP(h:Ra t)(hn:FW t j):Ra (t.put j).1:=by
 obtain⟨h1,h2⟩:=wX h j;have up:∀i v,t.place[i]?=some v->SetTable.below t.place j<=i->j<v:=λi v hv hi=>by
  have a:¬v<j:=λq=>by have:=(h2 i v hv).mpr q;lia
  have b:v≠j:=λe=>hn (by rw[e]at hv;rwa[nS h hv]);lia
 show(SetTable.insertAt t.place (SetTable.below t.place j) j).toList.Pairwise (·<·);rw[SetTable.toList_insertAt];have dn:∀x∈t.place.toList.take (SetTable.below t.place j),x<j:=λx hx=>by
  obtain⟨i,hi⟩:=Qm hx;rw[RB]at hi;split at hi
  .rename_i q;rw[YS]at hi;exact(h2 i x hi).mp q
  .cases hi
 have ub:∀x∈t.place.toList.drop (SetTable.below t.place j),j<x:=λx hx=>by obtain⟨i,hi⟩:=Qm hx;rw[Fv,YS]at hi;exact up _ x hi (Nat.le_add_right _ _)
 refine Oq.mpr ⟨eK (List.take_sublist _ _) h,YQ.mpr ⟨ub,eK (List.drop_sublist _ _) h⟩,λa ha b hb=>?_⟩;rcases Ye.mp hb with e|e
 .rw[e];exact dn a ha
 .exact Nat.lt_trans (dn a ha) (ub b e)
theorem bI(h:t.slot j=.empty\/t.slot j=.dummy):FW t j:=λe=>by
 have e2:t.slot j=.live (SetTable.below t.place j):=by unfold SetTable.slot;dsimp only;rw[if_pos (by rw[e];simp)]
 rw[e2]at h;rcases h with h|h<;>cases h
theorem nO{f:Nat->Int}:∀n p j d,(∀e,p.dummy=some e->FW t e)->SetTable.probe.go t f h n p=some (.empty j d)->FW t j/\∀e,d=some e->FW t e
 |0,p,j,d,_,h=>by cases h
 |n+1,p,j,d,hp,h=>by
  have bH:∀q:SetTable.Probe,(t.advance q).dummy=q.dummy:=λq=>by unfold SetTable.advance;split<;>rfl
  unfold SetTable.probe.go at h;split at h
  .rename_i hs;cases h;exact⟨bI<|.inl hs,hp⟩
  .rename_i hs;exact nO n _ j d (λe he=>by rw[bH]at he;cases he;exact bI<|.inr hs) h
  .split at h
   .cases h
   .exact nO n _ j d (λe he=>hp e<|by rwa[bH]at he) h
theorem nN{b:Bool}(e:t.freeSlot h=some (s,b)):FW t s:=by
 unfold SetTable.freeSlot at e;split at e
 .rename_i j d hp;obtain⟨a1,a2⟩:=nO _ _ j d (λe he=>by cases he) hp;have e1:=XB Prod.fst (Yh e)
  dsimp only at e1;rw[<-e1];cases d with
  |none=>exact a1
  |some x=>exact a2 x rfl
 .cases e
theorem wW(t:SetTable)(n:Nat):Ra (t.standIn n):=by show(Array.range n).toList.Pairwise (·<·);rw[Array.toList_range];exact Qf
theorem nM(h:Ra t)(es:Array (Int×Value))(k:Int)(x:Value):Ra (layNew t es k x).2.1/\(layNew t es k x).2.1.led=t.led:=by
 unfold layNew;split
 .rename_i s b e;dsimp only;unfold SetTable.orStandIn;split
  .exact⟨nP h<|nN e,Z⟩
  .exact⟨wW _ _,Z⟩
 .exact⟨wW _ _,Z⟩
theorem Zm8(h:Ra t)(es:Array (Int×Value))(n:Nat):Ra (relayAll t es n).2.1/\(relayAll t es n).2.1.led=t.led:=by
 unfold relayAll;split
 .rename_i t' order e;dsimp only;split
  .unfold SetTable.relaid SetTable.laid at e;cases ho:SetTable.layClean (SetTable.sizeAbove n-1) (es.map (·.1)) with
   |none=>rw[ho]at e;cases e
   |some owner=>
    rw[ho]at e;have e1:=XB Prod.fst (Yh e)
    dsimp only at e1;rw[<-e1];refine⟨?_,Z⟩;show(List.map _<|List.filterMap _ _).toArray.toList.Pairwise (·<·)
    rw[List.toList_toArray,LD,List.pairwise_filterMap];refine Qf.imp λ{a b} Vy x hx y hy=>?_;have ex:x.1=a:=by
     cases q:owner.getD a none with
     |none=>rw[q]at hx;cases hx
     |some z=>rw[q]at hx;cases hx;rfl
    have ey:y.1=b:=by
     cases q:owner.getD b none with
     |none=>rw[q]at hy;cases hy
     |some z=>rw[q]at hy;cases hy;rfl
    rwa[ex,ey]
  .exact⟨wW _ _,Z⟩
 .exact⟨wW _ _,Z⟩
end L2
namespace L2
open PySem PySem.Spec PyProof.Rows
noncomputable def SetR(P:Program)(w:World)(h:Heap)(a:Addr)(led:Bool)(uo:Int->Bool)(n:Nat):Prop:=
 ∃o es ep t,h.get? a=some o/\o.ExactSet/\o.data=.set es ep t/\ElemsOf (intKind P w) es.toList/\(∀z,uo z=true↔∃y∈es.toList,(intKind P w).is z y.2=true)/\es.size<scanBound/\t.fits es.size=true/\es.size=n/\Ra t/\t.led=led
theorem SetR.at{uo:Int->Bool}(q:SetR P w h a led uo n)(k:∀o,h.get? a=some o->h'.get? a=some o):SetR P w h' a led uo n:=
 let ⟨o,es,ep,t,ho,r⟩:=q
 ⟨o,es,ep,t,k o ho,r⟩
section
variable{prog:Program}{w:World}{A:Around}{E:Ae}{s:Shared}
theorem bG{h:Heap}{o:Obj}{es:Array (Int×Value)}{ep:Nat}{t:SetTable}(ho:h.get? a=some o)(hx:o.ExactSet)(hd:o.data=.set es ep t)(fs:Array (Int×Value))(u:SetTable):
  (h.update a<|Obj.putSet fs u).get? a=some {o with data:=.set fs (ep+1) u}/\({o with data:=.set fs (ep+1) u}:Obj).ExactSet:=by have q:=Vk (Obj.putSet fs u) ho (by rw[putSet_of fs u hd];rfl);rw[putSet_of fs u hd]at q;exact⟨q,hx⟩
theorem nL{gv:Bool->Sem Unit}(hgv:∀b s1 R,R () s1->wpAny (model prog w) A (gv b) R E s1)
 {o:Obj}{es fs:Array (Int×Value)}{ep:Nat}{t u:SetTable}(ho:s.heap.get? a=some o)(hx:o.ExactSet)(hd:o.data=.set es ep t)
  {uo:Int->Bool}(he:ElemsOf (intKind prog w) fs.toList)(hm:∀z,uo z=true↔∃y∈fs.toList,(intKind prog w).is z y.2=true)(hb:fs.size<scanBound)(hf:u.fits fs.size=true)(hr:Ra u){dm:Bool}{R:Option Bool->Shared->Prop}
  (k:∀h',Heap.SameBut a s.heap h'->SetR prog w h' a u.led uo fs.size->R (some true) {s with heap:=h'}):
  wpAny (model prog w) A (do
   storeSet a fs u
   if (!dm&&u.tooFull)=true then do
    gv (relayAll u fs<|SetTable.grown fs.size).2.2
    storeSet a (relayAll u fs<|SetTable.grown fs.size).1 (relayAll u fs<|SetTable.grown fs.size).2.1
    pure (some true)
   else pure (some true)) R E s:=by
 obtain⟨h1,x1⟩:=bG ho hx hd fs u;have b1:=LF s.heap a (Obj.putSet fs u)
 refine XU (wpAny_storeSet_of ho hd ?_<|fits_of_scanBound hb);by_cases c:(!dm&&u.tooFull)=true
 .rw[if_pos c];have p:=relayAll_perm u fs (SetTable.grown fs.size)
  have f:=relayAll_fits u fs (SetTable.grown fs.size);obtain⟨r,l⟩:=Zm8 hr fs (SetTable.grown fs.size);generalize relayAll u fs (SetTable.grown fs.size)=t9 at p f r l ⊢;obtain⟨gs,v,gave⟩:=t9;dsimp only at p f r l ⊢;have ez:gs.size=fs.size:=by rw[<-YC,p.length_eq,YC]
  obtain⟨h2,x2⟩:=bG h1 x1 Z gs v;refine XU (hgv _ _ _<|XU<|wpAny_storeSet_of h1 Z (Yk ?_)<|fits_of_scanBound<|by rwa[ez]);exact k _ (b1.trans<|LF _ a _) ⟨_,gs,_,v,h2,x2,Z,he.perm p,λz=>(hm z).trans ⟨λzz=>by obtain⟨y,hy,q⟩:=zz;exact⟨y,p.mem_iff.mpr hy,q⟩,λzz=>by obtain⟨y,hy,q⟩:=zz;exact⟨y,p.mem_iff.mp hy,q⟩⟩,by rw[ez];exact hb,f,ez,r,l⟩
 .rw[if_neg c];exact Yk (k _ b1 ⟨_,fs,_,u,h1,x1,Z,he,hm,hb,hf,Z,hr,Z⟩)
theorem nK{uo:Int->Bool}{z:Int}{x:Value}{R:Bool->Shared->Prop}(hz:(intKind prog w).is z x=true)(QC:x.scannable=true)(hS:SetR prog w s.heap a led uo n)(room:n+1<scanBound)
  (k:∀h',Heap.SameBut a s.heap h'->SetR prog w h' a led (λy=>uo y||decide (y=z)) (if uo z then n else n+1)->R (!uo z) {s with heap:=h'}):
  wpAny (model prog w) A (setAddHashed a x<|(intKind prog w).hash z) R E s:=by
 obtain⟨o,es,ep,t,ho,hx,hd,he,hm,hb,hf,hn,hr,hl⟩:=hS;unfold setAddHashed setAddHashedIn;refine Sf (XU<|GI ho hd hf ?_);dsimp only;rw[if_pos (byScan_of QC hb he)];unfold setAddByScan;refine XU (XU<|EY<|XU<|wpAny_setScan_of hz ho hd hf he ?_);cases hw:List.findIdx? (λy=>(intKind prog w).is z y.2) es.toList with
 |some j=>
  obtain⟨j1,j2,_⟩:=List.findIdx?_eq_some_iff_getElem.mp hw;have yes:uo z=true:=(hm z).mpr ⟨es.toList[j],Ny j1,j2⟩
  have fin:=k s.heap (Heap.SameBut.refl a s.heap) ⟨o,es,ep,t,ho,hx,hd,he,λy=>by rw[uR,JW,<-hm y];exact⟨λq=>q.elim id λq=>q▸yes,.inl⟩,hb,hf,by rw[yes];exact hn,hr,hl⟩
  rw[yes]at fin;dsimp only;exact Yk (Yk fin)
 |none=>
  have no:uo z=false:=Nk.mpr λq=>by
   obtain⟨y,hy,hp⟩:=(hm z).mp q
   have:=List.findIdx?_eq_none_iff.mp hw y hy
   rw[hp]at this;cases this
  dsimp only;have p:=layNew_perm t es ((intKind prog w).hash z) x
  have f:=layNew_fits t es ((intKind prog w).hash z) x;obtain⟨r,l⟩:=nM hr es ((intKind prog w).hash z) x;generalize layNew t es ((intKind prog w).hash z) x=t9 at p f r l ⊢;obtain⟨fs,u,dm,gave⟩:=t9;dsimp only at p f r l ⊢;rw[vd]at p;have ez:fs.size=n+1:=by rw[<-YC,p.length_eq,Xt,YC,hn];rfl
  have gw:∀(b:Bool){s1:Shared}{R':Unit->Shared->Prop},R' () s1->wpAny (model prog w) A (match b with|true=>rule "set.scan.the-table-gave-way" | false=>pure ()) R' E s1:=λb s1 R' q=>by
   cases b
   .exact Yk q
   .exact EY q
  have fin:∀h',Heap.SameBut a s.heap h'->SetR prog w h' a led (λy=>uo y||decide (y=z)) fs.size->R true {s with heap:=h'}:=λh' q1 q2=>by have q:=k h' q1;rw[no]at q;rw[ez]at q2;exact q q2
  have Ih:=(he.push hz QC).perm p;have Tw:∀y,(uo y||decide (y=z))=true↔∃v∈fs.toList,(intKind prog w).is y v.2=true:=mem_push_iff hz hm p
  have wV:fs.size<scanBound:=J;refine XU (gw _ ?_);have tail:∀v:SetTable,v.fits fs.size=true->Ra v->v.led=led->wpAny (model prog w) A (do
    storeSet a fs v
    if (!dm&&v.tooFull)=true then do
     (match (relayAll v fs<|SetTable.grown fs.size).2.2 with|true=>rule "set.scan.the-table-gave-way" | false=>pure ())
     storeSet a (relayAll v fs<|SetTable.grown fs.size).1 (relayAll v fs<|SetTable.grown fs.size).2.1
     pure (some true)
    else pure (some true)) (λy s1=>wpAny (model prog w) A (match y with|some added=>pure added|none=>setAddHashedIn a x ((intKind prog w).hash z) 99999) R E s1) E s:=λv a1 a2 a3=>
   nL (gv:=λb=>match b with|true=>rule "set.scan.the-table-gave-way" | false=>pure ()) (λb s1 R' q=>gw b q) ho hx hd Ih Tw wV a1 a2 λh' q1 q2=>Yk (fin h' q1<|a3▸q2)
  split
  .refine XU ?_;rw[hashByValue_scannable 8 QC];refine Yk ?_;split
   .exact tail u f r (l.trans hl)
   .exact tail _ (SetTable.fits_plain_off f) r (l.trans hl)
  .refine XU (Yk ?_);rw[if_pos Z];exact tail u f r (l.trans hl)
end
section
variable{prog:Program}{w:World}{A:Around}{R:Result->Shared->Prop}{I:Addr}{fp wr:List Addr}{G:Array GenState->Array GenState->Prop}{n:Nat}{P:Nat->Value->Prop}{St:Nat->Shared->Prop}
theorem bF(W:WalksS prog w A.in1 I fp wr G n P St)(b:Addr)(KO:b∉fp)(val:Nat->Int)(hv:∀i v,P i v->∃t,v=.int (val i) t)(hn:n+1<scanBound):
  ∀k i s,n-i=k->i<=n->St i s->SetR prog w s.heap b led (λz=>(firstMet val i).any (· == z)) (firstMet val i).length->
   (∀s',Moved (b::wr) G s s'->SetR prog w s'.heap b led (λz=>(firstMet val n).any (· == z)) (firstMet val n).length->R (.ok<|.ret .none) s')->
   codeAny (model prog w) A (.builtin "set.update.loop" ⟨[.ref b,.ref I],[]⟩) R s
 |0,i,s,hk,hi,st,hS,q=>by
  have e:i=n:=uu;subst e;refine Sh F.entry_set_update_loop ?_;rw[JX vc _];show wpAny _ A.in1 (pyNext (.ref I) >>= _) _ _ s
  refine XU (W.done s _ _ st λs1 m=>?_);show wpAny _ A.in1 (ret Value.none) _ _ s1
  exact Yk (q s1 (m.mono λc hc=>.tail _ hc)<|hS.at λo ho=>m.heap b o (λhc=>KO<|W.sub _ hc) ho)
 |k+1,i,s,hk,hi,st,hS,q=>by
  have Xh:i<n:=uu;refine Sh F.entry_set_update_loop ?_;rw[JX vc _];show wpAny _ A.in1 (pyNext (.ref I) >>= _) _ _ s
  refine XU (W.item i s _ _ Xh st λv s1 hP Ja m=>?_);obtain⟨t,rfl⟩:=hv i v hP;have Cv:=hS.at (h':=s1.heap) λo ho=>m.heap b o (λhc=>KO<|W.sub _ hc) ho
  show wpAny _ A.in1 (holding [Value.int (val i) t] (setAdd b<|.int (val i) t) >>= _) _ _ s1;refine XU (Sf ?_);unfold setAdd;refine Sf (XU<|(intKind prog w).pyHash (k:=val i) (intKind_is _ _ _ _) ?_);have fm:=firstMet_length_le val i
  refine nK (s:={s1 with toks:=s1.toks+1}) (intKind_is _ _ _ _) Z Cv J λh2 sb Dm=>?_;have hS3:SetR prog w h2 b led (λz=>(firstMet val<|i+1).any (· == z)) (firstMet val<|i+1).length:=by
   have e1:(λz=>(firstMet val<|i+1).any (· == z))=λy=>((firstMet val i).any (· == y)||decide (y=val i)):=funext λy=>by rw[firstMet_succ,step_any]
   rwa[e1,firstMet_succ,step_length]
  have kept:∀c o,c≠b->s1.heap.get? c=some o->h2.get? c=some o:=λc o hc e=>(sb.2 c hc).trans e;refine Yk ⟨Ur vc _,bF W b KO val hv hn k (i+1) _ uu Xh (W.frame _ s1 _ _ Ja (Uc _) λc hc o e=>kept c o (λe'=>KO<|e'▸hc) e) hS3 λs2 m2 hS4=>?_⟩;exact q s2 (Moved.trans W.gtrans ((m.mono λc hc=>.tail _ hc).then_heap (Uc _) λc o hc e=>kept c o (λe'=>hc<|e'▸.head _) e) m2) hS4
end
section
variable{prog:Program}{w:World}{A:Around}{E:Ae}{s:Shared}
noncomputable def KN (w:World):Obj:={cls:=.type "set",dict:=none,data:=.set #[] 0 (.fresh 0 0<|!w.params.followText "set-order")}
theorem nJ(a:Value){Q:Ae}(k:Q (.ref s.heap.objs.size) {s with heap:=s.heap.push (KN w)}):
  codeAny (model prog w) A (.call (.builtin "set.__new__") ⟨[.type "set",a],[]⟩) (wants Q E) s:=by
 refine codeAny_of_tree ?_;show wpAny _ A.in1 (checkBuiltinCall "set.__new__" ⟨[.type "set",a],[]⟩ >>= λ_=>again<|.builtin "set.__new__" ⟨[.type "set",a],[]⟩) _ _ s
 refine XU (Nn (F.newCall_set_1 a)<|Yk ⟨Ur F.plain_set_new _,Sh F.entry_set_new ?_⟩);rw[JX F.plain_set_new _];have CU:=sub_set_self
 unfold Builtin.«set.__new__» Builtin.Frozenset.newClass;obtain⟨hp,g,d,tk,os⟩:=s;dsimp only
 wp_walk
 refine GG (Yk ?_);simp only[newObj];refine XU (wpAny_alloc<|Yk<|Yk k)
theorem Zn8 (e:h.get? a=some (KN w)):SetR prog w h a (!w.params.followText "set-order") (λz=>(firstMet (λ_=>0) 0).any (· == z)) 0:=by refine⟨_,#[],0,_,e,⟨Z,Z,Z⟩,Z,λy hy=>(by cases hy),λz=>⟨λq=>(by cases q),λzz=>by obtain⟨y,hy,_⟩:=zz;exact(by cases hy)⟩,S,by simp[SetTable.fits,SetTable.fresh,SetTable.fill],Z,.nil,Z⟩
theorem nI{h0:Heap}{Q:Ae}(hh:A.handled=none)(Mv:h0.get? b=some (KN w))(hl:h0.IsList l items)(XJ:l≠b)(hi:IntsAre items.toList ns)(hn:items.size+1<scanBound)
  (k:∀h' tk,SetR prog w h' b (!w.params.followText "set-order") (λz=>(firstMet (λi=>ns.getD i 0) items.size).any (· == z)) (firstMet (λi=>ns.getD i 0) items.size).length->(∀c o,c≠b->h0.get? c=some o->h'.get? c=some o)->Q .none {s with heap:=h',toks:=tk}):
  wpAny (model prog w) A.in1 (Builtin.«set.__init__» ⟨[.ref b,.ref l],[]⟩) (λfin s'=>match fin with | .done f=>wants Q E (.ok f) s' | .again c'=>c'.quiet=true/\codeAny (model prog w) A c' (wants Q E) s') (λe s'=>wants Q E (.error e) s') {s with heap:=h0}:=by
 have hT:Shared.TypeIs {s with heap:=h0} (.ref b) "set":=⟨_,Mv,Z⟩;have Qw:=hl
 obtain⟨⟨ocls,bE,bD,nH⟩,QB,Pa,nl,nG⟩:=hl;simp only at Pa nG;subst Pa nG;have q1:=F.sub_list_set
 have q2:=F.sub_list_frozenset;have q3:(Value.type "list" == Value.type "dict")=false:=S
 unfold KN at Mv;unfold Builtin.«set.__init__» noKeywords Builtin.Frozenset.updateFrom;generalize hPI:pyIter=PI
 wp_walk
 subst hPI;refine yN Qw ?_;refine XU (yG ?_);have nF:l<h0.objs.size:=Yp QB
 have ltb:b<h0.objs.size:=Yp Mv;have bf:b∉[h0.objs.size,l]:=λq=>by
  rcases Ye.mp q with e|e
  .exact Yy ltb e
  .exact XJ (XF.mp e).symm
 refine bF ((Walks.list (A:=A.in1.in1) (by simp[hh]) _ l (Yy nF) items).toS) b bf (led:=!w.params.followText "set-order") (λi=>ns.getD i 0) (λi v hv=>IntsAre.int_at hi i v<|by rw[YS];exact hv) hn (items.size-0) 0 _ J (Ym _)
  ⟨⟨_,Yj _ Z,Z,Z⟩,Qw.push _⟩ ?_ ?_
 .exact Zn8 (Xb _ Mv)
 .rintro⟨h',g',d',tk',sS⟩ m hS;have e1:g'=s.gens:=m.gens
  have e2:d'=s.drawn:=m.drawn;have e3:sS=s.os:=m.os
  subst e1 e2 e3;show wpAny _ _ _ _ _ _
  refine Yk ?_;show wpAny _ _ (ret Value.none) _ _ _
  refine Yk (k h' tk' hS λc o hc e=>m.heap c o (λq=>?_)<|Xb _ e);rcases Ye.mp q with e'|e'
  .exact hc e'
  .exact Yy (Yp e) (XF.mp e')
set_option maxRecDepth 100000 in
set_option maxHeartbeats 3000000 in
theorem nE{Q:Ae}(hh:A.handled=none)(hl:s.heap.IsList l items)(hi:IntsAre items.toList ns)(hn:items.size+1<scanBound)
  (k:∀h' tk,SetR prog w h' s.heap.objs.size (!w.params.followText "set-order") (λz=>(firstMet (λi=>ns.getD i 0) items.size).any (· == z)) (firstMet (λi=>ns.getD i 0) items.size).length->(∀c o,s.heap.get? c=some o->h'.get? c=some o)->Q (.ref s.heap.objs.size) {s with heap:=h',toks:=tk}):
  wpAny (model prog w) A (call (.type "set") [.ref l]) Q E s:=by
 obtain⟨c,tl,hmro⟩:=Lu.mro;have a1:=Lu.made
 have a2:=Lu.sub;have a3:=Lu.notType
 have a4:=Lu.canCreate;have a5:=F.typeCall_set_1 (.ref l)
 refine Gz (codeAny_of_tree ?_);show wpAny _ _ (callAny (.type "set") _) _ _ _
 refine Yk ⟨yP _ D,Sh F.entry_type_call ?_⟩;rw[Around.under_plain (weight_type_call_type "set" [.ref l] []) Z]
 repeat any_goals first|assumption|wp_step
 refine Nr (nJ (.ref l) (E:=E) (Q:=λob s1=>ob=.ref s.heap.objs.size/\s1={s with heap:=s.heap.push (KN w)}) ⟨Z,Z⟩) λr s1 hr=>?_
 match r,hr with
 | .error e,hr=>exact hr
 | .ok (.ret ob),hr=>
  obtain⟨rfl,rfl⟩:=hr;have Mv:(s.heap.push<|KN w).get? s.heap.objs.size=some (KN w):=Yj _ rfl
  have hT:Shared.TypeIs {s with heap:=s.heap.push (KN w)} (.ref s.heap.objs.size) "set":=⟨_,Mv,Z⟩;have a6:=Lu.init.lookup
  have a7:=Lu.init.bind (.ref s.heap.objs.size)
  repeat any_goals first|assumption|wp_step
  have nF:l<s.heap.objs.size:=by obtain⟨_,e,_⟩:=hl;exact Yp e
  refine Nr (codeAny_call_builtin (R:=wants (λr s2=>r=.none/\Q (.ref s.heap.objs.size) s2) E) Lu.init.plain F.entry_set_init<|check_set_init_1 hT<|nI (A:=_) (s:=s) ?_ Mv (hl.push _) (Yy nF) hi hn λh' tk hS kp=>⟨Z,k h' tk hS λc o e=>kp c o (Yy<|Yp e)<|Xb _ e⟩) λr2 s2 VV=>?_
  .simp[hh]
  .match r2,VV with
   | .error e,VV=>exact VV
   | .ok (.ret v),VV=>
    obtain⟨rfl,q⟩:=VV
    repeat any_goals first|assumption|wp_step
end
theorem bC:Manifest.owners.lookup (String.ofList ['r','o','t','a','r','e','t','i','_','t','e','s'].reverse)=some Manifest.sig_set_iterator:=by kernel_rfl
theorem WZ:PySem.Slot "set_iterator" "__next__" "set_iterator.__next__":=
 .of (owner:="set_iterator") (n:="__next__") (by rw[GF,GN];kernel_rfl) D D D
  (by first|exact .inl D|exact .inr D) (by rw[yD];kernel_rfl)
theorem wU:entryFor table "set_iterator.__next__"=some Builtin.«set_iterator.__next__»:=entryFor_of_tree uz
theorem wR (a:Value):argsOk "set_iterator.__next__" ⟨[a],[]⟩:=by unfold argsOk;rw[signature?_of (id:="set_iterator.__next__") (n:=['_','_','t','x','e','n','_','_']) (o:=['r','o','t','a','r','e','t','i','_','t','e','s']) uz bC];kernel_rfl
theorem bB:PySem.Slot "set_iterator" "__iter__" "set_iterator.__iter__":=
 .of (owner:="set_iterator") (n:="__iter__") (by rw[GF,GN];kernel_rfl) D D D
  (by first|exact .inl D|exact .inr D) (by rw[yD];kernel_rfl)
theorem nB (a:Value):argsOk "set_iterator.__iter__" ⟨[a],[]⟩:=by unfold argsOk;rw[signature?_of (id:="set_iterator.__iter__") (n:=['_','_','r','e','t','i','_','_']) (o:=['r','o','t','a','r','e','t','i','_','t','e','s']) uz bC];kernel_rfl
theorem nz:entryFor table "set_iterator.__iter__"=some Builtin.«dict_keyiterator.__iter__»:=
 entryFor_alias (id':="dict_keyiterator.__iter__") uz (by first|rfl|decide +kernel|(unfold String.splitOn;simp +decide [String.splitOnAux])) D uz
theorem ny:Manifest.owners.lookup (String.ofList ['t','e','s'].reverse)=some Manifest.sig_set:=by kernel_rfl
theorem bA:PySem.Slot "set" "__iter__" "set.__iter__":=
 .of (owner:="set") (n:="__iter__") (by rw[GF,GN];kernel_rfl) D D D
  (by first|exact .inl D|exact .inr D) (by rw[yD];kernel_rfl)
theorem nu (a:Value):argsOk "set.__iter__" ⟨[a],[]⟩:=by unfold argsOk;rw[signature?_of (id:="set.__iter__") (n:=['_','_','r','e','t','i','_','_']) (o:=['t','e','s']) uz ny];kernel_rfl
theorem nt:entryFor table "set.__iter__"=some Builtin.«frozenset.__iter__»:=
 entryFor_alias (id':="frozenset.__iter__") uz (by first|rfl|decide +kernel|(unfold String.splitOn;simp +decide [String.splitOnAux])) D uz
noncomputable def IsSi (h:Heap) (I a:Addr) (f:Value) (i n ep:Nat):Prop:=∃o,h.get? I=some o/\o.cls=.type "set_iterator"/\o.data=.fields #[f,rawInt (i:Int),.ref a,rawInt (n:Int),rawInt (ep:Int)]
theorem IsSi.ty {s:Shared} (x:IsSi s.heap I a f i n ep):s.TypeIs (.ref I) "set_iterator":=by obtain⟨o,p,q,_⟩:=x;exact⟨o,p,q⟩
theorem IsSi.keep(x:IsSi h I a f i n ep)(e:∀o,h.get? I=some o->h'.get? I=some o):IsSi h' I a f i n ep:=by obtain⟨o,p,q⟩:=x;exact⟨o,e _ p,q⟩
noncomputable def SetIs(h:Heap)(a:Addr)(es:Array (Int×Value))(ep:Nat)(t:SetTable):Prop:=∃o,h.get? a=some o/\o.ExactSet/\o.data=.set es ep t
theorem SetIs.keep(x:SetIs h a es ep t)(e:∀o,h.get? a=some o->h'.get? a=some o):SetIs h' a es ep t:=by obtain⟨o,p,q⟩:=x;exact⟨o,e _ p,q⟩
section
variable{prog:Program}{w:World}{A:Around}{E:Ae}{s:Shared}
theorem ZY7{Q:Nat->Shared->Prop}(hn:n≠0)(k:∀i,i<n->∀d,Q i {s with drawn:=d}):wpAny M A (choose src n) Q E s:=
 λΓ p _=>⟨hn,k _ (Nat.mod_lt _<|Nat.pos_of_ne_zero hn) _⟩
theorem nr{α:Type}:∀{l:List α}{i:Nat}{y:α},l[i]?=some y->(y::l.eraseIdx i).Perm l
 |[],_,_,h=>by simp at h
 |x::l,0,y,h=>by obtain rfl:x=y:=Yh h;exact .rfl
 |x::l,i+1,y,h=>(List.Perm.swap x y<|l.eraseIdx i).trans ((nr (l:=l) (i:=i) h).cons x)
theorem bz{α:Type}:∀(n:Nat)(xs:List α)(s:Shared)(Q:List α->Shared->Prop),n=xs.length->(∀ys d,ys.Perm xs->Q ys {s with drawn:=d})->wpAny M A (drawOrder n xs) Q E s
 |0,xs,s,Q,h,k=>by have e:xs=[]:=YZ.mp h.symm;subst e;exact Yk (k [] s.drawn .rfl)
 |n+1,[],s,Q,h,k=>by cases h
 |n+1,x::xs,s,Q,h,k=>by show wpAny M A (choose .order (x::xs).length >>= _) Q E s;refine XU (ZY7 B λi hi d=>?_);obtain⟨y,hy⟩:∃y,(x::xs)[i]?=some y:=⟨_,Xw hi⟩;rw[hy];dsimp only;refine XU (bz n ((x::xs).eraseIdx i) _ _ (by rw[fv hi];lia) λys d' hp=>Yk<|k (y::ys) d' ?_);exact(hp.cons y).trans (nr hy)
theorem bw{α:Type}{f:Nat->Nat}:∀(n k:Nat)(l:List α)(out:Array α),n=l.length->(pickOrder.go f n k l out).toList.Perm (out.toList++l)
 |0,k,l,out,h=>by rw[YZ.mp h.symm,YH];exact .rfl
 |n+1,k,l,out,h=>by have hi:f k%l.length<l.length:=Nat.mod_lt _ J;obtain⟨y,hy⟩:∃y,l[f k%l.length]?=some y:=⟨_,Xw hi⟩;unfold pickOrder.go;rw[hy];dsimp only;refine(bw n (k+1) _ _<|by rw[fv hi];lia).trans ?_;rw[vd,QJ];refine List.Perm.append_left _ ?_;exact nr hy
theorem bu{Q:Ae}(hr:IsSi s.heap I a f i n ep)(h:Q (.ref I) s):wpAny (model prog w) A (pyIter (.ref I)) Q E s:=by
 refine wpAny_pyIter_slot hr.ty bB (Ly bB hr.ty nz ?_<|nB _);show wpAny _ _ (ret<|.ref I) _ _ s
 exact Yk ⟨_,Z,"set_iterator",_,hr.ty,WZ.lookup,h⟩
noncomputable def FV(prog:Program)(w:World)(a:Addr)(es:Array (Int×Value))(ep:Nat)(t:SetTable)(ord:Ag)(sl:Nat->Nat):Prop:=
 ∀A E s i Q,SetIs s.heap a es ep t->i<=ord.length->Q ((ord[i]?).map λx=>(x,sl<|i+1)) s->wpAny (model prog w) A (setNext a (sl i) i ep) Q E s
theorem nq{sl:Nat->Nat}{i:Nat}{x:Value}{Q:Option Value->Shared->Prop}(hN:FV prog w a es ep t ord sl)(hS:SetIs s.heap a es ep t)(hf:t.fits es.size=true)(hi:IsSi s.heap I a (rawInt (sl i:Nat)) i es.size ep)(hx:ord[i]?=some x)
  (k:∀h',IsSi h' I a (rawInt (sl (i+1):Nat)) (i+1) es.size ep->Heap.SameBut I s.heap h'->Q (some x) {s with heap:=h'}):wpAny (model prog w) A (pyNext<|.ref I) Q E s:=by
 obtain⟨o,ho,hc,hd⟩:=id hi;obtain⟨oa,KL,nj,QZ⟩:=id hS;unfold pyNext;refine XU (Fd<|yW (name:=Str.ofString "__next__") hi.ty WZ<|Ly WZ hi.ty wU ?_<|wR _);unfold Builtin.«set_iterator.__next__»;refine XU (Nn (a:=(Value.ref I,[])) Z ?_);dsimp only;refine XU (yE ho hd ?_);dsimp only[rawInt];refine XU (Ft KL QZ hf ?_);rw[if_neg B];rw[YD,YD,YD];refine XU (hN _ _ s i _ hS (Nt (Xs.mp hx).1) ?_);rw[hx];dsimp only[Option.map_some];refine XU (GC ho hd B ?_);have SE:=Vk (Obj.mapFields λvs=>vs.setIfInBounds 0<|rawInt (sl (i+1):Nat)) ho (yV<|Oo hd _)
 refine XU (GC SE (Oo hd _) B ?_);refine Yk ⟨x,Z,Yk<|k _ ⟨_,Vk _ SE<|yV<|Oo (Oo hd _) _,?_,?_⟩<|(LF ..).trans (LF ..)⟩
 .rw[uQ,uQ];exact hc
 .rw[Oo (Oo hd _)];simp;rfl
theorem Cu{sl:Nat->Nat}{Q:Option Value->Shared->Prop}(hh:A.handled=none)(hN:FV prog w a es ep t ord sl)(hS:SetIs s.heap a es ep t)(hf:t.fits es.size=true)(hi:IsSi s.heap I a (rawInt (sl ord.length:Nat)) ord.length es.size ep)
  (k:∀h',Heap.ExtBut I s.heap h'->Q none {s with heap:=h'}):wpAny (model prog w) A (pyNext<|.ref I) Q E s:=by
 obtain⟨o,ho,hc,hd⟩:=id hi;obtain⟨oa,KL,nj,QZ⟩:=id hS;unfold pyNext;refine XU (Fd<|yW (name:=Str.ofString "__next__") hi.ty WZ<|Ly WZ hi.ty wU ?_<|wR _);unfold Builtin.«set_iterator.__next__»;refine XU (Nn (a:=(Value.ref I,[])) Z ?_);dsimp only;refine XU (yE ho hd ?_);dsimp only[rawInt];refine XU (Ft KL QZ hf ?_);rw[if_neg B];rw[YD,YD,YD];refine XU (hN _ _ s ord.length _ hS (XO _) ?_);rw[Vv (XO _)];dsimp only[Option.map_none];refine XU (GC ho hd B ?_);show wpAny _ _ (newExc (.type "StopIteration") [] >>= _) _ _ _
 refine XU ?_;simp only[newExc,newTuple];refine XU (Nz ?_<|by size_fits);refine XU (m:=firstArgMember _ _) (Nn (a:=Value.none) (by first|rfl|(simp only[firstArgMember];rfl)) ?_)
 refine Nz ?_ (by size_fits);simp only[raiseNew];refine XU (wpAny_handled ?_);rw[show A.in1.handled=none from hh];refine XU (Yk<|wpAny_throw ?_);refine XU (yK (T:="StopIteration") (b:=true) ⟨_,Yj _ Z,Z⟩ isSubtype_stop ?_);exact Yk (k _<|(((LF ..).extBut).push _).push _)
theorem ni{sl:Nat->Nat}(hh:A.handled=none)(hN:FV prog w a es ep t ord sl)(hf:t.fits es.size=true)(XJ:a≠I):
  Walks prog w A I [I,a] [I] ord.length (λi v=>ord[i]?=some v) (λi h=>i<=ord.length/\IsSi h I a (rawInt (sl i:Nat)) i es.size ep/\SetIs h a es ep t) where
 sub:=λb hb=>Ye.mpr (.inl<|XF.mp hb)
 frame:=λ_ _ _ x hk=>⟨x.1,x.2.1.keep λo e=>hk I B o e,x.2.2.keep λo e=>hk a B o e⟩
 item:=λi s Q E hi ⟨_,x1,x2⟩ hQ=>by have hx:ord[i]?=some (ord[i]'hi):=Xw hi;exact nq hN x2 hf x1 hx λh' y hs=>hQ _ h' s.toks hx ⟨hi,y,x2.keep λo e=>(hs.2 a XJ).trans e⟩ λb o hb eo=>hs.extBut b o (λe=>hb<|by simp[e]) eo
 done:=λs Q E zz hQ=>by obtain⟨_,x1,x2⟩:=zz;exact Cu hh hN x2 hf x1 λh' he=>hQ h' s.toks λb o hb eo=>he b o (λe=>hb<|by simp[e]) eo
 self:=λ_ _ _ _ x hQ=>bu x.2.1 hQ
theorem nh (hf:t.fits es.size=true) (hr:Ra t) (hb:w.params.followText "set-order"=false) (hl:t.led=true) (hd:(!t.plain&&decide (es.size>1))=false):
  FV prog w a es ep t (es.toList.map (·.2)) (λi=>if i=0 then 0 else (t.place.getD (i-1) 0)+1):=by
 intro A E s i Q ⟨o,ho,hx,QZ⟩ hi q;have hps:t.place.size=es.size:=by unfold SetTable.fits at hf;simp only[Lz,Sd]at hf;exact hf.1
 rw[Yb,YC]at hi;unfold setNext;refine XU (GI ho QZ hf ?_);dsimp only;refine XU ?_;unfold setsByText;refine XU (GG<|Yk ?_);show wpAny _ _ (if (w.params.followText "set-order")=true then _ else _) _ _ _
 rw[if_neg (by rw[hb];decide)];show wpAny _ _ (if (!t.plain&&decide (es.size>1))=true then _ else _) _ _ _
 rw[if_neg (by rw[hd];decide)];refine XU ?_;show wpAny _ _ (if (!t.led && !es.isEmpty)=true then _ else _) _ _ _
 rw[if_neg (by rw[hl];simp)];refine Yk ?_;have eb:SetTable.below t.place (if i=0 then 0 else (t.place.getD (i-1) 0)+1)=i:=by
  by_cases c:i=0
  .rw[if_pos c,c];exact nQ hr
  .rw[if_neg c];obtain⟨v,hv⟩:∃v,t.place[i-1]?=some v:=⟨_,YE J⟩;have e:t.place.getD (i-1) 0=v:=by rw[YB,hv];rfl
   rw[e,nR hr hv];lia
 rw[eb];refine Yk ?_;by_cases c:i<es.size
 .obtain⟨v,hv⟩:∃v,t.place[i]?=some v:=⟨_,YE J⟩;obtain⟨y,hy⟩:∃y,es[i]?=some y:=⟨_,YE c⟩;have e:t.place.getD i 0=v:=by rw[YB,hv];rfl
  rw[Yo,YS,hy]at q;rw[hv,hy];simp only[uZ,vf,e,if_neg (Nat.succ_ne_zero i)]at q;exact q
 .have e1:es[i]?=none:=Qe J;rw[Yo,YS,e1]at q;rwa[e1]
theorem Zv8 (hf:t.fits es.size=true) (hb:w.params.followText "set-order"=true):
  FV prog w a es ep t ((pickOrder (w.params.setOrder a ep) es).toList.map (·.2)) (λ_=>0):=by
 intro A E s i Q ⟨o,ho,hx,QZ⟩ hi q;unfold setNext;refine XU (GI ho QZ hf ?_);dsimp only;refine XU ?_;unfold setsByText;refine XU (GG<|Yk ?_);show wpAny _ _ (if (w.params.followText "set-order")=true then _ else _) _ _ _
 rw[if_pos hb,if_neg B];refine XU ?_;unfold setWalk;refine XU (GI ho QZ hf ?_);dsimp only;refine XU ?_;unfold setsByText;refine XU (GG<|Yk ?_);show wpAny _ _ (if (w.params.followText "set-order")=true then _ else _) _ _ _
 rw[if_pos hb];refine XU (GG<|Yk ?_);rw[Yo,YS,Option.map_map]at q;exact Yk q
noncomputable def IsPl(h:Heap)(b:Addr)(pl:List Nat):Prop:=∃o n,h.get? b=some o/\o.data=.seq (pl.map λ(i:Nat)=>rawInt (i:Int)).toArray n
theorem IsPl.keep(x:IsPl h b pl)(e:∀o,h.get? b=some o->h'.get? b=some o):IsPl h' b pl:=by obtain⟨o,n,p,q⟩:=x;exact⟨o,n,e _ p,q⟩
theorem ng{i j:Nat}{x:Int×Value}{Q:Option Value->Shared->Prop}(hS:SetIs s.heap a es ep t)(hf:t.fits es.size=true)(hi:IsSi s.heap I a (.ref b) i es.size ep)(hb:IsPl s.heap b pl)(hj:pl[i]?=some j)(hx:es[j]?=some x)
  (k:∀h',IsSi h' I a (.ref b) (i+1) es.size ep->Heap.SameBut I s.heap h'->Q (some x.2) {s with heap:=h'}):wpAny (model prog w) A (pyNext<|.ref I) Q E s:=by
 obtain⟨o,ho,hc,hd⟩:=id hi;obtain⟨oa,KL,nj,QZ⟩:=id hS;obtain⟨ob,nb,Rp,Up⟩:=hb;unfold pyNext;refine XU (Fd<|yW (name:=Str.ofString "__next__") hi.ty WZ<|Ly WZ hi.ty wU ?_<|wR _);unfold Builtin.«set_iterator.__next__»;refine XU (Nn (a:=(Value.ref I,[])) Z ?_);dsimp only;refine XU (yE ho hd ?_);dsimp only[rawInt];refine XU (Ft KL QZ hf ?_);rw[if_neg B];refine XU (JS Rp Up ?_);dsimp only;have e:(pl.map λ(i:Nat)=>rawInt (i:Int)).toArray[(i:Int).toNat]?=some (.int (j:Int) 0):=by rw[YD,eM,Yo,hj];rfl
 rw[e];dsimp only;rw[YD,YD];refine XU ?_;unfold setNextDrawn;refine XU (GI KL QZ hf ?_);dsimp only;rw[if_neg B,hx];refine Yk ?_;refine XU (GC ho hd B ?_);refine Yk ⟨x.2,Z,Yk<|k _ ⟨_,Vk _ ho<|yV<|Oo hd _,?_,?_⟩<|LF ..⟩
 .rw[uQ];exact hc
 .rw[Oo hd];simp;rfl
theorem nc{Q:Option Value->Shared->Prop}(hh:A.handled=none)(hS:SetIs s.heap a es ep t)(hf:t.fits es.size=true)(hi:IsSi s.heap I a (.ref b) pl.length es.size ep)(hb:IsPl s.heap b pl)
  (k:∀h',Heap.ExtBut I s.heap h'->Q none {s with heap:=h'}):wpAny (model prog w) A (pyNext<|.ref I) Q E s:=by
 obtain⟨o,ho,hc,hd⟩:=id hi;obtain⟨oa,KL,nj,QZ⟩:=id hS;obtain⟨ob,nb,Rp,Up⟩:=hb;unfold pyNext;refine XU (Fd<|yW (name:=Str.ofString "__next__") hi.ty WZ<|Ly WZ hi.ty wU ?_<|wR _);unfold Builtin.«set_iterator.__next__»;refine XU (Nn (a:=(Value.ref I,[])) Z ?_);dsimp only;refine XU (yE ho hd ?_);dsimp only[rawInt];refine XU (Ft KL QZ hf ?_);rw[if_neg B];refine XU (JS Rp Up ?_);dsimp only;have e:(pl.map λ(i:Nat)=>rawInt (i:Int)).toArray[(pl.length:Int).toNat]?=none:=by rw[YD,eM];exact Vv B
 rw[e];dsimp only;refine XU (GC ho hd B ?_);have SE:=Vk (Obj.mapFields λvs=>vs.setIfInBounds 0<|rawInt 0) ho (yV<|Oo hd _)
 refine XU (GC SE (Oo hd _) B ?_);show wpAny _ _ (newExc (.type "StopIteration") [] >>= _) _ _ _
 refine XU ?_;simp only[newExc,newTuple];refine XU (Nz ?_<|by size_fits);refine XU (m:=firstArgMember _ _) (Nn (a:=Value.none) (by first|rfl|(simp only[firstArgMember];rfl)) ?_)
 refine Nz ?_ (by size_fits);simp only[raiseNew];refine XU (wpAny_handled ?_);rw[show A.in1.handled=none from hh];refine XU (Yk<|wpAny_throw ?_);refine XU (yK (T:="StopIteration") (b:=true) ⟨_,Yj _ Z,Z⟩ isSubtype_stop ?_);exact Yk (k _<|((((LF ..).trans (LF ..)).extBut).push _).push _)
theorem m9(hh:A.handled=none)(hp:pl.Perm (List.range es.size))(hf:t.fits es.size=true)(XJ:a≠I)(hnb:b≠I):
  Walks prog w A I [I,a,b] [I] pl.length (λi v=>(pl.filterMap λj=>(es[j]?).map (·.2))[i]?=some v) (λi h=>i<=pl.length/\IsSi h I a (.ref b) i es.size ep/\SetIs h a es ep t/\IsPl h b pl) where
 sub:=λc hc=>Ye.mpr (.inl<|XF.mp hc)
 frame:=λ_ _ _ x hk=>⟨x.1,x.2.1.keep λo e=>hk I B o e,x.2.2.1.keep λo e=>hk a B o e,x.2.2.2.keep λo e=>hk b B o e⟩
 item:=λi s Q E hi ⟨_,x1,x2,x3⟩ hQ=>by
  have hj:pl[i]?=some (pl[i]'hi):=Xw hi;have Xh:=YI.mp (hp.mem_iff.mp<|Xf hj)
  have hx:es[pl[i]'hi]?=some (es[pl[i]'hi]'Xh):=YE Xh;have fm:∀(l:List Nat),(∀j∈l,j<es.size)->l.filterMap (λj=>(es[j]?).map (·.2))=l.map λj=>(es.getD j (0,.none)).2:=λl hl=>by
   induction l with
   |nil=>rfl
   |cons y l ih=>
    have hy:=hl y Ya;rw[Fw,WD,ih λj h=>hl j<|Yf _ h,YE hy,YB,YE hy];rfl
  have hv:(pl.filterMap λj=>(es[j]?).map (·.2))[i]?=some (es[pl[i]'hi]'Xh).2:=by rw[fm pl λj hj=>YI.mp<|hp.mem_iff.mp hj,Yo,hj,uZ,YB,hx];rfl
  exact ng x2 hf x1 x3 hj hx λh' y hs=>hQ _ h' s.toks hv ⟨hi,y,x2.keep λo e=>(hs.2 a XJ).trans e,x3.keep λo e=>(hs.2 b hnb).trans e⟩ λc o hc eo=>hs.extBut c o (λe=>hc<|by simp[e]) eo
 done:=λs Q E zz hQ=>by obtain⟨_,x1,x2,x3⟩:=zz;exact nc hh x2 hf x1 x3 λh' he=>hQ h' s.toks λc o hc eo=>he c o (λe=>hc<|by simp[e]) eo
 self:=λ_ _ _ _ x hQ=>bu x.2.1 hQ
end
section
variable{prog:Program}{w:World}{A uj:Around}{E:Ae}{s:Shared}
theorem SetIs.ty (x:SetIs s.heap a es ep t):s.TypeIs (.ref a) "set":=by obtain⟨o,p,q,_⟩:=x;exact⟨o,p,q.1⟩
theorem m8 {Q:Ae} (hh:A.handled=none) (hS:SetIs s.heap a es ep t) (hf:t.fits es.size=true) (hr:Ra t) (hl:t.led=!w.params.followText "set-order") (hz:es.size<=sizeLine)
  (k:∀(I:Addr)(h':Heap) d (ord:Ag) (fp:List Addr) (St:Nat->Heap->Prop),ord.Perm (es.toList.map (·.2))->Walks prog w A I fp [I] ord.length (λi v=>ord[i]?=some v) St->St 0 h'->(∀b∈fp,b<h'.objs.size/\(b=a\/s.heap.objs.size<=b))->I∈fp->s.heap.objs.size<=I->(∀c o,s.heap.get? c=some o->h'.get? c=some o)->Q (.ref I) {s with heap:=h',drawn:=d}):
  wpAny (model prog w) uj (pyIter<|.ref a) Q E s:=by
 obtain⟨o,ho,hx,hd⟩:=id hS;have KJ:a<s.heap.objs.size:=Yp ho
 refine wpAny_pyIter_slot hS.ty bA (Ly bA hS.ty nt ?_<|nu _);unfold Builtin.«frozenset.__iter__»;refine XU (Nn (a:=a) rfl ?_);refine XU ?_;unfold Builtin.Frozenset.sizeOf;refine XU (Ft ho hd hf<|Yk ?_);refine XU ?_;unfold setDrawn;refine XU (GI ho hd hf ?_);dsimp only;refine XU ?_;unfold setsByText;refine XU (GG<|Yk<|Yk ?_);have num:∀ord sl,sl 0=0->FV prog w a es ep t ord sl->ord.Perm (es.toList.map (·.2))->wpAny (model prog w) uj.in1 (pure (rawInt 0) >>= λfirst=>setEpoch a >>= λe=>newFields "set_iterator" [first,rawInt 0,.ref a,rawInt (es.size:Int),rawInt (e:Int)] >>= λit=>ret it)
   (λfin s'=>∃v,fin=Fin.done (Flow.ret v)/\∃T' r,s'.TypeIs v T'/\typeLookup (Value.type T') (Str.ofString "__next__")=pure (some r)/\Q v s') E s:=λord sl h0 hN hp=>by
  refine XU (Yk<|XU<|wpAny_setEpoch_of ho hd hf<|XU ?_);unfold newFields;refine Nz ?_ (by size_fits);have hI:IsSi (s.heap.push {cls:=.type "set_iterator",data:=.fields [rawInt 0,rawInt 0,.ref a,rawInt (es.size:Int),rawInt (ep:Int)].toArray}) s.heap.objs.size a (rawInt (sl 0:Nat)) 0 es.size ep:=⟨_,Yj _ Z,Z,by rw[h0];rfl⟩
  refine Yk ⟨_,Z,"set_iterator",_,IsSi.ty (s:={s with heap:=_}) hI,WZ.lookup,?_⟩;have ne:a≠s.heap.objs.size:=Yy KJ
  refine k _ _ s.drawn ord _ _ hp (ni hh hN hf ne) ⟨Ym _,hI,hS.keep λo e=>Xb _ e⟩ (λb hb=>?_) B (XO _) λc o e=>Xb _ e;rw[Us];rcases Ye.mp hb with e|e
  .rw[e];exact⟨Ol _,.inr<|XO _⟩
  .rw[XF.mp e];exact⟨GL KJ,.inl Z⟩
 by_cases hb:w.params.followText "set-order"=true
 .rw [if_neg (by show ¬(!w.params.followText "set-order" && _)=true;rw[hb];simp)];refine num _ (λ_=>0) Z (Zv8 hf hb) ?_
  have:=bw (f:=w.params.setOrder a ep) es.size 0 es.toList #[] (by rw[YC])
  exact this.map _
 .have PB:w.params.followText "set-order"=false:=by simpa using hb
  rw[PB]at hl;by_cases c:(!t.plain&&decide (es.size>1))=true
  .rw [if_pos (by show(!w.params.followText "set-order" && (!t.plain&&decide (es.size>1)))=true;rw[PB,c];rfl)];refine XU (bz es.size (List.range es.size) s _ (by rw[Om]) λpl d hp=>?_);have Vn:pl.length=es.size:=by rw[hp.length_eq,Om]
   refine XU (wpAny_newTuple ?_<|by rwa[Yb,Vn]);have hoS:∀(h:Heap) o,h.get? a=some o->(h.push {cls:=.type "tuple",data:=.seq (List.map (λi=>rawInt ((i:Nat):Int)) pl).toArray}).get? a=some o:=λh o e=>Xb _ e
   refine XU (wpAny_setEpoch_of (hoS s.heap o ho) hd hf<|XU ?_);unfold newFields;refine Nz ?_ (by size_fits);have ne:a≠s.heap.objs.size:=Yy KJ
   generalize CY:s.heap.push {cls:=.type "tuple",data:=.seq (List.map (λi=>rawInt ((i:Nat):Int)) pl).toArray}=h1;have s1:h1.objs.size=s.heap.objs.size+1:=by rw[<-CY];exact Us ..
   have Ct:∀c o,s.heap.get? c=some o->h1.get? c=some o:=λc o e=>by rw[<-CY];exact Xb _ e
   have Mu:IsPl h1 s.heap.objs.size pl:=by rw[<-CY];exact⟨_,0,Yj _ Z,Z⟩
   have hI:IsSi (h1.push {cls:=.type "set_iterator",data:=.fields [Value.ref s.heap.objs.size,rawInt 0,.ref a,rawInt (es.size:Int),rawInt (ep:Int)].toArray}) h1.objs.size a (.ref s.heap.objs.size) 0 es.size ep:=⟨_,Yj _ Z,Z,Z⟩;refine Yk ⟨_,Z,"set_iterator",_,IsSi.ty (s:={s with heap:=_,drawn:=d}) hI,WZ.lookup,?_⟩;have OZ:(pl.filterMap λj=>(es[j]?).map (·.2)).Perm (es.toList.map (·.2)):=by refine(hp.filterMap _).trans ?_;rw[<-filterMap_getElem?_range es,List.map_filterMap]
   have QB:(pl.filterMap λj=>(es[j]?).map (·.2)).length=pl.length:=by rw[OZ.length_eq,Yb,YC,Vn]
   have W:=m9 (prog:=prog) (w:=w) (A:=A) (I:=h1.objs.size) (a:=a) (b:=s.heap.objs.size) (es:=es) (ep:=ep) (t:=t) hh hp hf (by rw[s1];exact Yy<|GL KJ) (by rw[s1];exact Yy<|Ol _);rw[<-QB]at W;refine k _ _ d _ _ _ OZ W ⟨Ym _,hI,hS.keep λo e=>Xb _<|Ct _ o e,Mu.keep λo e=>Xb _ e⟩ (λb hb=>?_) B (by rw[s1];exact Uc _) λc o e=>Xb _ (Ct c o e);rw[Us,s1];rcases Ye.mp hb with e|e
   .rw[e,s1];exact⟨Ol _,.inr<|Uc _⟩
   .rcases Ye.mp e with e|e
    .rw[e];exact⟨GL<|GL KJ,.inl Z⟩
    .rw[XF.mp e];exact⟨GL<|Ol _,.inr<|XO _⟩
  .have c':(!t.plain&&decide (es.size>1))=false:=by simpa using c
   rw[if_neg (by show ¬(!w.params.followText "set-order" && (!t.plain&&decide (es.size>1)))=true;rw[c'];simp)];exact num _ _ Z (nh hf hr PB hl c') .rfl
end
theorem Cs:typeLookup (.type "set") "__len__"=pure (some (.builtin "set.__len__")):=by rw[GF,GN];kernel_rfl
section
variable{prog:Program}{w:World}{A:Around}{E:Ae}{s:Shared}
theorem m7 {r:Addr} {Q:Bool->Shared->Prop} (hT:s.TypeIs (.ref r) "set") (h:Q false s):wpAny (model prog w) A (Builtin.List.listLengthHint (.ref r)) Q E s:=by
 unfold Builtin.List.listLengthHint;refine XU (wpAny_specialOf hT Cs ?_);generalize Dp:("set.__len__":String)=qm
 wp_delta
 rw[show splitId qm=some ("set","__len__") from by subst Dp;decide +kernel];subst Dp;refine XU (yK (T:="set") (b:=true) hT sub_set_self ?_);show wpAny _ A (typeOf (Value.ref r) >>= _) _ _ _
 exact XU (Fc (T:="set") hT<|Yk h)
theorem Zj6 {Q:List Value->Shared->Prop} (hh:A.handled=none) (hS:SetIs s.heap a es ep t) (hf:t.fits es.size=true) (hr:Ra t) (hl:t.led=!w.params.followText "set-order") (hz:es.size<=sizeLine)
  (k:∀(out:Ag) h' tk d,out.Perm (es.toList.map (·.2))->s.heap.objs.size<=h'.objs.size->(∀c o,s.heap.get? c=some o->h'.get? c=some o)->Q out {s with heap:=h',toks:=tk,drawn:=d}):wpAny (model prog w) A (collect<|.ref a) Q E s:=by
 have NQ:(s.heap.push<|seqObj "list" #[] 0).get? s.heap.objs.size=some (seqObj "list" #[] 0):=Yj _ rfl;have Cv:SetIs (s.heap.push<|seqObj "list" #[] 0) a es ep t:=hS.keep λo e=>Xb _ e
 have KJ:a<s.heap.objs.size:=by obtain⟨_,e,_⟩:=hS;exact Yp e
 unfold collect;refine XU (yG<|Sh uK ?_);show wpAny _ _ (newList [] >>= λv=>again<|.builtin "list.__iadd__" ⟨[v,.ref a],[]⟩) _ _ s
 refine XU (JR<|Yk ⟨yP _ D,Sh entry_list_iadd' ?_⟩);show wpAny _ _ (Builtin.List.listExtendWith (.ref s.heap.objs.size) (.ref a)<|.ref s.heap.objs.size) _ _ {s with heap:=s.heap.push (seqObj "list" #[] 0)}
 unfold Builtin.List.listExtendWith;refine XU (Fc (T:="set") (SetIs.ty (s:={s with heap:=s.heap.push (seqObj "list" #[] 0)}) Cv) ?_);have e1:Builtin.List.listSameRef (.ref s.heap.objs.size) (.ref a)=false:=by show(s.heap.objs.size == a)=false;exact JC (RE KJ)
 rw[if_neg (by rw[e1];decide)];refine XU (m8 (A:=A.in1) (by simp[hh]) Cv hf hr hl hz λI h' d ord fp St OZ W Gj wQ hI OY kp=>?_);have hT':Shared.TypeIs {s with heap:=h',drawn:=d} (.ref a) "set":=SetIs.ty (s:={s with heap:=h',drawn:=d}) (Cv.keep λo e=>kp a o e)
 refine XU (Sf<|m7 hT' ?_);rw[if_pos D];have br:=kp _ _ NQ
 refine XU (EY<|XU ?_);unfold Builtin.List.listTouch;refine XU (SN (xs:=#[]) (n:=0) br Z ?_ (Ym _)<|by show 1<=sizeLine+1;lia);have bq:=Vk (Obj.mapSeq (·.push Value.none)) br rfl
 refine SN (xs:=#[].push Value.none) (n:=1) bq Z ?_ (by show 1<=sizeLine;decide) (by show 0<=sizeLine+1;lia);have hL4:=Vk (Obj.mapSeq Array.pop) bq rfl
 have old:∀c o,c≠s.heap.objs.size->h'.get? c=some o->((h'.update s.heap.objs.size (Obj.mapSeq (·.push Value.none))).update s.heap.objs.size (Obj.mapSeq Array.pop)).get? c=some o:=λc o hc e=>by rwa[QP _ _ (XI hc),QP _ _ (XI hc)]
 generalize (h'.update s.heap.objs.size (Obj.mapSeq (·.push Value.none))).update s.heap.objs.size (Obj.mapSeq Array.pop)=h4 at *;have Sy:s.heap.objs.size∉fp:=λq=>by
  rcases(wQ _ q).2 with e|e
  .exact RE KJ e
  .rw [show({s with heap:=s.heap.push (seqObj "list" #[] 0)}:Shared).heap.objs.size=s.heap.objs.size+1 from Us ..] at e;exact Nat.not_succ_le_self _ e
 have m6:ord.length=es.size:=by rw[OZ.length_eq,Yb,YC]
 refine Yk ⟨Ur ft _,codeAny_extend_loopS W.toS (by rwa[m6]) s.heap.objs.size Sy _ ord.length 0 _ #[] _ Z (Ym _) (W.frame 0 _ _ Gj λb hb o e=>old b o (λq=>Sy<|q▸hb) e) hL4 (ItemsOf.nil _) λs2 acc c m bp VR=>?_⟩;have eo:acc.toList=ord:=by
  refine GK λi=>?_;rw[YS];by_cases hi:i<ord.length
  .have q:acc[i]?=some (acc[i]'(by rwa[VR.1])):=YE _;rw[q,VR.2 i _ q]
  .rw[Vv uu,Qe (by rw[VR.1];omega)]
 show wpAny _ A (load s.heap.objs.size >>= _) Q E s2;refine XU (EX bp ?_);refine Yk ?_;rw[eo,Moved.eq_with m];refine k ord s2.heap s2.toks d OZ (Nt<|Yp bp) λc o e=>?_;have lt:=Yp e
 refine m.heap c o (λq=>?_) (old c o (Yy lt)<|kp c o<|Xb _ e);rcases Ye.mp q with e'|e'
 .exact Yy lt e'
 .rw[XF.mp e']at lt
  have:=Yt lt (Ys (Uc _)<|Us .. ▸ OY)
  exact RF _ this
end
theorem bo:∀{l:Ac},m.Nodup->l.length=m.length->(∀x∈m,x∈l)->l.Perm m:=by
 induction m with
 |nil=>intro l _ h _;rw[YZ.mp h]
 |cons x m ih=>
  intro l hn hl hs;have hx:=hs x Ya
  have Rx:=QI.mp hn;refine(List.perm_cons_erase hx).trans ((ih Rx.2 (by rw[JJ hx,hl];rfl) λy hy=>?_).cons x);have ne:y≠x:=λe=>Rx.1 (by rwa[<-e])
  exact(vn ne).mpr (hs y<|Yf _ hy)
theorem ZR8(p:us.Perm vs):∀{ns:Ac},IntsAre vs ns->∃ms,IntsAre us ms/\ms.Perm ns:=by
 induction p with
 |nil=>intro ns h;exact⟨ns,h,.rfl⟩
 |cons x _ ih=>
  intro ns h;cases h with
  |cons n t h=>
   obtain⟨ms,h1,h2⟩:=ih h;exact⟨n::ms,.cons n t h1,h2.cons n⟩
 |swap x y l=>
  intro ns h;cases h with
  |cons n t h=>
   cases h with
   |cons m u h=>exact⟨m::n::_,.cons m u<|.cons n t h,.swap n m _⟩
 |trans _ _ Pk SV=>
  intro ns h;obtain⟨ms,h1,h2⟩:=SV h;obtain⟨ls,h3,h4⟩:=Pk h1;exact⟨ls,h3,h4.trans h2⟩
theorem Cr(h:IntsAre vs ns):vs.length=ns.length:=by
 induction h with
 |nil=>rfl
 |cons n t _ ih=>rw[Yq,Yq,ih]
theorem Mt(val:Nat->Int):∀i,(firstMet val i).Nodup
 |0=>.nil
 |i+1=>by
  rw[firstMet_succ];unfold step_dedup;split
  .exact Mt val i
  .rename_i h;refine YR.mpr ⟨Mt val i,B,λa ha b hb e=>?_⟩;rw[XF.mp hb]at e;exact h (Fn.mpr ⟨a,ha,by rw[e];simp⟩)
section
variable{prog:Program}{w:World}{A:Around}{E:Ae}{s:Shared}
theorem bj:∀{l:List (Int×Value)},ElemsOf (intKind prog w) l->∃ms,IntsAre (l.map (·.2)) ms/\∀z,z∈ms↔∃y∈l,(intKind prog w).is z y.2=true
 |[],_=>⟨[],.nil,λz=>⟨λh=>(by cases h),λzz=>by obtain⟨y,h,_⟩:=zz;exact(by cases h)⟩⟩
 |y::l,h=>by
  obtain⟨ms,h1,h2⟩:=bj h.tail;obtain⟨⟨z,hz,_⟩,_⟩:=h.head;obtain⟨hy,v⟩:=y;obtain⟨u,rfl⟩:=Value.isInt_shape (show Value.isInt z v=true from hz);refine⟨z::ms,.cons z u h1,λx=>?_⟩;rw[Ye,h2];constructor
  .rintro(e|⟨y,hy,q⟩)
   .exact⟨_,Ya,e▸hz⟩
   .exact⟨y,Yf _ hy,q⟩
  .rintro⟨y,hy,q⟩;rcases Ye.mp hy with e|e
   .rw[e]at q;exact .inl ((intKind prog w).inj _ _ _ q hz)
   .exact .inr ⟨y,e,q⟩
theorem ZF6 {led:Bool} {uo:Int->Bool} {Q:Ae} (hh:A.handled=none) (hS:SetR prog w s.heap a (!w.params.followText "set-order") uo n) (Qz:n<64)
  (k:∀(ms:Ac)(out:Ag) r h' tk d c,IntsAre out ms->ms.Pairwise (·<=·)->ms.length=n->(∀z,z∈ms↔uo z=true)->s.heap.objs.size<=r->h'.get? r=some (seqObj "list" out.toArray c)->(∀c o,s.heap.get? c=some o->h'.get? c=some o)->Q (.ref r) {s with heap:=h',toks:=tk,drawn:=d}):
  wpAny (model prog w) A (call (.builtin "sorted") [.ref a]) Q E s:=by
 obtain⟨o,es,ep,t,ho,hx,hd,he,hm,hb,hf,hn,hr,hl⟩:=hS;obtain⟨ns,hI,hmem⟩:=bj he;have IF:sizeLine=16777216:=TQ
 refine Calls.call_function_entry kind_sorted plain_sorted entry_sorted (args_sorted1 _) ?_;unfold Builtin.«sorted»;refine XU (m:=checkCount "sorted" 1 1 _) (Yk ?_);refine XU (Zj6 (A:=A.in1) (by simp[hh]) ⟨o,ho,hx,hd⟩ hf hr hl J λout h1 tk d hp OY kp=>?_);obtain⟨ls,bh,VY⟩:=ZR8 hp hI;have lo:=Cr bh
 have ll:ls.length=n:=by rw[<-lo,hp.length_eq,Yb,YC,hn]
 refine XU (JR ?_);have hL:(h1.push<|seqObj "list" out.toArray 0).get? h1.objs.size=some (seqObj "list" out.toArray 0):=Yj _ rfl
 refine XU (Sf<|Ly slot_list_sort ⟨_,hL,Z⟩ entry_list_sort (list_sort_tree hL bh J λres ms b1 b2 b3=>⟨_,Z,?_⟩)<|args_list_sort _);obtain⟨c,hc⟩:=sortedHeap_at (out:=res) hL;refine Yk ⟨_,Z,k ms res.toList h1.objs.size _ tk d c b1 b3 (by rw[b2.length_eq,ll]) (λz=>by rw[b2.mem_iff,VY.mem_iff,hmem,hm]) OY (by rwa[Array.toArray_toList]) λb ob e=>?_⟩;have lt:=Yp (kp b ob e)
 rw[sortedHeap_old (Yy lt) (by rw[size_push'];exact GL lt)];exact Xb _ (kp b ob e)
end
section
variable{X:Cx}{p p2 pos Va:Pos}{e:Expr}{t:TA}
theorem Inv.drew(I:Inv X pins σ H s)(d:Drawn):Inv X pins σ H {s with drawn:=d}:=
 I.step (g':=s.gens) (d':=d) (t':=s.toks) (h':=s.heap) (ch:=[]) (λb hb=>(by cases hb)) (λb o _ _ _ q _=>q) (λb o _ _ _ q _=>⟨o.slots,q⟩) (λb o _ _ n=>n) (λb o _ q=>⟨o,q⟩) (λb xs q=>q) (λb o u q=>q) (λb ps q=>⟨#[],by rw[q];simp⟩) (λm hm=>hm) I.hok I.bare
noncomputable def ZC6(K:Ad)(t:TA):TE:=λσ H Q=>t σ H λvs H1=>∃(a:Addr)(ns:Ac),vs=[.ref a]/\SqL K H1 a (ns.map V.int)/\ns.length<64/\∀ms:Ac,ms.Pairwise (·<·)->(∀z,z∈ms↔z∈ns)->∀l,H1 l=none->Q (.ref l) (upd H1 l<|.lst<|ms.map V.int)
theorem ZB4 (K:Ad) (hc:X.calm=true) (g1:Gl X "sorted") (m1:X.mg "sorted"=none) (g2:Gl X "set") (m2:X.mg "set"=none) (ha:PA X [e] t) (hk:X.K=K:=by rfl)
  (he:starEach [e] X.env=[(false,eval e X.env)]:=by rfl)
  (Py:starEach [.Call (.Name "set" p2) [e] [] Va] X.env=[(false,eval (.Call (.Name "set" p2) [e] [] Va) X.env)]:=by rfl):
  PE X (.Call (.Name "sorted" p) [.Call (.Name "set" p2) [e] [] Va] [] pos) (ZC6 K t):=by
 subst hk;intro pins s σ H Q I h;refine Qk (QF I g1 m1 Boot.«sorted» ?_);refine fB ?_ (by rw[Py];rfl) rfl;rw[Py];show wpAny _ _ (spliced<|(false,eval (.Call (.Name "set" p2) [e] [] Va) X.env)::backTo pos []) _ _ s
 refine uS ?_;refine Qk (QF I g2 m2 Boot.«set» ?_);refine TR (thn (ha Va pins s σ H _ I h) λus s1 zz=>?_) (by rw[he];rfl) rfl;obtain⟨vs,H1,I1,r1,q1⟩:=zz;obtain⟨a,ns,rfl,hq,hn,q⟩:=q1;obtain⟨u,rfl,ru⟩:=WH r1;obtain rfl:u=Value.ref a:=ru;obtain⟨XW,rv,pl,hz⟩:=I1.list hq;have hi:=ZQ rv
 have el:XW.toArray.size=ns.length:=by rw[Yc,<-rv.length,Yb]
 have sb:scanBound=4096:=rfl;refine nE (I.ok.hd hc) pl.isList (ns:=ns) (by simpa using hi) J λh2 tk hS kp=>?_;refine uL ?_;have fl:=firstMet_length_le (λi=>ns.getD i 0) XW.toArray.size
 refine ZF6 (led:=true) (s:={s1 with heap:=h2,toks:=tk}) (I.ok.hd hc) hS J λms out r h3 tk3 d c hI hs hl hmem OY hr kp3=>?_;have em:∀z,z∈ms↔z∈ns:=λz=>by
  rw[hmem,firstMet_any,el];have e1:(List.range ns.length).map (λi=>ns.getD i 0)=ns:=by
   refine GK λi=>?_;rw[Yo];by_cases c:i<ns.length
   .rw[vj c,Xw c,uZ,WJ,Xw c];rfl
   .rw[Vv (by rw[Om];lia),Vv ur];rfl
  rw[e1];simp
 have Tv:ms.Nodup:=(bo (Mt _ _) hl λx hx=>(hmem x).mpr (Fn.mpr ⟨x,hx,B⟩)).nodup_iff.mpr (Mt _ _);have Xh:s1.heap.objs.size<=h2.objs.size:=by obtain⟨_,_,_,_,e,_⟩:=hS;exact Nt (Yp e)
 have Cq:s1.heap.objs.size<=r:=Ys Xh OY;have NR:ms.length<=ns.length:=by rwa[hl,<-el]
 have I2:=(I1.laid (o:=.lst<|ms.map V.int) (h':=h3) (t':=tk3) (λb o e=>kp3 b o<|kp b o e) Cq ⟨by rw[Yb];have:sizeLine=16777216:=TQ;lia,out,c,Pp hI,hr⟩).drew d;exact⟨.ref r,_,I2,Z,q ms (My.UX hs Tv) em r<|I1.hok.fresh Cq⟩
end
end L2
namespace My
open PySem L2
theorem ZT7{f g:Nat->Nat}{N k:Nat}(hf:∀i j,i<N->j<N->(f i=f j↔Conn A i j))(hk:∀i,i<N->f i<k)(hg:∀a,a<k->g a<N/\f (g a)=a)(hA:InN N A)(hB:InN N uj):
  (∀i j,i<N->j<N->Conn (A++uj) i j)↔∀a b,a<k->b<k->Conn (uj.map λe=>(f e.1,f e.2)) a b:=by
 have gi:∀i,i<N->Conn A (g<|f i) i:=λi hi=>by obtain⟨h1,h2⟩:=hg (f i) (hk i hi);exact(hf _ _ h1 hi).mp h2
 constructor
 .intro c a b ha hb;obtain⟨a1,a2⟩:=hg a ha;obtain⟨b1,b2⟩:=hg b hb;have q:=(c (g a) (g b) a1 b1).image (f:=f) (fs:=uj.map λe=>(f e.1,f e.2)) λe he=>by
   rcases Xz.mp he with q|q
   .obtain⟨e1,e2⟩:=hA e q;rw[(hf _ _ e1 e2).mpr (.edge q)];exact .refl _
   .exact .edge (YA.mpr ⟨e,q,Z⟩)
  rwa[a2,b2]at q
 .intro c i j hi hj;have up:∀{i j:Nat},Conn A i j->Conn (A++uj) i j:=λq=>q.mono λe he=>Yd _ he
  have q:=(c (f i) (f j) (hk i hi)<|hk j hj).image (f:=g) (fs:=A++uj) λe he=>by obtain⟨d,hd,rfl⟩:=YA.mp he;obtain⟨d1,d2⟩:=hB d hd;exact(up<|gi _ d1).trans ((Conn.edge<|Yi _ hd).trans (up<|gi _ d2).symm)
  exact(up<|gi i hi).symm.trans (q.trans<|up<|gi j hj)
noncomputable def PC(n:Int)(ps:Aa)(I O:Ac)(c:Nat):Prop:=∃L:Ab,L.Nodup/\(∀l,l∈L↔Zh n ps l/\(∀z∈I,z∈l)/\∀z∈O,z∉l)/\L.length=c
theorem PC.uniq(h1:PC n ps I O c)(h2:PC n ps I O d):c=d:=by
 obtain⟨L,a1,a2,a3⟩:=h1;obtain⟨M,b1,b2,b3⟩:=h2
 have:L.Perm M:=(LI a1 b1).mpr λl=>by rw[a2,b2]
 rw[<-a3,<-b3,this.length_eq]
noncomputable def XE(m:Nat)(gone:Ac):Ac:=(Wg m).filter λz=>decide (z∉gone)
theorem WW{z:Int}:z∈XE m gone↔(0<=z/\z<(m:Int))/\z∉gone:=by unfold XE;rw[Yg,YT,XA]
theorem bg(m:Nat)(gone:Ac):(XE m gone).Pairwise (·<·):=(XX.mp<|Ga m).2.filter _
noncomputable def Tu(f:Nat->Nat)(ps:Aa)(R:Ac):Aa:=R.map λz=>((f (Zt ps z).1:Int),(f (Zt ps z).2:Int))
noncomputable def QY(R:Ac)(uo:Ac):Ac:=uo.map λt=>R.getD t.toNat 0
theorem m5(hR:R.Pairwise (·<·))(hS:IsSet R.length uo):(QY R uo).Pairwise (·<·):=by
 obtain⟨a1,a2⟩:=XX.mp hS;refine LD.mpr (a2.imp_of_mem λ{a b} ha hb Vy=>?_);have h1:=a1 a ha
 have h2:=a1 b hb;rw[WJ,WJ,Xw J,Xw J];exact GP.mp hR a.toNat b.toNat ur ur uu
theorem Cp(hS:IsSet R.length uo){z:Int}(h:z∈QY R uo):z∈R:=by
 obtain⟨t,ht,rfl⟩:=YA.mp h;have h1:=hS.all t ht
 rw[WJ,Xw J];exact Ny _
theorem mZ{f:Nat->Nat}(hS:IsSet R.length uo):XT (Tu f ps R) uo=(XT ps (QY R uo)).map λe=>(f e.1,f e.2):=by
 unfold XT QY;rw[Lv,Lv];refine YY λt ht=>?_;have h1:=hS.all t ht
 have e:(Tu f ps R).getD t.toNat (0,0)=((f (Zt ps<|R.getD t.toNat 0).1:Int),(f (Zt ps<|R.getD t.toNat 0).2:Int)):=by unfold Tu;rw[WJ,Yo,WJ,Xw ur];rfl
 rw[e];rfl
noncomputable def RT(m:Nat)(I R uo:Ac):Ac:=(Wg m).filter λz=>decide (z∈I\/z∈QY R uo)
theorem mY(m:Nat)(I R uo:Ac):(RT m I R uo).Pairwise (·<·):=(XX.mp<|Ga m).2.filter _
theorem WX{z:Int}:z∈RT m I R uo↔(0<=z/\z<(m:Int))/\(z∈I\/z∈QY R uo):=by unfold RT;rw[Yg,YT,XA]
section
variable{n:Int}{ps:Aa}{I O uo:Ac}{f g:Nat->Nat}{k:Nat}
theorem Ig(hI:IsSet ps.length I)(hS:IsSet (XE ps.length (I++O)).length uo):(RT ps.length I (XE ps.length (I++O)) uo).Perm (I++QY (XE ps.length (I++O)) uo):=by
 have ua:=m5 (bg ps.length<|I++O) hS;refine(LI (IA<|mY _ _ _ _)<|YR.mpr ⟨hI.nodup,IA ua,λa ha b hb e=>?_⟩).mpr λz=>?_
 .have:=(WW.mp<|Cp hS hb).2
  exact this (Yd _<|e▸ha)
 .rw[WX,Xz];refine⟨λh=>h.2,λh=>⟨?_,h⟩⟩;rcases h with q|q
  .exact hI.all z q
  .exact(WW.mp<|Cp hS q).1
theorem bc(g0:Zw n ps)(hI:IsSet ps.length I)(hf:∀i j,i<n.toNat->j<n.toNat->(f i=f j↔Conn (XT ps I) i j))(hk:∀i,i<n.toNat->f i<k)(hg:∀a,a<k->g a<n.toNat/\f (g a)=a)(hS:IsSet (XE ps.length (I++O)).length uo):
  ((∀i j,i<n.toNat->j<n.toNat->Conn (XT ps<|RT ps.length I (XE ps.length<|I++O) uo) i j)↔∀a b,a<k->b<k->Conn (XT (Tu f ps<|XE ps.length<|I++O) uo) a b):=by
 have hp:=Ig (O:=O) hI hS;have hA:=ZO (ns:=I) g0 hI.all
 have hB:=ZO (ns:=QY (XE ps.length<|I++O) uo) g0 λz hz=>(WW.mp<|Cp hS hz).1;have e:XT ps (I++QY (XE ps.length<|I++O) uo)=XT ps I++XT ps (QY (XE ps.length<|I++O) uo):=by unfold XT;exact YJ
 rw[mZ hS,<-ZT7 hf hk hg hA hB,<-e];exact⟨λc i j hi hj=>(KZ λz=>hp.mem_iff).mp (c i j hi hj),λc i j hi hj=>(KZ λz=>hp.mem_iff).mpr (c i j hi hj)⟩
theorem KI(hI:IsSet ps.length I)(hT:IsSet ps.length T)(h1:∀z∈I,z∈T)(h2:∀z∈O,z∉T):∃uo,IsSet (XE ps.length (I++O)).length uo/\T=RT ps.length I (XE ps.length (I++O)) uo:=by
 refine⟨(Wg (XE ps.length<|I++O).length).filter λt=>decide<|(XE ps.length<|I++O).getD t.toNat 0∈T,XX.mpr ⟨λt ht=>XA.mp (Yg.mp ht).1,(XX.mp<|Ga _).2.filter _⟩,Ir (XX.mp hT).2 (mY _ _ _ _) λz=>?_⟩;rw[WX];constructor
 .intro hz;refine⟨hT.all z hz,?_⟩;by_cases c:z∈I
  .exact .inl c
  .right;have hR:z∈XE ps.length (I++O):=WW.mpr ⟨hT.all z hz,λq=>by
    rcases Xz.mp q with q|q
    .exact c q
    .exact h2 z q hz⟩
   obtain⟨t,ht⟩:=Qm hR;have e:(XE ps.length<|I++O).getD ((t:Int)).toNat 0=z:=by rw[YD];exact VZ ht
   refine YA.mpr ⟨(t:Int),Yg.mpr ⟨XA.mpr ⟨J,by have:=(Xs.mp ht).1;omega⟩,Yn<|by rwa[e]⟩,e⟩
 .rintro⟨_,q|q⟩
  .exact h1 z q
  .obtain⟨t,ht,rfl⟩:=YA.mp q;exact Yu (Yg.mp ht).2
theorem Ze9{S':Ac}(hS:IsSet (XE ps.length (I++O)).length uo)(SX:IsSet (XE ps.length (I++O)).length S')(e:RT ps.length I (XE ps.length (I++O)) uo=RT ps.length I (XE ps.length (I++O)) S'):uo=S':=by
 have key:∀{A uj:Ac},IsSet (XE ps.length<|I++O).length A->IsSet (XE ps.length<|I++O).length uj->RT ps.length I (XE ps.length<|I++O) A=RT ps.length I (XE ps.length<|I++O) uj->∀t,t∈A->t∈uj:=λ{A uj} hA hB e t ht=>by
  have h1:=hA.all t ht;have hm:(XE ps.length<|I++O).getD t.toNat 0∈QY (XE ps.length<|I++O) A:=YA.mpr ⟨t,ht,Z⟩
  have hR:=WW.mp (Cp hA hm);have h2:(XE ps.length<|I++O).getD t.toNat 0∈RT ps.length I (XE ps.length<|I++O) uj:=e▸WX.mpr ⟨hR.1,.inr hm⟩
  rcases(WX.mp h2).2 with q|q
  .exact absurd (Yd _ q) hR.2
  .obtain⟨u,hu,e2⟩:=YA.mp q;have h3:=hB.all u hu
   rw[WJ,WJ,Xw J,Xw J]at e2
   have:=Gq (IA<|bg ps.length<|I++O) (i:=u.toNat) (j:=t.toNat) (Xw ur) (by rw[Xw ur];exact XB some e2.symm)
   have e3:u=t:=J;exact e3▸hu
 exact Ir (XX.mp hS).2 (XX.mp SX).2 λt=>⟨key hS SX e t,key SX hS e.symm t⟩
theorem wO(f:Nat->Nat)(ps:Aa)(R:Ac):(Tu f ps R).length=R.length:=Yb ..
theorem mX(g0:Zw n ps)(hI:IsSet ps.length I)(UW:∀z∈I,z∉O)(hf:∀i j,i<n.toNat->j<n.toNat->(f i=f j↔Conn (XT ps I) i j))(hk:∀i,i<n.toNat->f i<k)(hg:∀a,a<k->g a<n.toNat/\f (g a)=a)(hn:(k:Int)+(I.length:Int)=n)(h:TC k (Tu f ps (XE ps.length (I++O))) c):PC n ps I O c:=by
 obtain⟨L,h1,h2,h3⟩:=h;have hs:∀l∈L,IsSet (XE ps.length<|I++O).length l:=λl hl=>wO f ps _▸((h2 l).mp hl).1
 have len:∀{uo:Ac},IsSet (XE ps.length<|I++O).length uo->(RT ps.length I (XE ps.length<|I++O) uo).length=I.length+uo.length:=λ{uo} hS=>by rw[(Ig hI hS).length_eq,Xt];unfold QY;rw[Yb]
 have iff:∀{uo:Ac},IsSet (XE ps.length<|I++O).length uo->(Zh n ps (RT ps.length I (XE ps.length<|I++O) uo)↔Zh k (Tu f ps<|XE ps.length<|I++O) uo):=λ{uo} hS=>by
  have l:=len hS;have q:=bc (O:=O) g0 hI hf hk hg hS
  constructor
  .rintro⟨a1,a2,a3⟩;exact⟨by rw[wO];exact hS,J,λa b ha hb=>q.mp a3 a b J J⟩
  .rintro⟨a1,a2,a3⟩;exact⟨XX.mpr ⟨λz hz=>(WX.mp hz).1,mY _ _ _ _⟩,J,q.mpr λa b ha hb=>a3 a b J J⟩
 refine⟨L.map<|RT ps.length I<|XE ps.length<|I++O,LD.mpr<|h1.imp_of_mem λ{a b} ha hb Vy e=>Vy<|Ze9 (hs a ha) (hs b hb) e,λT=>?_,by rw[Yb,h3]⟩;rw[YA];constructor
 .rintro⟨uo,hS,rfl⟩;refine⟨(iff<|hs uo hS).mpr ((h2 uo).mp hS),λz hz=>WX.mpr ⟨hI.all z hz,.inl hz⟩,λz hz q=>?_⟩;rcases(WX.mp q).2 with q|q
  .exact UW z q hz
  .exact(WW.mp<|Cp (hs uo hS) q).2 (Yi _ hz)
 .rintro⟨hT,q1,q2⟩;obtain⟨uo,hS,rfl⟩:=KI hI hT.1 q1 q2;exact⟨uo,(h2 uo).mpr ((iff hS).mp hT),Z⟩
theorem bb(g0:Zw n ps)(gone:Ac)(hk:∀i,i<n.toNat->f i<k)(k1:1<=k)(kn:k<=n.toNat):Zw k (Tu f ps (XE ps.length gone)):=by
 obtain⟨g1,g2,g3,g4⟩:=g0;refine⟨J,J,?_,λp hp=>?_⟩
 .rw[wO]
  have:(XE ps.length gone).length<=(Wg ps.length).length:=YG ..
  have:=(Ga ps.length).len
  lia
 .obtain⟨z,hz,rfl⟩:=YA.mp hp;have hz1:=(WW.mp hz).1
  obtain⟨q,hq⟩:∃q,ps[z.toNat]?=some q:=⟨_,Xw J⟩;obtain⟨e1,e2,e3,e4⟩:=g4 q (Xf hq);have ee:Zt ps z=(q.1.toNat,q.2.toNat):=by unfold Zt;rw[VZ hq]
  rw[ee];have a:=hk q.1.toNat uu
  have b:=hk q.2.toNat uu;exact⟨by show(0:Int)<=(f q.1.toNat:Int);lia,by show(f q.1.toNat:Int)<(k:Int);grind,by show(0:Int)<=(f q.2.toNat:Int);lia,by show(f q.2.toNat:Int)<(k:Int);grind⟩
theorem mW(g0:Zw n ps)(hI:IsSet ps.length I)(hf:∀i j,i<n.toNat->j<n.toNat->(f i=f j↔Conn (XT ps I) i j))(hk:∀i,i<n.toNat->f i<k)(hg:∀a,a<k->g a<n.toNat/\f (g a)=a)(k1:1<=k)(kn:k<=n.toNat)(hn:n<(k:Int)+(I.length:Int)):PC n ps I O 0:=by
 refine⟨[],.nil,λT=>⟨λh=>(by cases h),λzz=>?_⟩,Z⟩;obtain⟨hT,q1,q2⟩:=zz;obtain⟨uo,hS,rfl⟩:=KI hI hT.1 q1 q2;have q:=(bc (O:=O) g0 hI hf hk hg hS).mp hT.2.2
 have gg:=bb (f:=f) g0 (I++O) hk k1 kn;have l:=nW gg (by rwa[wO]) λa b ha hb=>q a b uu uu
 have l2:=hT.2.1;rw[(Ig hI hS).length_eq,Xt]at l2;unfold QY at l2;rw[Yb]at l2;omega
end
noncomputable def UU:Ac->Int->Nat
 |[],_=>0
 |x::l,z=>if x=z then 0 else UU l z+1
theorem Ie:∀{l:Ac}{z:Int},z∈l->l[UU l z]?=some z
 |x::l,z,h=>by
  unfold UU;by_cases c:x=z
  .rw[if_pos c,c];rfl
  .rw[if_neg c];exact Ie ((Ye.mp h).resolve_left λe=>c e.symm)
theorem mV(h:z∈l):UU l z<l.length:=(Xs.mp<|Ie h).1
theorem mU(hz:z∈l)(hy:y∈l):UU l z=UU l y↔z=y:=by
 refine⟨λe=>?_,λe=>by rw[e]⟩;have h1:=Ie hz
 rw[e,Ie hy]at h1;exact(Yh h1).symm
theorem mT(hn:l.Nodup){i:Nat}{z:Int}(h:l[i]?=some z):UU l z=i:=Gq hn (Ie<|Xf h) h
theorem Co(h:i<M.length):mk M i∈M:=by unfold mk;rw[WJ,Xw h];exact Ny h
section
variable{N:Nat}{es:List (Nat×Nat)}{F:Ac}
theorem mS(h:InN N es)(hF:F.Pairwise (·<·))(hm:∀z,z∈F↔z∈Xu N es):
  ∃g:Nat->Nat,(∀i j,i<N->j<N->(UU F (mk (Xu N es) i)=UU F (mk (Xu N es) j)↔Conn es i j))/\(∀i,i<N->UU F (mk (Xu N es) i)<F.length)/\∀a,a<F.length->g a<N/\UU F (mk (Xu N es)<|g a)=a:=by
 have hl:=ZD N es;have mR:∀i,i<N->mk (Xu N es) i∈F:=λi hi=>(hm _).mpr (Co J)
 have ex:∀a,∃i,a<F.length->i<N/\UU F (mk (Xu N es) i)=a:=λa=>by
  by_cases c:a<F.length
  .have q:=(hm _).mp (Ny c);obtain⟨i,hi⟩:=Qm q;have Wb:=(Xs.mp hi).1
   refine⟨i,λ_=>⟨J,?_⟩⟩;have e:mk (Xu N es) i=F[a]:=by unfold mk;exact VZ hi
   rw[e];exact mT (IA hF) (Xw c)
  .exact⟨0,λh=>absurd h c⟩
 refine⟨λa=>Classical.choose<|ex a,λi j hi hj=>?_,λi hi=>mV<|mR i hi,λa ha=>Classical.choose_spec (ex a) ha⟩;rw[mU (mR i hi) (mR j hj)];exact Rj h hi hj
theorem mQ:∀i,∃p,p<=i/\Wi M p=true/\mk M p=mk M i:=by
 intro i
 induction i using Nat.strongRecOn with
 |_ i ih=>
  by_cases c:Wi M i=true
  .exact⟨i,XO _,c,Z⟩
  .obtain⟨j,hj,e⟩:∃j,j<i/\mk M j=mk M i:=Yx λno=>c (XD.mpr λj hj e=>no ⟨j,hj,e⟩);obtain⟨p,h1,h2,h3⟩:=ih j hj;exact⟨p,J,h2,h3.trans e⟩
theorem mP(hF:F.Pairwise (·<·))(hm:∀z,z∈F↔z∈M):F.length=cnt M:=by
 have e:F.Perm ((Vt M M.length).map (mk M)):=by
  refine(LI (IA hF) ?_).mpr λz=>?_
  .refine LD.mpr ?_;unfold Vt;refine(Qf.filter<|Wi M).imp_of_mem λ{a b} ha hb Vy=>?_;exact XD.mp (Yg.mp hb).2 a Vy
  .rw[hm,YA];constructor
   .intro hz;obtain⟨i,hi⟩:=Qm hz;have Wb:=(Xs.mp hi).1
    obtain⟨p,h1,h2,h3⟩:=mQ (M:=M) i;refine⟨p,Yg.mpr ⟨YI.mpr J,h2⟩,h3.trans ?_⟩;unfold mk;exact VZ hi
   .rintro⟨p,hp,rfl⟩;exact Co (YI.mp (Yg.mp hp).1)
 rw[e.length_eq,Yb];rfl
theorem ZL4(h:InN N es)(hN:1<=N)(hF:F.Pairwise (·<·))(hm:∀z,z∈F↔z∈Xu N es):1<=F.length/\F.length<=N/\N<=F.length+es.length:=by
 have e:=mP hF hm;have hl:=ZD N es
 have e2:=pL (xN (n:=N) (es:=es) h);have e3:=xx es h
 have e4:=xw (M:=Xu N es) J;have e5:cnt (Xu N es)<=N:=by unfold cnt Vt;refine Ys (YG ..) ?_;rw[Om];lia
 grind
end
noncomputable def FD(A uj:Ac)(t:Int):Prop:=t∈A/\t∉uj/\∀s,s<t->(s∈A↔s∈uj)
theorem mO:∀{A uj:Ac},A.Pairwise (·<·)->uj.Pairwise (·<·)->A.length=uj.length->(HT.lexLt A uj=true↔∃t,FD A uj t)
 |[],[],_,_,_=>⟨λh=>(by cases h),λzz=>by obtain⟨t,h,_⟩:=zz;exact(by cases h)⟩
 |x::A,y::uj,hA,hB,hl=>by
  obtain⟨a1,a2⟩:=YQ.mp hA;obtain⟨b1,b2⟩:=YQ.mp hB;have Qb:A.length=uj.length:=Nv hl
  show(if x=y then HT.lexLt A uj else decide (x<y))=true↔_;by_cases c:x=y
  .subst c;rw[if_pos Z,mO a2 b2 Qb];constructor
   .rintro⟨t,h1,h2,h3⟩;have tx:=a1 t h1
    refine⟨t,Yf _ h1,λq=>?_,λs hs=>?_⟩
    .rcases Ye.mp q with e|e
     .lia
     .exact h2 e
    .rw[Ye,Ye,h3 s hs]
   .rintro⟨t,h1,h2,h3⟩;have tx:t≠x:=λe=>h2 (e▸Ya)
    have Lb:=(Ye.mp h1).resolve_left tx;refine⟨t,Lb,λq=>h2<|Yf _ q,λs hs=>?_⟩
    have:=h3 s hs
    rw[Ye,Ye]at this;by_cases e:s=x
    .rw[e];exact⟨λq=>absurd (a1 x q)<|Int.lt_irrefl x,λq=>absurd (b1 x q)<|Int.lt_irrefl x⟩
    .exact⟨λq=>(this.mp<|.inr q).resolve_left e,λq=>(this.mpr<|.inr q).resolve_left e⟩
  .rw[if_neg c,YT];constructor
   .intro h;refine⟨x,Ya,λq=>?_,λs hs=>⟨λq=>?_,λq=>?_⟩⟩
    .rcases Ye.mp q with e|e
     .exact c e
     .have:=b1 x e;lia
    .rcases Ye.mp q with e|e
     .lia
     .have:=a1 s e;lia
    .rcases Ye.mp q with e|e
     .lia
     .have:=b1 s e;lia
   .rintro⟨t,h1,h2,h3⟩;have tx:x<=t:=by
     rcases Ye.mp h1 with e|e
     .lia
     .have:=a1 t e;lia
    refine Yx λhc=>?_;have hyx:y<x:=J
    have:=(h3 y uu).mpr Ya
    rcases Ye.mp this with e|e
    .lia
    .have:=a1 y e;grind
theorem ba{α:Type}[DecidableEq α]:∀{l m:List α},l.Nodup->(∀x∈l,x∈m)->l.length<=m.length
 |[],_,_,_=>Ym _
 |x::l,m,hn,hs=>by
  have hx:=hs x Ya;obtain⟨h1,h2⟩:=QI.mp hn
  have:=ba (m:=m.erase x) h2 λy hy=>(vn λe=>h1<|by rwa[<-e]).mpr (hs y<|Yf _ hy)
  rw[JJ hx]at this
  have:=yX hx
  rw[Yq];grind
theorem mM{s rest:TS}{um:Ends}{σ:L2.St}{H:Hp}(P:L2.St->Hp->Prop)(h1:∀σ' H',P σ' H'->rest um σ' H')(h2:∀K:L2.St->Hp->Prop,(∀σ' H',P σ' H'->K σ' H')->s {um with nx:=K} σ H):TM s rest um σ H:=h2 _ h1
end My
namespace L2
open PySem PySem.Spec PyProof.Rows
noncomputable def Cn(K:Ad)(W:Addr)(tb:(St->XK)->TS)(th:Addr->Addr->TS):TS:=λum σ H=>
 tb (λσ' c _ H'=>∃C,c=Value.ref C/\PySem.W.exmOne K (.ref C) (.ref W)=some true/\∀e:Addr,H' e=none->th e C um σ' H') um σ H
theorem mL{np QX pos:Pos}{b₀:Stmt}{KH:List Stmt}{tb:(St->XK)->TS}{th:Addr->Addr->TS}
  (Wx:X.stack=X.env::X.outer)(Rk:X.env.frame=some X.env.locals)(hex:X.ex=[])(hm:X.mg x=some (.ref W))(hg:Gl X x)
  (hb:∀R pins,PSs (TF X pins R) body<|tb R)(hs:∀e C oe pins,oe.cls=.ref C->PSs (IE X pins e oe) (b₀::KH) (th e C))(Up:(x == ("__debug__":Str))=false:=by decide):
  PS X (.Try body [.ExceptHandler (some<|.Name x np) none (b₀::KH) QX] [] [] pos) (Cn X.K W tb th):=by
 intro pins s σ H um I h;refine wpAny_Try_except (Ut (hb _ pins [] s σ H um I.inTry h) (λf s1 q=>?_) λev s1 q=>?_)
 .have q:=SP.outTry q;cases f with
  |next=>exact Qd q
  |brk=>exact q
  |cont=>exact q
  |ret u=>exact q
 .obtain⟨σ1,H1,s0,I0,Wj⟩:=q;obtain⟨e,C,H',rfl,AP,F,C',eC,hmt,hR⟩:=I0.flown Wj;cases eC;have hR:=hR e F.free
  obtain⟨T,a0,fl,nT,fT⟩:=c5 Wx AP F;have VE:∀b∈[e,T],X.s₀.heap.get? b=none/\H' b=none/\(∀p∈X.pn++pins,p.1≠b):=λb hb=>by
   have key:∀b,s0.heap.get? b=none->H' b=none->X.s₀.heap.get? b=none/\H' b=none/\(∀p∈X.pn++pins,p.1≠b):=λb n0 f0=>⟨I0.was hex n0,f0,λp hp z=>by
    have:=(I0.pin p hp).1
    rw[z,n0]at this;cases this⟩
   rcases Ye.mp hb with rfl|hb
   .exact key _ F.new F.free
   .rw[XF.mp hb];exact key _ nT fT
  rw[Wx]at fl;refine wpAny_looks_onW (by rw[AP.ok.frames,Wx]) Rk fl λh₄ Ms Cm=>?_;refine wpAny_landsW Ms λh₅ OX Ic=>?_;have KG:=Cm.trans Ic
  have J₅:Inv X pins σ1 H' {s1 with heap:=h₅}:=AP.held (tk:=s1.toks) VE OX.1 KG;obtain⟨ob,Rp,mK⟩:=OX.there;refine wpAny_handleBy_cons (codeAny_handlers_test<|vA J₅.ok.kind hg (Calls.loadGlobal_global (by rw[J₅.ok.glob];exact J₅.mod.glob.keeps J₅.bk) hm ?_) Up) (by intro q;cases q);have LT:PySem.W.Looks (model X.prog X.w) h₅ (typeOf<|.ref e) (.ref C):=by rw[<-mK];exact(PySem.W.Looks.ld Rp).andThen .now
  refine(PySem.W.exm_one J₅.kIn LT hmt).here ?_;refine codeAny_handlers_suite ?_;refine lands_againW OX λh₆ KD Ck=>?_;have J₆:Inv X pins σ1 H' {s1 with heap:=h₆}:=AP.held (tk:=s1.toks) VE KD.1 (KG.trans Ck)
  obtain⟨oe,ws,Pm,mJ,Ib,hoe0⟩:=KD.first;have yw:e≠X.env.locals:=λz=>by
   obtain⟨m,⟨o',es,ep,Wu,Qc,_⟩,_⟩:=J₆.loc;rw[<-z]at Wu;have Ia:h₆.get? e=some oe:=Pm
   have OW:h₆.get? e=some o':=Wu;rw[Ia]at OW;cases OW;rw[Ib]at Qc;cases Qc
  have Lc:e∉X.fs:=λz=>by
   obtain⟨_,o',Wu,hd⟩:=J₆.funs.mem z;have Ia:h₆.get? e=some oe:=Pm
   have OW:h₆.get? e=some o':=Wu;rw[Ia]at OW;cases OW;exact hd ws Ib
  have JH:=J₆.inHan (oe:=oe) Pm F.free yw Lc (λv z=>by rw[Ib]at z;cases z);refine Ut (hs e C oe pins mJ [] _ _ H' um JH hR) (λf s8 q=>?_) λ_ _ z=>False.elim z;cases f with
  |next=>obtain⟨σ8,H8,J8,q⟩:=q;exact⟨_,H8,J8.outHan I.ok.hd I.ok.frames,q⟩
  |brk=>obtain⟨σ8,H8,J8,q⟩:=q;exact⟨_,H8,J8.outHan I.ok.hd I.ok.frames,q⟩
  |cont=>obtain⟨σ8,H8,J8,q⟩:=q;exact⟨_,H8,J8.outHan I.ok.hd I.ok.frames,q⟩
  |ret u=>obtain⟨v,σ8,H8,J8,r,q⟩:=q;exact⟨v,_,H8,J8.outHan I.ok.hd I.ok.frames,r,q⟩
end L2
namespace My
open PySem L2
theorem aZ{m:Nat}(hm:m<=30):∀k,(Pl (m:Int) k).length<=30^k
 |0=>XO 1
 |k+1=>by
  have h1:=cK (m:=m) (Pl (m:Int) k) λs hs=>(VQ.mp hs).2;have h2:=aZ hm k
  have h3:m*(Pl (m:Int) k).length<=30*30^k:=JT hm h2;rw[Nat.pow_succ,Nj];exact Ys h1 h3
theorem Cj(g:Zw n ps)(h:TC n ps c):c<10^20:=by
 obtain⟨L,hn,hm,rfl⟩:=h;obtain⟨g1,g2,g3,_⟩:=g;refine yU (m:=30^13) (Ys (ba (m:=Pl (ps.length:Int) (n-1).toNat) hn λx hx=>VQ.mpr ⟨?_,((hm x).mp hx).1⟩)<|Ys (aZ J _)<|vp S ur) S
 have:=((hm x).mp hx).2.1
 lia
theorem mI(g:Zw n ps):∃L:Ab,(∀l,l∈L↔Zh n ps l)/\L.Pairwise MD:=⟨Wd n.toNat ps (n-1).toNat,λ_=>pI g,(KW _ _).filter _⟩
noncomputable def ev(b:Int):Ac->Int
 |[]=>0
 |d::l=>d+b*ev b l
noncomputable abbrev HZ(ls:Ac)(z:Int):Int:=ls.getD z.toNat 0
noncomputable def lwS(ls:Ac)(x:Int):Ac:=(Wg ls.length).filter λz=>decide (HZ ls z<x)
noncomputable def mA(N:Nat)(ps:Aa)(ls:Ac)(x:Int):Ac:=Xu N (XT ps<|lwS ls x)
noncomputable def lvl(ls:Ac)(x:Int)(i:Nat):Ac:=(Wg i).filter λz=>decide (HZ ls z=x)
noncomputable def Ci(ls T:Ac):Int:=(T.map<|HZ ls).sum
section
variable{n:Int}{ps:Aa}{T:Ac}(g:Zw n ps)
include g
theorem mH(hT:Zh n ps T)(hW:Zh n ps W)(h:∀z∈T,z∈W):T.Perm W:=by
 have:=bo (l:=W) hT.1.nodup (by have:=hT.2.1;have:=hW.2.1;lia) h
 exact this.symm
end
theorem mG(hT:Zh n ps T)(hW:Zh n ps W):(T.filter λy=>decide (y∉W)).length=(W.filter λy=>decide (y∉T)).length:=by
 have e1:=cz (λy=>decide<|y∈W) T;have e2:=cz (λy=>decide<|y∈T) W
 have p:(T.filter λy=>decide<|y∈W).Perm (W.filter λy=>decide<|y∈T):=(LI (hT.1.nodup.filter _)<|hW.1.nodup.filter _).mpr λy=>by rw[Yg,Yg,YT,YT];exact And.comm
 have f1:(T.filter λy=>decide<|y∉W)=T.filter λy=>!decide (y∈W):=LC λy _=>B;have f2:(W.filter λy=>decide<|y∉T)=W.filter λy=>!decide (y∈T):=LC λy _=>B
 have:=p.length_eq
 have h1:=hT.2.1;have h2:=hW.2.1
 rw[f1,f2];lia
end My
namespace HT
open PySem PyProof.Rows
section
noncomputable def ltP(x y:Int×Ac):Bool:=decide (x.1<y.1)||(decide (x.1=y.1)&&lexLt x.2 y.2)
end
end HT
namespace My
open PySem L2
section
variable{one d0 d1:Int}{other:Option Int}
noncomputable def dZ(one:Int)(other:Option Int)(d0 d1 y:Int):Int:=if y=one then d0 else if some y=other then d1 else y
end
end My
namespace L2
open PySem PySem.Spec PyProof.Rows
noncomputable def TL(l:List Str):List V:=l.map V.str
theorem aY:∀{l:List Str}{us:Ag},Vals (TL l) us->∃k:List (Str×Tok),us=strValues k/\k.map (λx=>x.fst)=l
 |[],_,.nil=>⟨[],Z,Z⟩
 |x::l,_,.cons r t=>by obtain⟨tk,rfl⟩:=r;obtain⟨k,rfl,h⟩:=aY (l:=l) t;exact⟨(x,tk)::k,Z,by rw[WD,h]⟩
section
variable{X:Cx}
noncomputable def mF(K:Ad):V->List V->Hp->VK->Prop:=λx vs H Q=>∃sep a l,x=.str sep/\vs=[.ref a]/\SqL K H a (TL l)/\JoinOk sep l=true/\Q (.str<|sep.join l) H
theorem Cg (K:Ad) (h:X.K=K:=by rfl):Ob X "str.join" (mF K):=by subst h;intro pins s σ H x vs v us Q I rx rv h;obtain⟨sep,a,l,rfl,rfl,hq,hj,q⟩:=h;obtain⟨tk,rfl⟩:=rx;obtain⟨u,rfl,ru⟩:=rv.one;cases ru;obtain⟨XW,r,pl,hz⟩:=I.list hq;obtain⟨k,rfl,hk⟩:=aY r;refine PySem.SC.join pl.isList hk hj λt' n=>⟨.str _,H,I.tok n,⟨t',Z⟩,?_⟩;rwa[show Txt.join sep l=sep.join l from PySem.StrLaws.glued_eq_join sep l]
theorem wN:Vp X (.type "str") (λxs H Q=>∃i:Int,xs=[.int i]/\-(10^70)<i/\i<10^70/\Q (.str (Str.ofString (toString i))) H):=by intro pins s σ H xs us Q I r h;obtain⟨i,rfl,h1,h2,q⟩:=h;exact ZS4 pins s σ H _ us Q I r ⟨i,Z,cX h1 h2,q⟩
end
theorem Cf:∀l n,Vals (TL l) (strsFrom n l)
 |[],_=>.nil
 |_::l,n=>.cons ⟨n,Z⟩ (Cf l<|n+1)
section
variable{X:Cx}
noncomputable def mE:V->List V->Hp->VK->Prop:=λx vs H Q=>∃z y,x=.str z/\vs=[.str y]/\(y.length == 0)=false/\z.length<=sizeLine/\(Txt.split z y).length<=sizeLine/\∀p,H p=none->Q (.ref p) (upd H p<|.lst<|TL<|Txt.split z y)
theorem Ce:Ob X "str.split" mE:=by
 intro pins s σ H x vs v us Q I rx rv h;obtain⟨z,y,rfl,rfl,hy,hz,hl,q⟩:=h;obtain⟨t,rfl⟩:=rx;obtain⟨u,rfl,ru⟩:=rv.one;obtain⟨u',rfl⟩:=ru;have self:Txt.split z y=[z]->EP X pins σ Q (.ref s.heap.objs.size) {s with heap:=s.heap.push {cls:=.type "list",data:=.seq #[.str z t]} }:=λe=>by rw[e]at q;refine⟨.ref s.heap.objs.size,_,I.laid (t':=s.toks) (o:=.lst<|TL [z]) (λb ob q=>Xb _ q) (XO _) ?_,Z,q _<|I.hok.fresh<|XO _⟩;exact⟨by rw[e]at hl;exact hl,[.str z t],0,.cons ⟨t,Z⟩ .nil,Yj _ Z⟩
 by_cases c1:(decide (z.length<y.length)||decide (Builtin.Str.strKind z<Builtin.Str.strKind y))=true
 .have e:Txt.split z y=[z]:=by unfold Txt.split;rw[if_pos c1]
  exact Oi Qh (Gy _ _ _) vC (JL _ _) (meets_str_split_cannot_occur z y t u' c1) (self e)
 .have aX:=Nk.mpr c1;by_cases c2:(Builtin.Str.occurrences z y 0 z.length<|z.length+1).isEmpty=true
  .have e:Txt.split z y=[z]:=by unfold Txt.split;rw[if_neg c1,if_pos c2]
   exact Oi Qh (Gy _ _ _) vC (JL _ _) (meets_str_split_not_found z y t u' aX hy c2) (self e)
  .have e:Txt.split z y=Builtin.Str.partsBetween z (Builtin.Str.occurrences z y 0 z.length<|z.length+1) y.length:=by unfold Txt.split;rw[if_neg c1,if_neg c2]
   rw[e]at hl q;refine Oi Qh (Gy _ _ _) vC (JL _ _) (meets_str_split_sep z y t u' aX hy (Nk.mpr c2) hz hl) ?_;refine⟨.ref s.heap.objs.size,_,I.laid (o:=.lst<|TL<|Builtin.Str.partsBetween z (Builtin.Str.occurrences z y 0 z.length<|z.length+1) y.length) (λb ob q=>Xb _ q) (XO _) ?_,Z,q _<|I.hok.fresh<|XO _⟩;exact⟨by unfold TL;rw[Yb];exact hl,_,0,Cf _ _,Yj _ Z⟩
noncomputable def mD:V->List V->Hp->VK->Prop:=λx vs H Q=>∃z y,x=.str z/\vs=[.str y]/\Q (.bl<|Txt.startswith z y) H
theorem Zy8:Ob X "str.startswith" mD:=by intro pins s σ H x vs v us Q I rx rv h;obtain⟨z,y,rfl,rfl,q⟩:=h;obtain⟨t,rfl⟩:=rx;obtain⟨u,rfl,ru⟩:=rv.one;obtain⟨u',rfl⟩:=ru;exact PySem.SC.startswith ⟨.bl _,H,I,Z,q⟩
theorem mC:Vp X (.type "int") (λxs H Q=>∃z n,xs=[.str z]/\intText? z=some n/\z.length<=640/\Q (.int n) H):=by intro pins s σ H xs us Q I r h;obtain⟨z,n,rfl,hz,hl,q⟩:=h;obtain⟨u,rfl,ru⟩:=WH r;obtain⟨t,rfl⟩:=ru;exact PySem.W.KIN.call_text hz hl ⟨.int n,H,I.tok _,⟨_,Z⟩,q⟩
noncomputable def mB(z:Str):It:=⟨λi _=>i<z.cps.size,λi H x H'=>H'=H/\∃c,z.cps[i]?=some c/\x=.str ⟨#[c]⟩,λi _=>z.cps.size<=i⟩
theorem Za8 {P:Program} {w:World} {K:Ad} {tg:Expr} (z:Str) (t:Tok) (it:Addr):Turn P w K tg (mB z) [it] it (λi h=>h.IsStrIter it "str_ascii_iterator" z t i) where
 mem:=B
 obj:=λi h st b hb=>by
  have e:b=it:=by simpa using hb
  subst e;obtain⟨o,e,c,d⟩:=st;exact⟨o,e,λv z=>by rw[d]at z;cases z⟩
 keep:=λi h h' st k=>by obtain⟨o,e,c,d⟩:=st;exact⟨o,k it B o e,c,d⟩
 item:=by
  intro X hP hw hK hc i pins s σ H E I hf st hg;subst hP hw hK;obtain⟨c,WI⟩:∃c,z.cps[i]?=some c:=⟨_,YE hg⟩;obtain⟨f0,f1,f2,f3,f4,f5⟩:=hf it B;refine wpAny_pyNext_ascii_item st WI λh' Uq sb=>?_;have I1:Inv X pins σ H {s with heap:=h',toks:=s.toks+1}:=I.turned (λb o hb e=>(sb.2 b hb).trans e) f0 f1 f3 f4 f5
  obtain⟨o,e,c',d⟩:=id Uq;exact⟨_,Z,Nc (s:={s with heap:=h',toks:=s.toks+1}) e c' d S ⟨.str ⟨#[c]⟩,H,I1,⟨_,Z⟩,⟨Z,c,WI,Z⟩,Uq,λb hb=>(hf b hb).1⟩⟩
 done:=by intro X hP hw hK hc i pins s σ H E I hf st hg;subst hP hw hK;obtain⟨f0,f1,f2,f3,f4,f5⟩:=hf it B;exact wpAny_pyNext_ascii_end (I.ok.hd hc) st (Qe hg) λh' eb=>⟨Z,I.turned (t':=s.toks) (λb o hb e=>eb b o hb e) f0 f1 f3 f4 f5⟩
 self:=λ_ _ _ _ _ st h=>wpAny_pyIter_striter_ascii st h
noncomputable def mz(tl:TE):TI:=λσ H R=>tl σ H λx H1=>∃z:Str,x=.str z/\(z.cps.all λc=>decide<|c<128)=true/\R (mB z) H1
theorem my{l tg:Expr}{tl:TE}(hl:PE X l tl):PI X tg l (mz tl):=by
 intro pins s σ H R I h;refine thn (hl pins s σ H _ I h) λv s1 Xy=>?_;obtain⟨x,H1,I1,r1,q1⟩:=Xy;obtain⟨z,e,ha,q⟩:=q1;subst e;obtain⟨t,rfl⟩:=r1;refine wpAny_pyIter_ascii ha ?_;refine⟨s1.heap.objs.size,[s1.heap.objs.size],_,_,H1,Z,I1.kept (t':=s1.toks) λb o e=>Xb _ e,Za8 z t _,⟨_,Yj _ Z,Z,Z⟩,λb hb=>?_,q⟩;have e:b=s1.heap.objs.size:=by simpa using hb
 subst e;exact I1.fpOk (XO _) (I1.hok.fresh<|XO _)
noncomputable def mx:V->Option Int->Option Int->Hp->VK->Prop:=λx lo hi H Q=>∃z:Str,x=.str z/\(StrLaws.sliceText z lo hi).length<=sizeLine/\Q (.str<|StrLaws.sliceText z lo hi) H
theorem aW(h:IsPart v o):∃l:Option (Int×Tok),v=partValue l/\l.map (λx=>x.fst)=o:=by
 cases h with
 |none=>exact⟨none,Z,Z⟩
 |int i t=>exact⟨some (i,t),Z,Z⟩
theorem mw:x8 X mx:=by
 intro pins s σ H x v vl vu lo hi sl Q I rx hs pl pu h;obtain⟨z,rfl,hz,q⟩:=h;obtain⟨t,rfl⟩:=rx;refine⟨"str",_,slot_str_getitem.lookup,Gy s z t,?_⟩;obtain⟨l,rfl,e1⟩:=aW pl;obtain⟨u,rfl,e2⟩:=aW pu;subst e1 e2;refine wpAny_getItem_str_slice (l:=l) (u:=u) (st:=none) hs uw ?_;unfold StrLaws.sliceText at hz q;unfold sliceMade slicePicked;show Made.post (if (1 == 1&&(Builtin.Str.strSliceIndices (l.map λx=>x.fst) (u.map λx=>x.fst) 1 z.length).length == z.length)=true then _ else _) _ s
 split at hz
 .rename_i c;rw[if_pos c]at q;rw[if_pos c];exact⟨.str z,H,I,⟨t,Z⟩,q⟩
 .rename_i c;rw[if_neg c]at q;rw[if_neg c];exact⟨hz,.str _,H,I.tok _,⟨_,Z⟩,q⟩
end
end L2
namespace My
open PySem L2
section
variable{g:TG}{tt:TT}{te:TE}{o:Nat}{fr:List Nat}{σ:L2.St}{H:Hp}{Q:VK}
theorem mv(Pv:Nat->List V->Hp->Prop)(h0:Pv 0 [] H)(hz:z.cps.size<sizeLine)(hl:∀i ys H,i<=z.cps.size->Pv i ys H->ys.length<=i)
  (hs:∀i c ys H,z.cps[i]?=some c->Pv i ys H->IV Pv g tt te o fr σ i (.str ⟨#[c]⟩) ys H)(hd:∀ys H,Pv z.cps.size ys H->∀p,H p=none->Q (.ref p) (upd H p<|.lst ys)):MS (mB z) g tt te o fr σ H Q:=by
 refine⟨λi m ys H=>m=z.cps.size-i/\i<=z.cps.size/\Pv i ys H,⟨z.cps.size,B,Ym _,h0⟩,?_⟩;rintro i m ys H ⟨rfl,hi,p⟩;have hy:=hl i ys H hi p
 by_cases Xh:i<z.cps.size
 .refine .inr ⟨Xh,J,λx H' zz=>?_⟩;obtain⟨e,c,hc,y⟩:=zz;subst e;subst y;exact hs i c ys _ hc p (λj ys H=>∃m',m'<z.cps.size-i/\m'=z.cps.size-j/\j<=z.cps.size/\Pv j ys H) λys H p'=>⟨z.cps.size-(i+1),uu,Z,Xh,p'⟩
 .have e:i=z.cps.size:=J;subst e;exact .inl ⟨XO _,J,hd ys H p⟩
end
noncomputable def nT(i:Int):Str:=Str.ofString (toString i)
noncomputable def dg(m:Nat):List Nat:=(Nat.toDigits 10 m).map Char.toNat
noncomputable def NL(i:Int):List Nat:=if i<0 then 45::dg i.natAbs else dg i.natAbs
theorem OV(i:Int):(nT i).cps.toList=NL i:=by
 unfold nT NL;cases i with
 |ofNat m=>
  rw[if_neg (show ¬Int.ofNat m<0 from GB.mpr<|Int.natCast_nonneg m)];exact W.KIN.signs_num m
 |negSucc m=>
  rw[if_pos (Int.negSucc_lt_zero m)];have e:(Str.ofString<|toString ((m+1:Nat):Int)).cps.toList=dg (m+1):=W.KIN.signs_num (m+1)
  rw[Str.ofString_eq_toList]at e ⊢;have e2:(toString<|Int.negSucc m).toList='-'::(toString ((m+1:Nat):Int)).toList:=by show("-"++toString (m+1)).toList='-'::(toString<|m+1).toList;rw[String.toList_append];rfl
  rw[e2,WD];show 45::List.map Char.toNat _=45::dg (m+1)
  rw[<-e]
theorem aV{d:Nat}(h:d<10):(Nat.digitChar d).toNat=48+d:=(by decide:∀d<10,(Nat.digitChar d).toNat=48+d) d h
theorem Mr(h:m<10):dg m=[48+m]:=by unfold dg;rw[Nat.toDigits_of_lt_base h,yS,aV h]
theorem Mq(h:10<=m):dg m=dg (m/10)++[48+m%10]:=by unfold dg;rw[Nat.toDigits_of_base_le S h,YJ,yS,aV (Nat.mod_lt _ S)]
theorem FU(m:Nat):NumText.AllDigits (dg m):=by
 induction m using Nat.strongRecOn with
 |ind m ih=>
  intro c hc;by_cases h:m<10
  .rw[Mr h]at hc
   have:=XF.mp hc
   lia
  .rw[Mq J]at hc;rcases Xz.mp hc with q|q
   .exact ih (m/10) J c q
   .have:=XF.mp q
    grind
theorem Mp(m:Nat):dg m≠[]:=by
 by_cases h:m<10
 .rw[Mr h];simp
 .rw[Mq ur];simp
theorem Cd(m:Nat):NumText.digitsVal (dg m)=m:=by
 induction m using Nat.strongRecOn with
 |ind m ih=>
  by_cases h:m<10
  .rw[Mr h];show 0*10+(48+m-48)=m
   lia
  .rw[Mq ur,NumText.digitsVal_snoc,ih (m/10) ur];lia
theorem Cc{m k:Nat}(hk:1<=k)(h:m<10^k):(dg m).length<=k:=by unfold dg;rw[Yb];exact toDigits_len_pow S hk h
theorem mr(h:0<m):∃c r,dg m=c::r/\c≠48:=by
 induction m using Nat.strongRecOn with
 |ind m ih=>
  by_cases c:m<10
  .exact⟨48+m,[],Mr c,J⟩
  .obtain⟨a,r,e,ne⟩:=ih (m/10) ur J;exact⟨a,r++[48+m%10],by rw[Mq ur,e];rfl,ne⟩
theorem Mo(x:Str):x.length=x.cps.toList.length:=by show x.cps.size=_;rw[YC]
theorem aT{x y:Str}(h:x.cps.toList=y.cps.toList):x=y:=Str.ext' (Array.toList_inj.mp h)
theorem Cb{k:Nat}(hk:1<=k)(h1:-(10^k)<i)(h2:i<10^k):(NL i).length<=k+1:=by
 have e:((10^k:Nat):Int)=(10:Int)^k:=by rw[Int.natCast_pow];rfl
 rw[<-e]at h1 h2
 have:=Cc hk (m:=i.natAbs) uu
 unfold NL;split
 .rw[Yq];lia
 .lia
theorem OU{k:Nat}(hk:1<=k)(h1:-(10^k)<i)(h2:i<10^k):(nT i).length<=k+1:=by rw[Mo,OV];exact Cb hk h1 h2
theorem mq{k:Nat}(hk:1<=k)(h4:k<=4000)(h1:-(10^k)<i)(h2:i<10^k):intText? (nT i)=some i:=by
 have hl:=OU hk h1 h2;have e:=OV i
 unfold NL at e;split at e
 .rw[intText_neg e (FU _) (Mp _) J,Cd];congr 1;grind
 .rw[intText_digits (by rw[e];exact FU _) (by rw[e];exact Mp _) ur,e,Cd];congr 1;lia
noncomputable def Wf(cs:List Nat):List Nat:=if cs.head?=some 45 then cs.tail else cs
noncomputable def Ca(cs:List Nat):Bool:=decide (1<=(Wf cs).length/\(Wf cs).length<=60/\(∀c∈Wf cs,48<=c/\c<=57)/\(cs=[48]\/(Wf cs).head?≠some 48))
theorem ml(m:Nat):(dg m).head?≠some 45:=λh=>by
 cases e:dg m with
 |nil=>exact Mp m e
 |cons c r=>
  rw[e]at h;have hc:c=45:=Yh h
  have:=FU m c (by rw[e];exact Ya)
  lia
theorem mj(i:Int):Wf (NL i)=dg i.natAbs:=by
 unfold Wf NL;split
 .rfl
 .rw[if_neg (ml _)]
theorem BZ(h1:-(10^60)<i)(h2:i<10^60):Ca (NL i)=true:=by
 refine Yn ?_;rw[mj];refine⟨List.length_pos_iff.mpr<|Mp _,Cc (k:=60) S ur,FU _,?_⟩;by_cases c:i=0
 .subst c;exact .inl rfl
 .obtain⟨a,r,e,ne⟩:=mr (m:=i.natAbs) J;refine .inr ?_;rw[e];intro q;exact ne (Yh q)
noncomputable def jn(c:Nat):List (List Nat)->List Nat
 |[]=>[]
 |[a]=>a
 |a::b::l=>a++c::jn c (b::l)
theorem OT(c:Nat):∀l:List Str,(Str.join ⟨#[c]⟩ l).cps.toList=jn c (l.map λx=>x.cps.toList)
 |[]=>rfl
 |[a]=>rfl
 |a::b::l=>by
  have ih:=OT c (b::l);show((a++⟨#[c]⟩++Str.join ⟨#[c]⟩ (b::l)):Str).cps.toList=a.cps.toList++c::jn c ((b::l).map λx=>x.cps.toList)
  rw[<-ih,Str.cps_append,Str.cps_append,vh,vh,QJ];rfl
theorem aS{c:Nat}:∀{a b x y:List Nat},c∉a->c∉b->a++c::x=b++c::y->a=b/\x=y
 |[],[],_,_,_,_,e=>⟨Z,(Fi e).2⟩
 |[],b::bs,_,_,_,hb,e=>absurd (Ya) ((Fi e).1▸hb)
 |a::as,[],_,_,ha,_,e=>absurd (Ya) ((Fi e).1▸ha)
 |a::as,b::bs,x,y,ha,hb,e=>by obtain⟨e1,e2⟩:=Fi e;obtain⟨h1,h2⟩:=aS (a:=as) (b:=bs) (λh=>ha<|Yf _ h) (λh=>hb<|Yf _ h) e2;exact⟨by rw[e1,h1],h2⟩
theorem KC:∀{A uj:List (List Nat)},A≠[]->uj≠[]->(∀a∈A,c∉a)->(∀b∈uj,c∉b)->jn c A=jn c uj->A=uj
 |[],_,h,_,_,_,_=>absurd Z h
 |_,[],_,h,_,_,_=>absurd Z h
 |[a],[b],_,_,_,_,e=>by have e:a=b:=e;rw[e]
 |[a],b::b'::uj,_,_,ha,_,e=>by have e:a=b++c::jn c (b'::uj):=e;exact absurd (by rw[e];simp) (ha a Ya)
 |a::a'::A,[b],_,_,_,hb,e=>by have e:a++c::jn c (a'::A)=b:=e;exact absurd (by rw[<-e];simp) (hb b Ya)
 |a::a'::A,b::b'::uj,_,_,ha,hb,e=>by obtain⟨e1,e2⟩:=aS (ha a Ya) (hb b Ya) (show a++c::jn c (a'::A)=b++c::jn c (b'::uj) from e);rw[e1,KC (A:=a'::A) (uj:=b'::uj) B B (λx hx=>ha x<|Yf _ hx) (λx hx=>hb x<|Yf _ hx) e2]
theorem mi(x y:Str):Txt.split x y≠[]:=by
 unfold Txt.split;split
 .simp
 .split
  .simp
  .rw[StrLaws.partsBetween_eq];obtain⟨p,r,e⟩:=StrLaws.partsFrom_ne x y.length 0 (Builtin.Str.occurrences x y 0 x.length<|x.length+1);rw[e];simp
theorem aR{c:Nat}{l:List Str}(hl:l≠[])(hf:∀p∈l,c∉p.cps.toList):Txt.split (Str.join ⟨#[c]⟩ l) ⟨#[c]⟩=l:=by
 have e:=StrLaws.join_split (Str.join ⟨#[c]⟩ l) ⟨#[c]⟩;have e2:=XB (λx:Str=>x.cps.toList) e
 rw[OT,OT]at e2;have m:=KC (by simpa using mi _ _) (by simpa using hl) (λa ha=>by
  obtain⟨p,hp,rfl⟩:=YA.mp ha;exact StrLaws.split_free _ c p hp) (λa ha=>by obtain⟨p,hp,rfl⟩:=YA.mp ha;exact hf p hp) e2
 exact(List.map_inj_right λx y h=>aT h).mp m
theorem QW{mg:Af}{z:Str}{v:Value}(X:K.In h)(G:h.Ns mainGlobals mg)(a:PySem.W.nsIn K mainGlobals x=some (some v))(e:∃tk,v=.str z tk):∃tk,mg x=some (.str z tk):=by obtain⟨tk,rfl⟩:=e;exact⟨tk,GD X G a⟩
noncomputable def Qu:Str:=Str.ofString " "
noncomputable def BY:Str:=Str.ofString "\n"
noncomputable def QV (p:Int×Int) (l:Int):Str:=Str.join Qu [Str.ofString "tie",nT p.1,nT p.2,nT l]
noncomputable def Ww (n:Int) (ps:Aa) (ls:Ac):List Str:=(Str.ofString "places "++nT n)::List.zipWith QV ps ls
noncomputable def Sv(n:Int)(ps:Aa)(ls:Ac):Str:=Str.join BY (Ww n ps ls)
theorem OS:Qu=⟨#[32]⟩:=by rfl
theorem HY:BY=⟨#[10]⟩:=by rfl
theorem aQ (n:Int):Str.ofString "places "++nT n=Str.join Qu [Str.ofString "places",nT n]:=by have e:Str.ofString "places "=Str.ofString "places"++Qu:=uw;rw[e];rfl
theorem BX{c:Nat}(h:c∈NL i):c=45\/48<=c/\c<=57:=by
 unfold NL at h;split at h
 .rcases Ye.mp h with e|e
  .exact .inl e
  .exact .inr (FU _ c e)
 .exact .inr (FU _ c h)
theorem aP{c:Nat}(h1:c≠45)(h2:c<48\/57<c):c∉(nT i).cps.toList:=λh=>by rw[OV]at h;rcases BX h with e|e<;>lia
theorem mh(i:Int):((nT i).cps.all λc=>decide (c<128))=true:=by rw[<-Array.all_toList,OV,RG];intro c hc;refine Yn ?_;rcases BX hc with e|e<;>lia
theorem KA{c x:Nat}:∀{A:List (List Nat)},x∈jn c A->x=c\/∃a∈A,x∈a
 |[],h=>by cases h
 |[a],h=>.inr ⟨a,Ya,h⟩
 |a::b::A,h=>by
  have h:x∈a++c::jn c (b::A):=h;rcases Xz.mp h with h|h
  .exact .inr ⟨a,Ya,h⟩
  .rcases Ye.mp h with h|h
   .exact .inl h
   .rcases KA h with e|⟨y,hy,hx⟩
    .exact .inl e
    .exact .inr ⟨y,Yf _ hy,hx⟩
theorem Kz{c uj:Nat}:∀{A:List (List Nat)},(∀a∈A,a.length<=uj)->(jn c A).length<=A.length*(uj+1)
 |[],_=>Ym _
 |[a],h=>by
  have:=h a Ya
  show a.length<=1*(uj+1);lia
 |a::b::A,h=>by
  have h1:=h a Ya;have ih:=Kz (c:=c) (A:=b::A) λx hx=>h x (Yf _ hx)
  show(a++c::jn c (b::A)).length<=_;rw[Xt,Yq,Yq,Nat.add_mul];lia
theorem mf{c uj:Nat}{l:List Str}(h:∀a∈l,a.length<=uj):(Str.join ⟨#[c]⟩ l).length<=l.length*(uj+1):=by rw[Mo,OT];refine Ys (Kz (uj:=uj) λa ha=>?_) (by rw[Yb];exact XO _);obtain⟨p,hp,rfl⟩:=YA.mp ha;rw[<-Mo];exact h p hp
theorem aO{c uj:Nat}{l:List Str}(h:∀a∈l,a.length<=uj)(hl:l.length*uj+l.length<=16777216):JoinOk ⟨#[c]⟩ l=true:=by unfold JoinOk;rw[StrLaws.joinFits h (by show l.length*uj+l.length*1<=_;lia)];rfl
noncomputable def Told(l:Ac):Prop:=∀z∈l,-(10^60)<z/\z<(10:Int)^60
theorem me(h:Told l):∀a∈l.map nT,a.length<=61:=λa ha=>by obtain⟨z,hz,rfl⟩:=YA.mp ha;exact OU (k:=60) S (h z hz).1 (h z hz).2
theorem BW{name:Str}{l:Ac}(hn:32∉name.cps.toList):Txt.split (Str.join Qu (name::l.map nT)) Qu=name::l.map nT:=by
 rw[OS];refine aR B λp hp=>?_;rcases Ye.mp hp with e|e
 .rw[e];exact hn
 .obtain⟨z,_,rfl⟩:=YA.mp e;exact aP S (.inl S)
theorem aN{name:Str}{l:Ac}(hn:10∉name.cps.toList):10∉(Str.join Qu (name::l.map nT)).cps.toList:=λh=>by
 rw[OS,OT]at h;rcases KA h with e|⟨a,ha,hx⟩
 .cases e
 .obtain⟨p,hp,rfl⟩:=YA.mp ha;rcases Ye.mp hp with e|e
  .rw[e]at hx;exact hn hx
  .obtain⟨z,_,rfl⟩:=YA.mp e;exact aP S (.inl S) hx
theorem BV:Txt.split (Sv n ps ls) BY=Ww n ps ls:=by
 unfold Sv;rw[HY];refine aR (by unfold Ww;simp) λp hp=>?_;rcases Ye.mp hp with e|e
 .rw[e,aQ];exact aN (l:=[n]) S
 .obtain⟨i,hi,e⟩:=RC e;rw[List.getElem_zipWith]at e;rw[<-e];exact aN (l:=[_,_,_]) S
theorem Zg8 (w:Str):Txt.startswith w (Str.ofString "-")=decide (w.cps.toList.head?=some 45):=by
 have h:=StrLaws.subAt_one w 45 0;have e:Str.ofString "-"=⟨#[45]⟩:=uw
 rw[e];unfold Txt.startswith;rw[List.head?_eq_getElem?];by_cases c:w.cps.toList[0]?=some 45
 .obtain⟨h1,h2⟩:=h.mpr c;rw[Yn c,h2,Bool.and_true];exact Yn h1
 .rw[YW c];refine Nk.mpr λq=>c (h.mp ?_);obtain⟨q1,q2⟩:=Bool.and_eq_true_iff.mp q;exact⟨Yu q1,q2⟩
theorem ZI6(h:1<=w.cps.toList.length):(StrLaws.sliceText w (some 1) none).cps.toList=w.cps.toList.tail:=by
 rw[StrLaws.sliceText_from (i:=1) ⟨S,J⟩];show(List.take _<|List.drop 1 _)=_
 rw[List.drop_one];refine YN ?_;rw[yQ];omega
theorem md (c:Nat):(!(!(Builtin.Str.occurrences (Str.ofString "0123456789") ⟨#[c]⟩ 0 (Str.ofString "0123456789").length 1).isEmpty))=!decide (48<=c/\c<=57):=by
 rw[StrLaws.found_one];congr 1;have e:(Str.ofString "0123456789").cps.toList=[48,49,50,51,52,53,54,55,56,57]:=uw
 rw[e];refine Fp.mpr ⟨λh=>?_,λh=>?_⟩
 .simp at h;omega
 .simp;lia
theorem Ky{i:Nat}{v:V}(h:(TL l)[i]?=some v):∃x,v=.str x/\l[i]?=some x:=by unfold TL at h;rw[Yo]at h;obtain⟨x,hx,rfl⟩:=eV.mp h;exact⟨x,Z,hx⟩
theorem FT(l:List Str):(TL l).length=l.length:=by unfold TL;rw[Yb]
theorem BU(l:List Str)(x:Str):TL l++[.str x]=TL (l++[x]):=by unfold TL;rw[YJ];rfl
theorem ma{ps:Aa}{ls:Ac}{p:Int×Int}{l:Int}(hp:ps[i]?=some p)(hl:ls[i]?=some l):Ww n (ps.take (i+1)) (ls.take (i+1))=Ww n (ps.take i) (ls.take i)++[QV p l]:=by
 have h1:=(Xs.mp hp).1;have h2:=(Xs.mp hl).1
 unfold Ww;rw[YL,YL,hp,hl];rw[List.zipWith_append (by rw[Yl,Yl];grind)];rfl
theorem l9(hl:ls.length=ps.length):(Ww n ps ls).length=ps.length+1:=by unfold Ww;rw[Yq,NA];grind
theorem BS(h:Told [p.1,p.2,l]):(QV p l).length<=400:=by
 unfold QV;rw[OS];refine Ys (mf (uj:=61) (l:=Str.ofString "tie" :: [p.1,p.2,l].map nT) λa ha=>?_) (show 4*(61+1)<=400 by decide);rcases Ye.mp ha with e|e
 .rw[e];decide
 .exact me h a e
theorem l8(g:Zw n ps)(hT:Told ls){i:Nat}{p:Int×Int}{l:Int}(hp:ps[i]?=some p)(hl:ls[i]?=some l):Told [p.1,p.2,l]:=λz hz=>by
 have:=g.2.2.2 p (Xf hp)
 have:=g.2.1
 rcases Ye.mp hz with e|e
 .omega
 .rcases Ye.mp e with e|e
  .grind
  .rw[XF.mp e];exact hT l (Xf hl)
theorem aM(g:Zw n ps)(hT:Told ls):∀a∈Ww n ps ls,a.length<=400:=λa ha=>by
 rcases Ye.mp ha with e|e
 .rw[e,Mo,Str.cps_append,vh,Xt,<-Mo,<-Mo]
  have:=OU (i:=n) (k:=60) S (by have:=g.1;omega) (by have:=g.2.1;omega)
  have e2:(Str.ofString "places ").length=7:=S;lia
 .obtain⟨i,hi,e⟩:=RC e;rw[List.getElem_zipWith]at e;rw[<-e];rw[NA]at hi;exact BS (l8 g hT (i:=i) (Xw uu)<|Xw uu)
noncomputable abbrev Tr:=Int×Aa×Ac
end My
namespace My
open PySem PySem.W PyProof.Rows
noncomputable def Uy{α:Type}(c:Nat->Nat->Bool):KasT α->α
 | .ret a=>a
 | .ask i j k=>Uy c (k<|c i j)
theorem FR{α β:Type}{c:Nat->Nat->Bool}{f:α->KasT β}:∀t:KasT α,Uy c (t.bind f)=Uy c (f (Uy c t))
 | .ret _=>rfl
 | .ask i j k=>FR (k<|c i j)
section
variable{n:Nat}{key:Nat->Int}
noncomputable def Ahd(key:Nat->Int)(i j:Nat):Prop:=key i<key j\/(key i=key j/\i<j)
theorem Ahd.trans{i j k:Nat}(h1:Ahd key i j)(h2:Ahd key j k):Ahd key i k:=by unfold Ahd at *;grind
structure Ord (n m:Nat) (p:Array Nat):Prop where
 perm:p.Perm (List.range n).toArray
 suf:∀i,m<=i->i<n->p.getD i 0=i
theorem Ord.size(h:Ord n m p):p.size=n:=by rw[h.perm.size_eq];simp
theorem Mn{p:Array Nat}(h:i<p.size):p[i]?=some (p.getD i 0):=by rw[YB,YE h];rfl
theorem Ord.inj(h:Ord n m p)(hi:i<n)(hj:j<n)(e:p.getD i 0=p.getD j 0):i=j:=by
 have hn:p.toList.Nodup:=(Nw.mp h.perm).nodup_iff.mpr List.nodup_range;have hs:=h.size
 have e1:=Mn (p:=p) (i:=i) J;have e2:=Mn (p:=p) (i:=j) J
 rw[<-YS]at e1 e2;exact(JV (i:=i) (j:=j) (by rw[YC];omega) hn).mp (by rw[e1,e2,e])
theorem Ord.lt(h:Ord n m p)(hm:m<=n)(hi:i<m):p.getD i 0<m:=by
 by_cases hc:p.getD i 0<m
 .exact hc
 .have hs:=h.size;have hb:p.getD i 0<n:=by have e1:=Mn (p:=p) (i:=i) uu;rw[<-YS]at e1;exact YI.mp ((Nw.mp h.perm).mem_iff.mp (Xf e1))
  have e:=h.inj J hb (h.suf _ ur hb).symm;grind
theorem Ord.mono(h:Ord n m p)(hk:m<=k):Ord n k p:=⟨h.perm,λi hi=>h.suf i J⟩
theorem UJ{i j k:Nat}(hj:j<=p.size):(kas_rev p i j).getD k 0=if i<=k/\k<j then p.getD (i+j-1-k) 0 else p.getD k 0:=by unfold kas_rev;rw[YB,getElem?_mirror_all hj,apply_ite λo:Option Nat=>o.getD 0,<-YB,<-YB]
theorem Ord.rev(h:Ord n m p)(hj:j<=m)(hm:m<=n):Ord n m (kas_rev p i j):=by have hs:=h.size;refine⟨(mirror_perm _ _ _ _).trans h.perm,λk hk hn=>?_⟩;rw[UJ J,if_neg J];exact h.suf k hk hn
noncomputable def Asc(key:Nat->Int)(m:Nat)(p:Array Nat):Prop:=∀i j,i<j->j<m->Ahd key (p.getD i 0) (p.getD j 0)
theorem Asc.more(hm:1<=m)(h:Asc key m p)(h2:Ahd key (p.getD (m-1) 0) (p.getD m 0)):Asc key (m+1) p:=λi j Um hj=>by
 by_cases e:j=m
 .subst e;by_cases e2:i=j-1
  .rw[e2];exact h2
  .exact(h i (j-1) J ur).trans h2
 .exact h i j Um J
theorem HX:∀f m p,m+f=n->1<=m->Ord n m p->Asc key m p->∃k,Uy (λi j=>decide (key i<key j)) (kas_asc p f m)=k/\m<=k/\k<=n/\Asc key k p/\(k<n->key (p.getD k 0)<key (p.getD (k-1) 0))
 |0,m,p,hf,h1,ho,ha=>⟨m,Z,XO _,J,ha,λh=>J⟩
 |f+1,m,p,hf,h1,ho,ha=>by
  show ∃k,Uy _ (if decide (key (p.getD m 0)<key (p.getD (m-1) 0))=true then KasT.ret m else kas_asc p f (m+1))=k/\_;by_cases hc:key (p.getD m 0)<key (p.getD (m-1) 0)
  .rw[if_pos (Yn hc)];exact⟨m,Z,XO _,J,ha,λ_=>hc⟩
  .rw[if_neg λz=>hc (Yu z)];have e:=ho.suf m (XO _) J
   have l:=ho.lt J (i:=m-1) J;obtain⟨k,e1,e2,e3,e4,e5⟩:=HX f (m+1) p J J (ho.mono J) (ha.more h1<|by unfold Ahd;rw[e]at hc ⊢;lia);exact⟨k,e1,J,e3,e4,e5⟩
structure Dsc (key:Nat->Int) (m g:Nat) (p:Array Nat):Prop where
 le:g+1<=m
 old:∀i j,i<j->j<m-(g+1)->Ahd key (p.getD j 0) (p.getD i 0)
 mid:∀i j,i<m-(g+1)->m-(g+1)<=j->j<m->key (p.getD j 0)<key (p.getD i 0)
 own:∀i j,m-(g+1)<=i->i<j->j<m->key (p.getD i 0)=key (p.getD j 0)/\p.getD i 0<p.getD j 0
noncomputable def Fall(key:Nat->Int)(m:Nat)(p:Array Nat):Prop:=∀i j,i<j->j<m->Ahd key (p.getD j 0) (p.getD i 0)
theorem Dsc.turn(h:Dsc key m g p)(hs:m<=p.size):Fall key m (kas_rev p (m-(g+1)) m):=λi j Um hj=>by
 have hl:=h.le;rw[UJ hs,UJ hs];by_cases c1:m-(g+1)<=j
 .rw[if_pos ⟨c1,hj⟩];by_cases c2:m-(g+1)<=i
  .rw[if_pos ⟨c2,J⟩];exact .inr (h.own (m-(g+1)+m-1-j) (m-(g+1)+m-1-i) ur ur J)
  .rw[if_neg J];exact .inl (h.mid i _ J J J)
 .rw[if_neg J,if_neg J];exact h.old i j Um J
theorem Dsc.last(h:Dsc key m g p)(hs:m<=p.size):key ((kas_rev p (m-(g+1)) m).getD (m-1) 0)=key (p.getD (m-1) 0):=by
 have hl:=h.le;rw[UJ hs,if_pos uu];by_cases e:g=0
 .congr 2;grind
 .exact(h.own (m-(g+1)+m-1-(m-1)) (m-1) ur ur J).1
theorem Dsc.fall(h:Dsc key m 0 p):Fall key m p:=λi j Um hj=>by
 have hl:=h.le;by_cases e:j<m-(0+1)
 .exact h.old i j Um e
 .exact .inl (h.mid i j uu J hj)
theorem Fall.new(hm:1<=m)(h:Fall key m p)(hk:key (p.getD m 0)<key (p.getD (m-1) 0)):Dsc key (m+1) 0 p:=by
 refine⟨J,λi j Um hj=>h i j Um J,λi j hi h1 h2=>?_,λi j h1 h2 h3=>uu⟩;have e:j=m:=J
 subst e;by_cases c:i=j-1
 .rw[c];exact hk
 .have:=h i (j-1) J ur
  unfold Ahd at this;omega
theorem Fall.rev(h:Fall key m p)(hs:m<=p.size):Asc key m (kas_rev p 0 m):=λi j Um hj=>by rw[UJ hs,UJ hs,if_pos ⟨Ym _,J⟩,if_pos ⟨Ym _,hj⟩];exact h _ _ ur ur
theorem Asc.rev(h:Asc key m p)(hs:m<=p.size):Fall key m (kas_rev p 0 m):=λi j Um hj=>by rw[UJ hs,UJ hs,if_pos ⟨Ym _,hj⟩,if_pos ⟨Ym _,ur⟩];exact h _ _ ur ur
theorem wM:∀f m g p,m+f=n->Ord n m p->Dsc key m g p->∃p' m' g',Uy (λi j=>decide (key i<key j)) (kas_desc f p m g)=(p',m',g')/\m<=m'/\m'<=n/\Ord n m' p'/\Dsc key m' g' p'
 |0,m,g,p,hf,ho,hd=>⟨p,m,g,Z,XO _,ur,ho,hd⟩
 |f+1,m,g,p,hf,ho,hd=>by
  have hl:=hd.le;have hs:=ho.size
  have em:=ho.suf m (XO _) J;have ll:=ho.lt J (i:=m-1) J
  show ∃p' m' g',Uy _ (if decide (key (p.getD m 0)<key (p.getD (m-1) 0))=true then (if g>0 then kas_desc f (kas_rev p (m-(g+1)) m) (m+1) 0 else kas_desc f p (m+1) 0) else KasT.ask (p.getD (m-1) 0) (p.getD m 0) λd=>if d=true then .ret (p,m,g) else kas_desc f p (m+1) (g+1))=_/\_;by_cases hc:key (p.getD m 0)<key (p.getD (m-1) 0)
  .rw[if_pos (Yn hc)];by_cases hg:g>0
   .rw[if_pos hg];have hr:=ho.rev (i:=m-(g+1)) (XO m) J
    have em2:=hr.suf m (XO _) J;obtain⟨p',m',g',e1,e2,e3,e4,e5⟩:=wM f (m+1) 0 (kas_rev p (m-(g+1)) m) J (hr.mono J) ((hd.turn J).new J (by rw[hd.last ur,em2];rwa[em]at hc));exact⟨p',m',g',e1,J,e3,e4,e5⟩
   .rw[if_neg hg];obtain rfl:g=0:=J;obtain⟨p',m',g',e1,e2,e3,e4,e5⟩:=wM f (m+1) 0 p ur (ho.mono ur) (hd.fall.new J hc);exact⟨p',m',g',e1,J,e3,e4,e5⟩
  .rw[if_neg λz=>hc (Yu z)];show ∃p' m' g',Uy _ (if decide (key (p.getD (m-1) 0)<key (p.getD m 0))=true then KasT.ret (p,m,g) else kas_desc f p (m+1) (g+1))=_/\_
   by_cases Vi:key (p.getD (m-1) 0)<key (p.getD m 0)
   .rw[if_pos (Yn Vi)];exact⟨p,m,g,Z,XO _,ur,ho,hd⟩
   .rw[if_neg λz=>Vi (Yu z)];have ek:key (p.getD (m-1) 0)=key (p.getD m 0):=J
    obtain⟨p',m',g',e1,e2,e3,e4,e5⟩:=wM f (m+1) (g+1) p ur (ho.mono ur) ⟨J,λi j h1 h2=>hd.old i j h1 J,λi j h1 h2 h3=>by
     by_cases c:j=m
     .rw[c,<-ek];exact hd.mid i (m-1) J uu J
     .exact hd.mid i j J J J,λi j h1 h2 h3=>by
     by_cases c:j=m
     .rw[c];by_cases c2:i=m-1
      .rw[c2,em];rw[em]at ek;exact⟨ek,ll⟩
      .have:=hd.own i (m-1) J J ur
       rw[em];rw[em]at ek;exact⟨this.1.trans ek,J⟩
     .exact hd.own i j J h2 ur⟩
    exact⟨p',m',g',e1,J,e3,e4,e5⟩
theorem aL(hm:1<=m)(hn:m<=n)(ho:Ord n m p)(hf:Fall key m p):∃k p',Uy (λi j=>decide (key i<key j)) (kas_tail3 m n p)=(k,p')/\1<=k/\k<=n/\Ord n k p'/\Asc key k p':=by
 have hs:=ho.size;unfold kas_tail3;rw[FR];have hr:=ho.rev (i:=0) (XO m) hn
 obtain⟨k,e1,e2,e3,e4,_⟩:=HX (n-m) m (kas_rev p 0 m) uu hm hr (hf.rev J);rw[e1];exact⟨k,_,Z,J,e3,hr.mono e2,e4⟩
theorem aK(hm:1<=m)(hn:m<n)(ho:Ord n m p)(hf:Fall key m p)(hk:key (p.getD m 0)<key (p.getD (m-1) 0)):∃k p',Uy (λi j=>decide (key i<key j)) (kas_descPart m n p)=(k,p')/\1<=k/\k<=n/\Ord n k p'/\Asc key k p':=by
 unfold kas_descPart;rw[FR];obtain⟨p',m',g',e1,e2,e3,e4,e5⟩:=wM (n-(m+1)) (m+1) 0 p uu (ho.mono J) (hf.new hm hk);rw[e1];have hs:=e4.size
 show ∃k q,Uy _ (if g'>0 then kas_tail3 m' n (kas_rev p' (m'-(g'+1)) m') else kas_tail3 m' n p')=_/\_;by_cases hg:g'>0
 .rw[if_pos hg];exact aL J e3 (e4.rev (XO _) e3) (e5.turn J)
 .rw[if_neg hg];obtain rfl:g'=0:=J;exact aL J e3 e4 e5.fall
theorem l7(hn:1<=n)(ho:Ord n 1 p):∃k p',Uy (λi j=>decide (key i<key j)) (kas_count n p)=(k,p')/\1<=k/\k<=n/\Ord n k p'/\Asc key k p':=by
 unfold kas_count;rw[FR];obtain⟨k,e1,e2,e3,e4,e5⟩:=HX (key:=key) (n-1) 1 p J (XO _) ho λi j h1 h2=>J;rw[e1];have hs:=ho.size
 have hk:=ho.mono e2;by_cases c:k=n
 .rw[if_pos (by rw[c];exact va n)];exact⟨k,p,Z,e2,e3,hk,e4⟩
 .rw[if_neg λz=>c (Sd.mp z)];have Xh:k<n:=J
  have h5:=e5 Xh;by_cases c1:k>1
  .rw[if_pos c1];show ∃k' p',Uy _ (if decide (key (p.getD 0 0)<key (p.getD (k-1) 0))=true then KasT.ret (k,p) else kas_descPart k n (kas_rev p 0 k))=_/\_
   by_cases c2:key (p.getD 0 0)<key (p.getD (k-1) 0)
   .rw[if_pos (Yn c2)];exact⟨k,p,Z,e2,e3,hk,e4⟩
   .rw[if_neg λz=>c2 (Yu z)];have a0:=e4 0 (k-1) J J
    have eq:key (p.getD 0 0)=key (p.getD (k-1) 0):=by unfold Ahd at a0;grind
    have hr:=hk.rev (i:=0) (XO k) J;refine aK e2 Xh hr (e4.rev J) ?_;rwa[UJ ur,UJ ur,if_neg J,if_pos J,show 0+k-1-(k-1)=0 by lia,eq]
  .rw[if_neg c1];obtain rfl:k=1:=J;exact aK (XO _) Xh hk (λi j h1 h2=>J) h5
theorem l6(hk:Asc key k p):∀f l r,r-l<=f->l<=r->r<=k->(∀i,i<l->¬key (p.getD k 0)<key (p.getD i 0))->(∀i,r<=i->i<k->key (p.getD k 0)<key (p.getD i 0))->∃l',Uy (λi j=>decide (key i<key j)) (kas_place p k f l r)=l'/\l'<=k/\(∀i,i<l'->¬key (p.getD k 0)<key (p.getD i 0))/\(∀i,l'<=i->i<k->key (p.getD k 0)<key (p.getD i 0))
 |0,l,r,hf,h1,h2,ha,hb=>⟨l,Z,J,ha,λi hi=>hb i uu⟩
 |f+1,l,r,hf,h1,h2,ha,hb=>by
  have mono:∀i j,i<=j->j<k->key (p.getD i 0)<=key (p.getD j 0):=λi j Um hj=>by
   by_cases e:i=j
   .rw[e];exact Np _
   .have:=hk i j J hj
    unfold Ahd at this;lia
  unfold kas_place;by_cases c:l >= r
  .rw[if_pos c];exact⟨l,Z,J,ha,λi hi=>hb i J⟩
  .rw[if_neg c];show ∃l',Uy _ (if decide (key (p.getD k 0)<key (p.getD ((l+r)/2) 0))=true then kas_place p k f l ((l+r)/2) else kas_place p k f ((l+r)/2+1) r)=l'/\_
   by_cases c2:key (p.getD k 0)<key (p.getD ((l+r)/2) 0)
   .rw[if_pos (Yn c2)];exact l6 hk f l ((l+r)/2) uu J J ha λi hi nV=>by
     have:=mono ((l+r)/2) i hi nV
     omega
   .rw[if_neg λz=>c2 (Yu z)];exact l6 hk f ((l+r)/2+1) r uu J J (λi hi=>by
     have:=mono i ((l+r)/2) J J
     omega) hb
theorem HW{k d x:Nat}(hk:k<p.size)(hd:d<=k):(bubble p k d).getD x 0=if x=k-d then p.getD k 0 else if k-d<x/\x<=k then p.getD (x-1) 0 else p.getD x 0:=by rw[YB,getElem?_bubble hk d hd,apply_ite λo:Option Nat=>o.getD 0,apply_ite λo:Option Nat=>o.getD 0,<-YB,<-YB,<-YB]
theorem BR:∀f k p,k+f=n->Ord n k p->Asc key k p->∃p',Uy (λi j=>decide (key i<key j)) (kas_bin f p k)=p'/\Ord n n p'/\Asc key n p'
 |0,k,p,hf,ho,ha=>by obtain rfl:k=n:=J;exact⟨p,Z,ho,ha⟩
 |f+1,k,p,hf,ho,ha=>by
  have hs:=ho.size;have ek:=ho.suf k (XO _) J
  unfold kas_bin;rw[FR];obtain⟨l,e1,e2,e3,e4⟩:=l6 ha k 0 k J J (XO _) (λi hi=>J) λi hi Wb=>uu;rw[e1];refine BR f (k+1) (bubble p k<|k-l) J ⟨(bubble_perm _ _ _).trans ho.perm,λi hi hn=>?_⟩ λi j Um hj=>?_
  .rw[HW J uu,if_neg J,if_neg J];exact ho.suf i J hn
  .have low:∀x,x<k->p.getD x 0<k:=λx hx=>ho.lt J hx;rw[HW J uu,HW ur ur];have ekl:k-(k-l)=l:=uu
   rw[ekl];by_cases c1:i=l
   .rw[if_pos c1,if_neg J,if_pos J];exact .inl (e4 (j-1) uu uu)
   .rw[if_neg c1];by_cases c2:j=l
    .rw[if_pos c2,if_neg J];have a:=e3 i uu
     have b:=low i J;rw[ek]at a ⊢;unfold Ahd;lia
    .rw[if_neg c2];by_cases c3:l<i
     .rw[if_pos ⟨c3,J⟩,if_pos ⟨J,J⟩];exact ha _ _ uu uu
     .rw[if_neg J];by_cases c4:l<j
      .rw[if_pos ⟨c4,ur⟩];exact ha _ _ J uu
      .rw[if_neg J];exact ha _ _ Um J
theorem Mm(hn:1<=n):∃p,Uy (λi j=>decide (key i<key j)) (kas_sort n)=p/\p.toList.Perm (List.range n)/\p.toList.Pairwise (Ahd key):=by
 have fin:∀p,Ord n n p->Asc key n p->p.toList.Perm (List.range n)/\p.toList.Pairwise (Ahd key):=λp ho ha=>by
  have hs:=ho.size;refine⟨Nw.mp ho.perm,GP.mpr λi j hi hj Um=>?_⟩;rw[YC]at hi hj
  have:=ha i j Um J
  rwa[YB,YB,YE hi,YE hj]at this
 unfold kas_sort;rw[FR];obtain⟨k,p,e1,e2,e3,e4,e5⟩:=l7 (key:=key) hn (p:=(List.range n).toArray) ⟨Array.Perm.refl _,λi _ hi=>by simp[Array.getD,hi]⟩;rw[e1];show ∃q,Uy _ (if k<n then kas_bin (n-max k 1) p (max k 1) else .ret p)=q/\_
 by_cases c:k<n
 .rw[if_pos c,Nat.max_eq_left e2];obtain⟨q,h1,h2,h3⟩:=BR (n-k) k p uu e4 e5;exact⟨q,h1,fin q h2 h3⟩
 .rw[if_neg c];obtain rfl:k=n:=J;exact⟨p,Z,fin p e4 e5⟩
end
end My
namespace L2
open PySem PySem.Spec PyProof.Rows
noncomputable def OR(P:Program)(w:World)(K:Ad)(mg:Af)(base:Heap)(N:List Str)(qual:Str)(scope:Scope)(f:Addr)(cd:Value)(cl:List (Str×Addr))(A:Around)(outer:List Env)(s:Shared)(H:Hp):Cx where
 prog:=P
 w:=w
 K:=K
 mg:=mg
 base:=base
 A:=A.deeper (PySem.W.envX qual scope s.heap.objs.size f cd cl)
 N:=N
 s₀:=s
 H₀:=H
 env:=PySem.W.envX qual scope s.heap.objs.size f cd cl
 outer:=outer
 stack:=PySem.W.envX qual scope s.heap.objs.size f cd cl::outer
 ex:=[]
 calm:=true
 fn:=λ_=>false
 pn:=[]
 xe:=λ_ _=>False
structure LamScope (v x:Str) (sc:Scope):Prop where
 kind:sc.kind=.function
 co:sc.isCoroutine=false
 gen:sc.isGenerator=false
 nocell:∀y∈sc.names,y.2≠.cell
 par:sc.names.lookup v=some .local
 free:sc.names.lookup x=some .free
 only:∀y,sc.names.lookup y=some .free->y=x
 ne:v≠x
section
variable{P:Program}{w:World}{K:Ad}{mg:Af}{base:Heap}{qual name v x:Str}{scope:Scope}{f c c':Addr}{cd pm RS u ux:Value}{A:Around}{outer:List Env}{s:Shared}{H:Hp}{vv vx:V}{params:Arguments}{body:Expr}{k:Nat}{t:TE}{Q:VK}
theorem wL{c2:Addr}(h:List.lookup y [(x,c)]=some c2):y=x/\c2=c:=by
 unfold List.lookup at h;split at h
 .rename_i e;exact⟨Sd.mp e,(Yh h).symm⟩
 .cases h
theorem BQ(uo:LamScope v x scope)(hd:A.handled=none)(e0:Env0 P w K mg base A outer s H)(hc:s.heap.IsCell c (some ux))(rx:RelV vx ux)(lZ:H c=none)(rv:RelV vv u){h1:Heap}{tk:Nat}
  (VE:h1.Ns s.heap.objs.size λy=>[(v,u)].reverse.lookup y)(hk:∀b o,s.heap.get? b=some o->h1.get? b=some o):
  Inv (OR P w K mg base [v,x] qual scope f cd [(x,c)] A outer s H) [] [some vv,some vx] H {s with heap:=h1,toks:=tk}:=by
 have Jk:∀b:Addr,b∉(OR P w K mg base [v,x] qual scope f cd [(x,c)] A outer s H).ex:=λb z=>absurd (show b∈([]:List Addr) from z) B;have aJ:h1.IsCell c (some ux):=by obtain⟨o,e,d⟩:=hc;exact⟨o,hk _ _ e,d⟩
 have lk:List.lookup x [(x,c)]=some c:=by unfold List.lookup;rw[va]
 refine⟨⟨e0.mod,uo.kind,Z,Z,XO _,λy z c2 h1 h2=>?_,λy hy=>?_,λy c2 z _=>(nomatch z),λ_=>hd,Around.frames_deeper e0.frames,.inr ⟨Z,Z⟩,λb z=>absurd z<|Jk b,e0.bs,e0.bsz,λb _ _=>Jk b,λb z=>absurd z<|Jk b,e0.funs,e0.frf⟩,
  rfl,e0.bare,Un.kept hk,⟨_,VE,λi y v' h1 h2 h3=>?_⟩,λy c2 h=>?_,e0.hok.fresh<|XO _,λy c2 h=>?_,λp hp=>absurd (show p∈([]:List (Addr×Obj)) from hp) B,e0.hok.kept hk,Z⟩
 .rw[(wL h1).1,(wL h2).1]
 .have hy:scope.names.lookup y=some .cell\/scope.names.lookup y=some .free:=hy;rcases hy with hy|hy
  .exact absurd Z (uo.nocell _<|JZ hy)
  .rw[uo.only y hy];exact⟨c,lk⟩
 .match i,h1,h2 with
  |0,h1,h2=>
   obtain rfl:v=y:=Yh h1;obtain rfl:vv=v':=Yh (Yh h2);refine⟨u,rv,.inl ⟨uo.par,?_⟩⟩;show List.lookup v [(v,u)]=some u
   unfold List.lookup;rw[va]
  |1,h1,h2=>
   obtain rfl:x=y:=Yh h1;obtain rfl:vx=v':=Yh (Yh h2);exact⟨ux,rx,.inr ⟨.inr uo.free,c,lk,aJ⟩⟩
  |i+2,h1,h2=>cases h1
 .rw[(wL h).2];exact⟨_,aJ⟩
 .rw[(wL h).2];exact lZ
theorem lY(uo:LamScope v x scope)(hr:Room (k+1) A)(e0:Env0 P w K mg base A outer s H)(ho:s.heap.get? f=some (PySem.W.kla_obj name qual params body scope [(x,c)] pm c' RS))(Ub:s.heap.CodeRec (.ref c') qual)
  (Tt:bindArgs (PySem.W.kla_fn name qual params body scope [(x,c)] pm (.ref c') RS) ⟨[u],[]⟩=pure [(v,u)])(hc:s.heap.IsCell c (some ux))(rx:RelV vx ux)(lZ:H c=none)(rv:RelV vv u)
  (hb:PE (OR P w K mg base [v,x] qual scope f (.ref c') [(x,c)] A outer s H) body t)(hq:t [some vv,some vx] H Q):
  codeAny (model P w) A (.call (.ref f) ⟨[u],[]⟩) (λr s'=>∃u',r=.ok (.ret u')/\CE outer P w H s Q u' s') s:=by
 have lim:s.heap.NoLimit:=e0.mod.nolimit.keeps λb o e=>(e0.bs b o e).1;refine PySem.W.kla_callFunE hr.depth ho Z uo.co uo.gen Z Ub ?_;rw[Tt];refine Yk (wpAny_newFunctionEnv uo.nocell (λy hy=>?_) (λh1 VE aI=>⟨lim.fresh _ aI,?_⟩) uo.kind)
 .rw[XF.mp hy];exact uo.par
 have hk:∀b o,s.heap.get? b=some o->h1.get? b=some o:=λb o e=>aI.extBut b o (Yy<|Yp e) (Xb _ e);have I:Inv (OR P w K mg base [v,x] qual scope f (.ref c') [(x,c)] A outer s H) [] [some vv,some vx] H {s with heap:=h1,toks:=s.toks+[(v,u)].length}:=BQ uo hr.hd e0 hc rx lZ rv VE hk
 refine PySem.W.kla_codeExpr (Ut (hb [] _ _ H _ I hq) (λu' s' h=>?_) λe s' h=>False.elim h);obtain⟨y,H',AP,r,q⟩:=h;exact⟨u',Z,y,H',AP.os,AP.bare,AP.base,AP.hok,r,q⟩
end
end L2
namespace My
open PySem PySem.W PyProof.Rows
noncomputable def Asks{α:Type}(n:Nat)(R:α->Prop):KasT α->Prop
 | .ret a=>R a
 | .ask i j k=>i<n/\j<n/\∀b,Asks n R (k b)
theorem Asks.bind{α β:Type}{R:α->Prop}{uo:β->Prop}{f:α->KasT β}:∀{t:KasT α},Asks n R t->(∀a,R a->Asks n uo (f a))->Asks n uo (t.bind f)
 | .ret a,h,hf=>hf a h
 | .ask _ _ _,h,hf=>⟨h.1,h.2.1,λb=>Asks.bind (h.2.2 b) hf⟩
theorem goT_wp'{α:Type}{R:α->Prop}{c:Nat->Nat->Bool}{cmp:Nat->Nat->(Bool->Shared->Prop)->Shared->Prop}{AP:Shared->Prop}(h:∀i j C s,i<n->j<n->AP s->(∀s',AP s'->C (c i j) s')->cmp i j C s){Q:α->Shared->Prop}:∀t s,Asks n R t->AP s->(∀s',AP s'->Q (Uy c t) s')->t.kasWp cmp Q s
 | .ret _,s,_,hs,q=>q s hs
 | .ask i j k,s,ha,hs,q=>h i j _ s ha.1 ha.2.1 hs λs' NY=>goT_wp' h (k<|c i j) s' (ha.2.2 _) NY q
section
variable{n:Nat}
noncomputable def Bd(n:Nat)(p:Array Nat):Prop:=p.Perm (List.range n).toArray
theorem Bd.lt(h:Bd n p)(hn:1<=n)(i:Nat):p.getD i 0<n:=by
 by_cases hi:i<p.size
 .have e1:=Mn (p:=p) hi;rw[<-YS]at e1;exact YI.mp ((Nw.mp h).mem_iff.mp (Xf e1))
 .rw[YB,Qe J];exact hn
theorem Bd.rev(h:Bd n p)(i j:Nat):Bd n (kas_rev p i j):=(mirror_perm _ _ _ _).trans h
theorem lX(hn:1<=n)(hp:Bd n p):∀f m:Nat,Asks n (λ_=>True) (kas_asc p f m)
 |0,m=>trivial
 |f+1,m=>⟨hp.lt hn _,hp.lt hn _,λb=>by
  cases b with
  |true=>exact trivial
  |false=>exact lX hn hp f<|m+1⟩
theorem wK(hn:1<=n):∀f p m q,Bd n p->Asks n (λr=>Bd n r.1) (kas_desc f p m q)
 |0,p,m,q,hp=>hp
 |f+1,p,m,q,hp=>⟨hp.lt hn _,hp.lt hn _,λb=>by
  cases b with
  |true=>
   show Asks n _ (if q>0 then kas_desc f (kas_rev p (m-(q+1)) m) (m+1) 0 else kas_desc f p (m+1) 0);split
   .exact wK hn f _ _ _ (hp.rev _ _)
   .exact wK hn f _ _ _ hp
  |false=>
   refine⟨hp.lt hn _,hp.lt hn _,λd=>?_⟩;cases d with
   |true=>exact hp
   |false=>exact wK hn f _ _ _ hp⟩
theorem BP(hn:1<=n)(hp:Bd n p)(m r:Nat):Asks n (λz=>Bd n z.2) (kas_tail3 m r p):=
 (lX hn (hp.rev _ _) _ _).bind λ_ _=>hp.rev _ _
theorem aH(hn:1<=n)(hp:Bd n p)(m r:Nat):Asks n (λz=>Bd n z.2) (kas_descPart m r p):=
 (wK hn _ p _ _ hp).bind λz hz=>by
  split
  .exact BP hn (hz.rev _ _) _ _
  .exact BP hn hz _ _
theorem ZS7(hn:1<=n)(hp:Bd n p)(r:Nat):Asks n (λz=>Bd n z.2) (kas_count r p):=
 (lX hn hp _ _).bind λz _=>by
  split
  .exact hp
  .split
   .refine⟨hp.lt hn _,hp.lt hn _,λb=>?_⟩;cases b with
    |true=>exact hp
    |false=>exact aH hn (hp.rev _ _) _ _
   .exact aH hn hp _ _
theorem lW(hn:1<=n)(hp:Bd n p)(k:Nat):∀f l r:Nat,Asks n (λ_=>True) (kas_place p k f l r)
 |0,l,r=>trivial
 |f+1,l,r=>by
  unfold kas_place;split
  .exact trivial
  .refine⟨hp.lt hn _,hp.lt hn _,λb=>?_⟩;cases b with
   |true=>exact lW hn hp k f _ _
   |false=>exact lW hn hp k f _ _
theorem BO(hn:1<=n):∀f p k,Bd n p->Asks n (λz=>Bd n z) (kas_bin f p k)
 |0,p,k,hp=>hp
 |f+1,p,k,hp=>(lW hn hp k _ _ _).bind λl _=>BO hn f _ _ ((bubble_perm _ _ _).trans hp)
theorem QU(hn:1<=n):Asks n (λz=>Bd n z) (kas_sort n):=
 (ZS7 hn (p:=(List.range n).toArray) (Array.Perm.refl _) n).bind λz hz=>by
  split
  .exact BO hn _ _ _ hz
  .exact hz
end
end My
namespace L2
open PySem PySem.Spec PyProof.Rows PySem.W
noncomputable def RR(key:Int->Int)(ns ms:Ac):Prop:=∃p:List Nat,p.Perm (List.range ns.length)/\p.Pairwise (My.Ahd λi=>key<|ns.getD i 0)/\ms=p.map λi=>ns.getD i 0
section
variable{X:Cx}{pins:List (Addr×Obj)}{σ:St}{H:Hp}{s:Shared}{b:Addr}{o:Obj}
theorem Inv.pin1(I:Inv X pins σ H s)(F:FpOk X pins H b)(e:s.heap.get? b=some o)(hd:∀v,o.data≠.cell v):Inv X (pins++[(b,o)]) σ H s:=I.pins_of λp hp=>by
 rcases Xz.mp hp with hp|hp
 .exact I.pin p (Yi _ hp)
 .rw[XF.mp hp];exact⟨e,F.1,F.2.1,F.2.2.1,hd⟩
theorem FpOk.more{pl:List (Addr×Obj)}(F:FpOk X pins H b)(hn:∀p∈pl,p.1≠b):FpOk X (pins++pl) H b:=⟨F.1,F.2.1,F.2.2.1,F.2.2.2.1,F.2.2.2.2.1,λp hp=>by
 rcases Xz.mp hp with hp|hp
 .exact F.2.2.2.2.2 p (Yd _ hp)
 .rcases Xz.mp hp with hp|hp
  .exact F.2.2.2.2.2 p (Yi _ hp)
  .exact hn p hp⟩
theorem Inv.changed{h':Heap}{t':Nat}(I:Inv X pins σ H s)(F:FpOk X pins H b)(k:∀c o,c≠b->s.heap.get? c=some o->h'.get? c=some o):Inv X pins σ H {s with heap:=h',toks:=t'}:=
 I.turned k F.1 F.2.1 F.2.2.2.1 F.2.2.2.2.1 F.2.2.2.2.2
theorem Inv.adopt(I:Inv X pins σ H s)(hex:X.ex=[])(F:FpOk X pins H b)(new:ObjOk X.prog X.w (upd H b u) s.heap b u):Inv X pins σ (upd H b u) s:=by
 have f4:X.s₀.heap.objs.size<=b:=F.2.2.2.1.resolve_left (by rw[hex];simp);have hn:=F.1
 refine⟨I.ok,I.os,I.bare,⟨I.base.keep,I.base.slot,λc o e n hc=>?_,I.base.there,λc xs q=>?_,λc o w q=>?_,λc ps q=>?_⟩,I.loc,I.cell,?_,λx c e=>?_,λp hp=>?_,λc w e=>?_,I.len⟩
 .rw[Zc (Yy<|Yt (Yp e) f4)];exact I.base.free c o e n hc
 .have:=I.base.tups c xs q
  rwa[Zc (Zd this hn)]
 .have:=I.base.frzs c o w q
  rwa[Zc (Zd this hn)]
 .obtain⟨m,this⟩:=I.base.tbls c ps q;exact⟨m,by rwa[Zc (Zd this hn)]⟩
 .rw[Zc (XI F.2.1)];exact I.free
 .rw[Zc (F.2.2.2.2.1 x c e)];exact I.freeC x c e
 .have:=I.pin p hp
  exact⟨this.1,by rw[Zc (F.2.2.2.2.2 p hp)];exact this.2.1,this.2.2⟩
 .by_cases hb:c=b
  .subst hb;rw[XS]at e;cases e;exact new
  .rw[Zc hb]at e;exact(I.hok c w e).stay (λ_ _ _ q=>q) (λd q=>by rwa[Zc (Zd q hn)]) λd xs q=>by rwa[Zc (Zd q hn)]
end
section
variable{X:Cx}{pins:List (Addr×Obj)}{σ:St}{H:Hp}{s:Shared}{a kS:Addr}{A:Around}{E:Ae}{P:PySem.Fin->Shared->Prop}{kA:Array Value}{e e1:Nat}{ns:Ac}{vs:Ag}
theorem aG {st:SortSt} {out:Ag} (I:Inv X (pins++[(a,seqObj "list" #[] e1),(kS,seqObj "list" kA e)]) σ H s) (Fa:FpOk X pins H a) (Fk:FpOk X pins H kS) (NK:a≠kS) (hz:kA.size<64) (RW:failedOf st=none)
  (HV:(arrOf st).map (·.2)=out.toArray)(hlen:out.length<64)(h:∀s' m,Inv X pins σ H s'->s'.heap.get? a=some (seqObj "list" out.toArray m)->P (.done<|.ret .none) s'):
  wpAny (model X.prog X.w) A (ksk_tail a false e1 (.ref kS) st) P E s:=by
 have IF:sizeLine=16777216:=TQ;have pa:=(I.pin (a,seqObj "list" #[] e1) B).1
 have pk:=(I.pin (kS,seqObj "list" kA e) B).1;have I0:Inv X pins σ H s:=I.unpinned
 have lT:(s.heap.update kS<|Obj.mapSeq λ_=>(#[]:Array Value)).get? a=some (seqObj "list" #[] e1):=(QP _ _<|XI NK).trans pa;obtain⟨m,hm⟩:∃m,((s.heap.update kS<|Obj.mapSeq λ_=>(#[]:Array Value)).update a (Obj.mapSeq λ_=>out.toArray)).get? a=some (seqObj "list" out.toArray m):=⟨_,yy lT λ_=>out.toArray⟩;unfold ksk_tail;dsimp only;rw[HV];refine XU (SN pk Z ?_ J<|Ym _);refine XU (GA ?_);refine XU (seqEpoch_at lT Z ?_);refine XU (SN lT Z ?_ (Ym _)<|by simp;lia);rw[RW];simp only[bne_self_eq_false,Fu,JI];refine Yk (h _ m ?_ hm);have I1:Inv X pins σ H {s with heap:=s.heap.update kS<|Obj.mapSeq λ_=>(#[]:Array Value),toks:=s.toks}:=I0.changed Fk λc o hc q=>(QP _ _<|XI hc).trans q
 exact I1.changed (t':=s.toks) Fa λc o hc q=>(QP _ _<|XI hc).trans q
theorem aE{vs:Ag}{ns:Ac}(h0:IntsAre vs ns):∀i,i<ns.length->∃t,vs[i]?=some (.int (ns.getD i 0) t):=by
 induction h0 with
 |nil=>exact λi h=>absurd h (Wk _)
 |cons n t r ih=>
  intro i h;cases i with
  |zero=>exact⟨t,Z⟩
  |succ i=>exact ih i (by rw[Yq]at h;lia)
end
noncomputable def FP(c:Addr)(qual:Str):HO:=.ext λh=>h.CodeRec (.ref c) qual
noncomputable def TabH(H:Hp)(Pt:Addr)(pos:Pos)(qual:Str):Prop:=∃ps:Array Value,H Pt=some (.tbl ps)/\TriplesOk ps.toList/\(codeAmong pos ps.toList=none\/∃c,codeAmong pos ps.toList=some (.ref c)/\H c=some (FP c qual))
noncomputable def SameX(Pt:Addr)(H H':Hp):Prop:=∀b o,b≠Pt->H b=some o->H' b=some o
theorem az{c:Addr}(h1 h2:Heap)(r:h1.CodeRec (.ref c) qual)(k:∀o,h1.get? c=some o->h2.get? c=some o):h2.CodeRec (.ref c) qual:=by obtain⟨c2,o,vs,t,e,g,r⟩:=r;cases e;exact⟨c,o,vs,t,Z,k _ g,r⟩
section
variable{X:Cx}{pins:List (Addr×Obj)}{σ:St}{H:Hp}{s:Shared}{c Pt cc:Addr}{x:Str}{params:Arguments}{body:Expr}{scope:Scope}{pos:Pos}{E:Ae}{Q:Ae}
theorem Inv.builtinsAt(I:Inv X pins σ H s)(hB:X.base.BuiltinsAt X.mg Pt):s.heap.BuiltinsAt X.mg Pt:=by obtain⟨bm,o,h1,h2,h3,h4,h5,h6⟩:=hB;exact⟨bm,o,h1,h2,h3,h4,I.bk _ _ h5,h6⟩
theorem BN (I:Inv X pins σ H s) (Ux:X.env.code=.ref c) (hC:codeHdIn X.K c Pt=true) (hB:X.base.BuiltinsAt X.mg Pt) (hT:TabH H Pt pos (X.env.qual++Str.ofString "<lambda>")) (Pa:closureFor scope X.env=pure [(x,cc)]) (HU:defaultsOf params X.env=([],[])) (BM:mainGlobals≠Pt)
  (h:∀f c' pm RS s' H',SameX Pt H H'->TabH H' Pt pos (X.env.qual++Str.ofString "<lambda>")->FpOk X pins H' f->Inv X pins σ H' s'->s'.heap.get? f=some (kla_obj (Str.ofString "<lambda>") (X.env.qual++Str.ofString "<lambda>") params body scope [(x,cc)] pm c' RS)->H' c'=some (FP c'<|X.env.qual++Str.ofString "<lambda>")->Q (.ref f) s'):
  wpAny (model X.prog X.w) X.A (eval (.Lambda params body scope pos) X.env) Q E s:=by
 obtain⟨ps,hP,BL,BK⟩:=hT;have Vw:s.heap.get? Pt=some (tabObj ps):=I.hok Pt _ hP
 have VE:s.heap.Ns mainGlobals X.mg:=I.mod.glob.keeps I.bk;have ay:=codeHd_of_K I.kIn hC
 refine kla_eval HU ?_;rcases BK with ax|⟨c',hf,WI⟩
 .refine kla_makeFunction Pa I.ok.glob VE Ux ay Vw BL ax BM (I.builtinsAt hB) λc' RS h' tk hx OY Xh Ml aw=>?_;have av:Pt<s.heap.objs.size:=Yp Vw
  have wJ:H c'=none:=I.hok.fresh OY;have au:c'≠Pt:=RE (Yt av OY)
  have keep:∀b o,b≠Pt->s.heap.get? b=some o->(h'.push<|kla_obj (Str.ofString "<lambda>") (X.env.qual++Str.ofString "<lambda>") params body scope [(x,cc)] ((X.mg "__name__").getD .none) c' RS).get? b=some o:=λb o hb e=>Xb _ (hx b o hb e);have sx:SameX Pt H (upd (upd H Pt<|.tbl<|ps++#[rawInt pos.line,rawInt pos.col,.ref c']) c'<|FP c'<|X.env.qual++Str.ofString "<lambda>"):=λb o hb e=>by rwa[Zc (Zd e wJ),Zc hb]
  have tb:TabH (upd (upd H Pt<|.tbl<|ps++#[rawInt pos.line,rawInt pos.col,.ref c']) c'<|FP c'<|X.env.qual++Str.ofString "<lambda>") Pt pos (X.env.qual++Str.ofString "<lambda>"):=by have et:(ps++#[rawInt pos.line,rawInt pos.col,Value.ref c']).toList=ps.toList++[rawInt pos.line,rawInt pos.col,.ref c']:=B;refine⟨ps++#[rawInt pos.line,rawInt pos.col,.ref c'],by rw[Zc (XI au),XS],by rw[et];exact TriplesOk_snoc _ _ _ _ BL,.inr ⟨c',by rw[et];exact codeAmong_snoc _ BL ax,XS⟩⟩
  have HS:∀b,H b=none->b≠Pt:=λb n z=>by rw[z,hP]at n;cases n
  refine h h'.objs.size c' _ RS _ _ sx tb ?_ (I.un ⟨λb o e n _ _=>keep b o (HS b n) e,λb o e n _ _=>⟨o.slots,keep b o (HS b n) e⟩,λb o e n _=>?_,λb o e _=>?_,λb xs e=>?_,λb o u e=>?_,λb qs e=>?_⟩ λb u e=>?_) (Yj _ Z) XS
  .have lS:s.heap.objs.size<=h'.objs.size:=J;refine I.fpOk lS ?_;rw[Zc (RE Xh),Zc (RE<|Yt av lS)];exact I.hok.fresh lS
  .rw[Zc (Yy<|Yt (Yp e) OY),Zc (HS b n)];exact n
  .by_cases hb:b=Pt
   .rw[hb];exact⟨_,Xb _ aw⟩
   .exact⟨o,keep b o hb e⟩
  .exact sx b _ (λz=>by rw[z,hP]at e;cases e) e
  .exact sx b _ (λz=>by rw[z,hP]at e;cases e) e
  .by_cases hb:b=Pt
   .subst hb;rw[hP]at e;obtain rfl:ps=qs:=by cases e;rfl
    exact⟨#[rawInt pos.line,rawInt pos.col,.ref c'],by rw[Zc (XI au),XS]⟩
   .exact⟨#[],by rw[sx b _ hb e];simp⟩
  .by_cases hb:b=c'
   .subst hb;rw[XS]at e;cases e;refine⟨az _ _ Ml λo g=>Xb _ g,?_,az⟩;obtain⟨c2,o,_,_,e2,g,_⟩:=Ml;cases e2;exact⟨o,Xb _ g⟩
   .rw[Zc hb]at e;by_cases Mj:b=Pt
    .subst Mj;rw[XS]at e;cases e;exact Xb _ aw
    .rw[Zc Mj]at e;refine(I.hok b u e).stay (λd o hd g=>keep d o (λz=>?_) g) (λd g=>sx d _ (λz=>by rw[z,hP]at g;cases g) g) λd xs g=>sx d _ (λz=>by rw[z,hP]at g;cases g) g;rcases hd with hd|hd
     .exact Mj (hd.symm.trans z)
     .rw[z,hP]at hd;cases hd
 .refine kla_makeFunctionHit Pa I.ok.glob VE Ux ay Vw BL hf (I.builtinsAt hB) λRS h' tk hk hsz=>?_;refine h h'.objs.size c' _ RS _ H (λ_ _ _ e=>e) ⟨ps,hP,BL,.inr ⟨c',hf,WI⟩⟩ (I.fpOk hsz<|I.hok.fresh hsz) (I.kept λb o e=>Xb _<|hk b o e) (Yj _ Z) WI
end
section
variable{UI:Pos}{Pt:Addr}
theorem SqT.samex{K:Ad}{H H2:Hp}{a:Addr}{xs:List V}{qual:Str}(h:SqT K H a xs)(t:TabH H Pt UI qual)(sx:SameX Pt H H2):SqT K H2 a xs:=by
 obtain⟨ps,hP,_⟩:=t;rcases h with (h|⟨o,h⟩)|h
 .exact .inl (.inl<|sx _ _ (λz=>by rw[z,hP]at h;cases h) h)
 .exact .inl (.inr ⟨o,sx _ _ (λz=>by rw[z,hP]at h;cases h) h⟩)
 .exact .inr h
end
noncomputable def HR(Pt:Addr)(H:Hp):Prop:=H Pt=some (.tbl #[])/\∀b,b=Pt\/H b=none\/∃o xs,H b=some (.frz o<|.lst xs)
theorem ZJ8{P:Program}{w:World}{K:Ad}{mg mb:Af}{CX:SF}{k:Nat}{fa a Pt c:Addr}{fd:FuncData}{x:Str}{sp:Sp}{s₁:Shared}{vs:Ag}{ns:Ac}
  (KX:K.In s₁.heap)(VE:s₁.heap.Ns mainGlobals mg)(hb:s₁.heap.Ns builtinsNs mb)(pH:∀x:Str,x≠"__name__"->mb x=bootBuiltins x)(lR:s₁.heap.NoLimit)(hg:s₁.gens=#[])
  (hT:s₁.heap.get? Pt=some (tabObj #[]))(hC:codeHdIn K c Pt=true)(lQ:K.lookup Pt=none)(hbm:∃bm ob,mg (Str.ofString "__builtins__")=some (.ref bm)/\bm≠builtinsNs/\s₁.heap.get? bm=some ob/\ob.cls=.type "module"/\ob.dict=some builtinsNs/\ob.data=.plain)
  (ha:s₁.heap.get? a=some {cls:=.type "list",data:=.seq vs.toArray})(hi:IntsAre vs ns)(hl:ns.length<=sizeLine)(hr:Room k callerA)
  (F:∀base:Heap,K.In base->base.Ns mainGlobals mg->base.BuiltinsAt mg Pt->FnOk P w K mg base CX k fa fd [x] sp)(Tt:∀s u,BindsTo s fd ⟨[u],[]⟩ [(x,u)])
  (UT:∀H:Hp,HR Pt H->SqL K H a (ns.map V.int)->sp [.ref a] H (λv _=>v=.bl true) λ_ _ _=>False)
  (lP:∀H e s',CX [] H s₁ (λ_ _ _=>False) e s'->False):
  codeAny (model P w) callerA (.call (.ref fa) ⟨[.ref a],[]⟩) (λr s'=>r=.ok (.ret<|.bool true)/\OldK s₁.heap s'.heap/\s'.os=s₁.os/\AllBare s'.gens) s₁:=by
 have rv:=rM hi;have lO:=hi.length
 have aq:a≠Pt:=λz=>by rw[z,hT]at ha;cases ha
 have core:∀H:Hp,HR Pt H->SqL K H a (ns.map V.int)->HOk P w H s₁.heap->(∀b,H b≠none->b=a\/b=Pt)->(H a≠none->K.lookup a=none)->
   codeAny (model P w) callerA (.call (.ref fa) ⟨[.ref a],[]⟩) (λr s'=>r=.ok (.ret<|.bool true)/\OldK s₁.heap s'.heap/\s'.os=s₁.os/\AllBare s'.gens) s₁:=by
  intro H hO hS hok hA hK;have base_of:∀{b:Addr}{o:Obj},s₁.heap.get? b=some o->H b=none->(UQ s₁.heap H).get? b=some o:=λe n=>Zah e n
  have free:∀{b:Addr}{o:Obj},s₁.heap.get? b=some o->(∀XW n,o.data≠.seq XW n)->(∀vs,o.data≠.fields vs)->H b=none:=λ{b o} e d1 d2=>by
   cases q:H b with
   |none=>rfl
   |some u=>
    rcases hA b (by rw[q];simp) with e'|e'
    .subst e';rw[ha]at e;cases e;exact absurd Z (d1 _ _)
    .subst e';rw[hT]at e;cases e;exact absurd Z (d2 _)
  have wI:∀{b:Addr}{m:Af},s₁.heap.Ns b m->(UQ s₁.heap H).Ns b m:=λ{b m} ⟨o,es,ep,e,d,r⟩=>⟨o,es,ep,base_of e (free e (λ_ _ z=>by rw[d]at z;cases z) λ_ z=>by rw[d]at z;cases z),d,r⟩;have ak:K.In (UQ s₁.heap H):=λb o e=>base_of (KX b o e) (by
   cases q:H b with
   |none=>rfl
   |some u=>
    rcases hA b (by rw[q];simp) with e'|e'
    .subst e';rw[hK (by rw[q];simp)]at e;cases e
    .subst e';rw[lQ]at e;cases e)
  have hM:Mod K mg (UQ s₁.heap H):=⟨ak,wI VE,⟨mb,wI hb,pH⟩,by obtain⟨mc,h1,h2⟩:=lR;exact⟨mc,wI h1,h2⟩⟩;have hB:(UQ s₁.heap H).BuiltinsAt mg Pt:=by
   obtain⟨bm,ob,b1,b2,b3,b4,b5,b6⟩:=hbm;refine⟨bm,ob,b1,b2,λz=>?_,λz=>?_,base_of b3 (free b3 (λ_ _ z=>by rw[b6]at z;cases z) λ_ z=>by rw[b6]at z;cases z),b4,b5,b6⟩
   .obtain⟨o,es,ep,e,d,_⟩:=VE;rw[z,e]at b3;cases b3;rw[d]at b6;cases b6
   .rw[z,hT]at b3;cases b3;cases b4
  have e0:Env0 P w K mg (UQ s₁.heap H) callerA [] s₁ H:=⟨Z,hM,λb o e=>Zai e,Nat.le_of_eq<|ZS8 _ _,trivial,λb hb=>absurd (show b∈([]:List Addr) from hb) B,hok,.of_eq hg⟩;refine Nr ((F _ ak (wI VE) hB).run callerA [] s₁ H ⟨[.ref a],[]⟩ [.ref a] [.ref a] _ _ hr e0 (Tt s₁<|.ref a) (.cons Z .nil) (UT H hO hS)) λr s' h=>?_;cases r with
  |error e=>exact(lP H e s' h).elim
  |ok fl=>
   cases fl with
   |next=>exact False.elim h
   |brk=>exact False.elim h
   |cont=>exact False.elim h
   |ret u=>
    obtain⟨v,H',os,bare,un,BJ,r',q⟩:=h;have q':v=.bl true:=q
    subst q';obtain rfl:u=Value.bool true:=r';obtain⟨more,eP⟩:=un.tbls Pt #[] hO.1;have aj:s'.heap.get? Pt=some {cls:=.none,data:=.fields (#[]++more)}:=BJ Pt _ eP
    have kept:∀b o,b≠Pt->s₁.heap.get? b=some o->s'.heap.get? b=some o:=λb o VP e=>by
     cases q:H b with
     |none=>exact un.keep b o e q (by intro z;exact absurd (show b∈([]:List Addr) from z) B) B
     |some u=>
      rcases hO.2 b with z|z|⟨ob,xs,z⟩
      .exact absurd z VP
      .rw[q]at z;cases z
      .have z2:=un.frzs b ob _ z;obtain⟨e1,_⟩:=hok b _ z;obtain⟨e2,_⟩:=BJ b _ z2;rw[e]at e1;cases e1;exact e2
    refine⟨Z,⟨λb o e=>?_,λb o e=>?_⟩,os,bare⟩
    .by_cases VP:b=Pt
     .subst VP;rw[hT]at e;obtain rfl:=Yh e;obtain⟨oc,vsc,_,_,_,_,_,_,_,c1,c2,c3,c4,_⟩:=codeHd_of_K KX hC;exact .inr (.inl ⟨⟨c,oc,vsc,c1,c2,c3,c4⟩,Z,#[],more,Z,aj⟩)
     .exact .inl (kept b o VP e)
    .by_cases VP:b=Pt
     .rw[VP];exact⟨_,aj⟩
     .exact⟨o,kept b o VP e⟩
 cases hk:K.lookup a with
 |some o=>
  have e:=KX a o hk;rw[ha]at e;cases e;refine core (λb=>if b=Pt then some (.tbl #[]) else none) ⟨if_pos Z,λb=>?_⟩ (.inr ⟨_,vs.toArray,_,hk,Z,Z,Z,by rw[Yc,lO];exact hl,by simpa using rv⟩) (λb u z=>?_) (λb z=>?_) λz=>absurd (if_neg aq) z
  .by_cases VP:b=Pt
   .exact .inl VP
   .exact .inr (.inl<|if_neg VP)
  .by_cases VP:b=Pt
   .have z':=(if_pos VP).symm.trans z;cases z';subst VP;exact hT
   .have z':=(if_neg VP).symm.trans z;cases z'
  .by_cases VP:b=Pt
   .exact .inr VP
   .exact absurd (if_neg VP) z
 |none=>
  refine core (λb=>if b=Pt then some (.tbl #[]) else if b=a then some (.frz {cls:=.type "list",data:=.seq vs.toArray} (.lst<|ns.map V.int)) else none) ⟨if_pos Z,λb=>?_⟩ (.inl<|.inr ⟨{cls:=.type "list",data:=.seq vs.toArray},(if_neg aq).trans (if_pos Z)⟩) (λb u z=>?_) (λb z=>?_) λ_=>hk
  .by_cases VP:b=Pt
   .exact .inl VP
   .by_cases hb:b=a
    .exact .inr (.inr ⟨_,_,(if_neg VP).trans (if_pos hb)⟩)
    .exact .inr (.inl<|(if_neg VP).trans (if_neg hb))
  .by_cases VP:b=Pt
   .have z':=(if_pos VP).symm.trans z;cases z';subst VP;exact hT
   .by_cases hb:b=a
    .have z':=((if_neg VP).trans (if_pos hb)).symm.trans z;cases z';subst hb;exact⟨ha,by rw[Yb];exact hl,vs,_,rv,ha⟩
    .have z':=((if_neg VP).trans (if_neg hb)).symm.trans z;cases z'
  .by_cases VP:b=Pt
   .exact .inr VP
   .by_cases hb:b=a
    .exact .inl hb
    .exact absurd ((if_neg VP).trans (if_neg hb)) z
theorem OQ{l:PySem.W.OpenLaw}{n k:Nat}{q:Program}{loose:List Str}{XP:Af->Heap->Prop}{YP:World->Heap->Prop}{d:DefRec}{K:Params->Ad}{CX:SF}{sp:Ad->Sp}{x:Str}{c Pt:Addr}
  (hn:l.most=some n)(Od:n<=sizeLine)(rN:d.params.defaults=[])(hr:Room k callerA)
  (hY:∀(w:World)(h:Heap),YP w h->(K w.params).In h/\h.get? Pt=some (tabObj #[]))(hC:∀w:World,codeHdIn (K w.params) c Pt=true)(lQ:∀w:World,(K w.params).lookup Pt=none)
  (F:∀(w:World)(mg:Af)(fa:Addr)(h:Heap),(K w.params).In h->h.Ns mainGlobals mg->mg d.name=some (.ref fa)->
   ∃fd:FuncData,(∀(s:Shared)(u:Value),BindsTo s fd ⟨[u],[]⟩ [(x,u)])/\
    ∀base:Heap,(K w.params).In base->base.Ns mainGlobals mg->base.BuiltinsAt mg Pt->FnOk l.prog w (K w.params) mg base CX k fa fd [x] (sp<|K w.params))
  (UT:∀(w:World)(H:Hp)(a:Addr)(ns:Ac),ns.length<=n->HR Pt H->SqL (K w.params) H a (ns.map V.int)->sp (K w.params) [.ref a] H (λv _=>v=.bl true) λ_ _ _=>False)
  (lP:∀(H:Hp)(s:Shared)(e:Value)(s':Shared),CX [] H s (λ_ _ _=>False) e s'->False):
  PySem.W.WalkO q loose XP YP l.row.toRowW d [] (λf vs=>PySem.call f vs):=by refine Att.TH hn rN λw s₀ s₁ mg mb fa o pm cd doc a vs ns G Y ho hd Ub DQ Jd hints hlen hg=>?_;obtain⟨KX,hT⟩:=hY w _ Y;obtain⟨fd,hb,hF⟩:=F w mg fa _ KX G.T.g DQ;exact ZJ8 KX G.T.g G.T.b G.T.builtins G.T.nolimit hg hT (hC w) (lQ w) G.T.bmain Jd hints (Ys hlen Od) hr hF hb (λH hO hS=>UT w H a ns hlen hO hS) λH e s'=>lP H s₁ e s'
noncomputable def SS(K:Ad)(mg:Af)(base:Heap)(fd:FuncData)(Pt:Addr):Prop:=∃c,fd.code=.ref c/\codeHdIn K c Pt=true/\base.BuiltinsAt mg Pt/\mainGlobals≠Pt
theorem LamScope.of(h1:sc.kind=.function)(h2:sc.isCoroutine=false)(h3:sc.isGenerator=false)(h4:sc.names=[(v,.local),(x,.free)]\/sc.names=[(x,.free),(v,.local)])(hn:v≠x):LamScope v x sc:=by
 have b1:(v == x)=false:=JC hn;have b2:(x == v)=false:=JC (XI hn)
 refine⟨h1,h2,h3,λy hy=>?_,?_,?_,λy hy=>?_,hn⟩
 .have l1:NameKind.local≠NameKind.cell:=S;have l2:NameKind.free≠NameKind.cell:=S
  rcases h4 with e|e<;>rw[e]at hy<;>rcases Ye.mp hy with rfl|hy
  .exact l1
  .rw[XF.mp hy];exact l2
  .exact l2
  .rw[XF.mp hy];exact l1
 .rcases h4 with e|e<;>rw[e]<;>simp[List.lookup,b1,b2]
 .rcases h4 with e|e<;>rw[e]<;>simp[List.lookup,b1,b2]
 .rcases h4 with e|e<;>rw[e]at hy<;>simp only[List.lookup]at hy
  .split at hy
   .cases hy
   .split at hy
    .rename_i q;exact Sd.mp q
    .cases hy
  .split at hy
   .rename_i q;exact Sd.mp q
   .split at hy
    .cases hy
    .cases hy
section
variable{P:Program}{w:World}{K:Ad}{mg:Af}{base:Heap}
theorem Fun.okL{x qual:Str}{st:Stmt}{f c:Addr}{fd:FuncData}{N ps:List Str}{k:Nat}{sp:Sp}(F:Fun K x qual st f fd)(hc:fd.code=.ref c)(uo:FnScope N ps (Xv st))(len:∀vs H Q E,sp vs H Q E->vs.length=ps.length)
  (hbody:∀A outer s H vs Q E,Room k (A.deeper<|envOfC qual (Xv st) s.heap.objs.size f<|.ref c)->sp vs H Q E->
   ∃t,PSs (Wq Xl P w K mg base N qual (Xv st) f (.ref c) A outer s H E).nox (RY st) t/\t {nx:=λ_ H'=>Q .non H',rt:=Q} (start N vs) H):FnOk P w K mg base Xl (k+1) f fd ps sp:=by obtain⟨oc,od,kV,doc,pm,an,XG,ct,Uo,rfl,lk,Ub⟩:=F.ex;obtain rfl:XG=.ref c:=hc;refine Jj lk Ub uo len λA outer s H vs Q E hr UT=>?_;obtain⟨t,h,q⟩:=hbody A outer s H vs Q E hr UT;exact⟨t,h.nox,q⟩
end
end L2
namespace My
open PySem L2
noncomputable def pl(ls T U:Ac):Prop:=HT.ltP (Ci ls T,T) (Ci ls U,U)=true
noncomputable def OrdL(ls:Ac)(m:Nat)(os:Ac):Prop:=os.Perm (Wg m)/\os.Pairwise λx y=>HZ ls x<HZ ls y\/(HZ ls x=HZ ls y/\x<y)
theorem wH(g:Zw n ps)(hT:Zh n ps T)(hW:Zh n ps W)(h:∀z∈T,z∈W):T=W:=
 Ir (xg hT) (xg hW) λz=>(mH g hT hW h).mem_iff
structure Ent where
 T:Ac
 I:Ac
 O:Ac
deriving DecidableEq
end My
namespace L2
open PySem PySem.Spec PyProof.Rows PySem.W My
theorem SameX.same(s:Same H H'):SameX Pt H H':=λb o _ e=>s b o e
theorem SameX.trans{Pt:Addr}{H H1 H2:Hp}(a:SameX Pt H H1)(b:SameX Pt H1 H2):SameX Pt H H2:=λc o hc e=>b c o hc (a c o hc e)
theorem TabH.same(t:TabH H Pt pos qual)(s:Same H H'):TabH H' Pt pos qual:=by
 obtain⟨ps,h1,h2,h3⟩:=t;refine⟨ps,s _ _ h1,h2,?_⟩;rcases h3 with h|⟨c,h,h'⟩
 .exact .inl h
 .exact .inr ⟨c,h,s _ _ h'⟩
theorem TabH.ne{Pt a:Addr}{o:HO}(t:TabH H Pt pos qual)(h:H a=some o)(hn:∀ps,o≠.tbl ps):a≠Pt:=λe=>by obtain⟨ps,h1,_⟩:=t;rw[e,h1]at h;exact hn ps (Yh h).symm
theorem TabH.put{Pt r:Addr}{zs:List V}{u:List V}(t:TabH H Pt pos qual)(hr:H r=some (.lst zs)):TabH (upd H r (.lst u)) Pt pos qual:=by
 obtain⟨ps,h1,h2,h3⟩:=t;refine⟨ps,by rw[Zc (Nh h1 hr B)];exact h1,h2,?_⟩;rcases h3 with h|⟨c,h,h'⟩
 .exact .inl h
 .exact .inr ⟨c,h,by rwa[Zc (Nh h' hr<|by unfold FP;simp)]⟩
end L2
namespace My
open PySem L2
theorem SqK.samex(h:SqK kd K H a xs)(t:TabH H Pt pos qual)(sx:SameX Pt H H2):SqK kd K H2 a xs:=by
 cases kd with
 |true=>exact SqT.samex (show SqT K H a xs from h) t sx
 |false=>
  rcases(show SqL K H a xs from h) with (h|⟨o,h⟩)|h
  .exact .inl (.inl<|sx _ _ (t.ne h B) h)
  .exact .inl (.inr ⟨o,sx _ _ (t.ne h B) h⟩)
  .exact .inr h
theorem WebAt.samex(h:WebAt C H w n ps)(t:TabH H Pt pos qual)(sx:SameX Pt H H2):WebAt C H2 w n ps:=by obtain⟨dx,tl,xs,h1,h2,h3⟩:=h;refine⟨dx,tl,xs,sx _ _ (t.ne h1 B) h1,sx _ _ (t.ne h2 B) h2,h3.1,λi p hp=>?_⟩;obtain⟨x,hx,q,e,hq⟩:=h3.2 i p hp;exact⟨x,hx,q,e,sx _ _ (t.ne hq B) hq⟩
end My
namespace My
theorem un1{α:Type}{P:List α->Prop}(h:∀a,P [a])(l:List α)(e:l.length=1):P l:=by obtain⟨a,rfl⟩:=CT e;exact h a
theorem rG{α:Type}{P:List α->Prop}(h:∀a b,P [a,b])(l:List α)(e:l.length=2):P l:=by obtain⟨a,b,rfl⟩:=CS e;exact h a b
theorem ai{α:Type}{P:List α->Prop}(h:∀a b c,P [a,b,c])(l:List α)(e:l.length=3):P l:=by obtain⟨a,b,c,rfl⟩:=CQ e;exact h a b c
theorem un4{α:Type}{P:List α->Prop}(h:∀a b c d,P [a,b,c,d])(l:List α)(e:l.length=4):P l:=by obtain⟨a,b,c,d,rfl⟩:=CO e;exact h a b c d
theorem un5{α:Type}{P:List α->Prop}(h:∀a b c d e,P [a,b,c,d,e])(l:List α)(e:l.length=5):P l:=by
 cases l with
 |nil=>cases e
 |cons x r=>
  obtain⟨a,b,c,d,rfl⟩:=CO (Nv e);exact h x a b c d
end My
namespace My
open PySem L2
theorem lN(h:TC n ps c):c=0↔∀T,¬Zh n ps T:=by
 obtain⟨L,a1,a2,a3⟩:=h;constructor
 .intro e T hT;rw[e]at a3
  have:=(a2 T).mpr hT
  rw[YZ.mp a3]at this;cases this
 .intro e;rw[<-a3,YZ];exact y6.mpr λT hT=>e T ((a2 T).mp hT)
end My
namespace L2
open PySem PySem.Spec PyProof.Rows PySem.W
theorem ah:∀bs:List Bool,(bs.map Value.bool).mapM firstOfTuple'=(pure ((bs.map Value.bool).map λ_=>none):Sem _)
 |[]=>B
 |b::bs=>by rw[WD,List.mapM_cons,ah bs];show(pure none >>= λb=>pure _ >>= λbs=>pure<|b::bs)=_;simp
theorem af:∀bs:List Bool,(bs.map Value.bool).mapM typeOf=(pure ((bs.map Value.bool).map λ_=>Value.type "bool"):Sem _)
 |[]=>B
 |b::bs=>by rw[WD,List.mapM_cons,af bs];show(pure (Value.type "bool") >>= λb=>pure _ >>= λbs=>pure<|b::bs)=_;simp
theorem Zi7{ns:Ac}{key:Int->Bool}(hk:kA.toList=ns.map λz=>Value.bool (key z))(h2:2<=ns.length):keyKind' kA=pure oneType':=by
 have e:kA=((ns.map key).map Value.bool).toArray:=by rw[<-Array.toArray_toList (xs:=kA),hk,Lv];rfl
 rw[e];obtain⟨b1,b2,bs,eb⟩:∃b1 b2 bs,ns.map key=b1::b2::bs:=by
  match ns,h2 with
  |x::y::l,_=>exact⟨_,_,_,Z⟩
 rw[eb,keyKind'_eq,List.mapM_toArray,ah];simp only[map_pure,pure_bind];rw[if_neg B,if_neg B];rw[oneTypeOnly'_eq,List.mapM_toArray,af];simp only[map_pure,pure_bind];have Wm:((List.map (λ_=>Value.type "bool")<|List.map Value.bool<|b1::b2::bs).toArray.all λx=>x == Value.type "bool")=true:=by simp only[List.all_toArray,List.all_map,RG];intro _ _;rfl
 have h0:(List.map (λ_=>Value.type "bool")<|List.map Value.bool<|b1::b2::bs).toArray[0]?=some (Value.type "bool"):=B;rw[h0];simp only[Wm,Oh,pure_bind,Option.isSome_some]
theorem lM{E:Ae}{s:Shared}{Q:Bool->Shared->Prop}(h:Q (decide (b2i p<b2i q)) s):wpAny (model prog w) A (keyLt' oneType' (.bool p) (.bool q)) Q E s:=by rw[keyLt'_oneType,oneLt'_eq];simp only[Oh];refine XU (wpAny_cRoomFor_byValue Z ?_);refine XU (wpAny_callSpecialIfBound?_slot (typeIs_bool' s p) F.slot_bool_lt<|call_gives F.slot_bool_lt (typeIs_bool' s p) F.entry_int_lt (F.args_int_lt_2 _ _) (gives_int_lt_bools p q) ?_);exact Qj h
section
variable{X:Cx}{pins:List (Addr×Obj)}{σ:St}{H:Hp}{s:Shared}{a kS:Addr}{A:Around}{E:Ae}{P:PySem.Fin->Shared->Prop}{kA:Array Value}{e e1:Nat}{f:Value}{key:Int->Bool}{ns:Ac}{vs:Ag}
theorem lK(hv:IntsAre vs ns)(hk:kA.toList=ns.map λz=>Value.bool (key z))(hi:i<ns.length):∃u,kas_item (kA.zip vs.toArray) i=(.bool (key (ns.getD i 0)),.int (ns.getD i 0) u):=by
 obtain⟨u,hu⟩:=aE hv i hi;have ht:kA.toList[i]?=some (Value.bool<|key<|ns.getD i 0):=by rw[hk,Yo,WJ,Xw hi];rfl
 refine⟨u,?_⟩;unfold kas_item;rw[YB,<-YS,ksk_zip,(List.getElem?_zip_eq_some (z:=(Value.bool<|key<|ns.getD i 0,Value.int (ns.getD i 0) u))).mpr ⟨ht,hu⟩];rfl
theorem ae(hv:IntsAre vs ns)(hk:kA.toList=ns.map λz=>Value.bool (key z)):∀l:List Nat,(∀i∈l,i<ns.length)->IntsAre (l.map λi=>(kas_item (kA.zip vs.toArray) i).2) (l.map λi=>ns.getD i 0)
 |[],_=>.nil
 |i::l,h=>by
  obtain⟨u,e⟩:=lK hv hk (h i Ya);have r:=ae hv hk l λj hj=>h j (Yf _ hj)
  rw[WD,WD,e];exact .cons _ u r
theorem BI (I:Inv X (pins++[(a,seqObj "list" #[] e1),(kS,seqObj "list" kA e)]) σ H s) (Fa:FpOk X pins H a) (Fk:FpOk X pins H kS) (NK:a≠kS) (hv:IntsAre vs ns) (Qz:ns.length<64) (hk:kA.toList=ns.map λz=>Value.bool (key z))
  (h:∀s' m out ms,Inv X pins σ H s'->s'.heap.get? a=some (seqObj "list" out m)->IntsAre out.toList ms->RR (λz=>b2i<|key z) ns ms->P (.done<|.ret .none) s'):
  wpAny (model X.prog X.w) A (ksk_end a false vs.toArray e1 (.ref kS) kA) P E s:=by
 have BH:=hv.length;have hkl:=XB List.length hk
 rw[YC,Yb]at hkl;have hzs:(kA.zip vs.toArray).size=ns.length:=by rw[Array.size_zip,show vs.toArray.size=vs.length from Yc];grind
 unfold ksk_end;dsimp only;rw[if_neg S];by_cases h2:vs.toArray.size<2
 .rw[if_pos h2,if_pos h2];rw[Yc]at h2;refine XU (Yk ?_);rw[StateT.run_pure];refine XU (Yk ?_);dsimp only;refine aG (out:=vs) I Fa Fk NK J Z ?_ uu λs' m AP e=>h s' m vs.toArray ns AP e (by simpa using hv) ?_
  .show(if false=true then (kA.zip vs.toArray).reverse else kA.zip vs.toArray).map (·.2)=vs.toArray;rw[if_neg S,Array.map_snd_zip (by rw[Yc];lia)]
  .refine⟨List.range ns.length,List.Perm.refl _,?_,?_⟩
   .match ns.length,(show ns.length<2 by lia) with
    |0,_=>exact List.Pairwise.nil
    |1,_=>exact GO _ _
   .match ns,(show ns.length<2 by omega) with
    |[],_=>rfl
    |[x],_=>rfl
 .rw[if_neg h2,if_neg h2];rw[Yc]at h2;rw[Zi7 hk J];refine XU (Yk ?_);rw[if_neg S];obtain⟨p,Vm,VY,Qt⟩:=My.Mm (n:=ns.length) (key:=λi=>b2i<|key<|ns.getD i 0) J;have runs:=kas_runs (prog:=X.prog) (w:=X.w) (A:=A) (E:=E) (κ:=oneType') (it:=kA.zip vs.toArray) (n:=ns.length) (s:=s) (Q:=λ_ st s'=>s'=s/\failedOf st=none/\arrOf st=p.map (kas_item<|kA.zip vs.toArray))
   (G:=λq s'=>s'=s/\q=p) ur Qz (λq st s' _ e2 e3 e4=>⟨e4.1,e3,by rw[e2,e4.2]⟩)
   (My.goT_wp' (c:=λi j=>decide<|b2i (key<|ns.getD i 0)<b2i (key<|ns.getD j 0)) (AP:=λs'=>s'=s) (λi j C s' hi hj hs hC=>by obtain⟨u,e⟩:=lK hv hk hi;obtain⟨u',e'⟩:=lK hv hk hj;unfold kas_cmp;rw[e,e'];exact lM<|hC s' hs) _ s (My.QU ur) Z λs' hs=>⟨hs,Vm⟩)
  unfold kasC kas_st at runs;rw[<-hzs,kas_range]at runs;refine XU (Ut runs ?_ λ_ _ z=>z);rintro⟨⟨⟩,st⟩ s' ⟨rfl,hf,ha⟩;dsimp only;have hb:∀i∈p.toList,i<ns.length:=λi hi=>YI.mp (VY.mem_iff.mp hi)
  have Vn:p.toList.length=ns.length:=by rw[VY.length_eq,Om]
  refine aG (out:=p.toList.map λi=>(kas_item (kA.zip vs.toArray) i).2) I Fa Fk NK J hf ?_ (by rw[Yb];lia) λUD m AP e=>h UD m _ _ AP e (by simpa using ae hv hk p.toList hb) ⟨p.toList,VY,Qt,Z⟩;have ha:arrOf st=p.map (kas_item<|kA.zip vs.toArray):=ha
  rw[ha,Array.map_map];exact Array.toList_inj.mp B
theorem ZL8 (I:Inv X (pins++[(a,seqObj "list" #[] e1),(kS,seqObj "list" #[] 0)]) σ H s) (Fa:FpOk X pins H a) (Fk:FpOk X pins H kS) (NK:a≠kS) (hv:IntsAre vs ns) (Qz:ns.length<64)
  (turn:∀pl z t s',z∈ns->Inv X (pins++pl) σ H s'->wpAny (model X.prog X.w) A (call f [.int z t]) (λv UD=>v=.bool (key z)/\Inv X (pins++pl) σ H UD) (λ_ _=>False) s')
  (h:∀s' m out ms,Inv X pins σ H s'->s'.heap.get? a=some (seqObj "list" out m)->IntsAre out.toList ms->RR (λz=>b2i<|key z) ns ms->P (.done<|.ret .none) s'):
  wpAny (model X.prog X.w) A (ksk_rest a f false vs.toArray e1<|.ref kS) P E s:=by
 have IF:sizeLine=16777216:=TQ;have BH:=hv.length
 unfold ksk_rest;refine XU (EY ?_);rw[<-Array.forIn_toList];simp only[List.toList_toArray];refine XU (ksk_fold (λi s'=>∃kA e,Inv X (pins++[(a,seqObj "list" #[] e1),(kS,seqObj "list" kA e)]) σ H s'/\kA.toList=(ns.take i).map λz=>Value.bool<|key z) vs 0 s ⟨#[],0,I,Z⟩ ?step ?done)
 case step=>
  rintro j x s' hx ⟨kA,e,AP,hk⟩;rw[Lw]at hk ⊢;have hj:j<ns.length:=by rw[<-BH];exact(Xs.mp hx).1
  obtain⟨t,ht⟩:=aE hv j hj;rw[hx]at ht;obtain rfl:=Yh ht;have hz:kA.size<=j:=by have h1:=XB List.length hk;rw[YC,Yb,Yl]at h1;lia
  have eg:ns.getD j 0=ns[j]:=by rw[WJ,Xw hj];rfl
  have hmem:ns.getD j 0∈ns:=by rw[eg];exact Ny hj
  refine XU (Fd<|Ut (turn _ _ t s' hmem AP) (λv UD he=>?_) λ_ _ hF=>hF.elim);obtain⟨rfl,J2⟩:=he;dsimp only;have pk:=(J2.pin (kS,seqObj "list" kA e) B).1
  obtain⟨c2,Vi⟩:∃c2,(UD.heap.update kS (Obj.mapSeq (·.push (.bool<|key<|ns.getD j 0)))).get? kS=some (seqObj "list" (kA.push<|.bool<|key<|ns.getD j 0) c2):=⟨_,yy pk (·.push (.bool<|key<|ns.getD j 0))⟩;refine XU (SN pk Z ?_ J<|by rw[Array.size_push];lia);refine Yk ⟨Z,kA.push<|.bool<|key<|ns.getD j 0,c2,?_,?_⟩
  .have J3:Inv X (pins++[(a,seqObj "list" #[] e1)]) σ H UD:=J2.pins_of λp hp=>J2.pin p (Yi _ (by
    rcases Xz.mp hp with hp|hp
    .exact Yd _ hp
    .exact Yi _<|by rw[XF.mp hp];exact Ya))
   have aa:FpOk X (pins++[(a,seqObj "list" #[] e1)]) H kS:=Fk.more λp hp=>by rw[XF.mp hp];exact NK
   have J4:=(J3.changed (t':=UD.toks) aa λc o hc q=>(QP UD.heap (Obj.mapSeq (·.push (.bool<|key<|ns.getD j 0)))<|XI hc).trans q).pin1 aa Vi λv z=>by cases z
   rwa[QJ]at J4
  .have ek:((ns.take<|j+1).map λz=>Value.bool<|key z)=((ns.take j).map λz=>Value.bool<|key z)++[Value.bool (key<|ns.getD j 0)]:=by rw[List.take_add_one,Xw hj,YJ,eg];rfl
   rw[vd,ek,hk]
 case done=>
  rintro s' ⟨kA,e,AP,hk⟩;rw[Lw,BH,YF]at hk;have pk:=(AP.pin (kS,seqObj "list" kA e) B).1
  refine XU (listItems_at pk Z ?_);exact BI AP Fa Fk NK hv Qz hk h
theorem ZK8 (I:Inv X pins σ H s) (Fa:FpOk X pins H a) (ho:s.heap.get? a=some (seqObj "list" vs.toArray n)) (hv:IntsAre vs ns) (Qz:ns.length<64)
  (turn:∀pl z t s',z∈ns->Inv X (pins++pl) σ H s'->wpAny (model X.prog X.w) A (call f [.int z t]) (λv UD=>v=.bool (key z)/\Inv X (pins++pl) σ H UD) (λ_ _=>False) s')
  (h:∀s' m out ms,Inv X pins σ H s'->s'.heap.get? a=some (seqObj "list" out m)->IntsAre out.toList ms->RR (λz=>b2i<|key z) ns ms->P (.done<|.ret .none) s'):
  wpAny (model X.prog X.w) A (ksk_tree a f false) P E s:=by
 have IF:sizeLine=16777216:=TQ;have BH:=hv.length
 obtain⟨e1,ho1⟩:∃e1,(s.heap.update a<|Obj.mapSeq λ_=>(#[]:Array Value)).get? a=some (seqObj "list" #[] e1):=⟨_,yy ho λ_=>#[]⟩;have I1:Inv X pins σ H {s with heap:=s.heap.update a<|Obj.mapSeq λ_=>(#[]:Array Value),toks:=s.toks}:=I.changed Fa λc o hc q=>(QP _ _<|XI hc).trans q
 have I2:Inv X pins σ H {s with heap:=(s.heap.update a<|Obj.mapSeq λ_=>(#[]:Array Value)).push (seqObj "tuple" vs.toArray 0),toks:=s.toks}:=I1.kept λc o q=>Xb _ q;have SE:((s.heap.update a<|Obj.mapSeq λ_=>(#[]:Array Value)).push (seqObj "tuple" vs.toArray 0)).get? a=some (seqObj "list" #[] e1):=Xb _ ho1
 unfold ksk_tree;refine XU (listItems_at ho Z ?_);refine XU (SN ho Z ?_ (by rw[Yc];lia)<|Ym _);refine XU (seqEpoch_at ho1 Z ?_);refine XU (wpAny_newTuple ?_<|by show vs.length<=_;omega);refine XU (JR ?_<|Ym _);refine Sf ?_;have Fk:FpOk X pins H ((s.heap.update a<|Obj.mapSeq λ_=>(#[]:Array Value)).push (seqObj "tuple" vs.toArray 0)).objs.size:=I2.fpOk (XO _) (I2.hok.fresh<|XO _)
 have NK:a≠((s.heap.update a<|Obj.mapSeq λ_=>(#[]:Array Value)).push (seqObj "tuple" vs.toArray 0)).objs.size:=Yy (Yp SE);have I3:Inv X pins σ H {s with heap:=((s.heap.update a<|Obj.mapSeq λ_=>(#[]:Array Value)).push (seqObj "tuple" vs.toArray 0)).push (seqObj "list" #[] 0),toks:=s.toks}:=I2.kept λc o q=>Xb _ q
 have I4:=(I3.pin1 Fa (Xb _ SE) λv z=>by cases z).pin1 (Fk.more (pl:=[(a,seqObj "list" #[] e1)]) λp hp=>by rw[XF.mp hp];exact NK) (Yj _ Z) λv z=>by cases z
 rw[QJ]at I4;exact ZL8 I4 Fa Fk NK hv Qz turn h
theorem lJ{tp q:Addr}{Q:Ae}(I:Inv X pins σ H s)(ht:s.heap.IsList tp vs.toArray)(hv:IntsAre vs ns)(Qz:ns.length<64)
  (turn:∀pl z t s',z∈ns->Inv X (pins++pl) σ H s'->wpAny (model X.prog X.w) A.in1.in1 (call (.ref q) [.int z t]) (λv UD=>v=.bool (key z)/\Inv X (pins++pl) σ H UD) (λ_ _=>False) s')
  (h:∀s' a m out ms,FpOk X pins H a->Inv X pins σ H s'->s'.heap.get? a=some (seqObj "list" out m)->IntsAre out.toList ms->RR (λz=>b2i<|key z) ns ms->Q (.ref a) s'):
  wpAny (model X.prog X.w) A (call (.builtin "sorted") [.ref tp] [(Str.ofString "key",.ref q)]) Q E s:=by
 have IF:sizeLine=16777216:=TQ;have BH:=hv.length
 refine call_function_entry_kw kind_sorted plain_sorted entry_sorted (ksk_s1 _ _) ?_;unfold Builtin.«sorted»;refine XU (m:=checkCount "sorted" 1 1 _) (Yk ?_);refine XU (collect_list ht ?_ ur);refine XU (JR ?_ ur);have hsz:((s.heap.push<|seqObj "list" #[] 0).update s.heap.objs.size (Obj.mapSeq (·++vs.toArray))).objs.size=s.heap.objs.size+1:=by rw[Heap.size_update,size_push']
 have Jz:(((s.heap.push<|seqObj "list" #[] 0).update s.heap.objs.size (Obj.mapSeq (·++vs.toArray))).push (seqObj "list" vs.toArray 0)).get? (s.heap.objs.size+1)=some (seqObj "list" vs.toArray 0):=by rw[<-hsz];exact Yj _ rfl
 have keep:∀b o,s.heap.get? b=some o->(((s.heap.push<|seqObj "list" #[] 0).update s.heap.objs.size (Obj.mapSeq (·++vs.toArray))).push (seqObj "list" vs.toArray 0)).get? b=some o:=λb o q=>by have Xh:b<s.heap.objs.size:=Yp q;exact Xb _ ((QP _ _<|RE Xh).trans (Xb _ q))
 show wpAny _ _ _ _ _ {s with heap:=((s.heap.push<|seqObj "list" #[] 0).update s.heap.objs.size (Obj.mapSeq (·++vs.toArray))).push (seqObj "list" vs.toArray 0)};rw[hsz];have Fa:FpOk X pins H (s.heap.objs.size+1):=I.fpOk (Uc _) (I.hok.fresh<|Uc _)
 refine XU (Sf<|wpAny_call_entry_kw slot_list_sort ⟨_,Jz,Z⟩ entry_list_sort ?body (ksk_l1 _ _));show wpAny (model X.prog X.w) A.in1.in1 (Builtin.«list.sort» ⟨[.ref (s.heap.objs.size+1)],[(Str.ofString "key",.ref q)]⟩) _ _ _
 rw[ksk_t1];refine ZK8 (s:={s with heap:=((s.heap.push<|seqObj "list" #[] 0).update s.heap.objs.size (Obj.mapSeq (·++vs.toArray))).push (seqObj "list" vs.toArray 0),toks:=s.toks}) (I.kept keep) Fa Jz hv Qz turn λs' m out ms AP e hi hs=>⟨_,Z,?_⟩;exact Yk ⟨_,Z,h s' _ m out ms Fa AP e hi hs⟩
end
noncomputable def BG(K:Ad)(Pt:Addr)(UI:Pos)(qual:Str)(i:Nat)(te tb:TE):TE:=λσ H Q=>te σ H λy H1=>∃(p:Addr)(ns:Ac)(vx:V)(key:Int->Bool),y=.ref p/\SqL K H1 p (ns.map V.int)/\ns.length<64/\TabH H1 Pt UI qual/\σ[i]?=some (some vx)/\
 (∀H2,SameX Pt H1 H2->∀z∈ns,tb [some (.int z),some vx] H2 λr H3=>r=.bl (key z)/\H3=H2)/\
 ∀(ms:Ac)(l:Addr)(H2:Hp),RR (λz=>b2i<|key z) ns ms->SameX Pt H1 H2->TabH H2 Pt UI qual->H2 l=none->Q (.ref l) (upd H2 l<|.lst<|ms.map V.int)
section
variable{X:Cx}{p kp pos UI:Pos}{e body:Expr}{params:Arguments}{scope:Scope}{te tb:TE}{v x:Str}{i k:Nat}{c Pt cc:Addr}
theorem SqL.samexT{K:Ad}{H H2:Hp}{a:Addr}{xs:List V}{qual:Str}(h:SqL K H a xs)(t:TabH H Pt UI qual)(sx:SameX Pt H H2):SqL K H2 a xs:=by
 obtain⟨ps,hP,_⟩:=t;rcases h with (h|⟨o,h⟩)|h
 .exact .inl (.inl<|sx _ _ (λz=>by rw[z,hP]at h;cases h) h)
 .exact .inl (.inr ⟨o,sx _ _ (λz=>by rw[z,hP]at h;cases h) h⟩)
 .exact .inr h
theorem lI (he:PE X e te) (hg:Gl X (Str.ofString "sorted")) (hm:X.mg (Str.ofString "sorted")=none) (hr:Room (k+3) X.A) (hex:X.ex=[]) (Ux:X.env.code=.ref c) (hC:codeHdIn X.K c Pt=true) (hB:X.base.BuiltinsAt X.mg Pt) (BM:mainGlobals≠Pt)
  (uo:LamScope v x scope)(Pa:closureFor scope X.env=pure [(x,cc)])(HU:defaultsOf params X.env=([],[]))(Tt:∀(c':Addr)(pm RS u:Value),bindArgs (kla_fn (Str.ofString "<lambda>") (X.env.qual++Str.ofString "<lambda>") params body scope [(x,cc)] pm (.ref c') RS) ⟨[u],[]⟩=pure [(v,u)])
  (hi:X.N[i]?=some x)(hkx:X.env.kindOf x=some .cell)(Wj:X.env.cells.lookup x=some cc)
  (hb:∀(f c':Addr)(A:Around)(outer:List Env)(s:Shared)(H:Hp),Room k (A.deeper<|envX (X.env.qual++Str.ofString "<lambda>") scope s.heap.objs.size f (.ref c') [(x,cc)])->PE (OR X.prog X.w X.K X.mg X.base [v,x] (X.env.qual++Str.ofString "<lambda>") scope f (.ref c') [(x,cc)] A outer s H) body tb)(hs:starEach [e] X.env=[(false,eval e X.env)]:=by rfl):
  PE X (.Call (.Name (Str.ofString "sorted") p) [e] [⟨some<|Str.ofString "key",.Lambda params body scope UI,kp⟩] pos) (BG X.K Pt UI (X.env.qual++Str.ofString "<lambda>") i te tb):=by
 intro pins s σ H Q I h;refine Qk (QF I hg hm Boot.«sorted» ?_ S S);have ha:PA X [e] (PN te Jl):=XZ he XY hs
 refine callWith_kw (thn (ha pos pins s σ H (λvs H1=>match vs with
  |[y]=>∃(p:Addr)(ns:Ac)(vx:V)(key:Int->Bool),y=.ref p/\SqL X.K H1 p (ns.map V.int)/\ns.length<64/\TabH H1 Pt UI (X.env.qual++Str.ofString "<lambda>")/\σ[i]?=some (some vx)/\
   (∀H2,SameX Pt H1 H2->∀z∈ns,tb [some (.int z),some vx] H2 λr H3=>r=.bl (key z)/\H3=H2)/\
   ∀(ms:Ac)(l:Addr)(H2:Hp),RR (λz=>b2i<|key z) ns ms->SameX Pt H1 H2->TabH H2 Pt UI (X.env.qual++Str.ofString "<lambda>")->H2 l=none->Q (.ref l) (upd H2 l<|.lst<|ms.map V.int)
  |_=>False) I h) λus s1 hh=>?_) (by rw[hs];rfl) (by rw[hs];rfl) Z rfl
 obtain⟨vs,H1,I1,r,q⟩:=hh
 match vs,r,q with
 |[],_,q=>exact False.elim q
 |_::_::_,_,q=>exact False.elim q
 |[y],r,q=>
  obtain⟨p2,ns,vx,key,rfl,hq,Qz,hT,hσ,hk,q⟩:=q;obtain⟨u,rfl,ru⟩:=WH r;obtain rfl:u=Value.ref p2:=ru;refine kws_cons (BN I1 Ux hC hB hT Pa HU BM λf c' pm RS s2 H2 sx tab F I2 hf WI=>kws_nil ?_);have I3:=I2.pin1 F hf λv z=>by cases z
  have KU:=SqL.samexT hq hT sx;obtain⟨XW,rv,g1,hz⟩:=I2.list KU;have hv:=ZQ rv
  refine lJ I3 g1.isList hv Qz (key:=key) (λpl z t s3 hmem AP=>?_) λs3 a m out ms Fa AP Mi HV Wx=>?_
  .-- the lambda called
   have Rp:s3.heap.get? f=some (kla_obj (Str.ofString "<lambda>") (X.env.qual++Str.ofString "<lambda>") params body scope [(x,cc)] pm c' RS):=(AP.pin (f,_)<|Yi _<|Yd _<|Yi _ Ya).1;obtain⟨mm,_,lH⟩:=AP.loc;obtain⟨ux,rx,BF⟩:=lH i x vx hi hσ (.inr<|.inl hkx);have Sb:s3.heap.IsCell cc (some ux):=by
    rcases BF with ⟨kz,_⟩|⟨_,c2,e2,Vi⟩
    .rw[hkx]at kz;cases kz
    .rw[Wj]at e2;cases e2;exact Vi
   have Ml:s3.heap.CodeRec (.ref c') (X.env.qual++Str.ofString "<lambda>"):=(AP.hok c' _ WI).1;have VV:Room (k+1) X.A.in1.in1:=(hr.in1).in1
   refine Gz (Nr (lY (u:=.int z t) (vv:=.int z) uo VV AP.env0.in1.in1 Rp Ml (Tt c' pm RS _) Sb rx (AP.freeC x cc Wj) ⟨t,Z⟩ (hb f c' _ _ s3 H2<|VV.deeper _)<|hk H2 sx z hmem) λrr s4 hh=>?_);obtain⟨u',rfl,ce⟩:=hh;obtain⟨v',H',J',pB,e1,e2⟩:=AP.after ce;subst e1 e2;obtain rfl:=pB;exact⟨Z,J'⟩
  .have J0:Inv X pins σ H2 s3:=AP.unpinned;have Fa0:FpOk X pins H2 a:=⟨Fa.1,Fa.2.1,Fa.2.2.1,Fa.2.2.2.1,Fa.2.2.2.2.1,λp hp=>Fa.2.2.2.2.2 p (by
    rcases Xz.mp hp with hp|hp
    .exact Yd _ hp
    .exact Yi _<|Yd _ hp)⟩
   have NR:ms.length=ns.length:=by obtain⟨pp,h1,_,rfl⟩:=Wx;rw[Yb,h1.length_eq,Om]
   refine⟨.ref a,_,J0.adopt hex Fa0 (u:=.lst<|ms.map V.int) ⟨?_,out.toList,m,Pp HV,by simpa using Mi⟩,Z,q ms a H2 Wx sx tab Fa.1⟩;rw[Yb,NR]
   have:sizeLine=16777216:=TQ
   lia
end
noncomputable abbrev QT:List (Str×Value):=[(Str.ofString "default",.none)]
section
variable{prog:Program}{w:World}{A:Around}{I uo:Addr}{fp wr:List Addr}{n:Nat}{P:Nat->Value->Prop}{St:Nat->Heap->Prop}{R:Result->Shared->Prop}
theorem ZD8(W:Walks prog w A.in1 I fp wr n P St)(lt:Nat->Nat->Bool)(C:Heap->Prop)(ck:∀h h',C h->(∀b o,b≠uo->b∉wr->h.get? b=some o->h'.get? b=some o)->C h')(cc:∀s i j v u E Q,C s.heap->i≠j->P i v->P j u->Q (.bool (lt i j)) s->wpAny (model prog w) A.in1 (compareOp .Lt v u) Q E s)(Sy:uo∉fp):∀k j s vb c,n-(j+1)=k->j+1<=n->St (j+1) s.heap->P (argBest lt j) vb->C s.heap->
  s.heap.get? uo=some {cls:=.type "list",dict:=none,data:=.seq #[vb,vb] c,slots:=#[]}->
  (∀v h' tk,P (argBest lt<|n-1) v->(∀b o,b≠uo->b∉wr->s.heap.get? b=some o->h'.get? b=some o)->R (.ok<|.ret v) {s with heap:=h',toks:=tk})->
  codeAny (model prog w) A (.builtin "min.loop" ⟨[.ref I,.none,.ref uo],QT⟩) R s:=by
 have wG:uo∉wr:=λh=>Sy (W.sub _ h);have nm:(toString "min"++toString ".loop":String)="min.loop":=S
 intro k
 induction k with
 |zero=>
  intro j s vb c hk hj st pb ta hS hR;have ej:j+1=n:=uu
  refine Sh yJ ?_;rw[JX Nx _];show wpAny _ A.in1 (seqItems? (.ref uo) >>= _) _ _ s
  refine XU (JS hS Z ?_);show wpAny _ A.in1 (tryCatch (pyNext<|.ref I) _ >>= _) _ _ s
  refine XU (Fg<|W.done s _ _ (ej▸st) λh' tk Ts=>?_);have SX:=Ts uo _ wG hS
  show wpAny _ A.in1 (updateSeq uo (λ_=>#[]) >>= _) _ _ _;refine XU (yH SX Z<|XU<|GA<|Yk ?_);exact hR vb _ tk (by rwa[<-ej]) λb o b1 b2 e=>(QP _ _<|XI b1).trans (Ts b o b2 e)
 |succ k ih=>
  intro j s vb c hk hj st pb ta hS hR;have Xh:j+1<n:=ur
  refine Sh yJ ?_;rw[JX Nx _];show wpAny _ A.in1 (seqItems? (.ref uo) >>= _) _ _ s
  refine XU (JS hS Z ?_);show wpAny _ A.in1 (tryCatch (pyNext<|.ref I) _ >>= _) _ _ s
  refine XU (Fg<|W.item (j+1) s _ _ Xh st λv h' tk pv Uq Ts=>?_);have SX:=Ts uo _ wG hS
  have lG:=ck _ h' ta λb o _ b2 e=>Ts b o b2 e;show wpAny _ A.in1 (tryCatch (holding [v,v]<|richCompare .Lt (v) (vb) >>= _) _ >>= _) _ _ _
  refine XU (Fg<|Sf<|XU<|show wpAny _ _ (compareOp .Lt (v)<|vb) _ _ _ from cc {s with heap:=h',toks:=tk} (j+1) _ v vb _ _ lG (RE<|Nat.lt_succ_of_le<|My.RV _ _) pv pb ?_);refine XU (Sf<|Qj ?_);refine XU (GA<|Yk ?_);cases hb:lt (j+1) (argBest lt j) with
  |true=>
   simp only[Oh];refine XU (yH SX Z<|XU<|GA ?_);rw[nm];have up:∀b o,b≠uo->h'.get? b=some o->(h'.update uo<|Obj.mapSeq λ_=>#[v,v]).get? b=some o:=λb o b1 e=>(QP _ _<|XI b1).trans e
   refine Yk ⟨Ur Nx _,ih (j+1) _ (v) _ ur Xh (W.frame _ h' _ Uq λb KO o e=>up b o (λh=>Sy<|h▸KO) e) ?_ (ck _ _ lG λb o b1 _ e=>up b o b1 e) (Vk _ SX Z) λv' IG OP BE BD=>?_⟩
   .unfold argBest;rw[if_pos hb];exact pv
   .exact hR v' IG OP BE λb o b1 b2 e=>BD b o b1 b2 (up b o b1<|Ts b o b2 e)
  |false=>
   simp only[Fu,JI];refine XU (GA ?_);rw[nm];refine Yk ⟨Ur Nx _,ih (j+1) _ (vb) c ur Xh Uq ?_ lG SX λv' IG OP BE BD=>?_⟩
   .unfold argBest;rwa[if_neg (by rw[hb];decide)]
   .exact hR v' IG OP BE λb o b1 b2 e=>BD b o b1 b2 (Ts b o b2 e)
theorem lF (W:Walks prog w A.in1 I fp wr n P St) (lt:Nat->Nat->Bool) (C:Heap->Prop) (ck:∀h h',C h->(∀b o,b≠uo->b∉wr->h.get? b=some o->h'.get? b=some o)->C h') (cc:∀s i j v u E Q,C s.heap->i≠j->P i v->P j u->Q (.bool (lt i j)) s->wpAny (model prog w) A.in1 (compareOp .Lt v u) Q E s) (Sy:uo∉fp) (hn:0<n) {c:Nat} (st:St 0 s.heap) (ta:C s.heap) (hS:s.heap.get? uo=some {cls:=.type "list",dict:=none,data:=.seq #[] c,slots:=#[]})
  (hR:∀v h' tk,P (argBest lt<|n-1) v->(∀b o,b≠uo->b∉wr->s.heap.get? b=some o->h'.get? b=some o)->R (.ok<|.ret v) {s with heap:=h',toks:=tk}):
  codeAny (model prog w) A (.builtin "min.loop" ⟨[.ref I,.none,.ref uo],QT⟩) R s:=by
 have wG:uo∉wr:=λh=>Sy (W.sub _ h);have nm:(toString "min"++toString ".loop":String)="min.loop":=S
 refine Sh yJ ?_;rw[JX Nx _];show wpAny _ A.in1 (seqItems? (.ref uo) >>= _) _ _ s
 refine XU (JS hS Z ?_);show wpAny _ A.in1 (tryCatch (pyNext<|.ref I) _ >>= _) _ _ s
 refine XU (Fg<|W.item 0 s _ _ hn st λv h' tk pv Uq Ts=>?_);have SX:=Ts uo _ wG hS
 show wpAny _ A.in1 (updateSeq uo (λ_=>#[v,v]) >>= _) _ _ _;refine XU (yH SX Z ?_);rw[nm];have up:∀b o,b≠uo->h'.get? b=some o->(h'.update uo<|Obj.mapSeq λ_=>#[v,v]).get? b=some o:=λb o b1 e=>(QP _ _<|XI b1).trans e
 refine Yk ⟨Ur Nx _,ZD8 W lt C ck cc Sy _ 0 _ v _ Z hn (W.frame _ h' _ Uq λb KO o e=>up b o (λh=>Sy<|h▸KO) e) pv (ck _ _ ta λb o b1 b2 e=>up b o b1<|Ts b o b2 e) (Vk _ SX Z) λv' IG OP BE BD=>?_⟩;exact hR v' IG OP BE λb o b1 b2 e=>BD b o b1 b2 (up b o b1<|Ts b o b2 e)
theorem ZC8 (W:Walks prog w A.in1 I fp wr n P St) (hn:n=0) (Sy:uo∉fp) {c:Nat} (st:St 0 s.heap) (hS:s.heap.get? uo=some {cls:=.type "list",dict:=none,data:=.seq #[] c,slots:=#[]})
  (hR:∀h' tk,(∀b o,b≠uo->b∉wr->s.heap.get? b=some o->h'.get? b=some o)->R (.ok<|.ret .none) {s with heap:=h',toks:=tk}):
  codeAny (model prog w) A (.builtin "min.loop" ⟨[.ref I,.none,.ref uo],QT⟩) R s:=by
 subst hn;refine Sh yJ ?_;rw[JX Nx _];show wpAny _ A.in1 (seqItems? (.ref uo) >>= _) _ _ s
 refine XU (JS hS Z ?_);show wpAny _ A.in1 (tryCatch (pyNext<|.ref I) _ >>= _) _ _ s
 refine XU (Fg<|W.done s _ _ st λh' tk Ts=>?_);refine XU (EY<|Yk ?_);exact hR h' tk λb o _ b2 e=>Ts b o b2 e
theorem ZR4{E:Ae}{s:Shared}{id:String}{b:Builtin}{args:Ag}{kw:List (Str×Value)}{Q:Ae}(hk:builtinKind id=none)(hp:plainId id=true)(hb:entryFor table id=some b)(ha:argsOk id ⟨args,kw⟩)
  (hc:wpAny (model prog w) A.in1 (b ⟨args,kw⟩) (λfin s'=>match fin with
   | .done f=>(match (Except.ok f:Result) with | .ok (.ret v)=>Q v s' | .ok _=>False | .error e=>E e s')
   | .again c'=>c'.quiet=true/\codeAny (model prog w) A c' (λr s'=>match r with | .ok (.ret v)=>Q v s' | .ok _=>False | .error e=>E e s') s') E s):wpAny (model prog w) A (call (.builtin id) args kw) Q E s:=by
 refine Gz (codeAny_call_builtin hp hb ?_);simp only[checkBuiltinCall,hk];cases lE:Manifest.signature? id with
 |none=>exact Yk hc
 |some sig=>
  have xE:Bind.checkArgs id sig ⟨args,kw⟩=pure ():=by simpa only[argsOk,lE] using ha
  simp only[xE];exact Yk hc
theorem lD (a:Value):argsOk "min" ⟨[a],QT⟩:=by unfold argsOk;kernel_rfl
theorem lC{E:Ae}{s:Shared}{Q:Ae}(hh:A.handled=none)(hl:s.heap.IsList l (intItems xs))
  (h0:xs.size=0->∀h' tk,(∀b o,s.heap.get? b=some o->h'.get? b=some o)->Q .none {s with heap:=h',toks:=tk})
  (h:0<xs.size->∀v h' tk,(intItems xs)[argBest (λi j=>decide<|numAt xs i<numAt xs j) (xs.size-1)]?=some v->(∀b o,s.heap.get? b=some o->h'.get? b=some o)->Q v {s with heap:=h',toks:=tk}):
  wpAny (model prog w) A (call (.builtin "min") [.ref l] QT) Q E s:=by
 have nm:(toString "min"++toString ".loop":String)="min.loop":=S;refine ZR4 F.kind_min F.plain_min F.entry_min (lD _) ?_;show wpAny _ A.in1 (Builtin.Builtins.bindParams "min" ["key","default"] 0 ⟨[],QT⟩ >>= _) _ _ s
 refine XU (Nn (a:=[none,some .none]) Z ?_);refine XU (Yk ?_);refine XU (iter_intList hl λs₂ e st wQ hlI=>?_);subst e;refine XU (Nz ?_);rw[nm];have W:=Walks.list (prog:=prog) (w:=w) (A:=A.in1) hh s.heap.objs.size l hlI (intItems xs)
 obtain⟨G,hG⟩:∃G,G=s.heap.push {cls:=.type "list_iterator",data:=.fields #[.ref l,.int 0 0]}:=⟨_,Z⟩;have hold:∀b o,s.heap.get? b=some o->b≠G.objs.size/\b∉[s.heap.objs.size]/\(G.push {cls:=.type "list",data:=.seq #[] 0}).get? b=some o:=λb o e=>by
  have Xh:=Yp e;have lB:b<G.objs.size:=by rw[hG];exact Yt Xh (by rw[Us];exact Uc _)
  refine⟨Yy lB,λhm=>by rw[XF.mp hm]at Xh;exact RF _ Xh,Xb _<|by rw[hG];exact Xb _ e⟩
 rw[<-hG]at st wQ ⊢;have Sy:G.objs.size∉[s.heap.objs.size,l]:=λhm=>RF _ (wQ _ hm)
 have MZ:=W.frame 0 G (G.push {cls:=.type "list",data:=.seq #[] 0}) st λb _ o e=>Xb _ e;have ly:(intItems xs).size=xs.size:=by simp[intItems]
 rcases Nat.eq_zero_or_pos xs.size with hz|hz
 .refine Yk ⟨Ur Nx _,ZC8 W (ly.trans hz) Sy MZ (Yj _ Z) λh' tk hk=>?_⟩;exact h0 hz h' tk λb o e=>by obtain⟨a1,a2,a3⟩:=hold b o e;exact hk b o a1 a2 a3
 .refine Yk ⟨Ur Nx _,lF W (λi j=>decide<|numAt xs i<numAt xs j) (λ_=>True) (λ_ _ _ _=>trivial) (λs i j v u E Q _ _ pv pu q=>?_) Sy (by rwa[ly]) MZ trivial (Yj _ Z) λv h' tk pv hk=>?_⟩
  .obtain⟨t1,rfl⟩:=intItems_at pv;obtain⟨t2,rfl⟩:=intItems_at pu;exact lt_int q
  .rw[ly]at pv;exact h hz v h' tk pv λb o e=>by obtain⟨a1,a2,a3⟩:=hold b o e;exact hk b o a1 a2 a3
end
noncomputable def BC(K:Ad)(te:TE):TE:=λσ H Q=>te σ H λy H1=>∃p ns,y=.ref p/\SqL K H1 p (ns.map V.int)/\(ns=[]->Q .non H1)/\∀m:Int,m∈ns->(∀a∈ns,m<=a)->Q (.int m) H1
theorem Zr9 {p kp pos cp:Pos} {j:Nat} (hc:X.calm=true) (hg:Gl X (Str.ofString "min")) (hm:X.mg (Str.ofString "min")=none) (he:PE X e te) (hs:starEach [e] X.env=[(false,eval e X.env)]:=by rfl):
  PE X (.Call (.Name (Str.ofString "min") p) [e] [⟨some<|Str.ofString "default",.Constant .none j cp,kp⟩] pos) (BC X.K te):=by
 intro pins s σ H Q I h;refine Qk (QF I hg hm Boot.«min» ?_ S S);have ha:PA X [e] (PN te Jl):=XZ he XY hs
 refine callWith_kw (thn (ha pos pins s σ H (λvs H1=>match vs with
  |[y]=>∃p ns,y=.ref p/\SqL X.K H1 p (ns.map V.int)/\(ns=[]->Q .non H1)/\∀m:Int,m∈ns->(∀a∈ns,m<=a)->Q (.int m) H1
  |_=>False) I h) λus s1 hh=>?_) (by rw[hs];rfl) (by rw[hs];rfl) Z rfl
 obtain⟨vs,H1,I1,r,q⟩:=hh
 match vs,r,q with
 |[],_,q=>exact False.elim q
 |_::_::_,_,q=>exact False.elim q
 |[y],r,q=>
  obtain⟨p2,ns,rfl,hq,q0,q1⟩:=q;obtain⟨u,rfl,ru⟩:=WH r;obtain rfl:u=Value.ref p2:=ru;refine kws_cons (Constant_none<|kws_nil ?_);obtain⟨XW,rv,pl,hz⟩:=I1.list hq;have hi:=ZQ rv
  obtain⟨xs,e'⟩:=hi.allInts.items;have VE:ns=xs.toList.map (·.1):=by rw[<-hi.numsOf,<-nums_intItems,<-e']
  have hl:=pl.isList;rw[e']at hl;refine lC (I1.ok.hd hc) hl (λhsz h' tk hk=>?_) λhsz v h' tk hv hk=>?_
  .refine⟨.non,H1,I1.kept (t':=tk) hk,Z,q0 ?_⟩;rw[VE,Fx];exact YZ.mp (by rwa[YC])
  .obtain⟨t,rfl⟩:=intItems_at hv;obtain⟨h1,h2⟩:=argBest_lt (numAt xs) (xs.size-1);refine⟨.int _,H1,I1.kept (t':=tk) hk,⟨t,Z⟩,q1 _ ?_ λa ha=>?_⟩
   .rw[VE,numAt_eq];exact getD_mem (by rw[Yb,YC];omega)
   .rw[VE]at ha;obtain⟨j,hj,rfl⟩:=mem_getD ha;rw[Yb,YC]at hj;rw[<-numAt_eq];exact h2 j uu
end L2
namespace My
open PySem L2
noncomputable def BB (K:Ad) (mg:Af) (x qual:Str) (st:Stmt) (fs:List Str) (Pt:Addr):Prop:=∃C f fd c,mg x=some (.ref C)/\Fun K "__init__" qual st f fd/\Cls K C/\Mk K C f/\(∀a∈fs,NoAttr K C a)/\fd.code=.ref c/\PySem.W.codeHdIn K c Pt=true
theorem HQ{mg:Af}{oc:Value}{od an:Option Addr}{Uo:Array (Option Value)}{kV doc pm ct:Value}(X:K.In h)(G:h.Ns mainGlobals mg)
  (aC:PySem.W.nsIn K mainGlobals x=some (some<|.ref C))(a:PySem.W.findIn K (.ref C) "__init__"=some (some<|.ref f))(i:PySem.W.isFn K (.ref f)=true)
  (l:K.lookup f=some ⟨oc,od,.func<|PySem.W.fnOf "__init__" qual (Lj st) (RY st) (Xv st) .none kV doc pm an (.ref cA) ct,Uo⟩)(c:PySem.W.codeIn K (.ref cA) qual=true)(k:PySem.W.keepIn K (.ref f)=true)
  (pg:PySem.W.plainGet K C Str.empty=true)(hd:PySem.W.hasDictIn K C=true)(po:PySem.W.plainOver K C=true)(sa:PySem.W.findIn K (.ref C) "__setattr__"=some (some<|.builtin "object.__setattr__"))(mk:PySem.W.makesIn K C=true)(kc:PySem.W.keepIn K (.ref C)=true)
  (na:∀a∈fs,PySem.W.findIn K (.ref C) a=some none)(z:PySem.W.codeHdIn K cA Pt=true):BB K mg x qual st fs Pt:=
 ⟨C,f,_,cA,GD X G aC,xY l c k,⟨pg,hd,po,sa⟩,⟨mk,a,i,kc⟩,na,Z,z⟩
noncomputable def Mh(M:Ac)(ps:Aa)(g:Ac)(i:Nat):Ac:=(Wg i).filter λz=>decide (z∉g/\mk M (ps.getD z.toNat (0,0)).1.toNat≠mk M (ps.getD z.toNat (0,0)).2.toNat)
theorem lx(M:Ac)(ps:Aa)(g:Ac)(i:Nat):Mh M ps g (i+1)=Mh M ps g i++if (i:Int)∉g/\mk M (ps.getD i (0,0)).1.toNat≠mk M (ps.getD i (0,0)).2.toNat then [(i:Int)] else []:=by
 unfold Mh;rw[cD,Ql];congr 1;rw[YO,uW];show(if decide ((i:Int)∉g/\mk M (ps.getD ((i:Int).toNat) (0,0)).1.toNat≠mk M (ps.getD ((i:Int).toNat) (0,0)).2.toNat)=true then [(i:Int)] else [])=_
 rw[YD];simp only[JW]
theorem lu(M:Ac)(ps:Aa)(g:Ac)(i:Nat):(Mh M ps g i).length<=i:=Ys (YG ..) (by rw[ZM];exact XO _)
noncomputable def Xa:Option Int->V
 |none=>.non
 |some z=>.int z
noncomputable def wF (w k s ld l i fu:V):List (Str×V):=[("web",w),("kept",k),("shut",s),("lead",ld),("least",l),("incoming",i),("further",fu)]
theorem Wz:SameX x H (upd H x o):=λb o' hb e=>by rwa[Zc hb]
theorem WebAt.but{C CP w x dx:Addr}(h:WebAt C H w n ps)(hx:H x=some (.ins CP dx []))(s:SameX x H H1):WebAt C H1 w n ps:=by
 obtain⟨d,tl,xs,h1,h2,h3⟩:=h;refine⟨d,tl,xs,s _ _ (λe=>?_) h1,s _ _ (λe=>?_) h2,h3.1,λi p e=>?_⟩
 .rw[e,hx]at h1
  have:=XB (λo=>match o with|some (HO.ins _ _ fs)=>fs.length|_=>0) h1
  exact absurd this (by show ¬0=2;decide)
 .rw[e,hx]at h2;cases h2
 .obtain⟨v,a1,tt,a2,a3⟩:=h3.2 i p e;exact⟨v,a1,tt,a2,s _ _ (λe=>by rw[e,hx]at a3;cases a3) a3⟩
theorem BA{CP a x dx:Addr}(h:SqT K H a xs)(hx:H x=some (.ins CP dx []))(s:SameX x H H1):SqT K H1 a xs:=by
 rcases h with (h|⟨o,h⟩)|h
 .exact .inl (.inl<|s _ _ (λz=>by rw[z,hx]at h;cases h) h)
 .exact .inl (.inr ⟨o,s _ _ (λz=>by rw[z,hx]at h;cases h) h⟩)
 .exact .inr h
theorem Bz{CP Pt x dx:Addr}(t:TabH H Pt pos qual)(hx:H x=some (.ins CP dx []))(s:SameX x H H1):TabH H1 Pt pos qual:=by
 obtain⟨ps,h1,h2,h3⟩:=t;refine⟨ps,s _ _ (λe=>by rw[e,hx]at h1;cases h1) h1,h2,?_⟩;rcases h3 with h|⟨c,h,h'⟩
 .exact .inl h
 .exact .inr ⟨c,h,s _ _ (λe=>by rw[e,hx]at h';cases h') h'⟩
theorem By(ha:SqT K H a (IL l))(hb:SqT K H b (IL m))(hl:l.length+m.length<=1000)(k:∀r H',Same H H'->SqT K H' r (IL (l++m))->Q (.ref r) H'):Iz K (.ref a) (.ref b) H Q:=by
 refine⟨a,b,_,_,Z,Z,ha,hb,by rw[Xx,Xx];exact Ys hl S,λe=>?_,λ_ e=>?_,λ_ _ p hp=>?_⟩
 .have el:l=[]:=Fx.mp e;rw[el,Oj]at k;exact k b H (Same.refl _) hb
 .have em:m=[]:=Fx.mp e;rw[em,YH]at k;exact k a H (Same.refl _) ha
 .refine k p _ (XN hp) (SqT.of ?_);rw[XS,xV]
noncomputable def Uw(M:Ac)(ps:Aa)(z:Int):Int×Int:=(min (mk M (ps.getD z.toNat (0,0)).1.toNat)<|mk M (ps.getD z.toNat (0,0)).2.toNat,max (mk M (ps.getD z.toNat (0,0)).1.toNat)<|mk M (ps.getD z.toNat (0,0)).2.toNat)
theorem ZR3{l:Ac}(hp:l.Perm [a,b])(hs:l.Pairwise (·<=·)):l=[min a b,max a b]:=by
 by_cases c:a<=b
 .rw[uV c,JD c];exact Ri hp hs (by simpa using c)
 .rw[JE J,uU ur];exact Ri (hp.trans<|List.Perm.swap b a []) hs (by simp;omega)
theorem Zv9{z:Int}(h:z∈Mh M ps g i):0<=z/\z<(i:Int):=XA.mp (Yg.mp h).1
noncomputable def WT(n:Int)(ps:Aa)(I O F:Ac):Ac:=Mh (Xu n.toNat<|XT ps I) ps (I++O++F) ps.length
noncomputable def Tq(n:Int)(ps:Aa)(I O F:Ac)(ld:Option Int):Ac:=(WT n ps I O F).filter λz=>decide (∃y,ld=some y/\Uw (Xu n.toNat<|XT ps I) ps z=Uw (Xu n.toNat<|XT ps I) ps y)
noncomputable def VO(n:Int)(ps:Aa)(I O F:Ac)(ld:Option Int):Ac:=(WT n ps I O F).filter λz=>decide (z∉Tq n ps I O F ld)
noncomputable def PartAt(K:Ad)(CP C:Addr)(H:Hp)(x:Addr)(n:Int)(ps:Aa)(I O F inc:Ac)(ld fu:Option Int):Prop:=∃dx w a b l i,H x=some (.ins CP dx<|wF (.ref w) (.ref a) (.ref b) (Xa ld) (.ref l) (.ref i)<|Xa fu)/\WebAt C H w n ps/\SqT K H a (IL I)/\SqT K H b (IL O)/\H l=some (.tup<|IL F)/\H i=some (.lst<|IL inc)
theorem PartAt.samex(h:PartAt K CP C H x n ps I O F inc ld fu)(t:TabH H Pt pos qual)(sx:SameX Pt H H2):PartAt K CP C H2 x n ps I O F inc ld fu:=by obtain⟨dx,w,a,b,l,i,h1,h2,h3,h4,h5,h6⟩:=h;exact⟨dx,w,a,b,l,i,sx _ _ (t.ne h1 B) h1,h2.samex t sx,SqK.samex (kd:=true) h3 t sx,SqK.samex (kd:=true) h4 t sx,sx _ _ (t.ne h5 B) h5,sx _ _ (t.ne h6 B) h6⟩
structure PartOk (n:Int) (ps:Aa) (I O:Ac) (ld:Option Int) (F inc:Ac) (fu:Option Int):Prop where
 tr:With n ps I O F
 least:∀U,With n ps I O U->HT.lexLt U F=false
 inc:RR (λz=>PyProof.Rows.b2i<|decide<|ld=some z) (Tq n ps I O F ld) inc
 none:fu=none↔VO n ps I O F ld=[]
 some:∀y,fu=some y->y∈VO n ps I O F ld/\∀z∈VO n ps I O F ld,y<=z
noncomputable def xchT(F:Ac)(o z:Int):Ac:=(wo F o++[z]).mergeSort λa b=>decide (a<=b)
theorem Kx(F:Ac)(o z:Int):(xchT F o z).Perm (wo F o++[z]):=List.mergeSort_perm _ _
theorem QS(F:Ac)(o z:Int):(xchT F o z).Pairwise (·<=·):=by
 refine(eZ (le:=λa b:Int=>decide<|a<=b) (λa b c h1 h2=>?_) (λa b=>?_) _).imp λh=>Yu h
 .simp only[JW]at *;lia
 .simp only[uR,JW];lia
noncomputable def WE(n:Int)(ps:Aa)(I F:Ac)(z:Int):Ac:=(TB n ps F z F).filter λt=>decide (t∉I)
section
variable{n:Int}{ps:Aa}{I O F T M:Ac}{x y z:Int}(g:Zw n ps)
include g
theorem Bx(hF:With n ps I O F)(he:exg n ps F x y)(hx:x∉I)(hy:y∉O)(hp:M.Perm (wo F x++[y]))(hs:M.Pairwise (·<=·)):With n ps I O M:=by
 refine⟨xu g hF.1 he hp hs,λv hv=>(xt g hF.1 he hp hs).mpr (.inl ⟨hF.2.1 v hv,λe=>hx<|e▸hv⟩),λv hv h=>?_⟩;rcases(xt g hF.1 he hp hs).mp h with h|h
 .exact hF.2.2 v hv h.1
 .exact hy (h▸hv)
theorem Zj5(hF:Zh n ps F)(he:exg n ps F x y)(h:y<x)(hp:M.Perm (wo F x++[y]))(hs:M.Pairwise (·<=·)):HT.lexLt M F=true:=by
 have tM:=xu g hF he hp hs;have yF:y∉F:=((Gg g hF).mp he).2.1
 refine(mO (XX.mp tM.1).2 (XX.mp hF.1).2 (by have:=tM.2.1;have:=hF.2.1;lia)).mpr ⟨y,(xt g hF he hp hs).mpr (.inr Z),yF,λs NY=>?_⟩;rw[xt g hF he hp hs];constructor
 .rintro(q|q)
  .exact q.1
  .lia
 .exact λq=>.inl ⟨q,J⟩
theorem Su(hF:With n ps I O F)(VB:∀U,With n ps I O U->HT.lexLt U F=false)(hT:With n ps (I++[z]) O T)(Kw:∀U,With n ps (I++[z]) O U->HT.lexLt U T=false):∀v∈T,v∈F\/v=z:=λv hv=>Yx λno=>by
 have vF:v∉F:=λh=>no (.inl h);have vz:v≠z:=λh=>no (.inr h)
 obtain⟨u,e1,e2⟩:=pO g hT.1 hF.1 hv vF;have uF:u∈F:=e2.1
 have uT:u∉T:=((Gg g hT.1).mp e1).2.1;have uI:u∉I:=λh=>uT (hT.2.1 u<|Yd _ h)
 have vO:v∉O:=λh=>hT.2.2 v h hv;have uO:u∉O:=λh=>hF.2.2 u h uF
 have vI:v∉I++[z]:=λh=>by
  rcases Xz.mp h with h|h
  .exact vF (hF.2.1 v h)
  .exact vz (XF.mp h)
 have uv:u≠v:=λe=>uT (e▸hv);obtain⟨M1,p1,q1⟩:=pM (wo F u++[v]);have w1:=Bx g hF e2 uI vO p1 q1
 obtain⟨M2,p2,q2⟩:=pM (wo T v++[u]);have w2:=Bx g hT e1 vI uO p2 q2
 rcases Int.lt_or_lt_of_ne uv with h|h
 .have:=Zj5 g hT.1 e1 h p2 q2
  rw[Kw M2 w2]at this;cases this
 .have:=Zj5 g hF.1 e2 h p1 q1
  rw[VB M1 w1]at this;cases this
theorem Mg(hF:With n ps I O F)(VB:∀U,With n ps I O U->HT.lexLt U F=false)(hz:z∉F):With n ps I (O++[z]) F/\∀U,With n ps I (O++[z]) U->HT.lexLt U F=false:=
 ⟨⟨hF.1,hF.2.1,λv hv=>(Xz.mp hv).elim (hF.2.2 v) λh=>by rwa[XF.mp h]⟩,λU hU=>VB U ⟨hU.1,hU.2.1,λv hv=>hU.2.2 v<|Yd _ hv⟩⟩
end
theorem Wy{z:Int}:With n ps I O T↔With n ps I (O++[z]) T\/With n ps (I++[z]) O T:=by
 constructor
 .intro h;by_cases c:z∈T
  .exact .inr ⟨h.1,λv hv=>(Xz.mp hv).elim (h.2.1 v) λe=>by rw[XF.mp e];exact c,h.2.2⟩
  .exact .inl ⟨h.1,h.2.1,λv hv=>(Xz.mp hv).elim (h.2.2 v) λe=>by rwa[XF.mp e]⟩
 .rintro(h|h)
  .exact⟨h.1,h.2.1,λv hv=>h.2.2 v<|Yd _ hv⟩
  .exact⟨h.1,λv hv=>h.2.1 v<|Yd _ hv,h.2.2⟩
noncomputable def RowAll(n:Int)(ps:Aa)(I O:Ac)(R:Ab):Prop:=R.Nodup/\∀T,T∈R↔With n ps I O T
theorem RowAll.pc(h:RowAll n ps I O R):PC n ps I O R.length:=⟨R,h.1,λl=>h.2 l,Z⟩
theorem ZN6{z:Int}(hA:RowAll n ps I (O++[z]) A)(hB:RowAll n ps (I++[z]) O uj):RowAll n ps I O (A++uj.reverse):=by
 refine⟨YR.mpr ⟨hA.1,(List.reverse_perm uj).nodup_iff.mpr hB.1,λa ha b hb e=>?_⟩,λT=>?_⟩
 .subst e;exact((hA.2 a).mp ha).2.2 z B (((hB.2 a).mp (GJ.mp hb)).2.1 z B)
 .rw[Xz,GJ,hA.2,hB.2];exact Wy.symm
theorem lr{a b c d:Int}(h1:min a b=min c d)(h2:max a b=max c d):(a=c/\b=d)\/(a=d/\b=c):=by
 rcases Int.le_total a b with p|p<;>rcases Int.le_total c d with q|q<;>simp only[uV,JE,uU,JD,p,q]at h1 h2
 .exact .inl ⟨h1,h2⟩
 .exact .inr ⟨h1,h2⟩
 .exact .inr ⟨h2,h1⟩
 .exact .inl ⟨h2,h1⟩
section
variable{n:Int}{ps:Aa}{I O F T:Ac}{o t t':Int}(g:Zw n ps)
include g
theorem ZB6(hT:Zh n ps T)(ho:o∈T):¬Conn (XT ps (wo T o)) (Zt ps o).1 (Zt ps o).2:=by obtain⟨o0,o1⟩:=hT.1.all o ho;exact(ZU g hT o0 o1).mp ((Gf g hT ho ho).mpr Z)
theorem Zd8(hT:Zh n ps T)(hI:∀v∈I,v∈T)(ht:t∈T)(hn:t∉I):¬Conn (XT ps I) (Zt ps t).1 (Zt ps t).2:=λc=>
 ZB6 g hT ht (c.mono<|ZC λv hv=>Xq.mpr ⟨hI v hv,λe=>hn<|by rwa[<-e]⟩)
theorem ZD7(Xp:∀z∈I,0<=z/\z<(ps.length:Int))(t0:0<=t)(t1:t<(ps.length:Int))(s0:0<=t')(s1:t'<(ps.length:Int))(h:Uw (Xu n.toNat (XT ps I)) ps t=Uw (Xu n.toNat (XT ps I)) ps t'):
  (Conn (XT ps I) (Zt ps t).1 (Zt ps t').1/\Conn (XT ps I) (Zt ps t).2 (Zt ps t').2)\/(Conn (XT ps I) (Zt ps t).1 (Zt ps t').2/\Conn (XT ps I) (Zt ps t).2 (Zt ps t').1):=by
 have Wc:=ZO g Xp;have a:=Ul (z:=t) g t0 t1
 have b:=Ul (z:=t') g s0 s1;have h:(min (mk (Xu n.toNat<|XT ps I) (Zt ps t).1)<|mk (Xu n.toNat<|XT ps I) (Zt ps t).2,max (mk (Xu n.toNat<|XT ps I) (Zt ps t).1)<|mk (Xu n.toNat<|XT ps I) (Zt ps t).2)=(min (mk (Xu n.toNat<|XT ps I) (Zt ps t').1)<|mk (Xu n.toNat<|XT ps I) (Zt ps t').2,max (mk (Xu n.toNat<|XT ps I) (Zt ps t').1)<|mk (Xu n.toNat<|XT ps I) (Zt ps t').2):=h
 obtain⟨h1,h2⟩:=Prod.mk.inj h;rw[<-Rj Wc a.1 b.1,<-Rj Wc a.2 b.2,<-Rj Wc a.1 b.2,<-Rj Wc a.2 b.1];exact lr h1 h2
theorem Zf9(Xp:∀z∈I,0<=z/\z<(ps.length:Int))(hT:Zh n ps T)(hI:∀v∈I,v∈T)(ht:t∈T)(hs:t'∈T)(hn:t∉I)(Rx:t'∉I)(h:Uw (Xu n.toNat (XT ps I)) ps t=Uw (Xu n.toNat (XT ps I)) ps t'):t=t':=Yx λne=>by
 obtain⟨t0,t1⟩:=hT.1.all t ht;obtain⟨s0,s1⟩:=hT.1.all t' hs;have sub:∀v∈I++[t],v∈wo T t':=λv hv=>by
  rcases Xz.mp hv with hv|hv
  .exact Xq.mpr ⟨hI v hv,λe=>Rx<|by rwa[<-e]⟩
  .rw[XF.mp hv];exact Xq.mpr ⟨ht,ne⟩
 have up:∀{i j},Conn (XT ps I) i j->Conn (XT ps<|I++[t]) i j:=λc=>c.mono (ZC λv hv=>Yd _ hv);have ed:Conn (XT ps<|I++[t]) (Zt ps t).1 (Zt ps t).2:=.edge (YA.mpr ⟨t,B,Z⟩)
 have c:Conn (XT ps<|I++[t]) (Zt ps t').1 (Zt ps t').2:=by
  rcases ZD7 g Xp t0 t1 s0 s1 h with ⟨a,b⟩|⟨a,b⟩
  .exact((up a).symm.trans ed).trans (up b)
  .exact((up b).symm.trans ed.symm).trans (up a)
 exact ZB6 g hT hs (c.mono<|ZC sub)
theorem lq(Xp:∀z∈I,0<=z/\z<(ps.length:Int))(hT:With n ps I O T)(hF:∀v∈I,v∈F)(ht:t∈T)(hn:t∉F):t∈WT n ps I O F:=by
 obtain⟨t0,t1⟩:=hT.1.1.all t ht;have a:=Ul (z:=t) g t0 t1
 have hI:t∉I:=λh=>hn (hF t h);refine Yg.mpr ⟨XA.mpr ⟨t0,t1⟩,Yn ⟨λh=>?_,λe=>?_⟩⟩
 .rcases Xz.mp h with h|h
  .rcases Xz.mp h with h|h
   .exact hI h
   .exact hT.2.2 t h ht
  .exact hn h
 .exact Zd8 g hT.1 hT.2.1 ht hI ((Rj (ZO g Xp) a.1 a.2).mp e)
end
noncomputable def VJ(n:Int)(ps:Aa)(I F:Ac)(asc:Bool)(z:Int):Ab:=if asc then (WE n ps I F z).map λo=>xchT F o z else ((WE n ps I F z).map λo=>xchT F o z).reverse
noncomputable def Vr(n:Int)(ps:Aa)(I F:Ac):Ac->Bool->Ab
 |[],_=>[]
 |z::r,asc=>VJ n ps I F asc z++Vr n ps I F r (!asc)
theorem lp(n:Int)(ps:Aa)(I F:Ac)(z:Int):∀l asc,Vr n ps I F (l++[z]) asc=Vr n ps I F l asc++VJ n ps I F (asc != (l.length%2 == 1)) z
 |[],asc=>by show VJ n ps I F asc z++[]=[]++VJ n ps I F (asc != false) z;rw[YH,Oj,Bool.bne_false]
 |y::l,asc=>by show VJ n ps I F asc y++Vr n ps I F (l++[z]) (!asc)=VJ n ps I F asc y++Vr n ps I F l (!asc)++_;rw[lp n ps I F z l,QJ,Yq];congr 3;rcases(by lia:l.length%2=0/\(l.length+1)%2=1\/l.length%2=1/\(l.length+1)%2=0) with ⟨a,b⟩|⟨a,b⟩<;>rw[a,b]<;>cases asc<;>rfl
theorem lj(n:Int)(ps:Aa)(I F:Ac)(asc:Bool)(z:Int):(VJ n ps I F asc z).length<=F.length:=by
 unfold VJ;have h:(WE n ps I F z).length<=F.length:=Ys (YG ..) (Gh n ps F z F)
 split
 .rw[Yb];exact h
 .rw[YM,Yb];exact h
theorem Zi9(n:Int)(ps:Aa)(I F:Ac):∀l asc,(Vr n ps I F l asc).length<=l.length*F.length
 |[],_=>Ym _
 |z::l,asc=>by
  show(VJ n ps I F asc z++Vr n ps I F l (!asc)).length<=_;rw[Xt,Yq,Nat.succ_mul]
  have:=lj n ps I F asc z
  have:=Zi9 n ps I F l (!asc)
  lia
noncomputable def Bw(n:Int)(ps:Aa)(I F inc:Ac):Ab:=F::Vr n ps I F inc (inc.length%2 == 1)
theorem Xc:o∈TB n ps F t F↔o∈F/\t∈UY n ps F o:=by unfold TB;rw[Yg,YT];exact Iff.rfl
theorem XH{o t v:Int}:v∈xchT F o t↔(v∈F/\v≠o)\/v=t:=by rw[(Kx F o t).mem_iff,Xz,Xq,XF]
section
variable{n:Int}{ps:Aa}{I O F T:Ac}{ld:Option Int}{o t:Int}(g:Zw n ps)
include g
theorem lh(Xp:∀z∈I,0<=z/\z<(ps.length:Int))(hF:With n ps I O F)(hu:VO n ps I O F ld=[])(hT:With n ps I O T):T=F\/∃t∈WT n ps I O F,∃o∈WE n ps I F t,T=xchT F o t:=by
 by_cases c:∀v∈T,v∈F
 .exact .inl (wH g hT.1 hF.1 c)
 .obtain⟨t,ht,hn⟩:∃t,t∈T/\t∉F:=Yx λno=>c λv hv=>Yx λhn=>no ⟨v,hv,hn⟩;have hto:=lq g Xp hT hF.2.1 ht hn
  have alike:∀v∈WT n ps I O F,∃y,ld=some y/\Uw (Xu n.toNat<|XT ps I) ps v=Uw (Xu n.toNat<|XT ps I) ps y:=λv hv=>by
   have hm:v∈Tq n ps I O F ld:=Yx λno=>by
    have:v∈VO n ps I O F ld:=Yg.mpr ⟨hv,Yn no⟩
    rw[hu]at this;cases this
   exact Yu (Yg.mp hm).2
  have only:∀v∈T,v∉F->v=t:=λv hv hvn=>by obtain⟨y,e1,e2⟩:=alike v (lq g Xp hT hF.2.1 hv hvn);obtain⟨y',e3,e4⟩:=alike t hto;rw[e1]at e3;cases e3;exact Zf9 g Xp hT.1 hT.2.1 hv ht (λh=>hvn<|hF.2.1 v h) (λh=>hn<|hF.2.1 t h) (e2.trans e4.symm)
  obtain⟨o,e1,e2⟩:=pO g hT.1 hF.1 ht hn;have oT:o∉T:=((Gg g hT.1).mp e1).2.1
  have hM:=xu g hF.1 e2 (Kx F o t) (QS F o t);refine .inr ⟨t,hto,o,Yg.mpr ⟨Xc.mpr ⟨e2.1,e2.2.2⟩,Yn λh=>oT<|hT.2.1 o h⟩,wH g hT.1 hM λv hv=>XH.mpr ?_⟩;by_cases cv:v∈F
  .exact .inl ⟨cv,λe=>oT<|by rwa[<-e]⟩
  .exact .inr (only v hv cv)
theorem Zx6(hF:With n ps I O F)(ht:t∈WT n ps I O F)(ho:o∈WE n ps I F t):With n ps I O (xchT F o t):=by
 obtain⟨h1,h2⟩:=Yg.mp ht;obtain⟨hg,_⟩:=Yu h2;obtain⟨h3,h4⟩:=Yg.mp ho;obtain⟨h5,h6⟩:=Xc.mp h3;have tF:t∉F:=λh=>hg (Yi _ h)
 exact Bx g hF ⟨h5,λe=>tF (by rwa[e]),h6⟩ (Yu h4) (λh=>hg<|Yd _<|Yi _ h) (Kx F o t) (QS F o t)
end
theorem RQ{I F T:Ac}:T∈VJ n ps I F asc z↔∃o∈WE n ps I F z,T=xchT F o z:=by
 have h:T∈((WE n ps I F z).map λo=>xchT F o z)↔∃o∈WE n ps I F z,T=xchT F o z:=by rw[YA];exact⟨λzz=>by obtain⟨o,h1,h2⟩:=zz;exact⟨o,h1,h2.symm⟩,λzz=>by obtain⟨o,h1,h2⟩:=zz;exact⟨o,h1,h2.symm⟩⟩
 unfold VJ;split
 .exact h
 .rw[GJ];exact h
theorem VN{I F T:Ac}:∀{l:Ac}{asc:Bool},T∈Vr n ps I F l asc↔∃z∈l,∃o∈WE n ps I F z,T=xchT F o z
 |[],_=>⟨λh=>(by cases h),λzz=>by obtain⟨_,h,_⟩:=zz;exact(by cases h)⟩
 |z::l,asc=>by
  show T∈VJ n ps I F asc z++Vr n ps I F l (!asc)↔_;rw[Xz,RQ,VN];constructor
  .rintro(h|⟨z',h1,h2⟩)
   .exact⟨z,Ya,h⟩
   .exact⟨z',Yf _ h1,h2⟩
  .rintro⟨z',h1,h2⟩;rcases Ye.mp h1 with e|e
   .exact .inl (e▸h2)
   .exact .inr ⟨z',e,h2⟩
theorem Bv(ht:t∉F)(e:xchT F o t=xchT F o' t'):t=t':=by
 have:t∈xchT F o' t':=e▸XH.mpr (.inr Z)
 rcases XH.mp this with h|h
 .exact absurd h.1 ht
 .exact h
theorem lg(ho:o∈F)(ht:t∉F)(e:xchT F o t=xchT F o' t):o=o':=Yx λne=>by
 have h1:o∈xchT F o' t:=XH.mpr (.inl ⟨ho,ne⟩);rw[<-e]at h1;rcases XH.mp h1 with h|h
 .exact h.2 rfl
 .exact ht (h▸ho)
theorem ZE8(hF:F.Nodup)(hz:z∉F):(VJ n ps I F asc z).Nodup:=by
 have hm:∀v∈WE n ps I F z,v∈F:=λv hv=>(Xc.mp (Yg.mp hv).1).1;have h:((WE n ps I F z).map λo=>xchT F o z).Nodup:=by have hd:(WE n ps I F z).Pairwise (·≠·):=(hF.filter _).filter _;exact LD.mpr (fc (λ{a b} ha hb Vy e=>Vy<|lg (hm a ha) hz e) hd)
 unfold VJ;split
 .exact h
 .exact(List.reverse_perm _).nodup_iff.mpr h
theorem Bu(hF:F.Nodup):∀{l:Ac}{asc:Bool},l.Nodup->(∀z∈l,z∉F)->(Vr n ps I F l asc).Nodup
 |[],_,_,_=>.nil
 |z::l,asc,hn,hl=>by
  obtain⟨n1,n2⟩:=QI.mp hn;refine YR.mpr ⟨ZE8 hF<|hl z Ya,Bu hF n2 λv hv=>hl v<|Yf _ hv,λa ha b hb e=>?_⟩;obtain⟨o,_,h1⟩:=RQ.mp ha;obtain⟨z',lb,o',_,h2⟩:=VN.mp hb;rw[h1,h2]at e
  have:=Bv (hl z Ya) e
  exact n1 (this▸lb)
theorem k9(g:Zw n ps)(Xp:∀z∈I,0<=z/\z<(ps.length:Int))(hF:With n ps I O F)(hu:VO n ps I O F ld=[])(Tp:∀z,z∈inc↔z∈WT n ps I O F)(hn:inc.Nodup):RowAll n ps I O (Bw n ps I F inc):=by
 have wD:∀z∈inc,z∉F:=λz hz h=>(Yu (Yg.mp<|(Tp z).mp hz).2).1 (Yi _ h);refine⟨QI.mpr ⟨λh=>?_,Bu hF.1.1.nodup hn wD⟩,λT=>?_⟩
 .obtain⟨z,hz,o,_,e⟩:=VN.mp h;exact wD z hz (by rw[e];exact XH.mpr<|.inr Z)
 .unfold Bw;rw[Ye,VN];constructor
  .rintro(h|⟨z,hz,o,ho,rfl⟩)
   .rw[h];exact hF
   .exact Zx6 g hF ((Tp z).mp hz) ho
  .intro h;rcases lh g Xp hF hu h with e|⟨t,ht,o,ho,e⟩
   .exact .inl e
   .exact .inr ⟨t,(Tp t).mpr ht,o,ho,e⟩
theorem ZG5{u v i j:Nat}(c:Conn (es++[(u,v)]) i j):Conn es i j\/(Conn es i u/\Conn es v j)\/(Conn es i v/\Conn es u j):=by
 induction c with
 |refl i=>exact .inl (.refl i)
 |edge h=>
  rcases Xz.mp h with h|h
  .exact .inl (.edge h)
  .cases XF.mp h;exact .inr (.inl ⟨.refl _,.refl _⟩)
 |symm _ ih=>
  rcases ih with a|⟨a,b⟩|⟨a,b⟩
  .exact .inl a.symm
  .exact .inr (.inr ⟨b.symm,a.symm⟩)
  .exact .inr (.inl ⟨b.symm,a.symm⟩)
 |trans _ _ Pk SV=>
  rcases Pk with a|⟨a,b⟩|⟨a,b⟩<;>rcases SV with c|⟨c,d⟩|⟨c,d⟩
  .exact .inl (a.trans c)
  .exact .inr (.inl ⟨a.trans c,d⟩)
  .exact .inr (.inr ⟨a.trans c,d⟩)
  .exact .inr (.inl ⟨a,b.trans c⟩)
  .exact .inr (.inl ⟨a,d⟩)
  .exact .inl (a.trans d)
  .exact .inr (.inr ⟨a,b.trans c⟩)
  .exact .inl (a.trans d)
  .exact .inr (.inr ⟨a,d⟩)
theorem Bt{key:Int->Int}(h:RR key ns ms):ms.Perm ns:=by
 obtain⟨p,h1,_,rfl⟩:=h;have e:(List.range ns.length).map (λi=>ns.getD i 0)=ns:=by
  refine GK λi=>?_;rw[Yo];by_cases c:i<ns.length
  .rw[vj c,Xw c];show some (ns.getD i 0)=_
   rw[WJ,Xw c];rfl
  .rw[Vv (by simpa using c),Vv J];rfl
 have:=h1.map λi=>ns.getD i 0
 rwa[e]at this
theorem k8(key:Int->Int)(ns:Ac):∃ms,RR key ns ms:=by
 have hp:=List.mergeSort_perm (List.range ns.length) λi j=>decide (key (ns.getD i 0)<key (ns.getD j 0)\/(key (ns.getD i 0)=key (ns.getD j 0)/\i<=j));have hs:=eZ (le:=λi j=>decide<|key (ns.getD i 0)<key (ns.getD j 0)\/(key (ns.getD i 0)=key (ns.getD j 0)/\i<=j)) (λa b c h1 h2=>by simp only[JW]at *;grind) (λa b=>by simp only[uR,JW];grind) (List.range ns.length)
 refine⟨_,_,hp,?_,Z⟩;refine(hs.and<|hp.nodup_iff.mpr List.nodup_range).imp λ{a b} h=>?_;have h1:=Yu h.1
 have h2:=h.2;show key (ns.getD a 0)<key (ns.getD b 0)\/(key (ns.getD a 0)=key (ns.getD b 0)/\a<b)
 grind
theorem k7(n:Int)(ps:Aa)(I O F:Ac)(ld:Option Int):(VO n ps I O F ld).Pairwise (·<·):=((Gb _).filter _).filter _
theorem Kv(g:Zw n ps)(ld:Option Int)(h:∃U,With n ps I O U):∃F inc fu,PartOk n ps I O ld F inc fu:=by
 obtain⟨L,l1,l2⟩:=mI g;obtain⟨U,hU⟩:=h;obtain⟨F,hF,hm⟩:∃F,With n ps I O F/\∀U,With n ps I O U->HT.lexLt U F=false:=by
  have key:∀M:Ab,M.Pairwise MD->(∃U∈M,With n ps I O U)->∃F∈M,With n ps I O F/\∀U∈M,With n ps I O U->HT.lexLt U F=false:=by
   intro M
   induction M with
   |nil=>rintro _ ⟨U,h,_⟩;cases h
   |cons x M ih=>
    intro hp hex;obtain⟨p1,p2⟩:=YQ.mp hp;by_cases c:With n ps I O x
    .refine⟨x,Ya,c,λV hV _=>?_⟩;rcases Ye.mp hV with e|e
     .rw[e];exact p6 x
     .cases q:HT.lexLt V x with
      |false=>rfl
      |true=>
       have z:=cL q (p1 V e);rw[p6]at z;cases z
    .obtain⟨V,hV,hw⟩:=hex;obtain⟨F,hF,a,b⟩:=ih p2 ⟨V,(Ye.mp hV).resolve_left λe=>c<|e▸hw,hw⟩;refine⟨F,Yf _ hF,a,λV hV hw=>?_⟩;rcases Ye.mp hV with e|e
     .exact absurd (e▸hw) c
     .exact b V e hw
  obtain⟨F,_,a,b⟩:=key L l2 ⟨U,(l1 U).mpr hU.1,hU⟩;exact⟨F,a,λV hV=>b V ((l1 V).mpr hV.1) hV⟩
 obtain⟨inc,hi⟩:=k8 (λz=>PyProof.Rows.b2i<|decide<|ld=some z) (Tq n ps I O F ld);have Ss:=k7 n ps I O F ld
 cases hu:VO n ps I O F ld with
 |nil=>exact⟨F,inc,none,hF,hm,hi,⟨λ_=>hu,λ_=>rfl⟩,λy h=>by cases h⟩
 |cons y l=>
  rw[hu]at Ss;refine⟨F,inc,some y,hF,hm,hi,⟨λh=>(by cases h),λh=>(by rw[hu]at h;cases h)⟩,λv h=>?_⟩;cases h;rw[hu];refine⟨Ya,λv hv=>?_⟩;rcases Ye.mp hv with e|e
  .rw[e];exact Np _
  .exact JO ((YQ.mp Ss).1 v e)
inductive RowR (n:Int) (ps:Aa):Nat->Ac->Ac->Option Int->Ab->Prop
 |und {d:Nat} {I O F inc:Ac} {ld:Option Int}:PartOk n ps I O ld F inc none->inc.length<=30->(∀z∈inc,z∉F/\0<=z/\z<(ps.length:Int))->RowR n ps d I O ld (Bw n ps I F inc)
 |div {d:Nat} {I O F inc:Ac} {z y:Int} {A uj:Ab}:PartOk n ps I O (some z) F inc (some y)->(I++[z]).Nodup->(∀v∈I++[z],0<=v/\v<(ps.length:Int))->(∀v∈I++[z],v∉O)->(O++[z]).length<=30->(∃U,With n ps (I++[z]) O U)->(∃U,With n ps I (O++[z]) U)->0<=y->y<(ps.length:Int)->PC n ps I (O++[z]) A.length->RowR n ps d I (O++[z]) (some y) A->RowR n ps d (I++[z]) O (some y) uj->RowR n ps (d+1) I O (some z) (A++uj.reverse)
theorem Zh8{key:Int->Int}(h:RR key ns ms)(h':RR key ns ms'):ms=ms':=by
 obtain⟨p,h1,h2,rfl⟩:=h;obtain⟨p',Lb,kZ,rfl⟩:=h';have e:p=p':=List.Perm.eq_of_pairwise (le:=Ahd λi=>key<|ns.getD i 0) (λa b _ _ x y=>by unfold Ahd at x y;omega) h2 kZ (h1.trans Lb.symm)
 rw[e]
theorem PartOk.uniq{n:Int}{ps:Aa}{I O F F' inc Wl:Ac}{ld fu Ku:Option Int}(h1:PartOk n ps I O ld F inc fu)(h2:PartOk n ps I O ld F' Wl Ku):F=F'/\inc=Wl/\fu=Ku:=by
 have eF:F=F':=SW (h2.least F h1.tr) (h1.least F' h2.tr);subst eF;refine⟨Z,Zh8 h1.inc h2.inc,?_⟩;cases fu with
 |none=>
  cases Ku with
  |none=>rfl
  |some y=>
   have:=(h2.some y Z).1
   rw[h1.none.mp Z]at this;cases this
 |some y=>
  cases Ku with
  |none=>
   have:=(h1.some y Z).1
   rw[h2.none.mp Z]at this;cases this
  |some y'=>
   obtain⟨a1,a2⟩:=h1.some y rfl;obtain⟨b1,b2⟩:=h2.some y' rfl
   have:=a2 y' b1
   have:=b2 y a1
   rw[show y=y' by omega]
noncomputable def RowW(n:Int)(ps:Aa)(R:Ab):Prop:=∃ld F inc fu,PartOk n ps [] [] ld F inc fu/\(ld=none↔WT n ps [] [] F=[])/\(∀y,ld=some y->y∈WT n ps [] [] F/\∀z∈WT n ps [] [] F,y<=z)/\RowR n ps 31 [] [] ld R/\TC n ps R.length
section
variable{n:Int}{ps:Aa}{I O F:Ac}{y z:Int}(g:Zw n ps)
include g
theorem Vq(Xp:∀v∈I,0<=v/\v<(ps.length:Int)):z∈WT n ps I O F↔(0<=z/\z<(ps.length:Int))/\z∉I/\z∉O/\z∉F/\¬Conn (XT ps I) (Zt ps z).1 (Zt ps z).2:=by
 unfold WT Mh;rw[Yg,XA,YT];constructor
 .rintro⟨h,h1,h2⟩;have a:=Ul (z:=z) g h.1 h.2
  exact⟨h,λq=>h1<|Yd _<|Yd _ q,λq=>h1<|Yd _<|Yi _ q,λq=>h1<|Yi _ q,λc=>h2<|(Rj (ZO g Xp) a.1 a.2).mpr c⟩
 .rintro⟨h,h1,h2,h3,h4⟩;have a:=Ul (z:=z) g h.1 h.2
  refine⟨h,λq=>?_,λe=>h4<|(Rj (ZO g Xp) a.1 a.2).mp e⟩;rcases Xz.mp q with q|q
  .rcases Xz.mp q with q|q
   .exact h1 q
   .exact h2 q
  .exact h3 q
theorem wC(Xp:∀v∈I,0<=v/\v<(ps.length:Int))(hF:With n ps I O F)(hz:z∈WT n ps I O F):∃U,With n ps (I++[z]) O U:=by
 obtain⟨⟨z0,z1⟩,zI,zO,zF,hc⟩:=(Vq g Xp).mp hz;obtain⟨o,ho,hoI⟩:∃o,o∈TB n ps F z F/\o∉I:=Yx λno=>hc ((CV g hF.1 z0 z1).mono (ZC λv hv=>Yx λh=>no ⟨v,hv,h⟩));obtain⟨h5,h6⟩:=Xc.mp ho;have he:exg n ps F o z:=⟨h5,λe=>zF (by rwa[e]),h6⟩
 have hw:=Bx g hF he hoI zO (Kx F o z) (QS F o z);refine⟨xchT F o z,hw.1,λv hv=>?_,hw.2.2⟩;rcases Xz.mp hv with hv|hv
 .exact hw.2.1 v hv
 .rw[XF.mp hv];exact XH.mpr (.inr Z)
theorem Bs(Xp:∀v∈I,0<=v/\v<(ps.length:Int))(y0:0<=y/\y<(ps.length:Int))(z0:0<=z/\z<(ps.length:Int))(h:(Conn (XT ps I) (Zt ps y).1 (Zt ps z).1/\Conn (XT ps I) (Zt ps z).2 (Zt ps y).2)\/(Conn (XT ps I) (Zt ps y).1 (Zt ps z).2/\Conn (XT ps I) (Zt ps z).1 (Zt ps y).2)):Uw (Xu n.toNat (XT ps I)) ps y=Uw (Xu n.toNat (XT ps I)) ps z:=by
 have Wc:=ZO g Xp;have a:=Ul (z:=y) g y0.1 y0.2
 have b:=Ul (z:=z) g z0.1 z0.2;rw[<-Rj Wc a.1 b.1,<-Rj Wc b.2 a.2,<-Rj Wc a.1 b.2,<-Rj Wc b.1 a.2]at h;show(min (mk (Xu n.toNat<|XT ps I) (Zt ps y).1)<|mk (Xu n.toNat<|XT ps I) (Zt ps y).2,max (mk (Xu n.toNat<|XT ps I) (Zt ps y).1)<|mk (Xu n.toNat<|XT ps I) (Zt ps y).2)=(min (mk (Xu n.toNat<|XT ps I) (Zt ps z).1)<|mk (Xu n.toNat<|XT ps I) (Zt ps z).2,max (mk (Xu n.toNat<|XT ps I) (Zt ps z).1)<|mk (Xu n.toNat<|XT ps I) (Zt ps z).2)
 rcases h with ⟨e1,e2⟩|⟨e1,e2⟩
 .rw[e1,<-e2]
 .rw[e1,<-e2,Int.min_comm,Int.max_comm]
end
section
variable{n:Int}{ps:Aa}(g:Zw n ps)
include g
theorem Br(d:Nat)(hP:PartOk n ps I O ld F inc fu)(Xp:∀v∈I,0<=v/\v<(ps.length:Int))(hu:VO n ps I O F ld=[]):∃R,RowR n ps d I O ld R/\RowAll n ps I O R:=by
 obtain rfl:=hP.none.mpr hu;have hp:=Bt hP.inc
 have Tv:(Tq n ps I O F ld).Nodup:=((((Gb _).imp λh e=>by lia:(Wg ps.length).Nodup)).filter _).filter _;have Tp:∀z,z∈inc↔z∈WT n ps I O F:=λz=>by
  rw[hp.mem_iff];constructor
  .exact λh=>(Yg.mp h).1
  .intro h;refine Yx λno=>?_
   have:z∈VO n ps I O F ld:=Yg.mpr ⟨h,Yn no⟩
   rw[hu]at this;cases this
 have hlen:inc.length<=30:=by rw[hp.length_eq];refine Ys (YG ..) (Ys (lu _ _ _ _) g.2.2.1)
 exact⟨_,.und hP hlen λz hz=>by obtain⟨h1,_,_,h2,_⟩:=(Vq g Xp).mp ((Tp z).mp hz);exact⟨h2,h1⟩,k9 g Xp hP.tr hu Tp<|hp.nodup_iff.mpr Tv⟩
theorem kY:∀d I O F inc ld fu,PartOk n ps I O ld F inc fu->I.Nodup->(∀v∈I,0<=v/\v<(ps.length:Int))->(∀v∈I,v∉O)->O.Nodup->(∀v∈O,0<=v/\v<(ps.length:Int))->(ld=none->WT n ps I O F=[])->(∀z,ld=some z->z∈WT n ps I O F)->ps.length<=d+I.length+O.length->∃R,RowR n ps d I O ld R/\RowAll n ps I O R:=by
 intro d
 induction d with
 |zero=>
  intro I O F inc ld fu hP hIn Xp UW wB wA _ _ hm;refine Br g 0 hP Xp ?_;have wD:WT n ps I O F=[]:=y6.mpr λz hz=>by
   obtain⟨h1,h2,h3,_⟩:=(Vq g Xp).mp hz;have nd:(z::(I++O)).Nodup:=QI.mpr ⟨λh=>(Xz.mp h).elim h2 h3,YR.mpr ⟨hIn,wB,λa ha b hb e=>UW a ha<|e▸hb⟩⟩
   have:=Iu (m:=Wg ps.length) nd λv hv=>XA.mpr (by
    rcases Ye.mp hv with e|e
    .rw[e];exact h1
    .exact(Xz.mp e).elim (Xp v) (wA v))
   rw[ZM,Yq,Xt]at this;lia
  unfold VO;rw[wD];rfl
 |succ d ih=>
  intro I O F inc ld fu hP hIn Xp UW wB wA Qw To hm;by_cases hu:VO n ps I O F ld=[]
  .exact Br g _ hP Xp hu
  obtain⟨y,rfl⟩:∃y,fu=some y:=by
   cases fu with
   |none=>exact absurd (hP.none.mp Z) hu
   |some y=>exact⟨y,Z⟩
  obtain⟨yu,_⟩:=hP.some y rfl;obtain⟨yo,ya⟩:=Yg.mp yu;have ya:=Yu ya
  obtain⟨z,rfl⟩:∃z,ld=some z:=by
   cases ld with
   |none=>rw[Qw Z]at yo;cases yo
   |some z=>exact⟨z,Z⟩
  have zo:=To z rfl;obtain⟨Mf,yI,yO,yF,yc⟩:=(Vq g Xp).mp yo;obtain⟨Kt,zI,zO,zF,zc⟩:=(Vq g Xp).mp zo;have XJ:Uw (Xu n.toNat<|XT ps I) ps y≠Uw (Xu n.toNat<|XT ps I) ps z:=λe=>ya (Yg.mpr ⟨yo,Yn ⟨z,Z,e⟩⟩)
  have yz:y≠z:=λe=>XJ (by rw[e]);have hIz:(I++[z]).Nodup:=YR.mpr ⟨hIn,B,λa ha b hb e=>zI<|by rwa[<-XF.mp hb,<-e]⟩
  have hOz:(O++[z]).Nodup:=YR.mpr ⟨wB,B,λa ha b hb e=>zO<|by rwa[<-XF.mp hb,<-e]⟩;have Ui:∀v∈I++[z],0<=v/\v<(ps.length:Int):=λv hv=>(Xz.mp hv).elim (Xp v) λh=>by rwa[XF.mp h]
  have Bq:∀v∈O++[z],0<=v/\v<(ps.length:Int):=λv hv=>(Xz.mp hv).elim (wA v) λh=>by rwa[XF.mp h]
  have Sr:(O++[z]).length<=30:=by
   have:=Iu (m:=Wg ps.length) hOz λv hv=>XA.mpr (Bq v hv)
   rw[ZM]at this
   have:=g.2.2.1
   lia
  have Bp:∀v∈I++[z],v∉O:=λv hv=>(Xz.mp hv).elim (UW v) λh=>by rwa[XF.mp h]
  have kX:∀v∈I,v∉O++[z]:=λv hv h=>(Xz.mp h).elim (UW v hv) λh=>zI (by rwa[<-XF.mp h]);obtain⟨s1,s2⟩:=Mg g hP.tr hP.least zF;obtain⟨F1,Sq,HP,Mu⟩:=Kv g (some y) ⟨F,s1⟩;have e1:F1=F:=SW (s2 F1 Mu.tr) (Mu.least F s1)
  subst e1;have hW:=wC g Xp hP.tr zo
  obtain⟨F2,OO,Bo,TU⟩:=Kv g (some y) hW;have yF2:y∉F2:=λh=>(Su g hP.tr hP.least TU.tr TU.least y h).elim yF yz
  obtain⟨A,Sx,TX⟩:=ih I (O++[z]) F1 Sq (some y) HP Mu hIn Xp kX hOz Bq (λh=>by cases h) (λv h=>by cases h;exact(Vq g Xp).mpr ⟨Mf,yI,λh=>(Xz.mp h).elim yO λh=>yz<|XF.mp h,yF,yc⟩) (by rw[Xt,Yr];lia)
  obtain⟨uj,cV,MG⟩:=ih (I++[z]) O F2 OO (some y) Bo TU hIz Ui Bp wB wA (λh=>by cases h) (λv h=>by
   cases h;refine(Vq g Ui).mpr ⟨Mf,λh=>(Xz.mp h).elim yI λh=>yz<|XF.mp h,yO,yF2,λc=>?_⟩;have e:XT ps (I++[z])=XT ps I++[((Zt ps z).1,(Zt ps z).2)]:=YJ
   rw[e]at c;rcases ZG5 c with h|h
   .exact yc h
   .exact XJ<|Bs g Xp Mf Kt h) (by rw[Xt,Yr];lia)
  exact⟨_,.div hP hIz Ui Bp Sr hW ⟨F1,s1⟩ Mf.1 Mf.2 TX.pc Sx cV,ZN6 TX MG⟩
theorem kW(h:∃U,Zh n ps U):∃R,RowW n ps R/\R.Nodup/\∀T,T∈R↔Zh n ps T:=by
 obtain⟨U,hU⟩:=h;have hw:∀T,With n ps [] [] T↔Zh n ps T:=λT=>⟨λh=>h.1,λh=>⟨h,λz q=>(by cases q),λz q=>(by cases q)⟩⟩
 obtain⟨F,_,_,hP0⟩:=Kv g none ⟨U,(hw U).mpr hU⟩;have Ss:(WT n ps [] [] F).Pairwise (·<·):=(Gb _).filter _
 obtain⟨ld,h1,h2⟩:∃ld:Option Int,(ld=none↔WT n ps [] [] F=[])/\∀y,ld=some y->y∈WT n ps [] [] F/\∀z∈WT n ps [] [] F,y<=z:=by
  cases ho:WT n ps [] [] F with
  |nil=>exact⟨none,⟨λ_=>rfl,λ_=>rfl⟩,λy h=>by cases h⟩
  |cons y l=>
   rw[ho]at Ss;refine⟨some y,⟨λh=>(by cases h),λh=>(by cases h)⟩,λv h=>?_⟩;cases h;refine⟨Ya,λv hv=>?_⟩;rcases Ye.mp hv with e|e
   .rw[e];exact Np _
   .exact JO ((YQ.mp Ss).1 v e)
 obtain⟨F',inc,fu,hP⟩:=Kv g ld ⟨U,(hw U).mpr hU⟩;have eF:F'=F:=SW (hP0.least F' hP.tr) (hP.least F hP0.tr)
 subst eF;obtain⟨R,r1,r2⟩:=kY g 31 [] [] F' inc ld fu hP .nil (λv h=>by cases h) (λv h=>by cases h) .nil (λv h=>by cases h) (λe=>h1.mp e) (λz e=>(h2 z e).1) (by have:=g.2.2.1;simp;lia);exact⟨R,⟨ld,F',inc,fu,hP,h1,h2,r1,R,r2.1,λl=>(r2.2 l).trans (hw l),Z⟩,r2.1,λT=>(r2.2 T).trans (hw T)⟩
end
end My
namespace L2
open PySem PySem.Spec PyProof.Rows PySem.MeetsSeq
section
variable{X:Cx}
noncomputable def kT(K:Ad):V->List V->Hp->VK->Prop:=λx vs H Q=>∃(n:Nat)(l:Addr)(xs:List V)(y:V)(e:Addr->Bool)(j:Nat)(a:Addr),x=.ref l/\vs=[y]/\H l=some (.lst xs)/\n<=6/\(∀v∈xs,∃a,v=.ref a/\EqD K H n v y (e a))/\xs[j]?=some (.ref a)/\e a=true/\(∀m b,m<j->xs[m]?=some (.ref b)->e b=false)/\Q (.int j) H
theorem Yz8 (K:Ad) (hu:X.A.units+8<cLine) (hk:X.K=K:=by rfl):Ob X "list.index" (kT K):=by
 subst hk;intro pins s σ H x vs v us Q I rx rv h;obtain⟨n,l,xs,y,e,j,a,rfl,rfl,hH,hn,he,hj,hy,SY,q⟩:=h;cases rx;obtain⟨u,rfl,ru⟩:=rv.one;obtain⟨z,XW,m,r,hl,ho⟩:=I.lstM hH;have hsz:sizeLine=16777216:=TQ
 have MK:j<xs.length:=(Xs.mp hj).1;have at_:∀(i:Nat)(hi:i<XW.toArray.size),∃b,xs[i]?=some (.ref b)/\XW.toArray[i]=.ref b:=λi hi=>by
  have Wb:i<XW.length:=by simpa using hi
  obtain⟨w,ew,MV⟩:=r.at Wb;obtain⟨b,rfl,_⟩:=he w (Xf ew);have e3:XW[i]=Value.ref b:=MV
  exact⟨b,ew,by simpa using e3⟩
 have hjs:j<XW.toArray.size:=by rw[Yc];lia
 refine Oi F.slot_list_index ⟨_,ho,Z⟩ F.entry_list_index (F.args_list_index_2 _ _) (SeqAt.list_indexAt l XW.toArray m none #[] u (λw=>match w with | .ref b=>e b|_=>false) j hjs J ?_ ?_) ⟨ho,λw hw=>?_,?_⟩
 .obtain⟨b,e1,e2⟩:=at_ j hjs;rw[hj]at e1;cases e1;rwa[e2]
 .intro i hi Um;obtain⟨b,e1,e2⟩:=at_ i hi;rw[e2];exact SY i b Um e1
 .exact qb I (by show X.A.units+1+n<cLine;lia) ru r he w (by simpa using hw)
 .exact⟨.int j,H,I.tok _,⟨_,Z⟩,q⟩
end
end L2
namespace My
open PySem L2
theorem ZT9{mg:Af}:FnOk P w K mg base Xl k f fd ps λ_ _ _ _=>False:=⟨λ_ _ _ _ h=>h.elim,λ_ _ _ _ _ _ _ _ _ _ _ _ _ h=>h.elim⟩
theorem ZB7{α:Type}[DecidableEq α]{x:α}:∀{l:List α},x∈l->∃j:Nat,l[j]?=some x/\∀i:Nat,i<j->l[i]?≠some x
 |y::l,h=>by
  by_cases c:y=x
  .exact⟨0,by rw[c];rfl,λi hi=>absurd hi<|Wk _⟩
  .obtain⟨j,h1,h2⟩:=ZB7 ((Ye.mp h).resolve_left λe=>c e.symm);refine⟨j+1,h1,λi hi=>?_⟩
   match i,hi with
   |0,_=>exact λe=>c (Yh e)
   |i+1,hi=>exact h2 i J
theorem Zc8(hX:Bears (WA H) xs L)(wz:SqT K H ta (IL U))(hU:U∈L):∃(e:Addr->Bool)(j:Nat)(a:Addr),(∀v∈xs,∃a,v=.ref a/\EqD K H 1 v (.ref ta) (e a))/\xs[j]?=some (.ref a)/\e a=true/\(∀m b,m<j->xs[m]?=some (.ref b)->e b=false)/\L[j]?=some U:=by
 have key:∀{c:Addr}{w:Ac},H c=some (.tup<|IL w)->(WA H (.ref c) U↔w=U):=λ{c w} hc=>by
  constructor
  .rintro⟨c',e,h⟩;cases e;rw[hc]at h;injection h with h
   injection h with h;exact(List.map_inj_right λ_ _ h=>by injection h).mp h
  .rintro rfl;exact⟨c,Z,hc⟩
 obtain⟨j,h1,h2⟩:=ZB7 hU;obtain⟨v,hv,c,rfl,hc⟩:=hX.2 j U h1;refine⟨λa=>@decide (WA H (.ref a) U)<|Classical.propDecidable _,j,c,λv hv=>?_,hv,?_,λm b hm hb=>?_,h1⟩
 .obtain⟨i,hi⟩:=Qm hv;obtain⟨w,hw,c',rfl,WI⟩:=hX.at hi;refine⟨c',Z,?_⟩;have e:@decide (WA H (.ref c') U) (Classical.propDecidable _)=decide (w=U):=by rw[Fp];exact key WI
  show EqD K H 1 (.ref c') (.ref ta) (@decide (WA H (.ref c') U)<|Classical.propDecidable _);rw[e];exact IK (SqT.of WI) wz
 .exact @Yn _ (Classical.propDecidable _) ((key hc).mpr Z)
 .obtain⟨w,hw,c',e,WI⟩:=hX.at hb;cases e;exact @YW _ (Classical.propDecidable _) λh=>h2 m hm (by rw[hw,(key WI).mp h])
theorem ON(g:Zw n ps)(h:RowR n ps d I O ld R):∀T∈R,With n ps I O T:=by
 induction h with
 |und hP _ _=>
  intro T hT;rcases Ye.mp hT with e|e
  .rw[e];exact hP.tr
  .obtain⟨z,hz,o,ho,rfl⟩:=VN.mp e;exact Zx6 g hP.tr (Yg.mp<|(Bt hP.inc).mem_iff.mp hz).1 ho
 |div _ _ _ _ _ _ _ _ _ _ _ _ Bn kR=>
  intro T hT;rcases Xz.mp hT with h|h
  .exact Wy.mpr (.inl<|Bn T h)
  .exact Wy.mpr (.inr<|kR T<|GJ.mp h)
theorem kQ{key:Int->Int}(h:RR key ns ms):ms.Pairwise λa b=>key a<=key b:=by
 obtain⟨p,h1,h2,rfl⟩:=h;refine LD.mpr (h2.imp λ{a b} h=>?_);have h:key (ns.getD a 0)<key (ns.getD b 0)\/(key (ns.getD a 0)=key (ns.getD b 0)/\a<b):=h
 lia
theorem Yz6{k:Int->Int}:∀{l:Ac},(∀a∈l,k a=0\/k a=1)->l.Pairwise (λa b=>k a<=k b)->∃l1 l2,l=l1++l2/\(∀a∈l1,k a=0)/\∀a∈l2,k a=1
 |[],_,_=>⟨[],[],Z,λa h=>(by cases h),λa h=>(by cases h)⟩
 |a::l,h0,h=>by
  obtain⟨p1,p2⟩:=YQ.mp h;rcases h0 a Ya with e|e
  .obtain⟨l1,l2,rfl,q1,q2⟩:=Yz6 (λb hb=>h0 b<|Yf _ hb) p2;exact⟨a::l1,l2,Z,λb hb=>(Ye.mp hb).elim (λz=>z▸e) (q1 b),q2⟩
  .refine⟨[],a::l,Z,λa h=>(by cases h),λb hb=>?_⟩;rcases Ye.mp hb with z|z
   .rw[z];exact e
   .have:=p1 b z
    have:=h0 b (Yf _ z)
    lia
theorem Vl{z a:Int}:(PyProof.Rows.b2i (decide (some z=some a))=0↔a≠z)/\(PyProof.Rows.b2i (decide (some z=some a))=1↔a=z):=by
 by_cases c:a=z
 .subst c;simp[PyProof.Rows.b2i]
 .simp[PyProof.Rows.b2i,c,XI c]
theorem ZG8{ns ms:Ac}{z:Int}(h:RR (λa=>PyProof.Rows.b2i (decide (some z=some a))) ns ms):∃l1 l2,ms=l1++l2/\(∀a∈l1,a≠z)/\∀a∈l2,a=z:=by
 obtain⟨l1,l2,e,h1,h2⟩:=Yz6 (λa _=>by
  by_cases c:a=z
  .exact .inr (Vl.2.mpr c)
  .exact .inl<|Vl.1.mpr c) (kQ h)
 exact⟨l1,l2,e,λa ha=>Vl.1.mp<|h1 a ha,λa ha=>Vl.2.mp<|h2 a ha⟩
theorem QR{z:Int}(h:z∈WT n ps I O F):z∉F:=λq=>(Yu (Yg.mp h).2).1 (Yi _ q)
theorem Me{y z:Int}(h:y∈VO n ps I O F (some z)):y∉F/\y≠z:=by obtain⟨h1,h2⟩:=Yg.mp h;refine⟨QR h1,λe=>Yu h2<|Yg.mpr ⟨h1,Yn ⟨z,Z,by rw[e]⟩⟩⟩
section
variable{n:Int}{ps:Aa}{d:Nat}{I O:Ac}{R:Ab}(g:Zw n ps)
include g
theorem Bm(h:RowR n ps d I O ld R):∀F,With n ps I O F->(∀U,With n ps I O U->HT.lexLt U F=false)->(∀z,ld=some z->z∉F)->R[0]?=some F:=by
 induction h with
 |und hP _ _=>
  intro F hF hm _;rw[SW (hP.least F hF) (hm _ hP.tr)];rfl
 |div hP _ _ _ _ _ _ _ _ _ _ _ Bn _=>
  intro F hF hm hz;obtain⟨s1,s2⟩:=Mg g hF hm (hz _ Z);have e:=SW (hP.least F hF) (hm _ hP.tr)
  have:=Bn F s1 s2 λy' e'=>by cases e';rw[e];exact(Me (hP.some _ Z).1).1
  rw[Yw (Xs.mp this).1,this]
end
noncomputable def RP(T U:Ac):Prop:=(T.filter λy=>decide<|y∉U).length=1
theorem Bl{a:Int}(hT:T.Nodup)(ha:a∈T)(hU:a∉U)(h:∀v∈T,v∈U\/v=a):RP T U:=by
 have p:(T.filter λy=>decide<|y∉U).Perm [a]:=(LI (hT.filter _) B).mpr λv=>by
  rw[Yg,YT,XF];constructor
  .exact λq=>(h v q.1).resolve_left q.2
  .rintro rfl;exact⟨ha,hU⟩
 exact p.length_eq
theorem kP(hT:Zh n ps T)(hU:Zh n ps U)(h:RP T U):RP U T:=(mG hU hT).trans h
noncomputable def Adj{α:Type}(P:α->α->Prop)(l:List α):Prop:=∀i a b,l[i]?=some a->l[i+1]?=some b->P a b
theorem Adj.nil{α:Type}{P:α->α->Prop}:Adj P []:=λi a b h=>by simp at h
theorem Adj.one{α:Type}{P:α->α->Prop}{x:α}:Adj P [x]:=λi a b _ h=>by simp at h
theorem Adj.append{α:Type}{P:α->α->Prop}{l m:List α}(h1:Adj P l)(h2:Adj P m)(h:∀a b,l[l.length-1]?=some a->m[0]?=some b->P a b):Adj P (l++m):=λi a b ha hb=>by
 by_cases c:i+1<l.length
 .rw[Yw J]at ha hb;exact h1 i a b ha hb
 .rw[Yv J]at hb;by_cases c':i<l.length
  .rw[Yw c',show i=l.length-1 by lia]at ha;rw[show i+1-l.length=0 by omega]at hb;exact h a b ha hb
  .rw[Yv ur]at ha;rw[show i+1-l.length=i-l.length+1 by grind]at hb;exact h2 _ a b ha hb
theorem Adj.rev{α:Type}{P:α->α->Prop}{l:List α}(h:Adj P l)(hs:∀a∈l,∀b∈l,P a b->P b a):Adj P l.reverse:=λi a b ha hb=>by
 have hi:=(Xs.mp hb).1;rw[YM]at hi;rw[Ka ur]at ha hb
 have:=h (l.length-1-(i+1)) b a hb (by rwa[show l.length-1-(i+1)+1=l.length-1-i by grind])
 exact hs b (Xf hb) a (Xf ha) this
theorem Zh7{α:Type}(l:List α):l.reverse[l.reverse.length-1]?=l[0]?:=by
 cases l with
 |nil=>rfl
 |cons x l=>
  rw[YM,Ka B];simp
theorem Yz5{α:Type}(l:List α):l.reverse[0]?=l[l.length-1]?:=by
 cases l with
 |nil=>rfl
 |cons x l=>rw[Ka B];simp
theorem Zh9(hF:F.Nodup)(hz:z∉F):(xchT F o z).Nodup:=(Kx F o z).nodup_iff.mpr (YR.mpr ⟨hF.filter _,B,λa ha b hb e=>hz<|by rw[<-XF.mp hb,<-e];exact(Yg.mp ha).1⟩)
theorem Zy6{n:Int}{ps:Aa}{I F L:Ac}(hF:F.Nodup)(hL:L.Nodup)(kO:∀o∈L,o∈F):∀l asc,l.Nodup->(∀z∈l,z∉F)->(∀z∈l,WE n ps I F z=L)->Adj RP (Vr n ps I F l asc)/\∀U,(Vr n ps I F l asc)[0]?=some U->∃o z,l[0]?=some z/\(if asc then L[0]? else L[L.length-1]?)=some o/\U=xchT F o z
 |[],asc,_,_,_=>⟨Adj.nil,λU h=>by simp[Vr]at h⟩
 |z::l,asc,hn,hz,hl=>by
  obtain⟨n1,n2⟩:=QI.mp hn;obtain⟨Pk,SV⟩:=Zy6 hF hL kO l (!asc) n2 (λv hv=>hz v<|Yf _ hv) λv hv=>hl v (Yf _ hv);have zF:=hz z Ya
  have e0:WE n ps I F z=L:=hl z Ya;have same:∀o∈L,∀o'∈L,o≠o'->RP (xchT F o z) (xchT F o' z):=λo ho o' Wu ne=>Bl (a:=o') (Zh9 hF zF) (XH.mpr<|.inl ⟨kO o' Wu,XI ne⟩) (λh=>by
   rcases XH.mp h with q|q
   .exact q.2 rfl
   .exact zF<|q▸kO o' Wu) λv hv=>by
   rcases XH.mp hv with q|q
   .by_cases c:v=o'
    .exact .inr c
    .exact .inl (XH.mpr<|.inl ⟨q.1,c⟩)
   .exact .inl (XH.mpr<|.inr q)
  have am:Adj RP (L.map λo=>xchT F o z):=λi a b ha hb=>by
   rw[Yo]at ha hb;cases ea:L[i]? with
   |none=>rw[ea]at ha;cases ha
   |some o=>
    cases eb:L[i+1]? with
    |none=>rw[eb]at hb;cases hb
    |some o'=>
     rw[ea]at ha;rw[eb]at hb;cases ha;cases hb;refine same o (Xf ea) o' (Xf eb) λe=>?_;subst e
     have:=(JV (Xs.mp ea).1 hL).mp (ea.trans eb.symm)
     lia
  have ar:Adj RP (VJ n ps I F asc z):=by
   unfold VJ;rw[e0];cases asc with
   |true=>exact am
   |false=>
    refine am.rev λa ha b hb _=>?_;obtain⟨o,ho,rfl⟩:=YA.mp ha;obtain⟨o',Wu,rfl⟩:=YA.mp hb;by_cases c:o'=o
    .rename_i h;subst c;exact h
    .exact same o' Wu o ho c
  have hlen:(L.map λo=>xchT F o z).length=L.length:=Yb _;have last:∀U,(VJ n ps I F asc z)[(VJ n ps I F asc z).length-1]?=some U->∃o∈L,(if asc then L[L.length-1]? else L[0]?)=some o/\U=xchT F o z:=λU h=>by
   unfold VJ at h;rw[e0]at h;cases asc with
   |true=>
    rw[if_pos Z,hlen,Yo]at h;cases e:L[L.length-1]? with
    |none=>rw[e]at h;cases h
    |some o=>rw[e]at h;cases h;exact⟨o,Xf e,Z,Z⟩
   |false=>
    rw[if_neg S,Zh7,Yo]at h;cases e:L[0]? with
    |none=>rw[e]at h;cases h
    |some o=>rw[e]at h;cases h;exact⟨o,Xf e,Z,Z⟩
  have head:∀U,(VJ n ps I F asc z)[0]?=some U->∃o,(if asc then L[0]? else L[L.length-1]?)=some o/\U=xchT F o z:=λU h=>by
   unfold VJ at h;rw[e0]at h;cases asc with
   |true=>
    rw[if_pos Z,Yo]at h;cases e:L[0]? with
    |none=>rw[e]at h;cases h
    |some o=>rw[e]at h;cases h;exact⟨o,Z,Z⟩
   |false=>
    rw[if_neg S,Yz5,hlen,Yo]at h;cases e:L[L.length-1]? with
    |none=>rw[e]at h;cases h
    |some o=>rw[e]at h;cases h;exact⟨o,Z,Z⟩
  refine⟨ar.append Pk λa b ha hb=>?_,λU h=>?_⟩
  .obtain⟨o,ho,e1,rfl⟩:=last a ha;obtain⟨o',z',lb,e2,rfl⟩:=SV b hb;have eo:o'=o:=by
    cases asc with
    |true=>exact(Yh<|e1.symm.trans e2).symm
    |false=>exact(Yh<|e1.symm.trans e2).symm
   subst eo;have zl:=Xf lb
   refine Bl (a:=z) (Zh9 hF zF) (XH.mpr<|.inr Z) (λh=>?_) λv hv=>?_
   .rcases XH.mp h with q|q
    .exact zF q.1
    .exact n1 (q▸zl)
   .rcases XH.mp hv with q|q
    .exact .inl (XH.mpr<|.inl q)
    .exact .inr q
  .cases hh:VJ n ps I F asc z with
   |cons x r=>
    have h':(VJ n ps I F asc z)[0]?=some U:=by
     have:=h
     unfold Vr at this;rw[hh]at this ⊢;exact this
    obtain⟨o,e1,e2⟩:=head U h';exact⟨o,z,Z,e1,e2⟩
   |nil=>
    exfalso;have hL0:L=[]:=by
     have:(VJ n ps I F asc z).length=L.length:=by unfold VJ;rw[e0];cases asc<;>simp
     rw[hh]at this;exact YZ.mp this.symm
    obtain⟨o,z',_,e2,_⟩:=SV U (by have:=h;unfold Vr at this;rwa[hh]at this);rw[hL0]at e2;cases asc<;>simp at e2
section
variable{n:Int}{ps:Aa}{d:Nat}{I O F T:Ac}{R:Ab}{y z:Int}(g:Zw n ps)
include g
theorem kN(hF:With n ps I O F)(hz:z∉F)(VB:∀U,With n ps I O U->HT.lexLt U F=false)(hT:With n ps (I++[z]) O T)(Kw:∀U,With n ps (I++[z]) O U->HT.lexLt U T=false):∃o∈WE n ps I F z,T=xchT F o z/\∀o'∈WE n ps I F z,o'<=o:=by
 have half:=Su g hF VB hT Kw;have zT:z∈T:=hT.2.1 z B
 obtain⟨o,e1,e2⟩:=pO g hT.1 hF.1 zT hz;have oT:o∉T:=((Gg g hT.1).mp e1).2.1
 have oI:o∉I:=λh=>oT (hT.2.1 o<|Yd _ h);have zO:z∉O:=λh=>hT.2.2 z h zT
 have hM:=xu g hF.1 e2 (Kx F o z) (QS F o z);have eT:T=xchT F o z:=wH g hT.1 hM λv hv=>XH.mpr <| by
  rcases half v hv with q|q
  .exact .inl ⟨q,λe=>oT<|by rwa[<-e]⟩
  .exact .inr q
 refine⟨o,Yg.mpr ⟨Xc.mpr ⟨e2.1,e2.2.2⟩,Yn oI⟩,eT,λo' Wu=>Yx λno=>?_⟩;obtain⟨h3,h4⟩:=Yg.mp Wu;obtain⟨h5,h6⟩:=Xc.mp h3;have he:exg n ps F o' z:=⟨h5,λe=>hz (by rwa[e]),h6⟩
 have w:=Bx g hF he (Yu h4) zO (Kx F o' z) (QS F o' z);have w2:With n ps (I++[z]) O (xchT F o' z):=(Wy (z:=z).mp w).resolve_left λq=>q.2.2 z B (XH.mpr<|.inr Z)
 have lt:HT.lexLt (xchT F o' z) T=true:=by
  refine(mO (XX.mp w.1.1).2 (XX.mp hT.1.1).2 (by have:=w.1.2.1;have:=hT.1.2.1;lia)).mpr ⟨o,XH.mpr<|.inl ⟨e2.1,λe=>no J⟩,oT,λs hs=>?_⟩;rw[eT,XH,XH];constructor
  .rintro(q|q)
   .exact .inl ⟨q.1,J⟩
   .exact .inr q
  .rintro(q|q)
   .exact .inl ⟨q.1,J⟩
   .exact .inr q
 rw[Kw _ w2]at lt;cases lt
theorem kM(Xp:∀v∈I,0<=v/\v<(ps.length:Int))(h:RowR n ps d I O (some z) R)(hF:With n ps I O F)(VB:∀U,With n ps I O U->HT.lexLt U F=false)(hz:z∉F)(hT:With n ps (I++[z]) O T)(Kw:∀U,With n ps (I++[z]) O U->HT.lexLt U T=false):R[R.length-1]?=some T:=by
 cases h with
 |und hP hl hi=>
  rename_i F' inc;have eF:=SW (hP.least F hF) (VB _ hP.tr)
  subst eF;obtain⟨o,ho,eT,HN⟩:=kN g hF hz VB hT Kw;have zo:z∈WT n ps I O F:=lq g Xp (Wy.mpr<|.inr hT) hF.2.1 (hT.2.1 z B) hz
  have za:z∈Tq n ps I O F (some z):=Yg.mpr ⟨zo,Yn ⟨z,Z,Z⟩⟩;have hp:=Bt hP.inc
  have Tv:inc.Nodup:=hp.nodup_iff.mpr (((((Gb _).imp λh e=>by lia:(Wg ps.length).Nodup)).filter _).filter _);have zi:=hp.mem_iff.mpr za
  obtain⟨l1,l2,rfl,q1,q2⟩:=ZG8 hP.inc;have e2:l2=[z]:=by
   obtain⟨_,n2,_⟩:=YR.mp Tv;have zl:z∈l2:=(Xz.mp zi).resolve_left λh=>q1 z h rfl
   match l2,zl,n2,q2 with
   |[a],_,_,q=>rw[q a B]
   |a::b::r,_,nd,q=>
    have e1:=q a B;have e2:=q b B
    rw[e1,e2]at nd;simp at nd
  subst e2;have flag:(((l1++[z]).length%2 == 1) != (l1.length%2 == 1))=true:=by
   rw[Xt,Yr];rcases Nat.mod_two_eq_zero_or_one l1.length with c|c
   .rw[c,show(l1.length+1)%2=1 by lia];rfl
   .rw[c,show(l1.length+1)%2=0 by lia];rfl
  unfold Bw;rw[lp,flag];unfold VJ;rw[if_pos Z];have asc:(WE n ps I F z).Pairwise (·<·):=(((XX.mp hF.1.1).2).filter _).filter _
  have pos:=yX ho;have lo:(WE n ps I F z)[(WE n ps I F z).length-1]?=some o:=by
   obtain⟨i,hi,e⟩:=RC ho;by_cases c:i=(WE n ps I F z).length-1
   .rw[<-c,Xw hi,e]
   .have lt:=GP.mp asc i ((WE n ps I F z).length-1) hi ur J;have le:=HN _ (Ny<|show(WE n ps I F z).length-1<_ by omega)
    rw[e]at lt;lia
  show((F::Vr n ps I F l1 ((l1++[z]).length%2 == 1))++(WE n ps I F z).map λo=>xchT F o z)[_]?=_;rw[Yv (by simp;lia),Yo]
  have:((F::(Vr n ps I F l1 ((l1++[z]).length%2 == 1)++(WE n ps I F z).map λo=>xchT F o z)).length-1-(F::Vr n ps I F l1 ((l1++[z]).length%2 == 1)).length)=(WE n ps I F z).length-1:=by
   simp;lia
  rw[this,lo,eT];rfl
 |div hP a1 a2 a3 a4 a5 a6 a7 a8 a9 hA hB=>
  rename_i d F' inc y A uj;have eF:=SW (hP.least F hF) (VB _ hP.tr)
  subst eF;obtain⟨yF,yz⟩:=Me (hP.some _ Z).1;have hf:=Bm g hB T hT Kw λv e=>by cases e;exact λq=>(Su g hF VB hT Kw y q).elim yF yz
  have hb:=(Xs.mp hf).1;rw[<-Zh7]at hf;rw[Yv (by rw[Xt,YM];lia)];rw[YM]at hf;rwa[show(A++uj.reverse).length-1-A.length=uj.length-1 by rw[Xt,YM];lia]
theorem Bk(Xp:∀v∈I,0<=v/\v<(ps.length:Int))(hF:With n ps I O F)(y0:0<=y/\y<(ps.length:Int))(z0:0<=z/\z<(ps.length:Int))(h:Uw (Xu n.toNat (XT ps I)) ps y=Uw (Xu n.toNat (XT ps I)) ps z):WE n ps I F y=WE n ps I F z:=by
 have key:∀a∈F,a∉I->(y∈UY n ps F a↔z∈UY n ps F a):=λa ha hn=>by
  rw[ZU g hF.1 y0.1 y0.2,ZU g hF.1 z0.1 z0.2];refine not_congr ?_;have up:∀{i j},Conn (XT ps I) i j->Conn (XT ps<|wo F a) i j:=λc=>c.mono (ZC λv hv=>Xq.mpr ⟨hF.2.1 v hv,λe=>hn<|by rwa[<-e]⟩)
  rcases ZD7 g Xp y0.1 y0.2 z0.1 z0.2 h with ⟨a,b⟩|⟨a,b⟩
  .exact⟨λc=>((up a).symm.trans c).trans (up b),λc=>((up a).trans c).trans (up b).symm⟩
  .exact⟨λc=>((up b).symm.trans c.symm).trans (up a),λc=>((up a).trans c.symm).trans (up b).symm⟩
 unfold WE TB;rw[List.filter_filter,List.filter_filter];refine LC λa ha=>?_;by_cases c:a∈I
 .simp[c]
 .have:=key a ha c
  unfold UY at this;simp[c,this]
theorem kJ(Xp:∀v∈I,0<=v/\v<(ps.length:Int))(hF:With n ps I O F)(VB:∀U,With n ps I O U->HT.lexLt U F=false)(hz:z∈WT n ps I O F)(hy:y∈VO n ps I O F (some z)):y∈WT n ps I (O++[z]) F/\(With n ps (I++[z]) O F2->(∀U,With n ps (I++[z]) O U->HT.lexLt U F2=false)->y∈WT n ps (I++[z]) O F2):=by
 obtain⟨yF,yz⟩:=Me hy;obtain⟨yo,ya⟩:=Yg.mp hy;obtain⟨Mf,yI,yO,_,yc⟩:=(Vq g Xp).mp yo;obtain⟨Kt,zI,zO,zF,zc⟩:=(Vq g Xp).mp hz;refine⟨(Vq g Xp).mpr ⟨Mf,yI,λh=>(Xz.mp h).elim yO λh=>yz<|XF.mp h,yF,yc⟩,λh2 h2m=>?_⟩;have Ui:∀v∈I++[z],0<=v/\v<(ps.length:Int):=λv hv=>(Xz.mp hv).elim (Xp v) λh=>by rwa[XF.mp h]
 refine(Vq g Ui).mpr ⟨Mf,λh=>(Xz.mp h).elim yI λh=>yz<|XF.mp h,yO,λh=>(Su g hF VB h2 h2m y h).elim yF yz,λc=>?_⟩;have e:XT ps (I++[z])=XT ps I++[((Zt ps z).1,(Zt ps z).2)]:=YJ
 rw[e]at c;rcases ZG5 c with h|h
 .exact yc h
 .exact Yu ya (Yg.mpr ⟨yo,Yn ⟨z,Z,Bs g Xp Mf Kt h⟩⟩)
end
theorem Zj8(g:Zw n ps)(h:RowR n ps d I O ld R):(∀v∈I,0<=v/\v<(ps.length:Int))->(∀F z,With n ps I O F->(∀U,With n ps I O U->HT.lexLt U F=false)->ld=some z->z∈WT n ps I O F)->Adj RP R:=by
 induction h with
 |@und d I O F inc ld hP hl hi=>
  intro Xp Bj;have hp:=Bt hP.inc
  have Tv:inc.Nodup:=hp.nodup_iff.mpr (((((Gb _).imp λh e=>by omega:(Wg ps.length).Nodup)).filter _).filter _);have kI:=hP.tr.1.1.nodup
  cases ld with
  |none=>
   have e:inc=[]:=by refine y6.mpr λz hz=>?_;obtain⟨y,h,_⟩:=Yu (Yg.mp<|hp.mem_iff.mp hz).2;cases h
   subst e;exact Adj.one
  |some z=>
   have zo:=Bj F z hP.tr hP.least rfl;obtain⟨Kt,_⟩:=(Vq g Xp).mp zo;obtain⟨c1,c2⟩:=Zy6 (n:=n) (ps:=ps) (I:=I) (F:=F) (L:=WE n ps I F z) kI ((kI.filter _).filter _) (λo ho=>(Xc.mp (Yg.mp ho).1).1) inc (inc.length%2 == 1) Tv (λv hv=>(hi v hv).1) (λv hv=>by obtain⟨y,e,h⟩:=Yu (Yg.mp<|hp.mem_iff.mp hv).2;cases e;exact Bk g Xp hP.tr (hi v hv).2 Kt h)
   show Adj RP ([F]++Vr n ps I F inc (inc.length%2 == 1));refine Adj.one.append c1 λa b ha hb=>?_;cases ha;obtain⟨o,v,hv,ho,rfl⟩:=c2 b hb;have vF:=(hi v<|Xf hv).1
   have oL:o∈WE n ps I F z:=by
    split at ho
    .exact Xf ho
    .exact Xf ho
   have oF:=(Xc.mp (Yg.mp oL).1).1;refine Bl (a:=o) kI oF (λh=>?_) λw hw=>?_
   .rcases XH.mp h with q|q
    .exact q.2 rfl
    .exact vF (q▸oF)
   .by_cases c:w=o
    .exact .inr c
    .exact .inl (XH.mpr<|.inl ⟨hw,c⟩)
 |@div d I O F inc z y A uj hP hIn Ui UW hO hW _ _ _ _ hA hB Bn kR=>
  intro Xp Bj;have zo:=Bj F z hP.tr hP.least rfl
  have zF:=QR zo;have yu:=(hP.some y Z).1
  obtain⟨yF,yz⟩:=Me yu;obtain⟨s1,s2⟩:=Mg g hP.tr hP.least zF;obtain⟨F2,_,_,TU⟩:=Kv g (some y) hW;obtain⟨y1,y2⟩:=kJ (F2:=F2) g Xp hP.tr hP.least zo yu;have y2:=y2 TU.tr TU.least
  have aA:=Bn Xp λF' v h1 h2 e=>by cases e;rwa[SW (s2 F' h1) (h2 F s1)]
  have aB:=kR Ui λF' v h1 h2 e=>by cases e;rwa[SW (TU.least F' h1) (h2 F2 TU.tr)]
  refine aA.append (aB.rev λa ha b hb q=>kP (ON g hB a ha).1 (ON g hB b hb).1 q) λa b ha hb=>?_;rw[Yz5]at hb;obtain⟨G,_,_,hG⟩:=Kv g none (wC g Xp hP.tr (Yg.mp yu).1);have zG:z∉G:=λh=>(Su g hP.tr hP.least hG.tr hG.least z h).elim zF (XI yz)
  obtain⟨g1,g2⟩:=Mg g hG.tr hG.least zG;have ea:=kM g Xp hA s1 s2 yF g1 g2
  rw[<-Yh (ea.symm.trans ha)];obtain⟨T2,_,_,h2⟩:=Kv g none (wC g Ui TU.tr y2);have eb:=kM g Ui hB TU.tr TU.least (QR y2) h2.tr h2.least
  rw[<-Yh (eb.symm.trans hb)];have sw:∀U,With n ps (I++[z]++[y]) O U↔With n ps (I++[y]++[z]) O U:=λU=>by
   unfold With;refine and_congr_right λ_=>and_congr_left λ_=>⟨λh v hv=>h v ?_,λh v hv=>h v ?_⟩
   all_goals
    simp only[Xz,XF]at hv ⊢;rcases hv with (q|q)|q
    .exact .inl (.inl q)
    .exact .inr q
    .exact .inl (.inr q)
  have hh:=Su g hG.tr hG.least ((sw T2).mp h2.tr) λU hU=>h2.least U ((sw U).mpr hU);exact kP h2.tr.1 g1.1 (Bl (a:=z) h2.tr.1.1.nodup (h2.tr.2.1 z B) zG λv hv=>hh v hv)
theorem Zf7{l:Ac}{ld Ks:Option Int}(h1:ld=none↔l=[])(h2:∀y,ld=some y->y∈l/\∀z∈l,y<=z)(Lb:Ks=none↔l=[])(kZ:∀y,Ks=some y->y∈l/\∀z∈l,y<=z):ld=Ks:=by
 cases ld with
 |none=>exact(Lb.mpr<|h1.mp Z).symm
 |some y=>
  cases Ks with
  |none=>exact absurd (h1.mpr<|Lb.mp Z) B
  |some y'=>
   obtain⟨a1,a2⟩:=h2 y rfl;obtain⟨b1,b2⟩:=kZ y' rfl
   have:=a2 y' b1
   have:=b2 y a1
   rw[show y=y' by lia]
theorem Uv:With n ps [] [] T↔Zh n ps T:=⟨λh=>h.1,λh=>⟨h,λz q=>(by cases q),λz q=>(by cases q)⟩⟩
theorem ZW3{F L:Ac}(g:Zw n ps)(hR:RowW n ps R)(hF:Zh n ps F)(VB:∀U,Zh n ps U->HT.lexLt U F=false):R[0]?=some F/\Adj RP R/\(1<R.length->R[R.length-1]?=some L->RP L F):=by
 have FO:=Uv.mpr hF;have Md:∀U,With n ps [] [] U->HT.lexLt U F=false:=λU hU=>VB U hU.1
 have Xp:∀v∈([]:Ac),0<=v/\v<(ps.length:Int):=λv h=>by cases h
 obtain⟨ld,F',inc,fu,hP,h1,h2,Kr,_⟩:=id hR;have eF:F'=F:=SW (VB F' hP.tr.1) (hP.least F FO)
 subst eF;refine⟨Bm g Kr F' FO Md λz e=>QR (h2 z e).1,Zj8 g Kr Xp λF2 z a b e=>?_,λhl hL=>?_⟩
 .rw[SW (Md F2 a) (b F' FO)];exact(h2 z e).1
 .cases ld with
  |none=>
   exfalso;have eo:=h1.mp rfl
   cases Kr with
   |und kH _ _=>
    obtain⟨rfl,rfl,rfl⟩:=hP.uniq kH;have e:inc=[]:=y6.mpr λz hz=>by
     have:=(Yg.mp<|(Bt hP.inc).mem_iff.mp hz).1
     rw[eo]at this;cases this
    subst e;exact absurd hl (by show ¬1<1;decide)
  |some z=>
   have zo:=(h2 z Z).1;obtain⟨T2,_,_,FN⟩:=Kv g none (wC g Xp FO zo);rw[kM g Xp Kr FO Md (QR zo) FN.tr FN.least]at hL;obtain rfl:=Yh hL;exact Bl (a:=z) FN.tr.1.1.nodup (FN.tr.2.1 z B) (QR zo) λv hv=>Su g FO Md FN.tr FN.least v hv
end My
namespace L2
open PySem PySem.Spec PyProof.Rows
theorem Wt{N P:List Str}{sc:Scope}(h:sc.kind=.function/\sc.isCoroutine=false/\sc.isGenerator=false/\N.Nodup/\N.take P.length=P/\(∀x∈P,sc.names.lookup x=some .local\/sc.names.lookup x=some .cell)/\∀y∈sc.names,y.2≠.free):FnScope N P sc:=⟨h.1,h.2.1,h.2.2.1,h.2.2.2.1,h.2.2.2.2.1,h.2.2.2.2.2.1,h.2.2.2.2.2.2⟩
structure DfA (K:Ad) (mg:Af) (x:Str) (st:Stmt) (f:Addr) (fd:FuncData) (ps:List Str):Prop where
 fn:Fun K x x st f fd
 bi:Binds K fd ps []
 mm:mg x=some (.ref f)
theorem XC {X:Cx} {CX:SF} {k m:Nat} {f:Addr} {fd:FuncData} {ps:List Str} {sp:Sp} {x:Str} {st:Stmt} {e:Expr} {es:List Expr} {t:TA} {p pos:Pos} {E:XK} (F:FnOk X.prog X.w X.K X.mg X.base CX k f fd ps sp) (hr:Room m X.A) (d:DfA X.K X.mg x st f fd ps) (hx:Ll CX X E) (ha:PA X (e::es) t) (hk:k<=m:=by decide) (hg:Gl X x:=by exact Z) (Up:(x == ("__debug__":Str))=false:=by decide) (he:starEach (e::es) X.env=(false,eval e X.env)::starEach es X.env:=by rfl) (Vn:(backTo pos<|starEach es X.env).any (·.1)=false:=by rfl):PE X (.Call (.Name x p) (e::es) [] pos) (El sp [] E t):=
 Rv F (hr.mono hk) hg d.mm d.fn.kp d.bi .nil hx ha Up he Vn
noncomputable def wy(N P:List Str)(sc:Scope):Prop:=sc.kind=.function/\sc.isCoroutine=false/\sc.isGenerator=false/\N.Nodup/\N.take P.length=P/\(∀x∈P,sc.names.lookup x=some .local\/sc.names.lookup x=some .cell)/\∀y∈sc.names,y.2≠.free
noncomputable instance (N P:List Str) (sc:Scope):Decidable (wy N P sc):=by unfold wy;infer_instance
section
variable{P:Program}{w:World}{K:Ad}{mg:Af}{base:Heap}{x:Str}{st:Stmt}{f:Addr}{fd:FuncData}{ps:List Str}{k:Nat}{sp:Sp}
noncomputable abbrev Xg(P:Program)(w:World)(base:Heap)(CX:SF)(_:DfA K mg x st f fd ps)(k:Nat)(sp:Sp):Prop:=FnOk P w K mg base CX k f fd ps sp
theorem DfA.ok(q:DfA K mg x st f fd ps)(N:List Str)(uo:wy N ps (Xv st))(len:∀vs H Q E,sp vs H Q E->vs.length=ps.length)
  (hbody:∀XG A outer s H vs Q E,Room k (A.deeper<|envOfC x (Xv st) s.heap.objs.size f XG)->sp vs H Q E->
   ∃t,PSs (Wq Xl P w K mg base N x (Xv st) f XG A outer s H E).nox (RY st) t/\t {nx:=λ_ H'=>Q .non H',rt:=Q} (start N vs) H):Xg P w base Xl q (k+1) sp:=q.fn.ok (Wt uo) len hbody
theorem DfA.okX(q:DfA K mg x st f fd ps)(N:List Str)(uo:wy N ps (Xv st))(len:∀vs H Q E,sp vs H Q E->vs.length=ps.length)
  (hbody:∀XG A outer s H vs Q E,Room k (A.deeper<|envOfC x (Xv st) s.heap.objs.size f XG)->sp vs H Q E->
   ∃t,PSs (Wq (Vb P w) P w K mg base N x (Xv st) f XG A outer s H E) (RY st) t/\t {nx:=λ_ H'=>Q .non H',rt:=Q} (start N vs) H):Xg P w base (Vb P w) q (k+1) sp:=q.fn.okX (Wt uo) len hbody
end
end L2
namespace My
open PySem L2
noncomputable def FQ(K:Ad)(mg:Af)(x:Str)(st:Stmt)(ps:List Str):Prop:=∃f fd,DfA K mg x st f fd ps
theorem Bi{K:Ad}{h:Heap}{mg:Af}{x:Str}{st:Stmt}{ps:List Str}{f:Addr}{oc:Value}{od an:Option Addr}{Uo:Array (Option Value)}{kV doc pm XG ct:Value}(X:K.In h)(G:h.Ns mainGlobals mg)
  (a:PySem.W.nsIn K mainGlobals x=some (some<|.ref f))(l:K.lookup f=some ⟨oc,od,.func<|PySem.W.fnOf x x (Lj st) (RY st) (Xv st) .none kV doc pm an XG ct,Uo⟩)(c:PySem.W.codeIn K XG x=true)(k:PySem.W.keepIn K (.ref f)=true)
  (b:∀kV doc pm an XG ct us,us.length=ps.length->bindArgs (PySem.W.fnOf x x (Lj st) (RY st) (Xv st) .none kV doc pm an XG ct) ⟨us,[]⟩=pure (ps.zip us)):FQ K mg x st ps:=
 ⟨f,_,xY l c k,(xY l c k).binds b,GD X G a⟩
noncomputable def top(i:Nat):Stmt:=PySem.Challenge.pw_spanrow_k91_whole_row_step_by_step.main.body.getD i (.Pass ⟨0,0,0,0⟩)
noncomputable abbrev sZ8:Stmt:=dE (top 20) 0
noncomputable abbrev sZx:Stmt:=dE (top 52) 0
noncomputable abbrev sZ11:Stmt:=top 85
set_option genInjectivity false in
structure Adr where
 (aZ0 aZ1 aZ2 aZ3 aZ4 aZ5 aZ6 aZ7 aZ8 aZ9 aZa aZb aZc aZd aZe aZf aZg aZh aZi aZj aZk aZl aZm aZn aZo aZp aZq aZr aZs aZt aZu aZv aZw aZx aZy aZz aZA aZB aZC aZD aZE aZF aZG aZH aZI aZJ aZK aZL aZM aZN aZO aZP aZQ aZR aZS aZT aZU aZV aZW aZX aZY aZZ aZ01 aZ11 A_Web A_Part A_NoSuch:Addr)
 (dZ0 dZ1 dZ2 dZ3 dZ4 dZ5 dZ6 dZ7 dZ8 dZ9 dZa dZb dZc dZd dZe dZf dZg dZh dZi dZj dZk dZl dZm dZn dZo dZp dZq dZr dZs dZt dZu dZv dZw dZx dZy dZz dZA dZB dZC dZD dZE dZF dZG dZH dZI dZJ dZK dZL dZM dZN dZO dZP dZQ dZR dZS dZT dZU dZV dZW dZX dZY dZZ dZ01 dZ11:FuncData)
structure Txt (K:Ad) (mg:Af) (t:Adr):Prop where
 q_refuse_not_square:DfA K mg "refuse_not_square" (top 11) t.aZ0 t.dZ0 ["table"]
 q_row_taken_off:DfA K mg "row_taken_off" (top 12) t.aZ1 t.dZ1 ["row","pivot","last"]
 q_first_with_some:DfA K mg "first_with_some" (top 13) t.aZ2 t.dZ2 ["rows"]
 q_determinant:DfA K mg "determinant" (top 14) t.aZ3 t.dZ3 ["table"]
 q_row_without:DfA K mg "row_without" (top 15) t.aZ4 t.dZ4 ["row","number"]
 q_table_without:DfA K mg "table_without" (top 16) t.aZ5 t.dZ5 ["table","number"]
 q_is_tie:DfA K mg "is_tie" (top 22) t.aZ6 t.dZ6 ["web","number"]
 q_refuse_bad_web:DfA K mg "refuse_bad_web" (top 21) t.aZ7 t.dZ7 ["places","ties"]
 fZ8:Fun K "__init__" "Web.__init__" sZ8 t.aZ8 t.dZ8
 bZ8:Binds K t.dZ8 ["self","places","ties"] []
 q_all_ties:DfA K mg "all_ties" (top 23) t.aZ9 t.dZ9 ["web"]
 q_ties_beside:DfA K mg "ties_beside" (top 24) t.aZa t.dZa ["web","ties"]
 q_ties_without:DfA K mg "ties_without" (top 25) t.aZb t.dZb ["ties","left_out"]
 q_is_set:DfA K mg "is_set" (top 26) t.aZc t.dZc ["web","ties"]
 q_made_set:DfA K mg "made_set" (top 27) t.aZd t.dZd ["web","ties"]
 q_merged_marks:DfA K mg "merged_marks" (top 28) t.aZe t.dZe ["web","marks","ties"]
 q_piece_marks:DfA K mg "piece_marks" (top 29) t.aZf t.dZf ["web","ties"]
 q_pieces_of:DfA K mg "pieces_of" (top 30) t.aZg t.dZg ["web","ties"]
 q_is_joined:DfA K mg "is_joined" (top 31) t.aZh t.dZh ["web","ties"]
 q_refuse_parted:DfA K mg "refuse_parted" (top 32) t.aZi t.dZi ["web"]
 q_weighted_table:DfA K mg "weighted_table" (top 34) t.aZj t.dZj ["web","weights"]
 q_pull_table:DfA K mg "pull_table" (top 35) t.aZk t.dZk ["web"]
 q_tree_count:DfA K mg "tree_count" (top 36) t.aZl t.dZl ["web"]
 q_part_count:DfA K mg "part_count" (top 37) t.aZm t.dZm ["web","inside","outside"]
 q_is_tree:DfA K mg "is_tree" (top 39) t.aZn t.dZn ["web","ties"]
 q_refuse_no_tree:DfA K mg "refuse_no_tree" (top 40) t.aZo t.dZo ["web","tree"]
 q_grown_tree:DfA K mg "grown_tree" (top 41) t.aZp t.dZp ["web","inside","order"]
 q_least_tree:DfA K mg "least_tree" (top 42) t.aZq t.dZq ["web"]
 q_tree_cut:DfA K mg "tree_cut" (top 43) t.aZr t.dZr ["web","tree","tie"]
 q_ring_of:DfA K mg "ring_of" (top 44) t.aZs t.dZs ["web","tree","tie"]
 q_exchanged:DfA K mg "exchanged" (top 45) t.aZt t.dZt ["web","tree","out","into"]
 q_least_in:DfA K mg "least_in" (top 47) t.aZu t.dZu ["web","inside","outside"]
 q_end_pieces:DfA K mg "end_pieces" (top 50) t.aZv t.dZv ["web","marks","tie"]
 q_open_ties:DfA K mg "open_ties" (top 51) t.aZw t.dZw ["web","marks","gone"]
 fZx:Fun K "__init__" "Part.__init__" sZx t.aZx t.dZx
 bZx:Binds K t.dZx ["self","web","kept","shut","lead"] []
 q_whole_part:DfA K mg "whole_part" (top 53) t.aZy t.dZy ["web"]
 q_half_without:DfA K mg "half_without" (top 54) t.aZz t.dZz ["part"]
 q_half_with:DfA K mg "half_with" (top 55) t.aZA t.dZA ["part"]
 q_part_size:DfA K mg "part_size" (top 56) t.aZB t.dZB ["part"]
 q_trees_with_tie:DfA K mg "trees_with_tie" (top 57) t.aZC t.dZC ["part","into"]
 q_undivided_row:DfA K mg "undivided_row" (top 58) t.aZD t.dZD ["part"]
 q_trees_between:DfA K mg "trees_between" (top 59) t.aZE t.dZE ["part","size","start","stop"]
 q_refuse_below_nought:DfA K mg "refuse_below_nought" (top 48) t.aZF t.dZF ["number"]
 q_row_from:DfA K mg "row_from" (top 61) t.aZG t.dZG ["web","number","most"]
 q_row_at:DfA K mg "row_at" (top 62) t.aZH t.dZH ["web","number"]
 q_row_last:DfA K mg "row_last" (top 63) t.aZI t.dZI ["web"]
 q_number_in:DfA K mg "number_in" (top 60) t.aZJ t.dZJ ["part","size","tree"]
 q_row_number:DfA K mg "row_number" (top 64) t.aZK t.dZK ["web","tree"]
 q_row_next:DfA K mg "row_next" (top 65) t.aZL t.dZL ["web","tree"]
 q_row_ahead:DfA K mg "row_ahead" (top 66) t.aZM t.dZM ["web","tree"]
 q_row_step:DfA K mg "row_step" (top 67) t.aZN t.dZN ["web","tree"]
 q_is_number:DfA K mg "is_number" (top 71) t.aZO t.dZO ["word"]
 q_read_number:DfA K mg "read_number" (top 72) t.aZP t.dZP ["word"]
 q_read_line:DfA K mg "read_line" (top 73) t.aZQ t.dZQ ["line","name","many"]
 q_read_web:DfA K mg "read_web" (top 74) t.aZR t.dZR ["text"]
 q_law_cell:DfA K mg "_law_cell" (top 76) t.aZS t.dZS ["script","k"]
 q_law_mixed:DfA K mg "_law_mixed" (top 77) t.aZT t.dZT ["cell","k"]
 q_law_draws:DfA K mg "_law_draws" (top 78) t.aZU t.dZU ["script","start","count","way"]
 q_law_ties:DfA K mg "_law_ties" (top 79) t.aZV t.dZV ["draws","places","hang"]
 q_law_web:DfA K mg "_law_web" (top 80) t.aZW t.dZW ["script","most","count"]
 q_law_lengths:DfA K mg "_law_lengths" (top 81) t.aZX t.dZX ["script","count"]
 q_law_text:DfA K mg "_law_text" (top 82) t.aZY t.dZY ["places","ties","lengths"]
 q_law_none:DfA K mg "_law_none" (top 83) t.aZZ t.dZZ ["web","number"]
 q_law_ends_good:DfA K mg "_law_ends_good" (top 84) t.aZ01 t.dZ01 ["web","many"]
 q_law:DfA K mg "law" sZ11 t.aZ11 t.dZ11 ["script"]
 c_Web:mg "Web"=some (.ref t.A_Web)
 cl_Web:Cls K t.A_Web
 k_Web:Mk K t.A_Web t.aZ8
 n_Web_places:NoAttr K t.A_Web "places"
 n_Web_ties:NoAttr K t.A_Web "ties"
 c_Part:mg "Part"=some (.ref t.A_Part)
 cl_Part:Cls K t.A_Part
 k_Part:Mk K t.A_Part t.aZx
 n_Part_web:NoAttr K t.A_Part "web"
 n_Part_kept:NoAttr K t.A_Part "kept"
 n_Part_shut:NoAttr K t.A_Part "shut"
 n_Part_lead:NoAttr K t.A_Part "lead"
 n_Part_least:NoAttr K t.A_Part "least"
 n_Part_incoming:NoAttr K t.A_Part "incoming"
 n_Part_further:NoAttr K t.A_Part "further"
 c_NoSuch:mg "NoSuch"=some (.ref t.A_NoSuch)
 x_NoSuch:XCls K (t.A_NoSuch)
 em_NoSuch:PySem.W.exmOne K (.ref<|t.A_NoSuch) (.ref<|t.A_NoSuch)=some true
 g_MOST_PLACES:∃tk,mg "MOST_PLACES"=some (.int 14 tk)
 g_MOST_TIES:∃tk,mg "MOST_TIES"=some (.int 30 tk)
 g_FIGURES:∃tk,mg "FIGURES"=some (.str "0123456789" tk)
 g_MOST_FIGURES:∃tk,mg "MOST_FIGURES"=some (.int 60 tk)
 n_any:mg "any"=none
 n_enumerate:mg "enumerate"=none
 n_int:mg "int"=none
 n_len:mg "len"=none
 n_list:mg "list"=none
 n_max:mg "max"=none
 n_min:mg "min"=none
 n_range:mg "range"=none
 n_reversed:mg "reversed"=none
 n_set:mg "set"=none
 n_sorted:mg "sorted"=none
 n_str:mg "str"=none
 n_sum:mg "sum"=none
 n_tuple:mg "tuple"=none
 n_zip:mg "zip"=none
end My
namespace My
open PySem L2 PyProof.Rows
set_option maxHeartbeats 4000000
section
variable{P:Program}{w:World}{K:Ad}{mg:Af}{base:Heap}{t:Adr}
noncomputable def kG(K:Ad):Sp:=λvs H Q _=>∃a kd xs L,vs=[.ref a]/\SqK kd K H a xs/\Bears (CG K H) xs L/\
 ((∀l∈L,l.length=L.length)->Q .non H)/\(¬(∀l∈L,l.length=L.length)->False)
theorem kF:FnScope ["table","row"] ["table"] (Xv (top 11)):=Wt D
theorem kE(T:Txt K mg t):Xg P w base Xl T.q_refuse_not_square 1 (kG K):=by
 refine T.q_refuse_not_square.ok ["table","row"] D (λvs H Q E h=>?_) (λXG A outer s H vs Q E hr h=>?_)
 .obtain⟨a,kd,xs,L,rfl,_⟩:=h;rfl
 .obtain⟨a,kd,xs,L,rfl,hS,hB,q,qe⟩:=h;refine⟨_,(XM (TK Wr Z (Lg K<|pv 0) (Zg (i:=1) kF.nd Z<|Or.inl Z)
   (XM (WK (Ze SI (Zf (Zk K) uw T.n_len Boot.«len»<|XZ (pv 1) XY) (Zf (Zk K) uw T.n_len Boot.«len»<|XZ (pv 0) XY)<|Zq _)
   (XM Vj)
   Zo)))),?_⟩
  have Kq:=hB.1;refine⟨_,Z,a,Z,xT (K:=K) (k:=kd) (a:=a) (xs:=xs) (λi σ H2=>∃v1,σ=[some (.ref a),v1]/\H2=H/\∀l∈L.take i,l.length=L.length) ⟨none,Z,Z,λl h=>(by cases h)⟩ (λi σ H2 _ zz=>by obtain⟨_,_,e,_⟩:=zz;exact e▸hS) ?_ ?_⟩
  .rintro i v σ H2 hi ⟨v1,rfl,rfl,Wm⟩;obtain⟨l,hl,r,k,rfl,hr⟩:=hB.at hi;refine nm ?_;refine⟨_,Z,r,_,Z,hr.or,_,Z,a,xs,Z,hS.or,Z,_,Z,?_⟩;rw[Xx,ZB];refine WN (λe=>?_) (λe=>?_)
   .refine⟨_,Z,Z,λm hm=>?_⟩;rw[YL,hl]at hm;rcases Xz.mp hm with h|h
    .exact Wm m h
    .have Lf:m=l:=by simpa using h
     rw[Lf];lia
   .exact qe λh=>e (by rw[h l (Xf hl),Kq])
  .rintro σ H2 ⟨v1,rfl,rfl,Wm⟩;rw[Kq,YF]at Wm;exact q Wm
noncomputable def kD(K:Ad):Sp:=λvs H Q _=>∃r p x y last l q,vs=[.ref r,.ref p,.int last]/\SqL K H r (IL<|x::l)/\SqL K H p (IL<|y::q)/\l.length=q.length/\l.length<=1000/\last≠0/\last.natAbs<2^9000/\
 (∀z∈x::l,z.natAbs<2^9000)/\(∀z∈y::q,z.natAbs<2^9000)/\∀c H',Same H H'->H c=none->H' c=some (.lst<|IL<|Pd y q last<|x::l)->Q (.ref c) H'
theorem kC(T:Txt K mg t):Xg P w base Xl T.q_row_taken_off 1 (kD K):=by
 refine T.q_row_taken_off.ok ["row","pivot","last"] D (λvs H Q E h=>?_) (λXG A outer s H vs Q E hr h=>?_)
 .obtain⟨r,p,x,y,last,l,q,rfl,_⟩:=h;rfl
 .obtain⟨r,p,x,y,last,l,q',rfl,hR,hP,hlq,hl,l0,l1,hx,hy,q⟩:=h;refine⟨_,(XM<|Zi<|TZ Z (sc0:=Xv<|top 12) (N0:=["row","pivot","last"]) (N':=["own","other","pivot","row","last"]) (o:=2) (fr:=[1,0,2]) ⟨Z,D,D,D,Z,D⟩ (CM K Z T.n_zip<|XZ (ZZ (Vd K) (pv 0) (Ru Za) PL)<|XZ (ZZ (Vd K) (pv 1) (Ru Za) PL) XY) (PD<|Oa S<|Oa S PF) (λ_ _ _ _=>(NT (n:=2) K Z<|ZA (Zg (i:=0) (show List.Nodup (["own","other","pivot","row","last"]:List Str) by decide +kernel) Z<|Or.inl Z)<|ZA (Zg (i:=1) (show List.Nodup (["own","other","pivot","row","last"]:List Str) by decide +kernel) Z<|Or.inl Z) Of)) (λ_ _ _ _=>ZX) λ_ _ _ _=>(Zr oO (Zr WO (Zr oP (Zy (Zb K) (pv 2) Za λ_ _=>rfl)<|pv 0)<|Zr oP (Zy (Zb K) (pv 3) Za λ_ _=>rfl)<|pv 1)<|pv 4)),?_⟩;refine⟨_,Z,_,Z,r,_,Z,hR,λp1 Vm=>?_⟩;rw[bZ];have s1:=XN (o:=.lst<|IL l) Vm
  refine⟨_,Z,_,Z,p,_,Z,s1.seq hP,λp2 VY=>?_⟩;rw[bZ];have s2:=XN (o:=.lst<|IL q') VY
  have WL:=s1.trans s2;have h1:=s2 _ _ (XS (H:=H) (a:=p1) (o:=.lst<|IL l))
  have h2:(upd (upd H p1<|.lst<|IL l) p2<|.lst<|IL q') p2=some (.lst<|IL q'):=XS;generalize upd (upd H p1<|.lst<|IL l) p2 (.lst<|IL q')=H2 at *;refine⟨p1,p2,Z,⟨_,_,SqL.of h1,SqL.of h2⟩,pj (K:=K) (a:=p1) (b:=p2) (xs:=IL l) (ys:=IL q') (λi zs H3=>Same H2 H3/\i<=l.length/\zs=IL ((Pd y q' last<|x::l).take i)) ⟨Same.refl _,Ym _,Z⟩ (by rwa[Xx,Xx]) (Zl<|by rw[Xx];lia)
   (λi zs H3 hi zz=>by obtain⟨e,Wb,ez⟩:=zz;exact⟨SqL.of<|e _ _ h1,SqL.of<|e _ _ h2,by rw[ez,Xx,Yl];lia⟩) ?_ ?_⟩
  .rintro i u v zs H3 pt So hu hv ⟨s3,VC,rfl⟩ uo Xm;obtain⟨own,rfl,ho⟩:=Uz hu;obtain⟨IB,rfl,ht⟩:=Uz hv;have Xo:=(Xs.mp ho).1
   have s4:=XN (o:=.tup [.int own,.int IB]) So;refine⟨pt,_,Z,SqT.of XS,Z,_,_,Z,_,_,Z,Z,?_⟩;have RO:=WL.trans (s3.trans s4)
   have a1:=hy y Ya;have a2:=hx own (Yf _<|Xf ho)
   have a3:=hx x Ya;have a4:=hy IB (Yf _<|Xf ht)
   refine⟨_,Z,p,_,0,.int y,Z,Z,RO.seq hP,Zx (n:=0) Z Z,_,Z,_,_,Z,Z,⟨a1,a2⟩,_,Z,r,_,0,.int x,Z,Z,RO.seq hR,Zx (n:=0) Z Z,_,Z,_,_,Z,Z,⟨a3,a4⟩,_,_,Z,Z,_,Z,_,_,Z,Z,⟨l0,l1⟩,?_⟩;refine Xm _ _ ⟨s3.trans s4,Xo,?_⟩;have e:(Pd y q' last<|x::l)[i]?=some ((y*own-x*IB).fdiv last):=by show(List.zipWith _ l q')[i]?=_;rw[LG,ho,ht];rfl
   rw[YL,e];exact(ZN _ _).symm
  .rintro zs H3 ⟨s3,_,rfl⟩ c hc;rw[Xx,YN (by rw[b7 (by rw[Yq,hlq])];lia)];exact q c _ (WL.trans<|s3.trans<|XN hc) ((WL.trans s3).free hc) XS
noncomputable def kB(K:Ad):Sp:=λvs H Q _=>∃a ys R,vs=[.ref a]/\SqL K H a ys/\Bears (Rm H) ys R/\(∀l∈R,0<l.length)/\
 (∀H':Hp,Same H H'->(∀i,i<R.length->fnL R i 0=0)->Q .non H')/\(∀t H',Same H H'->t<R.length->fnL R t 0≠0->Q (.int t) H')
theorem Bh:FnScope ["rows","at","row"] ["rows"] (Xv (top 13)):=Wt D
theorem ky(T:Txt K mg t):Xg P w base Xl T.q_first_with_some 1 (kB K):=by
 refine T.q_first_with_some.ok ["rows","at","row"] D (λvs H Q E h=>?_) (λXG A outer s H vs Q E hr h=>?_)
 .obtain⟨a,ys,R,rfl,_⟩:=h;rfl
 .obtain⟨a,ys,R,rfl,hS,hB,hp,q0,q1⟩:=h;refine⟨_,(XR (TK Wr Z (Gn K Z T.n_enumerate<|XZ (pv 0) XY) (NT (n:=2) K Z<|ZA (Zg (i:=1) Bh.nd Z<|Or.inl Z)<|ZA (Zg (i:=2) Bh.nd Z<|Or.inl Z) Of)
   (XM (WK (Ze SI (Zy (Zb K) (pv 2) Za λ_ _=>rfl) Za<|Zq _)
   (XM<|Zi<|pv 1)
   Zo)))
   (XM<|Zi QG)),?_⟩
  have HM:=hB.1;refine⟨_,Z,a,Z,⟨_,hS⟩,dk (K:=K) (a:=a) (xs:=ys) (λi σ H2=>∃v1 v2,σ=[some (.ref a),v1,v2]/\Same H H2/\∀j,j<i->fnL R j 0=0) ⟨none,none,Z,Same.refl _,λj h=>absurd h<|Wk _⟩ (λi σ H2 _ zz=>by obtain⟨_,_,_,e,_⟩:=zz;exact e.seq hS) ?_ ?_⟩
  .rintro i v σ H2 pt So hi ⟨v1,v2,rfl,s2,hz⟩;obtain⟨l,hl,r,rfl,hr⟩:=hB.at hi;have FL:=hp l (Xf hl)
   obtain⟨x,l',rfl⟩:∃x l',l=x::l':=by
    cases l with
    |nil=>exact absurd FL (RF 0)
    |cons x l'=>exact⟨x,l',Z⟩
   have e0:fnL R i 0=x:=UL hl rfl;have s3:=s2.trans (XN (o:=.tup [.int i,.ref r]) So)
   refine⟨pt,_,Z,SqT.of XS,Z,_,_,Z,_,_,Z,Z,?_⟩;generalize upd H2 pt (.tup [.int i,.ref r])=H3 at *;refine⟨_,Z,r,_,0,.int x,Z,Z,SqL.of<|s3 _ _ hr,Zx (n:=0) Z Z,Z,_,Z,?_⟩;rw[ZB];refine WN (λe=>?_) (λe=>?_)
   .refine⟨_,_,Z,s3,λj hj=>?_⟩;by_cases c:j=i
    .rw[c,e0,e]
    .exact hz j J
   .exact⟨_,Z,q1 i H3 s3 (by have:=(Xs.mp hl).1;exact this)<|by rwa[e0]⟩
  .rintro σ H2 ⟨v1,v2,rfl,s2,hz⟩;exact q0 H2 s2 λi hi=>hz i J
noncomputable def kx(K:Ad):Sp:=λvs H Q _=>∃a kd xs L,vs=[.ref a]/\SqK kd K H a xs/\Bears (CG K H) xs L/\L.length<=16/\(∀i j,i<L.length->j<L.length->(fnL L i j).natAbs<=2^400)/\
 ((∀l∈L,l.length=L.length)->∀H':Hp,Same H H'->Q (.int<|det L.length<|fnL L) H')/\(¬(∀l∈L,l.length=L.length)->∀H':Hp,Same H H'->False)
theorem ku{s rest:TS}{um:Ends}{σ:L2.St}{H:Hp}(P:L2.St->Hp->Prop)(h1:∀σ' H',P σ' H'->rest um σ' H')(h2:∀K:L2.St->Hp->Prop,(∀σ' H',P σ' H'->K σ' H')->s {um with nx:=K} σ H):TM s rest um σ H:=h2 _ h1
theorem Tn:FnScope ["table","rows","sign","last","at","pivot"] ["table"] (Xv (top 14)):=Wt D
theorem ks(T:Txt K mg t):Xg P w base Xl T.q_determinant 2 (kx K):=by
 refine T.q_determinant.ok ["table","rows","sign","last","at","pivot"] D (λvs H Q E h=>?_) (λXG A outer s H vs Q E hr h=>?_)
 .obtain⟨a,kd,xs,L,rfl,_⟩:=h;rfl
 .obtain⟨a,kd,xs,L,rfl,hS,hB,Bg,hA0,q,qe⟩:=h;refine⟨_,(XR (ZS<|XC (kE T) hr T.q_refuse_not_square Zs<|XZ (pv 0) XY)
   (XR (QA (i:=1) Z Tn.nd Z Z (sc0:=Xv<|top 14) (N0:=["table","rows","sign","last","at","pivot"]) (N':=["row"]) (o:=1) (fr:=[]) ⟨Z,D,D,D,Z,D⟩ (Lg K<|pv 0) (Zv S) (λ_ _ _ _=>(Zg (i:=0) (show List.Nodup (["row"]:List Str) by decide +kernel) Z<|Or.inl Z)) (λ_ _ _ _=>ZX) λ_ _ _ _=>(Zm (Gp K) uw T.n_list Boot.«list»<|XZ (pv 0) XY))
   (XR (Zj (i:=2) Tn.nd Z (Or.inl Z) Za)
   (XR (Zj (i:=3) Tn.nd Z (Or.inr Z) Za)
   (XR (tR Wr (Ze UP (Zf (Zk K) uw T.n_len Boot.«len»<|XZ (pv 1) XY) Za<|Zq _)
   (XR (Zj (i:=4) Tn.nd Z (Or.inl Z)<|XC (ky T) hr T.q_first_with_some Zs<|XZ (pv 1) XY)
   (XR (WK (Ze yh (pv 4) QG<|Zq _)
   (XM<|Zi Za)
   Zo)
   (XR (WK (Ze Sa (Zr ZP (pv 4) Za) Za<|Zq _)
   (XM<|Zj (i:=2) Tn.nd Z (Or.inl Z)<|Jq Jp<|pv 2)
   Zo)
   (XR (Zj (i:=5) Tn.nd Z (Or.inr Z)<|TY K YU PySem.F.slot_list_pop PySem.F.type_list_pop sj (pv 1)<|XZ (pv 4) XY)
   (XR (QA (i:=1) Z Tn.nd Z Z (sc0:=Xv<|top 14) (N0:=["table","rows","sign","last","at","pivot"]) (N':=["row","pivot","last"]) (o:=1) (fr:=[5,3]) ⟨Z,D,D,D,Z,D⟩ (ZR K<|pv 1) (Zv S) (λ_ _ _ _=>(Zg (i:=0) (show List.Nodup (["row","pivot","last"]:List Str) by decide +kernel) Z<|Or.inl Z)) (λ_ _ _ _=>ZX) λ_ _ _ _=>(XC (kC T) hr T.q_row_taken_off Zs<|XZ (pv 0)<|XZ (pv 1)<|XZ (pv 2) XY))
   (XM<|Zj (i:=3) Tn.nd Z (Or.inr Z)<|Zy (Zb K) (pv 5) Za λ_ _=>rfl)))))))
   (XM<|Zi<|Zr oP (pv 2)<|pv 3)))))),?_⟩
  have Kq:=hB.1;refine⟨_,Z,a,kd,xs,L,Z,hS,hB,λkq=>?_,λh=>qe h H<|Same.refl H⟩;have q:=q kq
  obtain⟨n,hn⟩:∃n,n=L.length:=⟨_,Z⟩;rw[<-hn]at q kq hA0 Bg;refine⟨_,Z,a,Z,xS (K:=K) (k:=kd) (a:=a) (xs:=xs) (λi zs H2=>Same H H2/\i<=xs.length/\Bears (Rm H2) zs (L.take i)) ⟨Same.refl _,Ym _,⟨Z,λi l e=>by simp at e⟩⟩ (Zl J) (λi zs H2 hi zz=>by obtain⟨e,Wb,ez⟩:=zz;exact⟨hS.same e,by rw[ez.1,Yl];lia⟩) ?_ ?_⟩
  .rintro i v zs H2 hi ⟨s2,VC,hZ⟩ uo Xm;obtain⟨l,hl,r,k,rfl,hr⟩:=hB.at hi;have Xo:=(Xs.mp hi).1
   refine nm ?_;refine⟨_,Z,r,_,Z,(hr.same s2).or,λc hc=>Xm _ _ ⟨s2.trans<|XN hc,Xo,?_⟩⟩;rw[YL,hl];refine(hZ.imp λ_ _ zz=>by obtain⟨r',e,h⟩:=zz;exact⟨r',e,XN hc _ _ h⟩).snoc ⟨c,Z,XS⟩
  rintro zs H2 ⟨s2,_,hZ⟩ rA VI;rw[Kq,YF]at hZ;have s3:=s2.trans (XN (o:=.lst zs) VI)
  refine⟨λm σ H4=>∃A k rA ys R sgn last v4 v5,σ=[some (.ref a),some<|.ref rA,some<|.int sgn,some<|.int last,v4,v5]/\Same H H4/\H rA=none/\H4 rA=some (.lst ys)/\Bears (LiV rA H4) ys R/\R.length=m/\(∀l∈R,l.length=m)/\k+m=n/\RU A k m (fnL R) last/\det n (fnL L)=sgn*det n A/\(∀i j,i<n->j<n->(A i j).natAbs<=2^400)/\(m=0->last=det n A)/\(sgn=1\/sgn=-1)/\last.natAbs<2^9000,⟨n,fnL L,0,rA,zs,L,1,1,none,none,Z,s3,s2.free VI,XS,?_,hn.symm,kq,J,Zc9 _ _,uu,hA0,λe=>by rw[e];rfl,.inl Z,Nat.one_lt_two_pow S⟩,?_⟩
  .exact hZ.imp λv l zz=>by obtain⟨r,e,h⟩:=zz;exact⟨r,e,XN VI _ _ h,Zd h VI⟩
  rintro m σ H4 ⟨A,k,rA,ys,R,sgn,last,v4,v5,rfl,s4,VH,Kp,hR,hRm,Qs,wx,Mc,HL,hAb,ko,hsg,hlb⟩;have HM:=hR.1
  refine⟨_,Z,rA,ys,Z,.inl<|SqL.of Kp,_,_,Z,Z,_,Z,?_⟩;refine Xd (λQX=>?_) (λQX=>?_)
  .obtain⟨M,rfl⟩:∃M,m=M+1:=⟨m-1,J⟩;refine⟨_,λσ' H' h=>⟨M,Ol M,h⟩,?_⟩;have km:∀l∈R,∀z∈l,z.natAbs<2^9000:=λl hl z hz=>by
    obtain⟨i,hi⟩:=Qm hl;obtain⟨j,hj⟩:=Qm hz;have h1:=(Xs.mp hi).1
    have h2:=(Xs.mp hj).1;have h3:=Qs l hl
    have:=Zd9 Mc wx Bg hAb (i:=i) (j:=j) J J
    rwa[UL hi hj]at this
   refine⟨_,Z,rA,ys,R,Z,SqL.of Kp,hR.imp λ_ _ h=>h.list,λl hl=>by rw[Qs l hl];lia,λH5 s5 h0=>?_,λt H5 s5 ht XJ=>?_⟩
   .refine⟨_,Z,Z,_,Z,?_⟩;refine xU (c:=V.non=V.non) Z ?_;have z:det n A=0:=by
     have:=oU Mc λi hi=>h0 i J
     rwa[show k+M+1=n by lia]at this
    rw[HL,z,Se]at q;exact q H5 (s4.trans s5)
   refine⟨_,Z,Z,_,Z,?_⟩;refine IZ (c:=V.int (t:Int)=V.non) (λz=>nomatch z) ?_;refine nm ?_;dsimp only;refine ku (λσ H6=>∃Mb:Int,H6=H5/\σ=[some (.ref a),some<|.ref rA,some<|.int Mb,some<|.int last,some<|.int t,v5]/\Mb=sgn*sg t) ?_ ?_
   .rintro σ H6 ⟨Mb,rfl,rfl,Bf⟩;have Ko:=s5 _ _ Kp
    have hR6:=hR.imp λ_ _ h=>h.same s5;obtain⟨l,hl⟩:∃l,R[t]?=some l:=⟨_,Xw ht⟩;have US:=Qs l (Xf hl)
    obtain⟨y,p',rfl⟩:∃y p',l=y::p':=by
     cases l with
     |nil=>cases US
     |cons y p'=>exact⟨y,p',Z⟩
    have Vn:p'.length=M:=by rw[Yq]at US;lia
    obtain⟨v,hv,pA,rfl,kl,hpn⟩:=hR6.2 t _ hl;have hy0:y≠0:=by rwa[UL hl Z]at XJ
    refine⟨_,Z,.inl ⟨Z,_,SqL.of Ko⟩,_,Z,rA,ys,(t:Int),t,.ref pA,Z,Z,Ko,J,J,by rw[qd J J,YD],hv,?_⟩;have Be:(upd H6 rA<|.lst<|ys.eraseIdx t) pA=some (.lst<|IL<|y::p'):=by rwa[Zc hpn]
    have s7:Same H (upd H6 rA<|.lst<|ys.eraseIdx t):=Zz VH (s4.trans s5);have hR7:Bears (LiV rA<|upd H6 rA<|.lst<|ys.eraseIdx t) (ys.eraseIdx t) (R.eraseIdx t):=(hR6.erase t).imp λ_ _ h=>h.mut
    have Bc:(upd H6 rA<|.lst<|ys.eraseIdx t) rA=some (.lst<|ys.eraseIdx t):=XS;generalize upd H6 rA (.lst<|ys.eraseIdx t)=H7 at *;have eRl:(R.eraseIdx t).length=M:=by rw[vm,if_pos ht];lia
    have HK:∀l∈R.eraseIdx t,l.length=M+1:=λl h=>Qs l (fh h);have hy7:=hR7.1
    refine⟨_,Z,rA,Z,⟨_,SqL.of Bc⟩,Rn (K:=K) (a:=rA) (xs:=ys.eraseIdx t) (λi zs H8=>Same H7 H8/\i<=(ys.eraseIdx t).length/\Bears (Rm H8) zs (((R.eraseIdx t).take i).map (Pd y p' last))) ⟨Same.refl _,Ym _,⟨Z,λi l e=>by simp at e⟩⟩ (Zl J) (λi zs H8 hi zz=>by obtain⟨e,Wb,ez⟩:=zz;exact⟨SqL.of<|e _ _ Bc,by rw[ez.1,Yb,Yl];lia⟩) ?_ ?_⟩
    .rintro i v zs H8 hi ⟨s8,VC,wu⟩ uo Xm;obtain⟨l,KQ,r,rfl,hr,_⟩:=hR7.at hi;have Xo:=(Xs.mp hi).1
     have RZ:=HK l (Xf KQ);obtain⟨x,l',rfl⟩:∃x l',l=x::l':=by
      cases l with
      |nil=>cases RZ
      |cons x l'=>exact⟨x,l',Z⟩
     have Qb:l'.length=M:=by rw[Yq]at RZ;lia
     refine nm ?_;refine⟨_,Z,_,Z,_,Z,r,pA,x,y,last,l',p',Z,SqL.of<|s8 _ _ hr,SqL.of<|s8 _ _ Be,J,J,Mc.1,hlb,km _<|fh<|Xf KQ,km _<|Xf hl,λc H9 s9 RN hc=>Xm _ _ ⟨s8.trans s9,Xo,?_⟩⟩;rw[YL,KQ,YJ];exact(wu.imp λ_ _ zz=>by obtain⟨r',e,h⟩:=zz;exact⟨r',e,s9 _ _ h⟩).snoc ⟨c,Z,hc⟩
    rintro zs H8 ⟨s8,_,wu⟩ cA kj;rw[hy7,YF]at wu;have s9:=XN (o:=.lst zs) kj
    refine⟨_,Z,pA,_,0,.int y,Z,Z,SqL.of<|s9 _ _<|s8 _ _ Be,Zx (n:=0) Z Z,?_⟩;have wV:RU (λi=>A<|rotN k t i) k (M+1) (fnL<|(y::p')::R.eraseIdx t) last:=by rw[oJ hl];exact oV Mc J
    have Mj:RU (λi=>A<|rotN k t i) (k+1) M (fnL<|(R.eraseIdx t).map (Pd y p' last)) y:=oX wV hy0 λi j hi hj=>CH Vn eRl HK hi hj;have hdr:=o6 (n:=n) (k:=k) (t:=t) (A:=A) J
    refine⟨λi=>A<|rotN k t i,k+1,cA,zs,(R.eraseIdx t).map (Pd y p' last),Mb,y,_,_,Z,s7.trans<|s8.trans s9,(s7.trans s8).free kj,XS,?_,by rw[Yb];exact eRl,λl h=>?_,J,Mj,?_,λi j hi hj=>hAb _ _ ?_ hj,λe0=>?_,?_,km _ (Xf hl) y Ya⟩
    .exact wu.imp λv l zz=>by obtain⟨r,e,h⟩:=zz;exact⟨r,e,s9 _ _ h,Zd h kj⟩
    .obtain⟨l0,h0,rfl⟩:=YA.mp h;rw[b7 (by rw[HK l0 h0,Vn]),Vn]
    .rw[hdr,HL,Bf,Sg,<-Sg (sg t),oH,SO]
    .unfold rotN;split
     .grind
     .split
      .lia
      .split<;>lia
    .subst e0
     have:=oS wV
     rwa[show k+1=n by lia]at this
    .rw[Bf];have Wx:sg t=1\/sg t=-1:=by
      unfold sg;split
      .exact .inl rfl
      .exact .inr rfl
     rcases hsg with e|e<;>rcases Wx with f|f<;>rw[e,f]
     .exact .inl rfl
     .exact .inr rfl
     .exact .inr rfl
     .exact .inl rfl
   .intro Kn hK;refine⟨_,Z,_,_,Z,Z,(by show(0:Int)<2;decide),Z,_,Z,?_⟩;rw[ZB];refine Xd (λh1=>?_) (λh1=>?_)
    .refine⟨_,Z,_,Z,hK _ _ ⟨-sgn,Z,Z,?_⟩⟩;have e:sg t=-1:=by unfold sg;rw[if_neg J]
     rw[e];lia
    .refine hK _ _ ⟨sgn,Z,Z,?_⟩;have e:sg t=1:=by unfold sg;rw[if_pos J]
     rw[e];grind
  .have Qr:m=0:=J;refine⟨_,Z,_,Z,_,_,Z,Z,⟨?_,hlb⟩,?_⟩
   .rcases hsg with e|e<;>rw[e]<;>exact Nat.one_lt_two_pow S
   .rw[ko Qr]at *;rw[HL]at q;exact q H4 s4
noncomputable def ki(K:Ad):Sp:=λvs H Q _=>∃(a:Addr)(l:Ac)(i:Nat),vs=[.ref a,.int i]/\SqL K H a (IL l)/\l.length<=1000/\∀r H',Same H H'->H r=none->H' r=some (.lst<|IL<|cutz l i)->Q (.ref r) H'
theorem Bb(l:Ac)(z:Int):cutz (IL l) z=IL (cutz l z):=by
 unfold cutz;show(l.map V.int).take _++(l.map V.int).drop _=(l.take _++l.drop _).map V.int
 rw[YJ,List.map_take,List.map_drop]
theorem kh(T:Txt K mg t):Xg P w base Xl T.q_row_without 1 (ki K):=by
 refine T.q_row_without.ok ["row","number"] D (λvs H Q E h=>?_) (λXG A outer s H vs Q E hr h=>?_)
 .obtain⟨a,l,i,rfl,_⟩:=h;rfl
 .obtain⟨a,l,i,rfl,hA,hl,q⟩:=h;refine⟨_,(XM<|Zi<|Zr DU (Zm (Gp K) uw T.n_list Boot.«list»<|XZ (ZZ (Vd K) (pv 0) PL<|Ru<|pv 1) XY)<|Zm (Gp K) uw T.n_list Boot.«list»<|XZ (ZZ (Vd K) (pv 0) (Ru<|Zr UG (pv 1) Za) PL) XY),?_⟩;refine⟨_,Z,_,Z,(i:Int),Z,a,_,Z,hA,λp1 Vm=>?_⟩;have u1:=XN (o:=.lst<|Xi (IL l) none<|some (i:Int)) Vm
  refine⟨p1,_,Z,.inl<|SqL.of XS,λp2 VY=>?_⟩;have u2:=XN (o:=.lst<|Xi (IL l) none<|some (i:Int)) VY
  refine⟨_,Z,_,Z,_,_,Z,Z,_,Z,a,_,Z,(u1.trans u2).seq hA,λp3 Qt=>?_⟩;have u3:=XN (o:=.lst<|Xi (IL l) (some<|(i:Int)+1) none) Qt
  refine⟨p3,_,Z,.inl<|SqL.of XS,λp4 SR=>?_⟩;have u4:=XN (o:=.lst<|Xi (IL l) (some<|(i:Int)+1) none) SR
  have c1:=sN (IL l) none (some (i:Int));have c2:=sN (IL l) (some<|(i:Int)+1) none
  rw[Xx]at c1 c2;refine⟨p2,p4,_,_,Z,Z,(u3.trans u4) _ _ XS,XS,MO J,λp5 wq=>?_⟩;have u14:=u1.trans (u2.trans<|u3.trans u4)
  refine q p5 _ (u14.trans<|XN wq) (u14.free wq) ?_;rw[XS,pQ J,Bb]
noncomputable def kg(K:Ad):Sp:=λvs H Q _=>∃(a:Addr)(ys:List V)(L:Ab)(i:Nat),vs=[.ref a,.int i]/\SqL K H a ys/\Bears (Rm H) ys L/\L.length<=1000/\(∀l∈L,l.length<=1000)/\i<L.length/\
 ∀r zs H',Same H H'->H' r=some (.lst zs)->Bears (Rm H') zs ((cutz L i).map λl=>cutz l (i:Int))->Q (.ref r) H'
theorem ZF5{α:Type}{l:List α}{i j:Nat}{x:α}(hx:l[j]?=some x):cutz (l.take (j+1)) (i:Int)=cutz (l.take j) (i:Int)++(if j=i then [] else [x]):=by
 have hj:=(Xs.mp hx).1;have e:l.take (j+1)=l.take j++[x]:=by rw[YL,hx];rfl
 have hl:(l.take j).length=j:=by rw[Yl];grind
 have short:∀m:List α,m.length<=i->cutz m (i:Int)=m:=λm hm=>by unfold cutz;rw[YD,YN hm,LH J,YH]
 rw[e];by_cases c:j=i
 .subst c;rw[if_pos Z,YH,short (l.take j) J];unfold cutz;rw[YD,vH J,LH (by rw[Xt,hl];exact XO _),YH,YN J]
 .rw[if_neg c];by_cases d:j<i
  .rw[short (l.take j++[x]) (by rwa[Xt,hl]),short (l.take j) J]
  .unfold cutz;rw[YD,vH uu,vG J,QJ]
theorem kf(T:Txt K mg t):Xg P w base Xl T.q_table_without 2 (kg K):=by
 refine T.q_table_without.ok ["table","number"] D (λvs H Q E h=>?_) (λXG A outer s H vs Q E hr h=>?_)
 .obtain⟨a,ys,L,i,rfl,_⟩:=h;rfl
 .obtain⟨a,ys,L,i,rfl,hA,hB,hL,hLl,hi,q⟩:=h;refine⟨_,(XM<|Zi<|TZ Z (sc0:=Xv<|top 16) (N0:=["table","number"]) (N':=["at","row","number"]) (o:=2) (fr:=[1]) ⟨Z,D,D,D,Z,D⟩ (Gn K Z T.n_enumerate<|XZ (pv 0) XY) (PD<|Oa S<|Oa S PF) (λ_ _ _ _=>(NT (n:=2) K Z<|ZA (Zg (i:=0) (show List.Nodup (["at","row","number"]:List Str) by decide +kernel) Z<|Or.inl Z)<|ZA (Zg (i:=1) (show List.Nodup (["at","row","number"]:List Str) by decide +kernel) Z<|Or.inl Z) Of)) (λ_ _ _ _=>(Rq<|Ze SI (pv 0) (pv 2)<|Zq _)) λ_ _ _ _=>(XC (kh T) hr T.q_row_without Zs<|XZ (pv 1)<|XZ (pv 2) XY)),?_⟩;have HM:=hB.1
  refine⟨_,Z,a,Z,⟨_,hA⟩,xy (K:=K) (a:=a) (xs:=ys) (λj zs H2=>Same H H2/\j<=ys.length/\Bears (Rm H2) zs ((cutz (L.take j) (i:Int)).map λl=>cutz l (i:Int))) ⟨Same.refl _,Ym _,by rw[show(cutz (L.take 0) (i:Int)).map (λl=>cutz l (i:Int))=[] by unfold cutz;simp];exact⟨Z,λi l e=>by simp at e⟩⟩ (Zl J) (λj zs H2 hj ⟨e,Qx,ez⟩=>⟨e.seq hA,by
   rw[ez.1,Yb];refine Ys (pP _ _) ?_;rw[Yl]
   lia⟩) ?_ ?_⟩
  .rintro j v zs H2 pt So hj ⟨s2,MK,hZ⟩ uo Xm;obtain⟨l,hl,r,rfl,hr⟩:=hB.at hj;have VM:=(Xs.mp hj).1
   have s3:=XN (o:=.tup [.int j,.ref r]) So;refine⟨pt,_,Z,SqT.of XS,Z,_,_,Z,_,_,Z,Z,?_⟩;have hZ3:Bears (Rm<|upd H2 pt<|.tup [.int j,.ref r]) zs ((cutz (L.take j) (i:Int)).map λl=>cutz l (i:Int)):=hZ.imp λ_ _ zz=>by obtain⟨r',e,h⟩:=zz;exact⟨r',e,s3 _ _ h⟩
   have ke:=s2.trans s3;generalize upd H2 pt (.tup [.int j,.ref r])=H3 at *;refine⟨_,Z,_,Z,Z,_,Z,?_⟩;rw[ZB];refine WN (λe=>?_) (λe=>?_)
   .refine Xm _ _ ⟨ke,VM,?_⟩;rwa[ZF5 hl,if_pos J,YH]
   .refine⟨_,Z,_,Z,r,l,i,Z,SqL.of<|ke _ _ hr,hLl l<|Xf hl,λc H4 s4 _ hc=>Xm _ _ ⟨ke.trans s4,VM,?_⟩⟩;rw[ZF5 hl,if_neg J,YJ];exact(hZ3.imp λ_ _ zz=>by obtain⟨r',e,h⟩:=zz;exact⟨r',e,s4 _ _ h⟩).snoc ⟨c,Z,hc⟩
  .rintro zs H2 ⟨s2,_,hZ⟩ p hp;rw[HM,YF]at hZ;exact q p zs _ (s2.trans<|XN hp) XS (hZ.imp λ_ _ zz=>by obtain⟨r',e,h⟩:=zz;exact⟨r',e,XN hp _ _ h⟩)
noncomputable def j9(C:Addr):Sp:=λvs H Q _=>∃w n ps k,vs=[.ref w,.int k]/\WebAt C H w n ps/\Q (.bl<|decide<|0<=k/\k<(ps.length:Int)) H
theorem Ba(T:Txt K mg t):Xg P w base Xl T.q_is_tie 1 (j9 t.A_Web):=by
 refine T.q_is_tie.ok ["web","number"] D (λvs H Q E h=>?_) (λXG A outer s H vs Q E hr h=>?_)
 .obtain⟨w,n,ps,k,rfl,_⟩:=h;rfl
 .obtain⟨w,n,ps,k,rfl,⟨dx,tl,xs,h1,h2,h3⟩,q⟩:=h;refine⟨_,(XM<|Zi<|tw SG SH Za (pv 1)<|Zf (Zk K) uw T.n_len Boot.«len»<|XZ (Zp K (pv 0) Z) XY),?_⟩;refine⟨_,Z,_,_,Z,Z,_,Z,?_⟩;refine DP (λhc=>?_) (λhc=>?_)
  .refine⟨_,Z,w,_,dx,_,_,Z,h1,T.cl_Web,T.n_Web_ties,Pu _ _,tl,xs,Z,.inl<|SqL.of h2,_,_,Z,Z,?_⟩;have hc:=Yu hc
   show Q (.bl<|decide<|k<(xs.length:Int)) H;rwa[h3.1,show decide (k<(ps.length:Int))=decide (0<=k/\k<(ps.length:Int)) from by simp[hc]]
  .have hc:¬(0<=k):=λz=>hc (Yn z);show Q (.bl false) H
   rwa[show(false:Bool)=decide (0<=k/\k<(ps.length:Int)) from by simp;lia]
noncomputable def j8(K:Ad):Sp:=λvs H Q _=>∃n a kd xs ps,vs=[.int n,.ref a]/\SqK kd K H a xs/\PairsV H xs ps/\Zw n ps/\Q .non H
theorem AZ:FnScope ["places","ties","ends","end"] ["places","ties"] (Xv (top 21)):=Wt D
theorem j7(T:Txt K mg t):Xg P w base Xl T.q_refuse_bad_web 1 (j8 K):=by
 refine T.q_refuse_bad_web.ok ["places","ties","ends","end"] D (λvs H Q E h=>?_) (λXG A outer s H vs Q E hr h=>?_)
 .obtain⟨n,a,kd,xs,ps,rfl,_⟩:=h;rfl
 .obtain⟨n,a,kd,xs,ps,rfl,hS,hp,⟨g1,g2,g3,g4⟩,q⟩:=h;refine⟨_,(XR (WK (QD<|tu SG SG Za (pv 0)<|yq (v:=V.int 14) Z T.g_MOST_PLACES.choose_spec ⟨_,Z⟩)
   (XM Vj)
   Zo)
   (XR (WK (Ze UP (Zf (Zk K) uw T.n_len Boot.«len»<|XZ (pv 1) XY) (yq (v:=V.int 30) Z T.g_MOST_TIES.choose_spec ⟨_,Z⟩)<|Zq _)
   (XM Vj)
   Zo)
   (XM (TK Wr Z (Lg K<|pv 1) (Zg (i:=2) AZ.nd Z<|Or.inl Z)
   (XM (TK Wr Z (DC K<|pv 2) (Zg (i:=3) AZ.nd Z<|Or.inl Z)
   (XM (WK (QD<|tu SG SH Za (pv 3)<|pv 0)
   (XM Vj)
   Zo)))))))),?_⟩
  refine⟨_,Z,_,_,Z,Z,_,Z,?_⟩;refine xU g1 ?_;refine⟨_,_,Z,Z,_,Z,?_⟩;refine Lh g2 ?_;refine⟨_,Z,a,xs,Z,hS.or,_,_,Z,Z,_,Z,?_⟩;refine IZ (by rw[hp.1];lia) ?_;refine⟨_,Z,a,Z,xT (k:=kd) (K:=K) (xs:=xs) (λi σ H2=>∃v v2,σ=[some (.int n),some<|.ref a,v,v2]/\H2=H) ⟨none,none,Z,Z⟩ (λi σ H2 _ zz=>by obtain⟨_,_,_,e⟩:=zz;exact e▸hS) ?_ ?_⟩
  .rintro i x σ H2 hi ⟨v,v2,rfl,rfl⟩;obtain⟨p,Pq,tt,rfl,ht⟩:=hp.at hi;obtain⟨e1,e2,e3,e4⟩:=g4 p (Xf Pq);refine⟨_,Z,tt,Z,⟨_,SqT.of ht⟩,d3 (K:=K) (a:=tt) (xs:=[.int p.1,.int p.2]) (λj σ H3=>∃v v2,σ=[some (.int n),some<|.ref a,v,v2]/\H3=H2) ⟨_,_,Z,Z⟩ (λj σ H3 _ zz=>by obtain⟨_,_,_,e⟩:=zz;exact e▸SqT.of ht) ?_ ?_⟩
   .rintro j y σ H3 hj ⟨v,v2,rfl,rfl⟩;have hy:∃z:Int,y=.int z/\0<=z/\z<n:=by
     match j,hj with
     |0,hj=>exact⟨p.1,(Yh hj).symm,e1,e2⟩
     |1,hj=>exact⟨p.2,(Yh hj).symm,e3,e4⟩
    obtain⟨z,rfl,z1,z2⟩:=hy;refine⟨_,Z,_,_,Z,Z,_,Z,?_⟩;refine xU z1 ?_;refine⟨_,Z,_,_,Z,Z,_,Z,?_⟩;refine Lh z2 ?_;exact⟨_,_,Z,Z⟩
   .rintro σ H3 ⟨v,v2,rfl,rfl⟩;exact⟨_,_,Z,Z⟩
  .rintro σ H2 ⟨v,v2,rfl,rfl⟩;exact q
noncomputable def j6(K:Ad)(C:Addr):Sp:=λvs H Q _=>∃w dx n a kd xs ps,vs=[.ref w,.int n,.ref a]/\H w=some (.ins C dx [])/\(∀o,SqK kd K (upd H w o) a xs)/\PairsV H xs ps/\Zw n ps/\
 ∀H':Hp,WebAt C H' w n ps->(∀b o,H b=some o->b≠w->H' b=some o)->Q .non H'
theorem j5:FnScope ["self","places","ties"] ["self","places","ties"] (Xv sZ8):=Wt D
theorem AY (T:Txt K mg t):FnOk P w K mg base Xl 2 t.aZ8 t.dZ8 ["self","places","ties"] (j6 K t.A_Web):=by
 refine T.fZ8.ok j5 (λvs H Q E h=>?_) (λXG A outer s H vs Q E hr h=>?_)
 .obtain⟨w,dx,n,a,kd,xs,ps,rfl,_⟩:=h;rfl
 .obtain⟨w,dx,n,a,kd,xs,ps,rfl,hw,hS,hp,g,q⟩:=h;have eH:upd H w (.ins t.A_Web dx [])=H:=by
   funext b
   by_cases hb:b=w
   .subst hb;rw[XS,hw]
   .rw[Zc hb]
  have Gi:SqK kd K H a xs:=by have z:=hS (.ins t.A_Web dx []);rwa[eH]at z
  refine⟨_,(XR (ZS<|XC (j7 T) hr T.q_refuse_bad_web Zs<|XZ (pv 1)<|XZ (pv 2) XY)
   (XR (MX (pv 0) (pv 1) Z)
   (XM<|MX (pv 0) (TZ Z (sc0:=Xv sZ8) (N0:=["self","places","ties"]) (N':=["ends"]) (o:=1) (fr:=[]) ⟨Z,D,D,D,Z,D⟩ (Lg K<|pv 2) (Zv S) (λ_ _ _ _=>(Zg (i:=0) (show List.Nodup (["ends"]:List Str) by decide +kernel) Z<|Or.inl Z)) (λ_ _ _ _=>ZX) λ_ _ _ _=>(UE<|XZ (Zy (ZF K) (pv 0) Za λ_ _=>rfl)<|XZ (Zy (ZF K) (pv 0) Za λ_ _=>rfl) XY)) Z))),?_⟩
  refine⟨_,Z,_,Z,n,a,kd,xs,ps,Z,Gi,hp,g,?_⟩;refine⟨_,Z,_,Z,w,_,dx,[],Z,hw,T.cl_Web,T.n_Web_places,(by show 0<1000;decide),?_⟩;have Vm:PairsV (upd H w<|.ins t.A_Web dx<|XQ "places" (.int n) []) xs ps:=⟨hp.1,λi p e=>by obtain⟨v,e1,tt,e2,e3⟩:=hp.2 i p e;exact⟨v,e1,tt,e2,by rwa[Zc (Nh e3 hw (λz=>nomatch z))]⟩⟩
  have sx:xs.length<sizeLine:=Zl (by rw[hp.1];have:=g.2.2.1;lia);refine⟨_,Z,a,Z,xS (k:=kd) (K:=K) (xs:=xs) (λi ys H2=>i<=xs.length/\ys.length=i/\Same (upd H w<|.ins t.A_Web dx<|XQ "places" (.int n) []) H2/\PairsV H2 ys (ps.take i)) ⟨Ym _,Z,Same.refl _,PairsV.nil⟩ sx
   (λi ys H2 _ zz=>by obtain⟨_,hl,s2,_⟩:=zz;exact⟨(hS _).same s2,Nat.le_of_eq hl⟩) ?_ ?_⟩
  .rintro i x ys H2 hi ⟨h1,hl,s2,hy⟩ uo Xm;obtain⟨p,Pq,tt,rfl,ht⟩:=Vm.at hi;have HJ:=s2 _ _ ht
   refine NU ?_;refine⟨_,Z,tt,_,0,.int p.1,Z,Z,SqT.of HJ,Z,_,Z,tt,_,1,.int p.2,Z,Z,SqT.of HJ,Z,(by show 2<=sizeLine;decide),λq hq=>?_⟩;have VC:i<xs.length:=(Xs.mp hi).1
   refine Xm _ _ ⟨VC,by rw[Xt,hl];rfl,Zu s2 hq,?_⟩;rw[YL,Pq];exact(hy.same<|XN hq).snoc ⟨q,Z,XS⟩
  .rintro ys H2 ⟨_,hl,s2,hy⟩ tl j4;have j3:=s2 w _ XS
   have nwt:w≠tl:=Zd j3 j4;refine⟨_,Z,w,_,dx,_,Z,(by rwa[Zc nwt]),T.cl_Web,T.n_Web_ties,(by show 1<1000;decide),?_⟩;refine q _ ⟨dx,tl,ys,XS,by rw[Zc (XI nwt),XS],?_⟩ λb ob e hb=>?_
   .have e1:ps.take xs.length=ps:=YN (by rw[hp.1];exact XO _);rw[e1]at hy;refine⟨hy.1,λi p e=>?_⟩;obtain⟨v,e2,tt,e3,e4⟩:=hy.2 i p e;exact⟨v,e2,tt,e3,by rwa[Zc (Nh e4 j3 (λz=>nomatch z)),Zc (Zd e4 j4)]⟩
   .have e2:=s2 b ob (by rwa[Zc hb]);rwa[Zc hb,Zc (Zd e2 j4)]
noncomputable def j0(K:Ad)(C:Addr):Sp:=λvs H Q _=>∃w n ps,vs=[.ref w]/\WebAt C H w n ps/\ps.length<=1000/\
 ∀r H',Same H H'->H r=none->H' r=some (.tup<|IL<|Wg ps.length)->Q (.ref r) H'
theorem AX(T:Txt K mg t):Xg P w base Xl T.q_all_ties 1 (j0 K t.A_Web):=by
 refine T.q_all_ties.ok ["web"] D (λvs H Q E h=>?_) (λXG A outer s H vs Q E hr h=>?_)
 .obtain⟨w,n,ps,rfl,_⟩:=h;rfl
 .obtain⟨w,n,ps,rfl,⟨dx,tl,xs,h1,h2,h3⟩,hl,q⟩:=h;refine⟨_,(XM<|Zi<|Zm (ZG3 Z) uw T.n_tuple Boot.«tuple»<|XZ (Zm dz uw T.n_range Boot.«range»<|XZ (Zf (Zk K) uw T.n_len Boot.«len»<|XZ (Zp K (pv 0) Z) XY) XY) XY),?_⟩;have hx:=h3.1
  refine⟨_,Z,w,_,dx,_,_,Z,h1,T.cl_Web,T.n_Web_ties,Pu _ _,tl,xs,Z,.inl<|SqL.of h2,_,Z,λr hr=>⟨r,0,_,Z,XS,⟨S,S,J,J⟩,J,λl hl=>?_⟩⟩;refine q l _ (Zu (XN hr) hl) ((XN hr).free hl) ?_;rw[XS,hx,pX]
noncomputable def jZ(K:Ad)(C:Addr):Sp:=λvs H Q _=>∃w a n ps kd T,vs=[.ref w,.ref a]/\WebAt C H w n ps/\ps.length<=1000/\SqK kd K H a (IL T)/\
 ∀um,um.Pairwise (·<·)->(∀z,z∈um↔(0<=z/\z<(ps.length:Int))/\z∉T)->∀r H',Same H H'->H' r=some (.tup<|IL um)->Q (.ref r) H'
theorem jY(T:Txt K mg t):Xg P w base Xl T.q_ties_beside 1 (jZ K t.A_Web):=by
 refine T.q_ties_beside.ok ["web","ties"] D (λvs H Q E h=>?_) (λXG A outer s H vs Q E hr h=>?_)
 .obtain⟨w,a,n,ps,kd,T,rfl,_⟩:=h;rfl
 .obtain⟨w,a,n,ps,kd,T',rfl,hW,hl,hA,q⟩:=h;refine⟨_,(XM<|Zi<|Zm (ZK K) uw T.n_tuple Boot.«tuple»<|XZ (TZ Z (sc0:=Xv<|top 24) (N0:=["web","ties"]) (N':=["tie","ties"]) (o:=1) (fr:=[1]) ⟨Z,D,D,D,Z,D⟩ (ZV Z T.n_range<|XZ (Zf (Zk K) uw T.n_len Boot.«len»<|XZ (Zp K (pv 0) Z) XY) XY) (Zv S) (λ_ _ _ _=>(Zg (i:=0) (show List.Nodup (["tie","ties"]:List Str) by decide +kernel) Z<|Or.inl Z)) (λ_ _ _ _=>(Rq<|Ze (ZW K) (pv 0) (pv 1) Z)) λ_ _ _ _=>(pv 0)) XY),?_⟩;obtain⟨dx,tl,xs,h1,h2,h3⟩:=hW;have NO:=h3.1
  refine⟨_,Z,w,_,dx,_,_,Z,h1,T.cl_Web,T.n_Web_ties,Pu _ _,tl,xs,Z,.inl<|SqL.of h2,_,Z,J,J,xR (lo:=0) (n:=(xs.length:Int).toNat) (λj ys H3=>H3=H/\∃um:Ac,ys=IL um/\um.length<=j/\um.Pairwise (·<·)/\∀z,z∈um↔(0<=z/\z<(j:Int))/\z∉T') ⟨Z,[],Z,XO _,.nil,λz=>⟨λh=>(by cases h),λh=>(by lia)⟩⟩ (Zl J) (λj ys H3 _ zz=>by obtain⟨_,um,e,hl,_⟩:=zz;rwa[e,Xx]) ?_ ?_⟩
  .rintro j ys H3 hj ⟨rfl,um,rfl,hDl,hp,hm⟩ uo Xm;have lt:∀z∈um,z<(j:Int):=λz hz=>((hm z).mp hz).1.2
   refine nm ?_;refine⟨_,Z,_,Z,a,_,Z,hA.or,Z,ZI _,_,Z,?_⟩;rw[ZT,JQ];refine WN (λWc=>?_) (λWc=>?_)
   .refine Xm _ _ ⟨Z,um,Z,J,hp,λz=>?_⟩;rw[hm z];refine⟨λh=>⟨J,h.2⟩,λh=>⟨⟨h.1.1,?_⟩,h.2⟩⟩;by_cases e:z=(j:Int)
    .exact absurd (e▸Wc) h.2
    .lia
   .refine⟨_,Z,Xm _ _ ⟨Z,um++[(j:Int)],?_,by rw[Xt];exact Nat.succ_le_succ hDl,?_,λz=>?_⟩⟩
    .rw[ZN]
    .exact Oq.mpr ⟨hp,GO _ _,λa ha b hb=>by rw[XF.mp hb];exact lt a ha⟩
    .rw[Xz,XF,hm z];constructor
     .rintro(⟨f1,f2⟩|h)
      .exact⟨J,f2⟩
      .rw[h];exact⟨J,Wc⟩
     .rintro⟨f1,f2⟩;by_cases e:z=(j:Int)
      .exact .inr e
      .exact .inl ⟨J,f2⟩
  rintro ys H3 ⟨rfl,um,rfl,hDl,hp,hm⟩ la jX;rw[show(((xs.length:Int).toNat:Nat):Int)=(ps.length:Int) by lia]at hm;refine⟨la,_,Z,.inl ⟨SqL.of XS,λtp jW=>?_⟩⟩;exact q um hp hm tp _ ((XN jX).trans (XN jW)) XS
noncomputable def jV(K:Ad):Sp:=λvs H Q _=>∃a kd ns z,vs=[.ref a,.int z]/\SqK kd K H a (IL ns)/\ns.length<=1000/\
 ∀r H',Same H H'->H r=none->H' r=some (.tup<|IL<|wo ns z)->Q (.ref r) H'
theorem HI(T:Txt K mg t):Xg P w base Xl T.q_ties_without 1 (jV K):=by
 refine T.q_ties_without.ok ["ties","left_out"] D (λvs H Q E h=>?_) (λXG A outer s H vs Q E hr h=>?_)
 .obtain⟨a,kd,ns,z,rfl,_⟩:=h;rfl
 .obtain⟨a,kd,ns,z,rfl,hS,hn,q⟩:=h;refine⟨_,(XM<|Zi<|Zm (ZK K) uw T.n_tuple Boot.«tuple»<|XZ (TZ Z (sc0:=Xv<|top 25) (N0:=["ties","left_out"]) (N':=["tie","left_out"]) (o:=1) (fr:=[1]) ⟨Z,D,D,D,Z,D⟩ (Lg K<|pv 0) (Zv S) (λ_ _ _ _=>(Zg (i:=0) (show List.Nodup (["tie","left_out"]:List Str) by decide +kernel) Z<|Or.inl Z)) (λ_ _ _ _=>(Rq<|Ze SI (pv 0) (pv 1)<|Zq _)) λ_ _ _ _=>(pv 0)) XY),?_⟩;refine⟨_,Z,a,Z,xS (k:=kd) (K:=K) (xs:=IL ns) (λi ys H2=>H2=H/\i<=ns.length/\ys=IL (wo (ns.take i) z)) ⟨Z,Ym _,Z⟩ (Zl<|by rw[Xx];lia)
   (λi ys H2 hi zz=>by obtain⟨e,Wb,ey⟩:=zz;exact⟨e▸hS,by rw[ey,Xx];exact Ys (Pn _ _)<|by rw[Yl];lia⟩) ?_ ?_⟩
  .rintro i x ys H2 hi ⟨rfl,VC,rfl⟩ uo Xm;obtain⟨y,rfl,hy⟩:=Uz hi;have Xo:i<ns.length:=(Xs.mp hy).1
   refine nm ?_;refine⟨_,Z,_,Z,Z,_,Z,?_⟩;rw[ZB];refine WN (λhe=>?_) (λhe=>?_)
   .refine Xm _ _ ⟨Z,Xo,?_⟩;rw[cT hy,if_neg (by simpa using he),YH]
   .refine⟨_,Z,Xm _ _ ⟨Z,Xo,?_⟩⟩;rw[cT hy,if_pos he,ZN]
  .rintro ys H2 ⟨rfl,_,rfl⟩ p hp;rw[Xx,YF];refine⟨p,_,Z,.inl ⟨SqL.of XS,λr hr=>?_⟩⟩;exact q r _ (Zu (XN hp) hr) ((XN hp).free hr) XS
noncomputable def jU(K:Ad)(C:Addr):Sp:=λvs H Q _=>∃w a n ps kd ns,vs=[.ref w,.ref a]/\WebAt C H w n ps/\SqK kd K H a (IL ns)/\∀b:Bool,(b=true↔IsSet ps.length ns)->Q (.bl b) H
theorem HH:FnScope ["web","ties","last","tie"] ["web","ties"] (Xv (top 26)):=Wt D
theorem AW(T:Txt K mg t):Xg P w base Xl T.q_is_set 2 (jU K t.A_Web):=by
 refine T.q_is_set.ok ["web","ties","last","tie"] D (λvs H Q E h=>?_) (λXG A outer s H vs Q E hr h=>?_)
 .obtain⟨w,a,n,ps,kd,ns,rfl,_⟩:=h;rfl
 .obtain⟨w,a,n,ps,kd,ns,rfl,hW,hS,q⟩:=h;refine⟨_,(XR (Zj (i:=2) HH.nd Z (Or.inl Z)<|Jq Jp Za)
   (XR (TK Wr Z (Lg K<|pv 1) (Zg (i:=3) HH.nd Z<|Or.inl Z)
   (XR (WK (PW.pt<|SM (Ze SG (pv 3) (pv 2)<|Zq _)<|QE<|QD<|Rw<|XC (Ba T) hr T.q_is_tie Zs<|XZ (pv 0)<|XZ (pv 3) XY)
   (XM<|Zi VG)
   Zo)
   (XM<|Zj (i:=2) HH.nd Z (Or.inl Z)<|pv 3)))
   (XM<|Zi VG))),?_⟩
  refine⟨_,Z,?_⟩;refine⟨_,Z,a,Z,xT (k:=kd) (K:=K) (xs:=IL ns) (λi σ H2=>∃l v,σ=[some (.ref w),some<|.ref a,some<|.int l,v]/\H2=H/\(i=0->l=-1)/\(i≠0->ns[i-1]?=some l)/\∀j z,j<i->ns[j]?=some z->0<=z/\z<(ps.length:Int)/\∀y,j≠0->ns[j-1]?=some y->y<z)
   ⟨-1,none,Z,Z,λ_=>rfl,λz=>absurd Z z,λj z hj=>absurd hj<|Wk j⟩ (λi σ H2 _ zz=>by obtain⟨_,_,_,e,_⟩:=zz;exact e▸hS) ?_ ?_⟩
  .rintro i x σ H2 hi ⟨l,v,rfl,rfl,Qw,To,hp⟩;obtain⟨z,rfl,hz⟩:=Uz hi;refine⟨_,Z,_,Z,_,_,Z,Z,_,Z,?_⟩;refine Xd (λhc=>?_) (λhc=>?_)
   .-- tie<=last
    refine We ?_;refine q false ⟨λz=>(nomatch z),λhs=>?_⟩;obtain⟨b1,b2,b3⟩:=hs i z hz;by_cases h0:i=0
    .have:=Qw h0;lia
    .have:=b3 l h0 (To h0);lia
   .refine⟨_,Z,_,Z,w,n,ps,z,Z,hW,_,Z,?_⟩;refine WN (λVi=>?_) (λVi=>?_)
    .refine⟨_,Z,?_⟩;refine⟨z,_,Z,Z,λe=>(nomatch e),λ_=>by simpa using hz,λj y hj ey=>?_⟩;by_cases hji:j<i
     .exact hp j y hji ey
     .have e:j=i:=J;subst e;rw[hz]at ey;cases ey;refine⟨Vi.1,Vi.2,λy h0 ey=>?_⟩;rw[To h0]at ey;cases ey;lia
    .refine q false ⟨λz=>(nomatch z),λhs=>?_⟩;obtain⟨b1,b2,b3⟩:=hs i z hz;exact absurd ⟨b1,b2⟩ Vi
  .rintro σ H2 ⟨l,v,rfl,rfl,Qw,To,hp⟩;refine q true ⟨λ_ i z hz=>?_,λ_=>rfl⟩;have hi:i<(IL ns).length:=by rw[Xx];exact(Xs.mp hz).1
   exact hp i z hi hz
noncomputable def jT(K:Ad)(C:Addr):Sp:=λvs H Q _=>∃w a n ps kd ns,vs=[.ref w,.ref a]/\WebAt C H w n ps/\SqK kd K H a (IL ns)/\IsSet ps.length ns/\
 ∀r H',Same H H'->SqT K H' r (IL ns)->Q (.ref r) H'
theorem jS(T:Txt K mg t):Xg P w base Xl T.q_made_set 3 (jT K t.A_Web):=by
 refine T.q_made_set.ok ["web","ties"] D (λvs H Q E h=>?_) (λXG A outer s H vs Q E hr h=>?_)
 .obtain⟨w,a,n,ps,kd,ns,rfl,_⟩:=h;rfl
 .obtain⟨w,a,n,ps,kd,ns,rfl,hW,hS,hI,q⟩:=h;refine⟨_,(XR (WK (QD<|Rw<|XC (AW T) hr T.q_is_set Zs<|XZ (pv 0)<|XZ (pv 1) XY)
   (XM Vj)
   Zo)
   (XM<|Zi<|Zm (ZK K) uw T.n_tuple Boot.«tuple»<|XZ (pv 1) XY)),?_⟩
  refine⟨_,Z,_,Z,w,a,n,ps,kd,ns,Z,hW,hS,λb hb=>⟨_,Z,?_⟩⟩;refine IY (λ_=>?_) (λz=>?_)
  .refine⟨_,Z,a,IL ns,Z,?_⟩;cases kd with
   |false=>exact .inl ⟨hS,λl hl=>q l _ (XN hl)<|SqT.of XS⟩
   |true=>exact .inr ⟨hS,q a H (Same.refl H) hS⟩
  .rw[hb.mpr hI]at z;cases z
noncomputable def jR(K:Ad)(C:Addr):Sp:=λvs H Q _=>∃w m a n ps M kd ns,vs=[.ref w,.ref m,.ref a]/\WebAt C H w n ps/\Zw n ps/\H m=some (.lst<|IL M)/\M.length=n.toNat/\SqK kd K H a (IL ns)/\(∀z∈ns,0<=z/\z<(ps.length:Int))/\
 ∀m' H',Same H H'->(m'=m\/H m'=none)->H' m'=some (.lst<|IL<|NP M<|XT ps ns)->Q (.ref m') H'
theorem OM:FnScope ["web","marks","ties","tie","ends","low","high"] ["web","marks","ties"] (Xv (top 28)):=Wt D
theorem AV(T:Txt K mg t):Xg P w base Xl T.q_merged_marks 1 (jR K t.A_Web):=by
 refine T.q_merged_marks.ok ["web","marks","ties","tie","ends","low","high"] D (λvs H Q E h=>?_) (λXG A outer s H vs Q E hr h=>?_)
 .obtain⟨w,m,a,n,ps,M,kd,ns,rfl,_⟩:=h;rfl
 .obtain⟨w,m0,a,n,ps,M0,kd,ns,rfl,⟨dx,tl,xs,h1,h2,h3⟩,⟨g1,g2,g3,g4⟩,hm,hlM,hS,hI,q⟩:=h;refine⟨_,(XR (TK Wr Z (Lg K<|pv 2) (Zg (i:=3) OM.nd Z<|Or.inl Z)
   (XR (Zj (i:=4) OM.nd Z (Or.inl Z)<|Zy (Zb K) (Zp K (pv 0) Z) (pv 3) λ_ _=>rfl)
   (XR (Zj (i:=5) OM.nd Z (Or.inr Z)<|Zf (PQ Z) uw T.n_min Boot.«min»<|XZ (Zy (Zb K) (pv 1) (Zy (ZF K) (pv 4) Za λ_ _=>rfl) λ_ _=>rfl)<|XZ (Zy (Zb K) (pv 1) (Zy (ZF K) (pv 4) Za λ_ _=>rfl) λ_ _=>rfl) XY)
   (XR (Zj (i:=6) OM.nd Z (Or.inr Z)<|Zf (yg Z) uw T.n_max Boot.«max»<|XZ (Zy (Zb K) (pv 1) (Zy (ZF K) (pv 4) Za λ_ _=>rfl) λ_ _=>rfl)<|XZ (Zy (Zb K) (pv 1) (Zy (ZF K) (pv 4) Za λ_ _=>rfl) λ_ _=>rfl) XY)
   (XM (WK (Ze SH (pv 5) (pv 6)<|Zq _)
   (XM<|QA (i:=1) Z OM.nd Z Z (sc0:=Xv<|top 28) (N0:=["web","marks","ties","tie","ends","low","high"]) (N':=["mark","high","low"]) (o:=1) (fr:=[6,5]) ⟨Z,D,D,D,Z,D⟩ (ZR K<|pv 1) (Zv S) (λ_ _ _ _=>(Zg (i:=0) (show List.Nodup (["mark","high","low"]:List Str) by decide +kernel) Z<|Or.inl Z)) (λ_ _ _ _=>ZX) λ_ _ _ _=>(EJ (Ze Sa (pv 0) (pv 1)<|Zq _) (pv 2)<|pv 0))
   Zo))))))
   (XM<|Zi<|pv 1)),?_⟩
  refine⟨_,Z,a,Z,xT (k:=kd) (K:=K) (a:=a) (xs:=IL ns) (λi σ H2=>∃m v3 v4 v5 v6,σ=[some (.ref w),some<|.ref m,some<|.ref a,v3,v4,v5,v6]/\Same H H2/\(m=m0\/H m=none)/\H2 m=some (.lst<|IL<|NP M0<|XT ps<|ns.take i))
   ⟨m0,none,none,none,none,Z,Same.refl _,.inl Z,hm⟩ (λi σ H2 _ zz=>by obtain⟨_,_,_,_,_,_,s2,_⟩:=zz;exact hS.same s2) ?_ ?_⟩
  .rintro i x σ H2 hi ⟨m,v3,v4,v5,v6,rfl,s2,Qr,VU⟩;obtain⟨z,rfl,hz⟩:=Uz hi;obtain⟨z0,z1⟩:=hI z (Xf hz);obtain⟨p,hp⟩:∃p,ps[z.toNat]?=some p:=⟨_,Xw J⟩;obtain⟨v,hv,tt,rfl,Tj⟩:=h3.2 z.toNat p hp;obtain⟨e1,e2,e3,e4⟩:=g4 p (Xf hp);have ed:ps.getD z.toNat (0,0)=p:=VZ hp
   refine⟨_,Z,w,_,dx,_,_,Z,s2 _ _ h1,T.cl_Web,T.n_Web_ties,Pu _ _,_,Z,tl,xs,z,.ref tt,Z,Z,SqL.of<|s2 _ _ h2,Zx (n:=z.toNat) J hv,?_⟩;have HJ:=s2 _ _ Tj
   have hl:(NP M0<|XT ps<|ns.take i).length=n.toNat:=(ZT6 _ _).trans hlM;generalize hM:NP M0 (XT ps<|ns.take i)=M at *;have ha:M[p.1.toNat]?=some (mk M p.1.toNat):=NS uu
   have hb:M[p.2.toNat]?=some (mk M p.2.toNat):=NS uu;have iA:Wo (IL M) p.1=some (.int<|mk M p.1.toNat):=Zx (n:=p.1.toNat) J (by rw[Yo,ha];rfl)
   have iB:Wo (IL M) p.2=some (.int<|mk M p.2.toNat):=Zx (n:=p.2.toNat) J (by rw[Yo,hb];rfl);have t0:Wo ([.int p.1,.int p.2]:List V) 0=some (.int p.1):=rfl
   have t1:Wo ([.int p.1,.int p.2]:List V) 1=some (.int p.2):=rfl;refine⟨_,rfl,_,rfl,tt,_,0,_,rfl,rfl,SqT.of HJ,t0,m,_,p.1,_,rfl,rfl,SqL.of VU,iA,_,rfl,_,rfl,tt,_,1,_,rfl,rfl,SqT.of HJ,t1,m,_,p.2,_,rfl,rfl,SqL.of VU,iB,_,_,rfl,?_⟩;refine⟨_,rfl,_,rfl,tt,_,0,_,rfl,rfl,SqT.of HJ,t0,m,_,p.1,_,rfl,rfl,SqL.of VU,iA,_,rfl,_,rfl,tt,_,1,_,rfl,rfl,SqT.of HJ,t1,m,_,p.2,_,rfl,rfl,SqL.of VU,iB,_,_,rfl,?_⟩;have eL:(if mk M p.2.toNat<mk M p.1.toNat then mk M p.2.toNat else mk M p.1.toNat)=min (mk M p.1.toNat) (mk M p.2.toNat):=by rw[Int.min_def];split<;>split<;>lia
   have eH:(if mk M p.2.toNat>mk M p.1.toNat then mk M p.2.toNat else mk M p.1.toNat)=max (mk M p.1.toNat) (mk M p.2.toNat):=by rw[Int.max_def];split<;>split<;>lia
   refine⟨_,Z,_,Z,_,_,Z,Z,_,Z,?_⟩;rw[eL,eH];have step:NP M0 (XT ps<|ns.take<|i+1)=pm M p.1.toNat p.2.toNat:=by rw[Zg6 hz,pY,hM,ed]
   refine Xd (λhc=>?_) (λhc=>?_)
   .refine⟨_,Z,m,Z,⟨_,SqL.of VU⟩,Rn (K:=K) (a:=m) (xs:=IL M) (λj ys H3=>H3=H2/\j<=M.length/\ys=IL ((M.take j).map λk=>if k=max (mk M p.1.toNat) (mk M p.2.toNat) then min (mk M p.1.toNat) (mk M p.2.toNat) else k)) ⟨Z,Ym _,Z⟩ (Zl<|by rw[Xx];grind)
     (λj ys H3 hj zz=>by obtain⟨e,MK,ey⟩:=zz;exact⟨e▸SqL.of VU,by rw[ey,Xx,Yb,Yl];lia⟩) ?_ ?_⟩
    .rintro j y ys H3 hj ⟨rfl,MK,rfl⟩ uo Xm;obtain⟨k,rfl,hk⟩:=Uz hj;refine NU ?_;refine⟨_,Z,_,Z,Z,_,Z,?_⟩;have VM:j<M.length:=(Xs.mp hk).1
     have app:∀r:Int,r=(if k=max (mk M p.1.toNat) (mk M p.2.toNat) then min (mk M p.1.toNat) (mk M p.2.toNat) else k)->
       IL ((M.take j).map λk=>if k=max (mk M p.1.toNat) (mk M p.2.toNat) then min (mk M p.1.toNat) (mk M p.2.toNat) else k)++[.int r]=IL ((M.take<|j+1).map λk=>if k=max (mk M p.1.toNat) (mk M p.2.toNat) then min (mk M p.1.toNat) (mk M p.2.toNat) else k):=by intro r er;rw[YL,hk,er];simp
     refine Xd (λhe=>?_) (λhe=>?_)
     .refine⟨_,Z,Xm _ _ ⟨Z,VM,app _ ?_⟩⟩;rw[if_pos (V.int.inj he)]
     .refine⟨_,Z,Xm _ _ ⟨Z,VM,app _ ?_⟩⟩;rw[if_neg λz=>he (XB V.int z)]
    .rintro ys H3 ⟨rfl,_,rfl⟩ p' HG;refine⟨p',_,_,_,_,Z,Zu s2 HG,.inr<|s2.free HG,?_⟩;rw[XS,step,Xx,YF];unfold pm;rw[if_pos hc]
   .refine⟨m,_,_,_,_,Z,s2,Qr,?_⟩;rw[VU,step];unfold pm;rw[if_neg hc]
  .rintro σ H2 ⟨m,v3,v4,v5,v6,rfl,s2,Qr,VU⟩;rw[Xx,YF]at VU;exact⟨_,Z,q m H2 s2 Qr VU⟩
noncomputable def jQ(K:Ad)(C:Addr):Sp:=λvs H Q _=>∃w a n ps ns,vs=[.ref w,.ref a]/\WebAt C H w n ps/\Zw n ps/\SqT K H a (IL ns)/\(∀z∈ns,0<=z/\z<(ps.length:Int))/\
 ∀m H',Same H H'->H m=none->H' m=some (.lst<|IL<|Xu n.toNat<|XT ps ns)->Q (.ref m) H'
theorem QQ(T:Txt K mg t):Xg P w base Xl T.q_piece_marks 2 (jQ K t.A_Web):=by
 refine T.q_piece_marks.ok ["web","ties"] D (λvs H Q E h=>?_) (λXG A outer s H vs Q E hr h=>?_)
 .obtain⟨w,a,n,ps,ns,rfl,_⟩:=h;rfl
 .obtain⟨w,a,n,ps,ns,rfl,hW,hG,hS,hI,q⟩:=h;refine⟨_,(XM<|Zi<|XC (AV T) hr T.q_merged_marks Zs<|XZ (pv 0)<|XZ (Zm (Zk4 Z) uw T.n_list Boot.«list»<|XZ (Zm dz uw T.n_range Boot.«range»<|XZ (Zp K (pv 0) Z) XY) XY)<|XZ (pv 1) XY),?_⟩;obtain⟨dx,tl,xs,h1,h2,h3⟩:=id hW;obtain⟨g1,g2,g3,g4⟩:=id hG;refine⟨_,Z,_,Z,w,_,dx,_,_,Z,h1,T.cl_Web,T.n_Web_places,IW _ _,n,Z,λr VH=>⟨r,0,n,Z,XS,⟨S,S,J,ur⟩,J,λm hm=>?_⟩⟩;have sm:Same H (upd (upd H r<|.rng 0 n) m<|.lst<|(Wa 0 n).map V.int):=Zu (XN VH) hm
  refine⟨_,Z,w,m,a,n,ps,(List.range n.toNat).map λ(i:Nat)=>(i:Int),true,ns,Z,hW.same sm,hG,?_,B,Li sm hS,hI,λm' H' s' hf Lf=>?_⟩
  .rw[XS,Zl8]
  .refine q m' H' (sm.trans s') ?_ Lf;rcases hf with rfl|hf
   .exact(XN VH).free hm
   .exact sm.free hf
noncomputable def jP(K:Ad)(C:Addr):Sp:=λvs H Q _=>∃w a n ps kd ns,vs=[.ref w,.ref a]/\WebAt C H w n ps/\Zw n ps/\SqK kd K H a (IL ns)/\IsSet ps.length ns/\
 ∀r as H',Same H H'->H r=none->H' r=some (.lst<|as.map V.ref)->r∉as->GrpAt H H' (IQ<|Xu n.toNat<|XT ps ns) as->Q (.ref r) H'
theorem HF:FnScope ["web","ties","pieces","place","mark"] ["web","ties"] (Xv (top 30)):=Wt D
theorem jO(T:Txt K mg t):Xg P w base Xl T.q_pieces_of 4 (jP K t.A_Web):=by
 refine T.q_pieces_of.ok ["web","ties","pieces","place","mark"] D (λvs H Q E h=>?_) (λXG A outer s H vs Q E hr h=>?_)
 .obtain⟨w,a,n,ps,kd,ns,rfl,_⟩:=h;rfl
 .obtain⟨w,a,n,ps,kd,ns,rfl,hW,hG,hS,hI,q⟩:=h;refine⟨_,(XR (Zj (i:=2) HF.nd Z (Or.inl Z) rP)
   (XR (TK Wr Z (Gn K Z T.n_enumerate<|XZ (XC (QQ T) hr T.q_piece_marks Zs<|XZ (pv 0)<|XZ (XC (jS T) hr T.q_made_set Zs<|XZ (pv 0)<|XZ (pv 1) XY) XY) XY) (NT (n:=2) K Z<|ZA (Zg (i:=3) HF.nd Z<|Or.inl Z)<|ZA (Zg (i:=4) HF.nd Z<|Or.inl Z) Of)
   (XM<|ZS<|TY K YU Kb Kc Jf (TY K e8 fw PySem.F.type_dict_setdefault qZ (pv 2)<|XZ (pv 4)<|XZ (Tc XY) XY)<|XZ (pv 3) XY))
   (XM<|Zi<|Zm (ZI3 Z) uw T.n_list Boot.«list»<|XZ (qK K e8 fi PySem.F.type_dict_values Zx8<|pv 2) XY))),?_⟩
  intro d hd;have s0:Same H (upd H d<|.dK []):=XN hd
  refine⟨_,Z,_,Z,_,Z,w,a,n,ps,kd,ns,Z,hW.same s0,hS.same s0,hI,λr H1 s1 VX=>?_⟩;refine⟨w,r,n,ps,ns,Z,(hW.same s0).same s1,hG,VX,hI.all,λm H2 s2 Tw VU=>?_⟩;have NJ:Same H H2:=(s0.trans s1).trans s2
  have hd2:H2 d=some (.dK []):=s2 _ _ (s1 _ _ XS);have hl:(Xu n.toNat<|XT ps ns).length=n.toNat:=ZD _ _
  generalize hM:Xu n.toNat (XT ps ns)=M at *;have Qr:H m=none:=(s0.trans s1).free Tw
  have n14:M.length<=14:=by have:=hG.2.1;grind
  refine⟨m,Z,⟨_,SqL.of VU⟩,?_⟩;refine dk (K:=K) (a:=m) (xs:=IL M) (λi σ H3=>∃as v3 v4,σ=[some (.ref w),some<|.ref a,some<|.ref d,v3,v4]/\i<=M.length/\Same H H3/\H3 m=some (.lst<|IL M)/\H3 d=some (.dK<|UN (Xr M i) as)/\d∉as/\m∉as/\GrpAt H H3 (Xr M i) as/\as.length<=i)
   ⟨[],none,none,Z,Ym _,NJ,VU,hd2,B,B,⟨Z,List.nodup_nil,λi kv a e=>by simp[Xr]at e,λa ha=>by simp at ha⟩,XO _⟩ (λi σ H3 _ zz=>by obtain⟨_,_,_,_,_,_,h,_⟩:=zz;exact SqL.of h) ?_ ?_
  .rintro i x σ H3 pt So hi ⟨as,v3,v4,rfl,VC,s3,AU,NI,wm,wk,gA,hal⟩;obtain⟨k,rfl,hk⟩:=Uz hi;have Ts:mk M i=k:=VZ hk
   have Xo:i<M.length:=(Xs.mp hk).1;have s4:Same H3 (upd H3 pt<|.tup [.int i,.int k]):=XN So
   refine⟨pt,_,Z,SqT.of XS,Z,_,_,Z,_,_,Z,Z,?_⟩;refine⟨_,Z,.inr<|.inr<|.inl ⟨Z,.inl ⟨_,s4 _ _ NI⟩⟩,_,Z,(by show 0<=sizeLine;exact Ym _),λl Qw=>?_⟩;have s5:Same H3 (upd (upd H3 pt<|.tup [.int i,.int k]) l<|.lst []):=Zu s4 Qw
   have hd5:=s5 _ _ NI;have Qq:H3 l=none:=s4.free Qw
   have jN:d≠l:=Zd NI Qq;have gl:=gA.len
   refine⟨d,UN (Xr M i) as,Sum.inl k,.ref l,Z,Z,hd5,?_,λv hv=>?_,λhv=>?_⟩
   .rw[Zt7 gl];exact Zl uu
   .-- the mark has XW list
    rcases qF (g:=Xr M i) (as:=as) (k:=k) gl with ⟨h1,_⟩|⟨j,kv,b,e1,e2,e3,e4⟩
    .rw[h1]at hv;cases hv
    .rw[e4]at hv;cases hv;have hb5:=s5 _ _ (gA.at_ j kv b e1 e2)
     have wx:k∈(Xr M i).map (·.1):=YA.mpr ⟨kv,Xf e1,e3⟩;have hlen:kv.2.length<=i:=qG (Xf e1)
     refine⟨.inl ⟨Z,_,SqL.of hb5⟩,_,Z,b,_,.int i,Z,Z,hb5,?_,?_⟩
     .rw[Xx];exact Zl uu
     .have HE:b∈as:=Xf e2;have Up:d≠b:=λz=>wm (z▸HE)
      have hmb:m≠b:=λz=>wk (z▸HE);have Mv:=gA.new b HE
      have Km:(Xr M<|i+1).map (·.1)=(Xr M i).map (·.1):=by show(SD (Xr M i) (i:Int)<|mk M i).map (·.1)=_;rw[ML,Ts,if_pos wx]
      refine⟨as,_,_,Z,Xo,Zz Mv<|s3.trans s5,by rw[Zc hmb];exact s5 _ _ AU,by rw[Zc Up,hd5,df Km],wm,wk,⟨?_,gA.nd,?_,gA.new⟩,J⟩
      .have:=XB List.length Km
       rw[Yb,Yb]at this;lia
      .intro i2 wj a2 f1 f2;have f1:(SD (Xr M i) (i:Int)<|mk M i)[i2]?=some wj:=f1
       unfold SD at f1;rw[Ts,if_pos wx,Yo]at f1;cases f3:(Xr M i)[i2]? with
       |none=>rw[f3]at f1;cases f1
       |some FK=>
        rw[f3]at f1;have f1:(if FK.1=k then (FK.1,FK.2++[(i:Int)]) else FK)=wj:=Yh f1
        by_cases hj:i2=j
        .subst hj;rw[e1]at f3;cases f3;rw[e2]at f2;cases f2;rw[if_pos e3]at f1;subst f1;rw[XS];simp
        .have Vy:a2≠b:=λz=>by subst z;exact hj (Gq gA.nd f2 e2)
         have hkk:¬FK.1=k:=λz=>hj (Gq (qH M i) (by rw[Yo,f3];exact XB some z)<|by rw[Yo,e1];exact XB some e3);rw[if_neg hkk]at f1;subst f1;rw[Zc Vy];exact s5 _ _ (gA.at_ i2 FK a2 f3 f2)
   .-- a new list
    rcases qF (g:=Xr M i) (as:=as) (k:=k) gl with ⟨h1,hkn⟩|⟨j,kv,b,e1,e2,e3,e4⟩
    .have AS:(upd (upd (upd H3 pt<|.tup [.int i,.int k]) l<|.lst []) d<|.dK<|UN (Xr M i) as++[(Sum.inl k,.ref l)]) l=some (.lst []):=by rw[Zc (XI jN),XS]
     refine⟨.inl ⟨Z,_,SqL.of AS⟩,_,Z,l,[],.int i,Z,Z,AS,(by show 0<sizeLine;decide),?_⟩;have AR:H l=none:=s3.free Qq
     have jM:l∉as:=λz=>by obtain⟨_,e⟩:=gA.mem z;rw[Qq]at e;cases e
     have NR:m≠l:=Zd AU Qq;have hmd:m≠d:=Nh AU NI (λz=>nomatch z)
     have jL:Xr M (i+1)=Xr M i++[(k,[(i:Int)])]:=by show SD (Xr M i) (i:Int) (mk M i)=_;unfold SD;rw[Ts,if_neg hkn]
     have hdH:H d=none:=hd;refine⟨as++[l],_,_,Z,Xo,Zz AR<|Zz hdH<|s3.trans s5,by rw[Zc NR,Zc hmd];exact s5 _ _ AU,?_,?_,?_,⟨?_,?_,?_,?_⟩,?_⟩
     .rw[Zc jN,XS,jL,de gl]
     .rw[Xz,XF];rintro(z|z)
      .exact wm z
      .exact jN z
     .rw[Xz,XF];rintro(z|z)
      .exact wk z
      .exact NR z
     .rw[jL,Xt,Xt,gl];rfl
     .exact dq gA.nd jM
     .intro i2 wj a2 f1 f2;rw[jL]at f1;by_cases Wb:i2<(Xr M i).length
      .rw[Yw Wb]at f1;rw[Yw J]at f2;have e:=gA.at_ i2 wj a2 f1 f2
       have n1:a2≠l:=Zd e Qq;have n2:a2≠d:=Nh e NI (λz=>nomatch z)
       rw[Zc n1,Zc n2];exact s5 _ _ e
      .have h2:i2=(Xr M i).length:=by
        have:=(Xs.mp f1).1
        rw[Xt,Yr]at this;grind
       subst h2;rw[Yv (XO _),Nu]at f1;rw[Yv J,gl,Nu]at f2;cases f1;cases f2;rw[XS];rfl
     .intro a2 ha2;rcases Xz.mp ha2 with z|z
      .exact gA.new a2 z
      .rw[XF.mp z];exact AR
     .rw[Xt,Yr];lia
    .rw[e4]at hv;cases hv
  .rintro σ H3 ⟨as,v3,v4,rfl,VC,s3,AU,NI,wm,wk,gA,hal⟩;rw[Xx]at NI gA;refine⟨_,Z,.inr<|.inr<|.inl ⟨Z,.inl ⟨_,NI⟩⟩,d,_,Z,Z,NI,λp hp=>?_⟩;have s6:Same H3 (upd H3 p<|Ro p d):=XN hp
   refine⟨p,d,_,Z,XS,s6 _ _ NI,λr VH=>?_⟩;have s7:Same H3 (upd (upd H3 p<|Ro p d) r (.lst ((UN (Xr M M.length) as).map (·.2)))):=Zu s6 VH
   refine q r as _ (s3.trans s7) ((s3.trans s6).free VH) (by rw[XS,dh gA.len]) (λz=>?_) (gA.same s7);obtain⟨_,e⟩:=gA.mem z;rw[s6.free VH]at e;cases e
noncomputable def jK(K:Ad)(C:Addr):Sp:=λvs H Q _=>∃w a n ps kd ns,vs=[.ref w,.ref a]/\WebAt C H w n ps/\Zw n ps/\SqK kd K H a (IL ns)/\IsSet ps.length ns/\
 ∀b H',Same H H'->(b=true↔(IQ<|Xu n.toNat<|XT ps ns).length=1)->Q (.bl b) H'
theorem AQ(T:Txt K mg t):Xg P w base Xl T.q_is_joined 5 (jK K t.A_Web):=by
 refine T.q_is_joined.ok ["web","ties"] D (λvs H Q E h=>?_) (λXG A outer s H vs Q E hr h=>?_)
 .obtain⟨w,a,n,ps,kd,ns,rfl,_⟩:=h;rfl
 .obtain⟨w,a,n,ps,kd,ns,rfl,hW,hG,hS,hI,q⟩:=h;refine⟨_,(XM<|Zi<|Oe Sa (Zf (Zk K) uw T.n_len Boot.«len»<|XZ (XC (jO T) hr T.q_pieces_of Zs<|XZ (pv 0)<|XZ (pv 1) XY) XY) Za<|Zq _),?_⟩;refine⟨_,Z,_,Z,w,a,n,ps,kd,ns,Z,hW,hG,hS,hI,λr as H' s1 VH VX hnr gA=>?_⟩;refine⟨r,_,Z,.inl<|SqL.of VX,Z,?_⟩;rw[Yb,gA.len,ZB];refine q _ H' s1 ?_;rw[YT];lia
noncomputable def jJ(K:Ad)(C:Addr):Sp:=λvs H Q _=>∃w n ps,vs=[.ref w]/\WebAt C H w n ps/\Zw n ps/\
 (xn n ps->∀H':Hp,Same H H'->Q .non H')/\(¬xn n ps->∀H':Hp,Same H H'->False)
theorem AO(T:Txt K mg t):Xg P w base Xl T.q_refuse_parted 6 (jJ K t.A_Web):=by
 refine T.q_refuse_parted.ok ["web"] D (λvs H Q E h=>?_) (λXG A outer s H vs Q E hr h=>?_)
 .obtain⟨w,n,ps,rfl,_⟩:=h;rfl
 .obtain⟨w,n,ps,rfl,hW,hG,q,qe⟩:=h;refine⟨_,(XM (WK (QD<|Rw<|XC (AQ T) hr T.q_is_joined Zs<|XZ (pv 0)<|XZ (XC (AX T) hr T.q_all_ties Zs<|XZ (pv 0) XY) XY)
   (XM Vj)
   Zo)),?_⟩
  refine⟨_,Z,_,Z,w,n,ps,Z,hW,by have:=hG.2.2.1;lia,λr H1 s1 VH VX=>?_⟩;refine⟨w,r,n,ps,true,Wg ps.length,Z,hW.same s1,hG,SqT.of VX,Ga _,λb H2 s2 hb=>⟨_,Z,?_⟩⟩;rw[cU (by have:=hG.1;lia) (ZO hG (Ga _).all)]at hb;refine IY (λz=>?_) (λz=>?_)
  .exact q (hb.mp z) H2 (s1.trans s2)
  .exact qe (λg=>by rw[hb.mpr g]at z;cases z) H2 (s1.trans s2)
noncomputable def jI(K:Ad)(C:Addr):Sp:=λvs H Q _=>∃w b n ps ws,vs=[.ref w,.ref b]/\WebAt C H w n ps/\Zw n ps/\SqL K H b (IL ws)/\ws.length=ps.length/\
 ∀r ys L H',Same H H'->H r=none->TabAt H r n.toNat H' ys L->(∀i j,i<n.toNat->j<n.toNat->fnL L i j=lapE (Vx ps ws) i j)->Q (.ref r) H'
theorem ZP6(x:V)(k:Nat):(List.replicate k [x]).flatten=List.replicate k x:=by
 induction k with
 |zero=>rfl
 |succ k ih=>rw[JY,Fq,ih,JY];rfl
theorem jH(n i j:Nat):fnL (List.replicate n (List.replicate n 0)) i j=0:=by
 unfold fnL;cases h:(List.replicate n<|List.replicate n (0:Int))[i]? with
 |none=>
  have e:(List.replicate n<|List.replicate n (0:Int)).getD i []=[]:=by rw[WJ,h];rfl
  rw[e];rfl
 |some l=>
  have e:(List.replicate n<|List.replicate n (0:Int)).getD i []=l:=by rw[WJ,h];rfl
  rw[e,yZ<|Xf h,WJ,yY];split<;>rfl
theorem TabAt.get{H0 H:Hp}{r:Addr}{n:Nat}{ys:List V}{L:Ab}(h:TabAt H0 r n H ys L){i j:Nat}(hi:i<n)(hj:j<n):∃A l x,ys[i]?=some (.ref A)/\H A=some (.lst (IL l))/\l[j]?=some x/\l.length=n/\x=fnL L i j/\H0 A=none/\∀y:Int,∃L':Ab,TabAt H0 r n (upd H A (.lst ((IL l).set j (.int y)))) ys L'/\∀a b,fnL L' a b=if a=i/\b=j then y else fnL L a b:=by
 obtain⟨A,l,y1,z1,hA,hl,hn,hr⟩:=h.at hi;obtain⟨x,hx⟩:∃x,l[j]?=some x:=⟨_,Xw J⟩;refine⟨A,l,x,y1,hA,hx,hl,(UL z1 hx).symm,hn,λy=>⟨L.set i<|l.set j y,?_,nY z1 J⟩⟩;have e:(IL l).set j (.int y)=IL (l.set j y):=(List.map_set ..).symm
 rw[e];exact h.put y1 z1 hr (by rwa[Lx])
theorem wg{xs:List V}{i:Int}(h0:0<=i)(h1:i<(xs.length:Int)):Oc xs.length i=some i.toNat:=by unfold Oc;rw[if_pos h0,if_pos ur]
theorem OL:FnScope ["web","weights","table","ends","weight","one","other"] ["web","weights"] (Xv (top 34)):=Wt D
theorem jG(T:Txt K mg t):Xg P w base Xl T.q_weighted_table 1 (jI K t.A_Web):=by
 refine T.q_weighted_table.ok ["web","weights","table","ends","weight","one","other"] D (λvs H Q E h=>?_) (λXG A outer s H vs Q E hr h=>?_)
 .obtain⟨w,b,n,ps,ws,rfl,_⟩:=h;rfl
 .obtain⟨w,b,n,ps,ws,rfl,hW,hG,hS,DR,q⟩:=h;refine⟨_,(XR (QA (i:=2) Z OL.nd Z Z (sc0:=Xv<|top 34) (N0:=["web","weights","table","ends","weight","one","other"]) (N':=["place","web"]) (o:=1) (fr:=[0]) ⟨Z,D,D,D,Z,D⟩ (ZV Z T.n_range<|XZ (Zp K (pv 0) Z) XY) (Zv S) (λ_ _ _ _=>(Zg (i:=0) (show List.Nodup (["place","web"]:List Str) by decide +kernel) Z<|Or.inl Z)) (λ_ _ _ _=>ZX) λ_ _ _ _=>(Zr DT (Tc<|XZ Za XY)<|Zp K (pv 1) Z))
   (XR (TK Wr Z (CM K Z T.n_zip<|XZ (Zp K (pv 0) Z)<|XZ (pv 1) XY) (NT (n:=2) K Z<|ZA (Zg (i:=3) OL.nd Z<|Or.inl Z)<|ZA (Zg (i:=4) OL.nd Z<|Or.inl Z) Of)
   (XR (Zj (i:=5) OL.nd Z (Or.inl Z)<|Zy (ZF K) (pv 3) Za λ_ _=>rfl)
   (XR (Zj (i:=6) OL.nd Z (Or.inl Z)<|Zy (ZF K) (pv 3) Za λ_ _=>rfl)
   (XM (WK (Ze SI (pv 5) (pv 6)<|Zq _)
   (XR (Nd (Zy (Zb K) (pv 2) (pv 5) λ_ _=>rfl) (pv 5) (wZ K) (pv 4) Lr Rt)
   (XR (Nd (Zy (Zb K) (pv 2) (pv 6) λ_ _=>rfl) (pv 6) (wZ K) (pv 4) Lr Rt)
   (XR (Nd (Zy (Zb K) (pv 2) (pv 5) λ_ _=>rfl) (pv 6) (wZ K) (pv 4) Lq Rt)
   (XM<|Nd (Zy (Zb K) (pv 2) (pv 6) λ_ _=>rfl) (pv 5) (wZ K) (pv 4) Lq Rt))))
   Zo)))))
   (XM<|Zi<|pv 2))),?_⟩
  obtain⟨dx,tl,xs,h1,h2,h3⟩:=id hW;have hl:=h3.1
  obtain⟨g1,g2,g3,g4⟩:=id hG;have one:1<=sizeLine:=S
  refine⟨_,Z,w,_,dx,_,_,Z,h1,T.cl_Web,T.n_Web_places,IW _ _,n,Z,J,J,xR (lo:=0) (n:=n.toNat) (λi zs H2=>Same H H2/\Bears (Rm H2) zs (List.replicate i<|List.replicate n.toNat 0)/\zs.Nodup/\∀A,V.ref A∈zs->H A=none/\∃o,H2 A=some o) ⟨Same.refl _,⟨Z,λi l e=>by simp at e⟩,.nil,λA h=>(by cases h)⟩ (Zl J) (λi zs H2 _ zz=>by obtain⟨_,e,_⟩:=zz;rw[e.1,YK];exact XO _) ?_ ?_⟩
  .rintro i zs H2 hi ⟨s2,hZ,Tv,Rr⟩ uo Xm;refine nm ?_;refine⟨one,λp1 Vm=>?_⟩;have u1:=XN (o:=.lst [.int 0]) Vm
   refine⟨_,Z,w,_,dx,_,_,Z,u1 _ _<|s2 _ _ h1,T.cl_Web,T.n_Web_places,IW _ _,p1,n,_,Z,Z,XS,J,J,MO (by show 1*n.toNat<=_;lia),λp2 VY=>?_⟩;have e0:(List.replicate n.toNat [V.int 0]).flatten=IL (List.replicate n.toNat 0):=by rw[ZP6];show _=(List.replicate n.toNat 0).map V.int;rw[List.map_replicate]
   rw[e0];have u2:=u1.trans (XN (o:=.lst<|IL<|List.replicate n.toNat 0) VY)
   have AN:H2 p2=none:=(XN Vm).free VY;refine Xm _ _ ⟨s2.trans u2,?_,?_,λA hA=>?_⟩
   .rw[List.replicate_succ'];exact(hZ.imp λ_ _ zz=>by obtain⟨r',e,h⟩:=zz;exact⟨r',e,u2 _ _ h⟩).snoc ⟨p2,Z,XS⟩
   .refine YR.mpr ⟨Tv,B,λx hx y hy e=>?_⟩;rw[XF.mp hy]at e;obtain⟨_,o,ho⟩:=Rr p2 (e▸hx);rw[AN]at ho;cases ho
   .rcases Xz.mp hA with e|e
    .obtain⟨a1,o,a2⟩:=Rr A e;exact⟨a1,o,u2 _ _ a2⟩
    .have e':A=p2:=by simpa using e
     rw[e'];exact⟨s2.free AN,_,XS⟩
  rintro zs H2 ⟨s2,hZ,Tv,Rr⟩ tA OK;have s3:=s2.trans (XN (o:=.lst zs) OK)
  have jF:H tA=none:=s2.free OK;have hT:TabAt H tA n.toNat (upd H2 tA<|.lst zs) zs (List.replicate n.toNat<|List.replicate n.toNat 0):=⟨XS,hZ.imp λ_ _ zz=>by obtain⟨r',e,h⟩:=zz;exact⟨r',e,XN OK _ _ h,Zd h OK⟩,YK,λl h=>by rw[yZ h];exact YK,Tv,λA h=>(Rr A h).1⟩
  have hzero:∀i j,fnL (List.replicate n.toNat<|List.replicate n.toNat 0) i j=0:=λi j=>by
   have:=jH n.toNat i j
   exact this
  generalize upd H2 tA (.lst zs)=H3 at *;generalize List.replicate n.toNat (List.replicate n.toNat (0:Int))=L0 at *;refine⟨_,Z,w,_,dx,_,_,Z,s3 _ _ h1,T.cl_Web,T.n_Web_ties,Pu _ _,_,Z,tl,b,Z,⟨_,_,SqL.of<|s3 _ _ h2,s3.seq hS⟩,nZ (K:=K) (a:=tl) (b:=b) (xs:=xs) (ys:=IL ws) (by rw[Xx];lia) (λi σ H4=>∃L v3 v4 v5 v6,σ=[some (.ref w),some<|.ref b,some<|.ref tA,v3,v4,v5,v6]/\Same H H4/\TabAt H tA n.toNat H4 zs L/\∀x y,x<n.toNat->y<n.toNat->fnL L x y=lapE (Vx (ps.take i)<|ws.take i) x y) ⟨L0,none,none,none,none,Z,s3,hT,λx y _ _=>hzero x y⟩ (λi σ H4 _ zz=>by obtain⟨_,_,_,_,_,_,e,_⟩:=zz;exact⟨SqL.of<|e _ _ h2,e.seq hS⟩) ?_ ?_⟩
  .rintro i v v' σ H4 pt So hi Po ⟨L,v3,v4,v5,v6,rfl,s4,jE,OJ⟩;obtain⟨p,hp,tt,rfl,Tj⟩:=h3.at hi;obtain⟨wt,rfl,hwt⟩:=Uz Po;obtain⟨e1,e2,e3,e4⟩:=g4 p (Xf hp);have u1:=XN (o:=.tup [.ref tt,.int wt]) So
   refine⟨pt,_,Z,SqT.of XS,Z,_,_,Z,_,_,Z,Z,?_⟩;have jD:=jE.same u1
   have s5:=s4.trans u1;generalize upd H4 pt (.tup [.ref tt,.int wt])=H5 at *;refine⟨_,Z,tt,_,0,.int p.1,Z,Z,SqT.of<|s5 _ _ Tj,Z,?_⟩;refine⟨_,Z,tt,_,1,.int p.2,Z,Z,SqT.of<|s5 _ _ Tj,Z,?_⟩;refine⟨_,Z,_,Z,Z,_,Z,?_⟩;rw[ZB];have esn:=nX hp hwt
   refine WN (λheq=>?_) (λXJ=>?_)
   .refine⟨L,_,_,_,_,Z,s5,jD,λx y hx hy=>?_⟩;rw[esn,bK (by show p.1.toNat=p.2.toNat;rw[heq])];exact OJ x y hx hy
   have IM:p.1.toNat≠p.2.toNat:=λe=>XJ uu;obtain⟨A1,l1,x1,y1,Sx,hx1,To,oW,AM,jC⟩:=jD.get (i:=p.1.toNat) (j:=p.1.toNat) uu J;refine⟨_,Z,_,Z,tA,zs,p.1,.ref A1,Z,Z,SqL.of jD.tab,Zx (n:=p.1.toNat) J y1,_,Z,A1,_,p.1,.int x1,Z,Z,SqL.of Sx,J,UA hx1,_,Z,_,_,Z,Z,A1,_,p.1,p.1.toNat,Z,Z,Sx,wg J (by rw[Xx];grind),?_⟩;obtain⟨L1,hT6,FJ⟩:=jC (x1+wt);have s6:Same H (upd H5 A1<|.lst<|(IL l1).set p.1.toNat (.int<|x1+wt)):=Zz AM s5
   generalize upd H5 A1 (.lst<|(IL l1).set p.1.toNat (.int<|x1+wt))=H6 at *;rw[oW]at FJ;obtain⟨A2,l2,x2,y2,TX,jB,RZ,ex2,Od,put2⟩:=hT6.get (i:=p.2.toNat) (j:=p.2.toNat) uu J;refine⟨_,Z,_,Z,tA,zs,p.2,.ref A2,Z,Z,SqL.of hT6.tab,Zx (n:=p.2.toNat) J y2,_,Z,A2,_,p.2,.int x2,Z,Z,SqL.of TX,J,UA jB,_,Z,_,_,Z,Z,A2,_,p.2,p.2.toNat,Z,Z,TX,wg J (by rw[Xx];grind),?_⟩;obtain⟨L2,hT7,Ma⟩:=put2 (x2+wt);have s7:Same H (upd H6 A2<|.lst<|(IL l2).set p.2.toNat (.int<|x2+wt)):=Zz Od s6
   generalize upd H6 A2 (.lst<|(IL l2).set p.2.toNat (.int<|x2+wt))=H7 at *;rw[ex2]at Ma;obtain⟨A3,l3,x3,y3,MH,hx3,Qq,ex3,hn3,put3⟩:=hT7.get (i:=p.1.toNat) (j:=p.2.toNat) uu uu;refine⟨_,Z,_,Z,tA,zs,p.1,.ref A3,Z,Z,SqL.of hT7.tab,Zx (n:=p.1.toNat) J y3,_,Z,A3,_,p.2,.int x3,Z,Z,SqL.of MH,J,UA hx3,_,Z,_,_,Z,Z,A3,_,p.2,p.2.toNat,Z,Z,MH,wg J (by rw[Xx];grind),?_⟩;obtain⟨L3,hT8,hf3⟩:=put3 (x3-wt);have s8:Same H (upd H7 A3<|.lst<|(IL l3).set p.2.toNat (.int<|x3-wt)):=Zz hn3 s7
   generalize upd H7 A3 (.lst<|(IL l3).set p.2.toNat (.int<|x3-wt))=H8 at *;rw[ex3]at hf3;obtain⟨A4,l4,x4,y4,NH,we,hl4,ex4,jA,jz⟩:=hT8.get (i:=p.2.toNat) (j:=p.1.toNat) uu uu;refine⟨_,Z,_,Z,tA,zs,p.2,.ref A4,Z,Z,SqL.of hT8.tab,Zx (n:=p.2.toNat) J y4,_,Z,A4,_,p.1,.int x4,Z,Z,SqL.of NH,J,UA we,_,Z,_,_,Z,Z,A4,_,p.1,p.1.toNat,Z,Z,NH,wg J (by rw[Xx];grind),?_⟩;obtain⟨L4,hT9,wd⟩:=jz (x4-wt);have s9:Same H (upd H8 A4<|.lst<|(IL l4).set p.1.toNat (.int<|x4-wt)):=Zz jA s8
   generalize upd H8 A4 (.lst<|(IL l4).set p.1.toNat (.int<|x4-wt))=H9 at *;rw[ex4]at wd;refine⟨L4,_,_,_,_,Z,s9,hT9,λx y hx hy=>?_⟩;rw[esn,ox,<-OJ x y hx hy];exact four IM x y FJ Ma hf3 wd
  .rintro σ H4 ⟨L,v3,v4,v5,v6,rfl,s4,jE,OJ⟩;rw[hl,YF,<-DR,YF]at OJ;exact⟨_,Z,q tA zs L H4 s4 jF jE OJ⟩
noncomputable def jy(K:Ad)(C:Addr):Sp:=λvs H Q _=>∃w n ps,vs=[.ref w]/\WebAt C H w n ps/\Zw n ps/\
 ∀r ys L H',Same H H'->H r=none->TabAt H r n.toNat H' ys L->(∀i j,i<n.toNat->j<n.toNat->fnL L i j=lapE (Vx ps<|List.replicate ps.length 1) i j)->Q (.ref r) H'
theorem jx(T:Txt K mg t):Xg P w base Xl T.q_pull_table 2 (jy K t.A_Web):=by
 refine T.q_pull_table.ok ["web"] D (λvs H Q E h=>?_) (λXG A outer s H vs Q E hr h=>?_)
 .obtain⟨w,n,ps,rfl,_⟩:=h;rfl
 .obtain⟨w,n,ps,rfl,hW,hG,q⟩:=h;refine⟨_,(XM<|Zi<|XC (jG T) hr T.q_weighted_table Zs<|XZ (pv 0)<|XZ (Zr DT (Tc<|XZ Za XY)<|Zf (Zk K) uw T.n_len Boot.«len»<|XZ (Zp K (pv 0) Z) XY) XY),?_⟩;obtain⟨dx,tl,xs,h1,h2,h3⟩:=id hW;have hl:=h3.1
  have g3:=hG.2.2.1;refine⟨_,Z,(by show 1<=sizeLine;decide),λp1 Vm=>?_⟩;have u1:=XN (o:=.lst [.int 1]) Vm
  refine⟨_,Z,w,_,dx,_,_,Z,u1 _ _ h1,T.cl_Web,T.n_Web_ties,Pu _ _,tl,xs,Z,.inl<|SqL.of<|u1 _ _ h2,p1,(xs.length:Int),_,Z,Z,XS,J,J,MO (by show 1*_<=_;lia),λp2 VY=>?_⟩;have e0:(List.replicate (xs.length:Int).toNat [V.int 1]).flatten=IL (List.replicate ps.length 1):=by
   rw[YD,hl,ZP6];show _=(List.replicate ps.length 1).map V.int
   rw[List.map_replicate]
  rw[e0];have u2:=u1.trans (XN (o:=.lst<|IL<|List.replicate ps.length 1) VY)
  refine⟨w,p2,n,ps,List.replicate ps.length 1,Z,hW.same u2,hG,SqL.of XS,YK,λr ys L H' s hr hT hf=>?_⟩;exact q r ys L H' (u2.trans s) (u2.free hr) ⟨hT.tab,hT.rows,hT.len,hT.all,hT.nd,λA h=>u2.free<|hT.new A h⟩ hf
noncomputable def jw(K:Ad)(C:Addr):Sp:=λvs H Q _=>∃w n ps,vs=[.ref w]/\WebAt C H w n ps/\Zw n ps/\∀c H',TC n ps c->Same H H'->Q (.int c) H'
theorem ZI9(u v i:Nat):(ind u v i).natAbs<=1:=by unfold ind;split<;>split<;>decide
theorem ZB9:∀{E:List Ed},(∀e∈E,e.2.2=1)->∀i j,(lapE E i j).natAbs<=E.length
 |[],_,i,j=>XO 0
 |e::E,h,i,j=>by
  have ih:=ZB9 (λf hf=>h f<|Yf _ hf) i j;have h1:=ZI9 e.1 e.2.1 i
  have h2:=ZI9 e.1 e.2.1 j;have h3:(ind e.1 e.2.1 i*ind e.1 e.2.1 j).natAbs<=1:=by rw[uM];exact JT h1 h2
  show(e.2.2*(ind e.1 e.2.1 i*ind e.1 e.2.1 j)+lapE E i j).natAbs<=(e::E).length;rw[h e Ya,SO,Yq]
  have:=Int.natAbs_add_le (ind e.1 e.2.1 i*ind e.1 e.2.1 j) (lapE E i j)
  lia
theorem ZN7{α:Type}{l:List α}{i:Nat}(hi:l.length=i+1):cutz l (i:Int)=l.take i:=by unfold cutz;rw[YD,LH J,YH]
theorem OI(T:Txt K mg t):Xg P w base Xl T.q_tree_count 3 (jw K t.A_Web):=by
 refine T.q_tree_count.ok ["web"] D (λvs H Q E h=>?_) (λXG A outer s H vs Q E hr h=>?_)
 .obtain⟨w,n,ps,rfl,_⟩:=h;rfl
 .obtain⟨w,n,ps,rfl,hW,hG,q⟩:=h;refine⟨_,(XM<|Zi<|XC (ks T) hr T.q_determinant Zs<|XZ (XC (kf T) hr T.q_table_without Zs<|XZ (XC (jx T) hr T.q_pull_table Zs<|XZ (pv 0) XY)<|XZ (Zr WO (Zp K (pv 0) Z) Za) XY) XY),?_⟩;obtain⟨g1,g2,g3,g4⟩:=id hG;refine⟨_,Z,w,n,ps,Z,hW,hG,λr ys L H1 s1 hr hT hf=>?_⟩;obtain⟨dx,tl,xs,h1,h2,h3⟩:=id hW;refine⟨_,Z,w,_,dx,_,_,Z,s1 _ _ h1,T.cl_Web,T.n_Web_places,IW _ _,_,_,Z,Z,?_⟩;obtain⟨k,hk⟩:∃k:Nat,n-1=(k:Int):=⟨(n-1).toNat,ur⟩;have hnk:n.toNat=k+1:=uu
  have hLl:=hT.len;have hTB:Bears (Rm H1) ys L:=hT.rows.imp λ_ _ h=>h.list
  refine⟨r,ys,L,k,?_,SqL.of hT.tab,hTB,uu,λl h=>by rw[hT.all l h];grind,J,λr2 zs H2 s2 VV hZ=>?_⟩
  .show [V.ref r,V.int (n-1)]=_;rw[hk]
  have w1:∀e∈Vx ps (List.replicate ps.length (1:Int)),e.2.2=1:=λe he=>by
   unfold Vx at he;obtain⟨i,hi⟩:=Qm he;rw[LG]at hi;cases h1:ps[i]? with
   |none=>rw[h1]at hi;cases hi
   |some p=>
    cases h2:(List.replicate ps.length (1:Int))[i]? with
    |none=>rw[h1,h2]at hi;cases hi
    |some w=>
     rw[h1,h2]at hi;obtain rfl:=Yh hi;exact yZ (Xf h2)
  have el:(Vx ps<|List.replicate ps.length (1:Int)).length<=30:=by unfold Vx;rw[NA,YK];lia
  have hM:(cutz L (k:Int)).map (λl=>cutz l (k:Int))=(L.take k).map λl=>l.take k:=by rw[ZN7 J];exact YY λl hl=>ZN7 (by rw[hT.all l (Fz hl)];lia)
  rw[hM]at hZ;have Qp:((L.take k).map λl=>l.take k).length=k:=by rw[Yb,Yl];grind
  have Gw:∀i j,i<k->j<k->fnL ((L.take k).map λl=>l.take k) i j=lapE (Vx ps<|List.replicate ps.length 1) i j:=λi j hi hj=>by
   rw[<-hf i j uu uu];obtain⟨l,hl⟩:∃l,L[i]?=some l:=⟨_,Xw uu⟩;have US:=hT.all l (Xf hl)
   obtain⟨x,hx⟩:∃x,l[j]?=some x:=⟨_,Xw uu⟩;rw[UL hl hx];exact UL (l:=l.take k) (by rw[Yo,RB,if_pos hi,hl];rfl) (by rwa[RB,if_pos hj])
  refine⟨r2,false,zs,(L.take k).map λl=>l.take k,Z,SqL.of VV,hZ.imp (λ_ _ zz=>by obtain⟨r',e,h⟩:=zz;exact⟨r',false,e,SqL.of h⟩),by rw[Qp];lia,λi j hi hj=>?_,λ_ H3 s3=>?_,λh=>absurd (λl hl=>?_) h⟩
  .rw[Qp]at hi hj;rw[Gw i j hi hj];exact Ys (ZB9 w1 i j) (Ys el<|Ys (by decide:30<=2^5)<|vp S S)
  .have hd:det ((L.take k).map λl=>l.take k).length (fnL<|(L.take k).map λl=>l.take k)=det (n-1).toNat (lapE<|Vx ps<|List.replicate ps.length 1):=by rw[Qp,show(n-1).toNat=k by lia];exact Zn λi j hi hj=>Gw i j hi hj
   obtain⟨c,M,a1,a2,a3⟩:∃c,TC n ps c:=by obtain⟨M,a1,a2,_⟩:=w4 _ (n-1).toNat (Vx ps<|List.replicate ps.length 1) Z (Cw hG _);exact⟨M.length,M,a1,λl=>by rw[a2,bJ g1 YK],Z⟩
   rw[hd,n5 hG a1 a2,a3];exact q c H3 ⟨M,a1,a2,a3⟩ (s1.trans<|s2.trans s3)
  .obtain⟨l0,h0,rfl⟩:=YA.mp hl;rw[Qp,Yl,hT.all l0 (Fz h0)];grind
noncomputable def jv(K:Ad)(C:Addr):Sp:=λvs H Q _=>∃w a b n ps Is Os,vs=[.ref w,.ref a,.ref b]/\WebAt C H w n ps/\Zw n ps/\SqT K H a (IL Is)/\SqT K H b (IL Os)/\Is.Nodup/\(∀z∈Is,0<=z/\z<(ps.length:Int))/\Os.length<=30/\(∀z∈Is,z∉Os)/\∀c H',PC n ps Is Os c->Same H H'->Q (.int c) H'
theorem ju{K:Ad}{H:Hp}{a b:Addr}{l m:Ac}{Q:VK}(ha:SqT K H a (IL l))(hb:SqT K H b (IL m))(hl:l.length+m.length<=1000)(k:∀r H',Same H H'->SqT K H' r (IL (l++m))->Q (.ref r) H'):Iz K (.ref a) (.ref b) H Q:=by
 refine⟨a,b,_,_,Z,Z,ha,hb,by rw[Xx,Xx];exact Ys hl S,λe=>?_,λ_ e=>?_,λ_ _ p hp=>?_⟩
 .have el:l=[]:=Fx.mp e;rw[el,Oj]at k;exact k b H (Same.refl _) hb
 .have em:m=[]:=Fx.mp e;rw[em,YH]at k;exact k a H (Same.refl _) ha
 .refine k p _ (XN hp) (SqT.of ?_);rw[XS,xV]
theorem Zw7{gone:Ac}(j:Nat):XE (j+1) gone=XE j gone++(if ((j:Int)∈gone) then [] else [(j:Int)]):=by
 unfold XE;rw[cD,Ql];congr 1;by_cases c:(j:Int)∈gone
 .rw[if_pos c,YO,if_neg (by simp[c])];rfl
 .rw[if_neg c,YO,if_pos (by simp[c])];rfl
theorem OH:FnScope ["web","inside","outside","marks","firsts","numbers","gone","free"] ["web","inside","outside"] (Xv (top 37)):=Wt D
theorem jt(T:Txt K mg t):Xg P w base Xl T.q_part_count 4 (jv K t.A_Web):=by
 refine T.q_part_count.ok ["web","inside","outside","marks","firsts","numbers","gone","free"] D (λvs H Q E h=>?_) (λXG A outer s H vs Q E hr h=>?_)
 .obtain⟨w,a,b,n,ps,Is,Os,rfl,_⟩:=h;rfl
 .obtain⟨w,a,b,n,ps,Is,Os,rfl,hW,hG,hA,hB,hIn,Xp,hO,UW,q⟩:=h;refine⟨_,(XR (Zj (i:=3) OH.nd Z (Or.inl Z)<|XC (QQ T) hr T.q_piece_marks Zs<|XZ (pv 0)<|XZ (pv 1) XY)
   (XR (Zj (i:=4) OH.nd Z (Or.inr Z)<|ZB4 K Z Z T.n_sorted Z T.n_set<|XZ (pv 3) XY)
   (XR (WK (Ze UP (Zr UG (Zf (Zk K) uw T.n_len Boot.«len»<|XZ (pv 4) XY)<|Zf (Zk K) uw T.n_len Boot.«len»<|XZ (pv 1) XY) (Zp K (pv 0) Z)<|Zq _)
   (XM<|Zi Za)
   Zo)
   (XR (Zj (i:=5) OH.nd Z (Or.inr Z)<|TZ Z (sc0:=Xv<|top 37) (N0:=["web","inside","outside","marks","firsts","numbers","gone","free"]) (N':=["mark","firsts"]) (o:=1) (fr:=[4]) ⟨Z,D,D,D,Z,D⟩ (ZR K<|pv 3) (Zv S) (λ_ _ _ _=>(Zg (i:=0) (show List.Nodup (["mark","firsts"]:List Str) by decide +kernel) Z<|Or.inl Z)) (λ_ _ _ _=>ZX) λ_ _ _ _=>(TY K YU e9 fb (ZA8 K) (pv 1)<|XZ (pv 0) XY))
   (XR (Zj (i:=6) OH.nd Z (Or.inr Z)<|Zr (Iy K) (pv 1)<|pv 2)
   (XR (QA (i:=7) Z OH.nd Z Z (sc0:=Xv<|top 37) (N0:=["web","inside","outside","marks","firsts","numbers","gone","free"]) (N':=["tie","ends","gone"]) (o:=2) (fr:=[6]) ⟨Z,D,D,D,Z,D⟩ (Gn K Z T.n_enumerate<|XZ (Zp K (pv 0) Z) XY) (PD<|Oa S<|Oa S PF) (λ_ _ _ _=>(NT (n:=2) K Z<|ZA (Zg (i:=0) (show List.Nodup (["tie","ends","gone"]:List Str) by decide +kernel) Z<|Or.inl Z)<|ZA (Zg (i:=1) (show List.Nodup (["tie","ends","gone"]:List Str) by decide +kernel) Z<|Or.inl Z) Of)) (λ_ _ _ _=>(Rq<|Ze (ZW K) (pv 0) (pv 2) Z)) λ_ _ _ _=>(pv 1))
   (XM<|Zi<|XC (OI T) hr T.q_tree_count Zs<|XZ (PM T.k_Web (AY T) (hr.mono S) Z T.c_Web T.bZ8 .nil Zs<|XZ (Zf (Zk K) uw T.n_len Boot.«len»<|XZ (pv 4) XY)<|XZ (TZ Z (sc0:=Xv<|top 37) (N0:=["web","inside","outside","marks","firsts","numbers","gone","free"]) (N':=["ends","numbers"]) (o:=1) (fr:=[5]) ⟨Z,D,D,D,Z,D⟩ (ZR K<|pv 7) (Zv S) (λ_ _ _ _=>(Zg (i:=0) (show List.Nodup (["ends","numbers"]:List Str) by decide +kernel) Z<|Or.inl Z)) (λ_ _ _ _=>ZX) λ_ _ _ _=>(UE<|XZ (Zy (Zb K) (pv 1) (Zy (ZF K) (pv 0) Za λ_ _=>rfl) λ_ _=>rfl)<|XZ (Zy (Zb K) (pv 1) (Zy (ZF K) (pv 0) Za λ_ _=>rfl) λ_ _=>rfl) XY)) XY) XY))))))),?_⟩
  obtain⟨g1,g2,g3,g4⟩:=id hG;obtain⟨Js,NG,hJ2⟩:=pM Is;have hJ:IsSet ps.length Js:=XX.mpr ⟨λz hz=>Xp z<|NG.mem_iff.mp hz,(hJ2.and<|NG.nodup_iff.mpr hIn).imp λh=>by have:=h.1;have:=h.2;lia⟩
  have hIl:Is.length<=ps.length:=by rw[<-NG.length_eq];exact hJ.len
  have wJ:∀i j,Conn (XT ps Js) i j↔Conn (XT ps Is) i j:=λi j=>KZ λy=>NG.mem_iff;have Rk:XE ps.length (Js++Os)=XE ps.length (Is++Os):=LC λz _=>by simp only[Xz,NG.mem_iff]
  have back:∀c,PC n ps Js Os c->PC n ps Is Os c:=λc zz=>by obtain⟨L,l1,l2,l3⟩:=zz;exact⟨L,l1,λl=>(l2 l).trans ⟨λh=>⟨h.1,λz hz=>h.2.1 z<|NG.mem_iff.mpr hz,h.2.2⟩,λh=>⟨h.1,λz hz=>h.2.1 z<|NG.mem_iff.mp hz,h.2.2⟩⟩,l3⟩
  refine⟨_,Z,_,Z,w,a,n,ps,Is,Z,hW,hG,hA,Xp,λmA H1 s1 Qr Tw=>?_⟩;have Vn:=ZD n.toNat (XT ps Is)
  have Wc:=ZO (ns:=Is) hG Xp;have hel:(XT ps Is).length=Is.length:=Yb ..
  refine nm ?_;refine⟨_,Z,mA,_,Z,SqL.of Tw,uu,λF hF VB fA js=>?_⟩;have s2:=XN (o:=.lst<|IL F) js
  have Ma:(upd H1 fA<|.lst<|IL F) fA=some (.lst<|IL F):=XS;have VU:=s2 _ _ Tw
  have NJ:=s1.trans s2;refine nm ?_;dsimp only;generalize upd H1 fA (.lst<|IL F)=H2 at *;obtain⟨g,hfg,jr,hgg⟩:=mS Wc hF VB;obtain⟨k1,kn,nk⟩:=ZL4 Wc J hF VB;have TX:=Li NJ hA
  have MG:=Li NJ hB;obtain⟨dx,tl,xs,h1,h2,h3⟩:=hW.same NJ;have NO:=h3.1
  refine⟨_,Z,fA,_,Z,.inl<|SqL.of Ma,_,Z,a,_,Z,.inr TX,_,_,Z,Z,_,Z,w,_,dx,_,_,Z,h1,T.cl_Web,T.n_Web_places,IW _ _,_,_,Z,Z,_,Z,?_⟩;rw[Xx,Xx];refine Xd (λhc=>?_) (λhc=>?_)
  .exact q 0 H2 (back 0<|mW hG hJ (λi j hi hj=>(hfg i j hi hj).trans (wJ i j).symm) jr hgg k1 kn<|by rw[NG.length_eq];lia) NJ
  refine⟨_,Z,mA,Z,⟨_,SqL.of VU⟩,Rn (K:=K) (a:=mA) (xs:=IL<|Xu n.toNat<|XT ps Is) (λi zs H3=>H3=H2/\i<=n.toNat/\zs=IL (((Xu n.toNat<|XT ps Is).take i).map λz=>(UU F z:Int))) ⟨Z,Ym _,Z⟩ (Zl<|by rw[Xx,Vn];grind) (λi zs H3 _ zz=>by obtain⟨e,hi,ez⟩:=zz;exact⟨e▸SqL.of VU,by rw[ez,Xx,Yb,Yl];lia⟩) ?_ ?_⟩
  .rintro i v zs H3 hi ⟨rfl,hin3,rfl⟩ uo Xm;obtain⟨z,rfl,hz⟩:=Uz hi;have FY:z∈F:=(VB z).mpr (Xf hz)
   have Xh:=(Xs.mp hz).1;refine nm ?_;refine⟨_,Z,.inl ⟨Z,_,SqL.of Ma⟩,_,Z,fA,F,z,UU F z,Z,Z,SqL.of Ma,Ie FY,λi hi e=>by have:=Gq (IA hF) e (Ie FY);lia,Xm _ _ ⟨Z,J,?_⟩⟩;rw[YL,hz,YJ];exact(ZN _ _).symm
  rintro zs H3 ⟨rfl,_,rfl⟩ nA hnA;rw[Xx,YF];have s3:=XN (o:=.lst<|IL<|(Xu n.toNat<|XT ps Is).map λz=>(UU F z:Int)) hnA
  have jA:(upd H3 nA<|.lst<|IL<|(Xu n.toNat<|XT ps Is).map λz=>(UU F z:Int)) nA=some (.lst<|IL<|(Xu n.toNat<|XT ps Is).map λz=>(UU F z:Int)):=XS;have wd:=s3 _ _ Ma
  have NH:=Li s3 TX;have jq:=Li s3 MG
  have jo:=NJ.trans s3;generalize upd H3 nA (.lst<|IL<|(Xu n.toNat<|XT ps Is).map λz=>(UU F z:Int))=H4 at *;have nAt:∀x:Int,0<=x->x<n->((Xu n.toNat<|XT ps Is).map λz=>(UU F z:Int))[x.toNat]?=some (UU F (mk (Xu n.toNat<|XT ps Is) x.toNat):Int):=λx x0 x1=>by rw[Yo,Xw uu];unfold mk;rw[WJ,Xw uu];rfl
  refine nm ?_;refine⟨_,Z,_,Z,ju NH jq J λgA H5 s5 hg5=>?_⟩;have AL:=jo.trans s5
  obtain⟨dx,tl,xs,h1,h2,h3⟩:=hW.same AL;have NO:=h3.1
  refine nm ?_;refine⟨_,Z,w,_,dx,_,_,Z,h1,T.cl_Web,T.n_Web_ties,Pu _ _,tl,Z,⟨_,SqL.of h2⟩,xy (K:=K) (a:=tl) (xs:=xs) (λj zs H6=>Same H5 H6/\j<=ps.length/\PairsV H6 zs ((XE j<|Is++Os).map λz=>ps.getD z.toNat (0,0))) ⟨Same.refl _,Ym _,PairsV.nil⟩ (Zl J) (λj zs H6 hj ⟨e,Qx,ez⟩=>⟨e.seq<|SqL.of h2,by rw[ez.1,Yb];refine Ys (YG ..) ?_;rw[ZM];exact XO _⟩) ?_ ?_⟩
  .rintro j v zs H6 pt So hj ⟨s6,MK,hZ⟩ uo Xm;obtain⟨p,hp,tt,rfl,ht⟩:=h3.at hj;have VM:=(Xs.mp hp).1
   have s7:=XN (o:=.tup [.int j,.ref tt]) So;refine⟨pt,_,Z,SqT.of XS,Z,_,_,Z,_,_,Z,Z,?_⟩;have AK:=hZ.same s7
   have Qo:=s6.trans s7;generalize upd H6 pt (.tup [.int j,.ref tt])=H7 at *;refine⟨_,Z,_,Z,gA,_,Z,.inr<|Li Qo hg5,Z,ZI _,_,Z,?_⟩;rw[ZT];refine WN (λHA=>?_) (λHA=>?_)
   .refine Xm _ _ ⟨Qo,VM,?_⟩;rwa[Zw7,if_pos HA,YH]
   .refine⟨_,Z,Xm _ _ ⟨Qo,VM,?_⟩⟩;rw[Zw7,if_neg HA,YJ];refine AK.app ?_;show PairsV H7 [V.ref tt] [ps.getD ((j:Nat):Int).toNat (0,0)]
    rw[YD,VZ hp];exact PairsV.nil.snoc ⟨tt,Z,Qo _ _ ht⟩
  rintro zs H6 ⟨s6,_,hZ⟩ rA VI;rw[NO]at hZ;have s7:=XN (o:=.lst zs) VI
  have Bc:(upd H6 rA<|.lst zs) rA=some (.lst zs):=XS;have AK:=hZ.same s7
  have Qo:=s6.trans s7;generalize upd H6 rA (.lst zs)=H7 at *;have hf7:=Qo _ _ (s5 _ _ wd)
  have hn7:=Qo _ _ (s5 _ _ jA);have jm:=AK.1
  have RW:(XE ps.length<|Is++Os).length<=30:=by refine Ys (YG ..) ?_;rw[ZM];lia
  rw[Yb]at jm;refine nm ?_;refine⟨_,Z,fA,_,Z,.inl<|SqL.of hf7,_,Z,rA,Z,⟨_,SqL.of Bc⟩,Rn (K:=K) (a:=rA) (xs:=zs) (λi ws H8=>Same H7 H8/\i<=(XE ps.length<|Is++Os).length/\PairsV H8 ws (((XE ps.length<|Is++Os).take i).map λz=>((UU F (mk (Xu n.toNat<|XT ps Is) (Zt ps z).1):Int),(UU F (mk (Xu n.toNat<|XT ps Is) (Zt ps z).2):Int)))) ⟨Same.refl _,Ym _,PairsV.nil⟩ (Zl J)
   (λi ws H8 hi zz=>by obtain⟨e,Wb,ew⟩:=zz;exact⟨e.seq<|SqL.of Bc,by rw[ew.1,Yb,Yl];lia⟩) ?_ ?_⟩
  .rintro i v ws H8 hi ⟨s8,VC,wc⟩ uo Xm;obtain⟨p,hp,tt,rfl,ht⟩:=AK.at hi;rw[Yo]at hp;obtain⟨z,hz,ez⟩:∃z,(XE ps.length<|Is++Os)[i]?=some z/\ps.getD z.toNat (0,0)=p:=by
    cases hq:(XE ps.length<|Is++Os)[i]? with
    |none=>rw[hq]at hp;cases hp
    |some z=>rw[hq]at hp;exact⟨z,Z,Yh hp⟩
   have hz1:=(WW.mp<|Xf hz).1;obtain⟨p',HG⟩:∃p,ps[z.toNat]?=some p:=⟨_,Xw J⟩;have epp:p'=p:=by rw[<-ez,VZ HG]
   rw[epp]at HG;obtain⟨e1,e2,e3,e4⟩:=g4 p (Xf HG);have ee:Zt ps z=(p.1.toNat,p.2.toNat):=by unfold Zt;rw[VZ HG]
   have ht8:=s8 _ _ ht;have hn8:=s8 _ _ hn7
   refine nm ?_;refine⟨_,Z,_,Z,tt,_,0,.int p.1,Z,Z,SqT.of ht8,Z,nA,_,_,_,Z,Z,SqL.of hn8,Zx (n:=p.1.toNat) J<|UA<|nAt p.1 e1 e2,?_⟩;refine⟨_,Z,_,Z,tt,_,1,.int p.2,Z,Z,SqT.of ht8,Z,nA,_,_,_,Z,Z,SqL.of hn8,Zx (n:=p.2.toNat) J<|UA<|nAt p.2 e3 e4,(by show 2<=sizeLine;decide),λpp Qn=>?_⟩;refine Xm _ _ ⟨s8.trans<|XN Qn,by have:=(Xs.mp hz).1;lia,?_⟩;rw[YL,hz,YJ];refine(wc.same<|XN Qn).snoc ⟨pp,Z,?_⟩;dsimp only;rw[ee];exact XS
  rintro ws H8 ⟨s8,_,wc⟩ la jX;rw[jm,YF]at wc;have s9:=XN (o:=.lst ws) jX
  have LZ:(upd H8 la<|.lst ws) la=some (.lst ws):=XS;have hP9:=wc.same s9
  have wb:=s8.trans s9;generalize upd H8 la (.lst ws)=H9 at *;have hGc:=bb (f:=λi=>UU F<|mk (Xu n.toNat<|XT ps Is) i) hG (Is++Os) jr k1 kn
  intro x jk nx NF SA;have t1:Same H9 (upd (upd H9 jk<|.own x) x<|.ins t.A_Web jk []):=Zu (XN NF) (by rwa[Zc (XI SA)])
  refine⟨x,jk,(F.length:Int),la,false,ws,_,by rw[Xx];rfl,XS,λo=>?_,hP9.same t1,hGc,λHz hV k10=>⟨Z,?_⟩⟩
  .exact SqL.of (by rwa[Zc (Zd LZ nx),Zc<|Zd LZ nx,Zc (Zd LZ NF)])
  have LY:Same H9 Hz:=λb o e=>k10 b o (t1 b o e) (Zd e nx);refine⟨x,_,_,Z,hV,hGc,λc QO hc Hy=>q c QO (back c<|mX hG hJ (λz hz=>UW z<|NG.mem_iff.mp hz) (λi j hi hj=>(hfg i j hi hj).trans (wJ i j).symm) jr hgg (by rw[NG.length_eq];grind)<|by rwa[Rk])<|AL.trans<|Qo.trans<|wb.trans<|LY.trans Hy⟩
noncomputable def jj(K:Ad)(C:Addr):Sp:=λvs H Q _=>∃w a n ps kd ns,vs=[.ref w,.ref a]/\WebAt C H w n ps/\Zw n ps/\SqK kd K H a (IL ns)/\
 ∀b H',Same H H'->(b=true↔Zh n ps ns)->Q (.bl b) H'
theorem AJ(T:Txt K mg t):Xg P w base Xl T.q_is_tree 6 (jj K t.A_Web):=by
 refine T.q_is_tree.ok ["web","ties"] D (λvs H Q E h=>?_) (λXG A outer s H vs Q E hr h=>?_)
 .obtain⟨w,a,n,ps,kd,ns,rfl,_⟩:=h;rfl
 .obtain⟨w,a,n,ps,kd,ns,rfl,hW,hG,hS,q⟩:=h;refine⟨_,(XM<|Zi<|EK (XC (AW T) hr T.q_is_set Zs<|XZ (pv 0)<|XZ (pv 1) XY)<|EK (Oe Sa (Zf (Zk K) uw T.n_len Boot.«len»<|XZ (pv 1) XY) (Zr WO (Zp K (pv 0) Z) Za)<|Zq _)<|EL<|XC (AQ T) hr T.q_is_joined Zs<|XZ (pv 0)<|XZ (pv 1) XY),?_⟩;refine⟨_,Z,_,Z,w,a,n,ps,kd,ns,Z,hW,hS,λb hb=>⟨b,Z,?_⟩⟩;refine dt (λe=>?_) (λe=>?_)
  .have hI:=hb.mp e;obtain⟨dx,tl,xs,h1,h2,h3⟩:=id hW;refine⟨_,Z,a,_,Z,hS.or,_,Z,w,_,dx,_,_,Z,h1,T.cl_Web,T.n_Web_places,IW _ _,_,_,Z,Z,Z,_,Z,?_⟩;rw[Xx,ZB];refine Xd (λhl=>?_) (λhl=>?_)
   .refine⟨_,Z,_,Z,w,a,n,ps,kd,ns,Z,hW,hG,hS,hI,λb2 H' s Mj=>q b2 H' s ?_⟩;rw[Mj,cU (by have:=hG.1;grind) (ZO hG hI.all)];exact⟨λz=>⟨hI,hl,z⟩,λz=>z.2.2⟩
   .exact q false H (Same.refl H) ⟨λz=>(nomatch z),λz=>absurd z.2.1 hl⟩
  .exact q false H (Same.refl H) ⟨λz=>(nomatch z),λz=>by rw[hb.mpr z.1]at e;cases e⟩
noncomputable def ji(K:Ad)(C:Addr):Sp:=λvs H Q _=>∃w a n ps kd ns,vs=[.ref w,.ref a]/\WebAt C H w n ps/\Zw n ps/\SqK kd K H a (IL ns)/\
 (Zh n ps ns->∀H':Hp,Same H H'->Q .non H')/\(¬Zh n ps ns->∀H':Hp,Same H H'->False)
theorem Hx(T:Txt K mg t):Xg P w base Xl T.q_refuse_no_tree 7 (ji K t.A_Web):=by
 refine T.q_refuse_no_tree.ok ["web","tree"] D (λvs H Q E h=>?_) (λXG A outer s H vs Q E hr h=>?_)
 .obtain⟨w,a,n,ps,kd,ns,rfl,_⟩:=h;rfl
 .obtain⟨w,a,n,ps,kd,ns,rfl,hW,hG,hS,q,qe⟩:=h;refine⟨_,(XM (WK (QD<|Rw<|XC (AJ T) hr T.q_is_tree Zs<|XZ (pv 0)<|XZ (pv 1) XY)
   (XM Vj)
   Zo)),?_⟩
  refine⟨_,Z,_,Z,w,a,n,ps,kd,ns,Z,hW,hG,hS,λb H' s hb=>⟨_,Z,?_⟩⟩;refine IY (λz=>?_) (λz=>?_)
  .exact q (hb.mp z) H' s
  .exact qe (λg=>by rw[hb.mpr g]at z;cases z) H' s
noncomputable def jh(K:Ad)(C:Addr):Sp:=λvs H Q _=>∃w a b n ps ka kb ns os,vs=[.ref w,.ref a,.ref b]/\WebAt C H w n ps/\Zw n ps/\SqK ka K H a (IL ns)/\SqK kb K H b (IL os)/\ns.length<=1000/\os.length<=1000/\(∀z∈ns++os,0<=z/\z<(ps.length:Int))/\
 (((WR n.toNat ps<|ns++os).take ns.length≠ns\/((WR n.toNat ps<|ns++os).length:Int)<n-1)->∀H':Hp,Same H H'->Q .non H')/\
 ((WR n.toNat ps<|ns++os).take ns.length=ns->¬((WR n.toNat ps<|ns++os).length:Int)<n-1->∀r ms H',ms.Perm (WR n.toNat ps<|ns++os)->ms.Pairwise (·<=·)->Same H H'->H r=none->H' r=some (.tup<|IL ms)->Q (.ref r) H')
theorem OG:FnScope ["web","inside","order","marks","grown","tie","ends"] ["web","inside","order"] (Xv (top 41)):=Wt D
theorem AI(T:Txt K mg t):Xg P w base Xl T.q_grown_tree 3 (jh K t.A_Web):=by
 refine T.q_grown_tree.ok ["web","inside","order","marks","grown","tie","ends"] D (λvs H Q E h=>?_) (λXG A outer s H vs Q E hr h=>?_)
 .obtain⟨w,a,b,n,ps,ka,kb,ns,os,rfl,_⟩:=h;rfl
 .obtain⟨w,a,b,n,ps,ka,kb,ns,os,rfl,hW,hG,hS,Dm,hnl,QB,hI,q0,q1⟩:=h;refine⟨_,(XR (Zj (i:=3) OG.nd Z (Or.inl Z)<|XC (QQ T) hr T.q_piece_marks Zs<|XZ (pv 0)<|XZ (UE XY) XY)
   (XR (Zj (i:=4) OG.nd Z (Or.inl Z)<|Tc XY)
   (XR (TK Wr Z (ZR K<|Zr DU (Zm (Gp K) uw T.n_list Boot.«list»<|XZ (pv 1) XY)<|Zm (Gp K) uw T.n_list Boot.«list»<|XZ (pv 2) XY) (Zg (i:=5) OG.nd Z<|Or.inl Z)
   (XR (Zj (i:=6) OG.nd Z (Or.inl Z)<|Zy (Zb K) (Zp K (pv 0) Z) (pv 5) λ_ _=>rfl)
   (XM (WK (Ze SI (Zy (Zb K) (pv 3) (Zy (ZF K) (pv 6) Za λ_ _=>rfl) λ_ _=>rfl) (Zy (Zb K) (pv 3) (Zy (ZF K) (pv 6) Za λ_ _=>rfl) λ_ _=>rfl)<|Zq _)
   (XR (Zj (i:=3) OG.nd Z (Or.inl Z)<|XC (AV T) hr T.q_merged_marks Zs<|XZ (pv 0)<|XZ (pv 3)<|XZ (UE<|XZ (pv 5) XY) XY)
   (XM<|ZS<|TY K YU Kb Kc Jf (pv 4)<|XZ (pv 5) XY))
   Zo))))
   (XR (WK (PW.pt<|SM (Ze (IT K<|MN hr) (ZZ (Vd K) (pv 4) PL<|Ru<|Zf (Zk K) uw T.n_len Boot.«len»<|XZ (pv 1) XY) (Zm (Gp K) uw T.n_list Boot.«list»<|XZ (pv 1) XY)<|Zq _)<|QE<|Ze SH (Zf (Zk K) uw T.n_len Boot.«len»<|XZ (pv 4) XY) (Zr WO (Zp K (pv 0) Z) Za)<|Zq _)
   (XM<|Zi QG)
   Zo)
   (XM<|Zi<|Zm (ZK K) uw T.n_tuple Boot.«tuple»<|XZ (Zf (qq K) uw T.n_sorted Boot.«sorted»<|XZ (pv 4) XY) XY))))),?_⟩
  obtain⟨g1,g2,g3,g4⟩:=id hG;have one:1<=sizeLine:=S
  refine⟨_,Z,Ym _,λr0 VH=>?_⟩;have s0:=XN (o:=.tup []) VH
  refine⟨w,r0,n,ps,[],Z,hW.same s0,hG,SqT.of XS,λ_ e=>(nomatch e),λm H1 s1 Qr Tw=>?_⟩;have s01:=s0.trans s1
  have hmf:=s0.free Qr;refine⟨Ym _,λgl jg=>?_⟩;have s2:=XN (o:=.lst []) jg
  have NJ:=s01.trans s2;have hgf:=s01.free jg
  refine⟨_,Z,a,_,Z,(hS.same NJ).or,λl1 To=>?_⟩;have s3:=XN (o:=.lst<|IL ns) To
  have s03:=NJ.trans s3;refine⟨_,Z,b,_,Z,(Dm.same s03).or,λl2 RZ=>?_⟩;have s4:=XN (o:=.lst<|IL os) RZ
  have jo:=s03.trans s4;refine⟨l1,l2,_,_,Z,Z,s4 _ _ XS,XS,MO (by rw[Xx,Xx];lia),λcl Pa=>?_⟩;have s5:=XN (o:=.lst<|IL ns++IL os) Pa
  have AL:=jo.trans s5;have eI:IL ns++IL os=IL (ns++os):=(xV _ _).symm
  have AH:=s5 _ _ (s4 _ _<|s3 _ _<|XS (H:=H1) (a:=gl) (o:=.lst []));have wa:=s5 _ _ (s4 _ _<|s3 _ _<|s2 _ _ Tw)
  have Hw:=XS (H:=upd (upd (upd H1 gl<|.lst []) l1<|.lst<|IL ns) l2<|.lst<|IL os) (a:=cl) (o:=.lst<|IL ns++IL os);have ncg:cl≠gl:=λe=>by rw[e]at Pa;exact absurd ((s4 _ _<|s3 _ _<|XS (H:=H1) (a:=gl) (o:=.lst [])).symm.trans Pa) B
  have nmg:m≠gl:=λe=>by rw[e]at Tw;exact absurd (Tw.symm.trans jg) B
  rw[eI]at s5 AL AH wa Hw ⊢;generalize upd (upd (upd (upd H1 gl<|.lst []) l1<|.lst<|IL ns) l2<|.lst<|IL os) cl (.lst<|IL<|ns++os)=H5 at *;refine⟨cl,Z,⟨_,SqL.of Hw⟩,tH (K:=K) (a:=cl) (xs:=IL<|ns++os) (λi σ H2=>∃mc v5 v6,σ=[some (.ref w),some<|.ref a,some<|.ref b,some<|.ref mc,some<|.ref gl,v5,v6]/\Same H H2/\mc≠gl/\
    H2 cl=some (.lst<|IL<|ns++os)/\H2 mc=some (.lst<|IL<|Xu n.toNat<|XT ps<|WR n.toNat ps<|(ns++os).take i)/\H2 gl=some (.lst<|IL<|WR n.toNat ps<|(ns++os).take i))
   ⟨m,none,none,Z,AL,nmg,Hw,wa,AH⟩ (λi σ H2 _ zz=>by obtain⟨_,_,_,_,_,_,e,_⟩:=zz;exact SqL.of e) ?_ ?_⟩
  .rintro i x σ H2 hi ⟨mc,v5,v6,rfl,s2,XJ,Vi,VU,Mi⟩;obtain⟨z,rfl,hz⟩:=Uz hi;obtain⟨z0,z1⟩:=hI z (Xf hz);have hIt:∀y∈(ns++os).take i,0<=y/\y<(ps.length:Int):=λy hy=>hI y (Fz hy)
   have est:(ns++os).take (i+1)=(ns++os).take i++[z]:=by rw[YL,hz];rfl
   have eG:WR n.toNat ps ((ns++os).take (i+1))=Rh n.toNat ps (WR n.toNat ps<|(ns++os).take i) z:=by rw[est,ME]
   have Wc:=FZ hG hIt;have AG:=cH hG hIt
   generalize WR n.toNat ps ((ns++os).take i)=G at *;obtain⟨dx,tl,xs,h1,h2,h3⟩:=hW.same s2;obtain⟨p,hp⟩:∃p,ps[z.toNat]?=some p:=⟨_,Xw J⟩;obtain⟨v,hv,tt,rfl,Tj⟩:=h3.2 z.toNat p hp;obtain⟨e1,e2,e3,e4⟩:=g4 p (Xf hp);have ed:Zt ps z=(p.1.toNat,p.2.toNat):=by unfold Zt;rw[VZ hp]
   have hl:(Xu n.toNat<|XT ps G).length=n.toNat:=ZD _ _;have iA:Wo (IL<|Xu n.toNat<|XT ps G) p.1=some (.int<|mk (Xu n.toNat<|XT ps G) p.1.toNat):=Zx (n:=p.1.toNat) J (UA<|NS uu)
   have iB:Wo (IL<|Xu n.toNat<|XT ps G) p.2=some (.int<|mk (Xu n.toNat<|XT ps G) p.2.toNat):=Zx (n:=p.2.toNat) J (UA<|NS uu);have t0:Wo ([.int p.1,.int p.2]:List V) 0=some (.int p.1):=rfl
   have t1:Wo ([.int p.1,.int p.2]:List V) 1=some (.int p.2):=rfl;have key:mk (Xu n.toNat<|XT ps G) p.1.toNat=mk (Xu n.toNat<|XT ps G) p.2.toNat↔mk (WQ n.toNat<|XT ps G) (Zt ps z).1=mk (WQ n.toNat<|XT ps G) (Zt ps z).2:=by rw[ed,Rj Wc uu uu,ZY Wc uu uu]
   refine⟨_,Z,w,_,dx,_,_,Z,h1,T.cl_Web,T.n_Web_ties,Pu _ _,_,Z,tl,xs,z,.ref tt,Z,Z,SqL.of h2,Zx (n:=z.toNat) J hv,?_⟩;refine⟨_,Z,_,Z,tt,_,0,_,Z,Z,SqT.of Tj,t0,mc,_,p.1,_,Z,Z,SqL.of VU,iA,_,Z,_,Z,tt,_,1,_,Z,Z,SqT.of Tj,t1,mc,_,p.2,_,Z,Z,SqL.of VU,iB,Z,_,Z,?_⟩;rw[ZB];refine WN (λhe=>?_) (λhe=>?_)
   .refine⟨mc,_,_,Z,s2,XJ,Vi,?_,?_⟩
    .rw[eG];unfold Rh;rwa[if_pos (key.mp he)]
    .rw[eG];unfold Rh;rwa[if_pos (key.mp he)]
   .have eG2:WR n.toNat ps ((ns++os).take (i+1))=G++[z]:=by rw[eG];unfold Rh;rw[if_neg λe=>he (key.mpr e)]
    refine⟨_,Z,_,Z,_,Z,one,λp2 VY=>?_⟩;have s6:=XN (o:=.tup [.int z]) VY
    refine⟨w,mc,p2,n,ps,_,true,[z],Z,(hW.same s2).same s6,hG,s6 _ _ VU,hl,SqT.of XS,λy hy=>by rw[XF.mp hy];exact⟨z0,z1⟩,λm' H7 s7 hf vZ=>?_⟩;have jf:=s6.trans s7
    have hg7:=jf _ _ Mi;have hc7:=jf _ _ Vi
    have nm':m'≠gl:=by
     rcases hf with rfl|hf
     .exact XJ
     .exact λe=>absurd ((s6 _ _ Mi).symm.trans (e▸hf)) B
    refine⟨_,Z,.inl ⟨Z,_,SqL.of hg7⟩,_,Z,gl,_,_,Z,Z,hg7,Zl (by rw[Xx];lia),?_⟩;refine⟨m',_,_,Z,Zz hgf<|s2.trans jf,nm',?_,?_,?_⟩
    .rw[Zc ncg];exact hc7
    .rw[Zc nm',vZ,eG2,KY,qI];rfl
    .rw[XS,eG2,ZN]
  .rintro σ H2 ⟨mc,v5,v6,rfl,s2,XJ,Vi,VU,Mi⟩;rw[Xx,YF]at Mi;have AG:=cH hG hI
   generalize WR n.toNat ps (ns++os)=G at *;refine⟨_,Z,_,Z,a,_,Z,(hS.same s2).or,_,Z,gl,_,Z,SqL.of Mi,λr1 VX=>?_⟩;have ec:Xi (IL G) none (some ((IL ns).length:Int))=IL (G.take ns.length):=by rw[cJ J,YD,Xx,du]
   rw[ec];have s3:=XN (o:=.lst<|IL<|G.take ns.length) VX
   refine⟨_,Z,a,_,Z,(hS.same<|s2.trans s3).or,λr2 VV=>?_⟩;have s4:=XN (o:=.lst<|IL ns) VV
   refine⟨1,_,r1,r2,Z,Z,S,c9 (SqL.of<|s4 _ _ XS)<|SqL.of XS,_,Z,?_⟩;have Kl:=s2.trans (s3.trans s4)
   refine WN (λhe=>?_) (λhe=>?_)
   .obtain⟨dx,tl,xs,h1,h2,h3⟩:=hW.same Kl;have hg4:=s4 _ _ (s3 _ _ Mi)
    refine⟨_,Z,gl,_,Z,.inl<|SqL.of hg4,_,Z,w,_,dx,_,_,Z,h1,T.cl_Web,T.n_Web_places,IW _ _,_,_,Z,Z,_,_,Z,Z,_,Z,?_⟩;rw[Xx];refine Xd (λhc=>?_) (λhc=>?_)
    .exact q0 (.inr hc) _ Kl
    .refine⟨_,Z,gl,G,Z,SqL.of hg4,J,λms Vm VY l hl=>?_⟩;have s5:=XN (o:=.lst<|IL ms) hl
     refine⟨l,_,Z,.inl ⟨SqL.of XS,λr hr=>?_⟩⟩;exact q1 he hc r ms _ Vm VY ((Kl.trans s5).trans (XN hr)) ((Kl.trans s5).free hr) XS
   .refine We ?_;exact q0 (.inl he) _ Kl
noncomputable def je(K:Ad)(C:Addr):Sp:=λvs H Q _=>∃w n ps,vs=[.ref w]/\WebAt C H w n ps/\Zw n ps/\
 (¬((WU n.toNat ps ps.length).length:Int)<n-1->∀r H',Same H H'->H' r=some (.tup<|IL<|WU n.toNat ps ps.length)->Q (.ref r) H')/\
 (((WU n.toNat ps ps.length).length:Int)<n-1->∀H':Hp,Same H H'->False)
theorem Hv(T:Txt K mg t):Xg P w base Xl T.q_least_tree 7 (je K t.A_Web):=by
 refine T.q_least_tree.ok ["web"] D (λvs H Q E h=>?_) (λXG A outer s H vs Q E hr h=>?_)
 .obtain⟨w,n,ps,rfl,_⟩:=h;rfl
 .obtain⟨w,n,ps,rfl,hW,hG,q,q1⟩:=h;refine⟨_,(XR (ZS<|XC (AO T) hr T.q_refuse_parted Zs<|XZ (pv 0) XY)
   (XM<|Zi<|XC (AI T) hr T.q_grown_tree Zs<|XZ (pv 0)<|XZ (UE XY)<|XZ (XC (AX T) hr T.q_all_ties Zs<|XZ (pv 0) XY) XY)),?_⟩
  have Wm:∀z∈Wg ps.length,0<=z/\z<(ps.length:Int):=λz hz=>XA.mp hz;have eg:WR n.toNat ps (Wg ps.length)=WU n.toNat ps ps.length:=cI _ _ _
  have hj:=cG hG;refine⟨_,Z,w,n,ps,Z,hW,hG,λhJ H1 s1=>?_,λhJ H1 s1=>q1 (by rw[hj]at hJ;omega) H1 s1⟩;have hf:=hj.mp hJ
  refine⟨_,Z,Ym _,λr0 VH=>?_⟩;have s0:=XN (o:=.tup []) VH
  have LY:=s1.trans s0;refine⟨_,Z,w,n,ps,Z,hW.same LY,by have:=hG.2.2.1;lia,λr2 H2 s2 jd VV=>?_⟩;refine⟨w,r0,r2,n,ps,true,true,[],Wg ps.length,Z,(hW.same LY).same s2,hG,SqT.of<|s2 _ _ XS,SqT.of VV,Ym _,by rw[ZM];have:=hG.2.2.1;lia,Wm,λhx H3 s3=>?_,λ_ _ r3 ms H3 Vm VY s3 hr30 Uh=>?_⟩
  .rw[Oj,eg]at hx;rcases hx with hx|hx
   .exact absurd Z hx
   .exact absurd hx hf
  .rw[Oj,eg]at Vm;have e:ms=WU n.toNat ps ps.length:=Ri Vm VY ((Dc _).imp λh=>J)
   rw[e]at Uh;exact q hf r3 H3 (LY.trans<|s2.trans s3) Uh
noncomputable def jb(K:Ad)(C:Addr):Sp:=λvs H Q _=>∃w a n ps kd ns z,vs=[.ref w,.ref a,.int z]/\WebAt C H w n ps/\Zw n ps/\SqK kd K H a (IL ns)/\IsSet ps.length ns/\
 ∀r H',Same H H'->H r=none->H' r=some (.tup<|IL<|unlike (WQ n.toNat<|XT ps<|wo ns z) ps ps.length)->Q (.ref r) H'
theorem ja:FnScope ["web","tree","tie","marks"] ["web","tree","tie"] (Xv (top 43)):=Wt D
theorem AF(T:Txt K mg t):Xg P w base Xl T.q_tree_cut 3 (jb K t.A_Web):=by
 refine T.q_tree_cut.ok ["web","tree","tie","marks"] D (λvs H Q E h=>?_) (λXG A outer s H vs Q E hr h=>?_)
 .obtain⟨w,a,n,ps,kd,ns,z,rfl,_⟩:=h;rfl
 .obtain⟨w,a,n,ps,kd,ns,z,rfl,hW,hG,hS,hI,q⟩:=h;refine⟨_,(XR (Zj (i:=3) ja.nd Z (Or.inr Z)<|XC (QQ T) hr T.q_piece_marks Zs<|XZ (pv 0)<|XZ (XC (HI T) hr T.q_ties_without Zs<|XZ (pv 1)<|XZ (pv 2) XY) XY)
   (XM<|Zi<|Zm (ZK K) uw T.n_tuple Boot.«tuple»<|XZ (TZ Z (sc0:=Xv<|top 43) (N0:=["web","tree","tie","marks"]) (N':=["number","ends","marks"]) (o:=2) (fr:=[3]) ⟨Z,D,D,D,Z,D⟩ (Gn K Z T.n_enumerate<|XZ (Zp K (pv 0) Z) XY) (PD<|Oa S<|Oa S PF) (λ_ _ _ _=>(NT (n:=2) K Z<|ZA (Zg (i:=0) (show List.Nodup (["number","ends","marks"]:List Str) by decide +kernel) Z<|Or.inl Z)<|ZA (Zg (i:=1) (show List.Nodup (["number","ends","marks"]:List Str) by decide +kernel) Z<|Or.inl Z) Of)) (λ_ _ _ _=>(Rq<|Ze SI (Zy (Zb K) (pv 2) (Zy (ZF K) (pv 1) Za λ_ _=>rfl) λ_ _=>rfl) (Zy (Zb K) (pv 2) (Zy (ZF K) (pv 1) Za λ_ _=>rfl) λ_ _=>rfl)<|Zq _)) λ_ _ _ _=>(pv 0)) XY)),?_⟩
  obtain⟨g1,g2,g3,g4⟩:=id hG;have hln:=hI.len
  have hb:∀y∈wo ns z,0<=y/\y<(ps.length:Int):=λy hy=>hI.all y (Xq.mp hy).1;refine⟨_,Z,_,Z,_,Z,a,kd,ns,z,Z,hS,J,λr1 H1 s1 VH VX=>?_⟩;refine⟨w,r1,n,ps,wo ns z,Z,hW.same s1,hG,SqT.of VX,hb,λm H2 s2 Qr VU=>?_⟩;have Wc:=ZO hG hb
  have e0:=ZZ5 (M:=Xu n.toNat<|XT ps<|wo ns z) hG (ZD _ _) (xN Wc);have hl:(Xu n.toNat<|XT ps<|wo ns z).length=n.toNat:=ZD _ _
  rw[<-e0]at q;generalize Xu n.toNat (XT ps<|wo ns z)=M at *;have WL:=s1.trans s2
  obtain⟨dx,tl,xs,h1,h2,h3⟩:=hW.same WL;have NO:=h3.1
  refine⟨_,Z,w,_,dx,_,_,Z,h1,T.cl_Web,T.n_Web_ties,Pu _ _,tl,Z,⟨_,SqL.of h2⟩,xy (K:=K) (a:=tl) (xs:=xs) (λi ys H3=>Same H2 H3/\i<=xs.length/\ys=IL (unlike M ps i)) ⟨Same.refl _,Ym _,Z⟩ (Zl J)
   (λi ys H3 _ zz=>by obtain⟨e,_,ey⟩:=zz;exact⟨SqL.of<|e _ _ h2,by rw[ey,Xx];exact Zv6 _ _ _⟩) ?_ ?_⟩
  .rintro i x ys H3 pt So hi ⟨s3,VC,rfl⟩ uo Xm;obtain⟨p,Pq,tt,rfl,Tj⟩:=h3.at hi;obtain⟨e1,e2,e3,e4⟩:=g4 p (Xf Pq);have Xo:i<xs.length:=(Xs.mp hi).1
   have s4:Same H3 (upd H3 pt<|.tup [.int i,.ref tt]):=XN So;have RO:=s3.trans s4
   have OF:=RO _ _ Tj;have AE:=RO _ _ VU
   have ed:ps.getD i (0,0)=p:=VZ Pq;have t0:Wo ([.int p.1,.int p.2]:List V) 0=some (.int p.1):=rfl
   have t1:Wo ([.int p.1,.int p.2]:List V) 1=some (.int p.2):=rfl;have iA:Wo (IL M) p.1=some (.int<|mk M p.1.toNat):=Zx (n:=p.1.toNat) J (UA<|NS uu)
   have iB:Wo (IL M) p.2=some (.int<|mk M p.2.toNat):=Zx (n:=p.2.toNat) J (UA<|NS uu);refine⟨pt,_,Z,SqT.of XS,Z,_,_,Z,_,_,Z,Z,?_⟩;refine⟨_,Z,_,Z,tt,_,0,_,Z,Z,SqT.of OF,t0,m,_,p.1,_,Z,Z,SqL.of AE,iA,_,Z,_,Z,tt,_,1,_,Z,Z,SqT.of OF,t1,m,_,p.2,_,Z,Z,SqL.of AE,iB,Z,_,Z,?_⟩;rw[ZB];refine WN (λhe=>?_) (λhe=>?_)
   .refine Xm _ _ ⟨RO,Xo,?_⟩;rw[Dh,ed,if_neg (by simpa using he),YH]
   .refine⟨_,Z,Xm _ _ ⟨RO,Xo,?_⟩⟩;rw[Dh,ed,if_pos he,ZN]
  .rintro ys H3 ⟨s3,_,rfl⟩ p hp;rw[NO];refine⟨p,_,Z,.inl ⟨SqL.of XS,λr hr=>?_⟩⟩;exact q r _ (WL.trans<|s3.trans<|Zu (XN hp) hr) ((WL.trans<|s3.trans<|XN hp).free hr) XS
noncomputable def i9(K:Ad)(C:Addr):Sp:=λvs H Q _=>∃w a n ps kd ns z,vs=[.ref w,.ref a,.int z]/\WebAt C H w n ps/\Zw n ps/\SqK kd K H a (IL ns)/\-(10^70)<z/\z<10^70/\
 (Zh n ps ns->z∉ns->0<=z->z<(ps.length:Int)->∀ms,ms.Perm (TB n ps ns z ns++[z])->ms.Pairwise (·<=·)->∀r H',Same H H'->H r=none->H' r=some (.tup<|IL ms)->Q (.ref r) H')/\
 (Zh n ps ns->(z∈ns\/¬(0<=z/\z<(ps.length:Int)))->∀H':Hp,Same H H'->False)/\(¬Zh n ps ns->∀H':Hp,Same H H'->False)
theorem i8(T:Txt K mg t):Xg P w base Xl T.q_ring_of 8 (i9 K t.A_Web):=by
 refine T.q_ring_of.ok ["web","tree","tie"] D (λvs H Q E h=>?_) (λXG A outer s H vs Q E hr h=>?_)
 .obtain⟨w,a,n,ps,kd,ns,z,rfl,_⟩:=h;rfl
 .obtain⟨w,a,n,ps,kd,ns,z,rfl,hW,hG,hS,z0,z1,q,q1,q2⟩:=h;refine⟨_,(XR (ZS<|XC (Hx T) hr T.q_refuse_no_tree Zs<|XZ (pv 0)<|XZ (pv 1) XY)
   (XR (WK (PW.pt<|SM (Ze (IU K) (pv 2) (pv 1) Z)<|QE<|QD<|Rw<|XC (Ba T) hr T.q_is_tie Zs<|XZ (pv 0)<|XZ (pv 2) XY)
   (XM Vj)
   Zo)
   (XM<|Zi<|Zm (ZK K) uw T.n_tuple Boot.«tuple»<|XZ (Zf (qq K) uw T.n_sorted Boot.«sorted»<|XZ (Zr DU (TZ Z (sc0:=Xv<|top 44) (N0:=["web","tree","tie"]) (N':=["out","tie","web","tree"]) (o:=1) (fr:=[2,0,1]) ⟨Z,D,D,D,Z,D⟩ (Lg K<|pv 1) (Zv S) (λ_ _ _ _=>(Zg (i:=0) (show List.Nodup (["out","tie","web","tree"]:List Str) by decide +kernel) Z<|Or.inl Z)) (λ_ _ _ _=>(Rq<|Ze (IU K) (pv 1) (XC (AF T) hr T.q_tree_cut Zs<|XZ (pv 2)<|XZ (pv 3)<|XZ (pv 0) XY) Z)) λ_ _ _ _=>(pv 0))<|Tc<|XZ (pv 2) XY) XY) XY))),?_⟩
  refine⟨_,Z,_,Z,w,a,n,ps,kd,ns,Z,hW,hG,hS,λhT H1 s1=>?_,q2⟩;have one:1<=sizeLine:=S
  have tl:ns.length<=20:=by have:=hT.2.1;have:=hG.2.1;lia
  refine⟨_,Z,_,Z,a,_,Z,(hS.same s1).or,Z,ZI _,_,Z,?_⟩;rw[ZT];refine Xd (λhc=>?_) (λhc=>?_)
  .exact We (q1 hT (.inl hc) H1 s1)
  .refine⟨_,Z,_,Z,w,n,ps,z,Z,hW.same s1,_,Z,?_⟩;refine WN (λht=>?_) (λht=>?_)
   .refine⟨_,Z,a,Z,xS (k:=kd) (K:=K) (xs:=IL ns) (λi ys H2=>Same H1 H2/\i<=ns.length/\ys=IL (TB n ps ns z<|ns.take i)) ⟨Same.refl _,Ym _,Z⟩ (Zl<|by rw[Xx];lia)
     (λi ys H2 hi zz=>by obtain⟨e,Wb,ey⟩:=zz;exact⟨(hS.same s1).same e,by rw[ey,Xx];exact Ys (Gh ..)<|by rw[Yl];lia⟩) ?_ ?_⟩
    .rintro i x ys H2 hi ⟨s2,VC,rfl⟩ uo Xm;obtain⟨y,rfl,hy⟩:=Uz hi;have Xo:i<ns.length:=(Xs.mp hy).1
     have WL:=s1.trans s2;refine nm ?_;refine⟨_,Z,_,Z,_,Z,_,Z,w,a,n,ps,kd,ns,y,Z,hW.same WL,hG,hS.same WL,hT.1,λr H3 s3 VH Uh=>?_⟩;refine⟨r,_,Z,.inr<|SqT.of Uh,Z,ZI _,_,Z,?_⟩;rw[ZT];refine Xd (λhe=>?_) (λhe=>?_)
     .refine⟨_,Z,Xm _ _ ⟨s2.trans s3,Xo,?_⟩⟩;rw[cS hy,if_pos he,ZN]
     .refine Xm _ _ ⟨s2.trans s3,Xo,?_⟩;rw[cS hy,if_neg he,YH]
    .rintro ys H2 ⟨s2,_,rfl⟩ p hp;rw[Xx,YF];have rl:=Gh n ps ns z ns
     refine⟨_,Z,one,λp2 VY=>?_⟩;refine qr (l2:=[z]) (by rw[Zc (Zd XS VY)];exact XS) XS (by simp only[Yq,TN];lia) λp3 Qt=>?_;refine⟨p3,_,Z,SqL.of XS,by simp only[Xt,Yq,TN];lia,λms Vs Sw p4 SR=>?_⟩;refine⟨p4,IL ms,Z,.inl ⟨SqL.of XS,λr hr=>?_⟩⟩;have s6:=(s1.trans s2).trans (Zu (Zu (XN (o:=.lst<|IL<|TB n ps ns z ns) hp) (o:=.lst<|IL [z]) VY) (o:=.lst<|IL<|TB n ps ns z ns++[z]) Qt)
     exact q hT hc ht.1 ht.2 ms Vs Sw r _ (s6.trans<|Zu (XN SR) hr) ((s6.trans<|XN SR).free hr) XS
   .exact q1 hT (.inr ht) H1 s1
noncomputable def i7(K:Ad)(C:Addr):Sp:=λvs H Q _=>∃w a n ps kd ns o z,vs=[.ref w,.ref a,.int o,.int z]/\WebAt C H w n ps/\Zw n ps/\SqK kd K H a (IL ns)/\-(10^70)<o/\o<10^70/\-(10^70)<z/\z<10^70/\
 (Zh n ps ns->exg n ps ns o z->∀ms,ms.Perm (wo ns o++[z])->ms.Pairwise (·<=·)->∀r H',Same H H'->H r=none->H' r=some (.tup<|IL ms)->Q (.ref r) H')/\
 (Zh n ps ns->¬exg n ps ns o z->∀H':Hp,Same H H'->False)/\(¬Zh n ps ns->∀H':Hp,Same H H'->False)
theorem i6(T:Txt K mg t):Xg P w base Xl T.q_exchanged 8 (i7 K t.A_Web):=by
 refine T.q_exchanged.ok ["web","tree","out","into"] D (λvs H Q E h=>?_) (λXG A outer s H vs Q E hr h=>?_)
 .obtain⟨w,a,n,ps,kd,ns,o,z,rfl,_⟩:=h;rfl
 .obtain⟨w,a,n,ps,kd,ns,o,z,rfl,hW,hG,hS,o0,o1,z0,z1,q,q1,q2⟩:=h;refine⟨_,(XR (ZS<|XC (Hx T) hr T.q_refuse_no_tree Zs<|XZ (pv 0)<|XZ (pv 1) XY)
   (XR (WK (PW.pt<|SM (Ze (ZW K) (pv 2) (pv 1) Z)<|SM (Ze Sa (pv 3) (pv 2)<|Zq _)<|QE<|Ze (ZW K) (pv 3) (XC (AF T) hr T.q_tree_cut Zs<|XZ (pv 0)<|XZ (pv 1)<|XZ (pv 2) XY) Z)
   (XM Vj)
   Zo)
   (XM<|Zi<|Zm (ZK K) uw T.n_tuple Boot.«tuple»<|XZ (Zf (Dg K) uw T.n_sorted Boot.«sorted»<|XZ (Zr (Iy K) (XC (HI T) hr T.q_ties_without Zs<|XZ (pv 1)<|XZ (pv 2) XY)<|UE<|XZ (pv 3) XY) XY) XY))),?_⟩
  refine⟨_,Z,_,Z,w,a,n,ps,kd,ns,Z,hW,hG,hS,λhT H1 s1=>?_,q2⟩;have one:1<=sizeLine:=S
  have tl:ns.length<=20:=by have:=hT.2.1;have:=hG.2.1;lia
  refine⟨_,Z,_,Z,a,_,Z,(hS.same s1).or,Z,ZI _,_,Z,?_⟩;rw[ZT];refine WN (λho=>?_) λho=>?_;rotate_left
  .exact We (q1 hT (λh=>ho h.1) H1 s1)
  refine⟨_,Z,_,Z,Z,_,Z,?_⟩;rw[ZB];refine Xd (λhe=>?_) (λhe=>?_)
  .exact We (q1 hT (λh=>h.2.1 he) H1 s1)
  refine⟨_,Z,_,Z,_,Z,_,Z,w,a,n,ps,kd,ns,o,Z,hW.same s1,hG,hS.same s1,hT.1,λr H2 s2 VH VV=>?_⟩;have WL:=s1.trans s2
  refine⟨r,_,Z,.inr<|SqT.of VV,Z,ZI _,_,Z,?_⟩;rw[ZT];refine WN (λhc=>?_) (λhc=>?_)
  .have hx:exg n ps ns o z:=⟨ho,he,hc⟩;refine⟨_,Z,_,Z,a,kd,ns,o,Z,hS.same WL,J,λr1 H3 s3 i5 i4=>?_⟩;have wl:=Pn ns o
   refine⟨_,Z,one,λp2 VY=>?_⟩;have s4:=XN (o:=.tup<|IL [z]) VY
   have LX:=(WL.trans s3).trans s4;refine⟨r1,p2,IL<|wo ns o,IL [z],Z,Z,SqT.of<|s4 _ _ i4,SqT.of XS,MO (by rw[Xx,Xx,Yq,TN];lia),λe=>?_,λ_ e=>(nomatch e),λ_ _ p3 Qt=>?_⟩
   .have e0:wo ns o=[]:=by cases h:wo ns o with|nil=>rfl|cons x l=>rw[h]at e;cases e
    refine⟨p2,[z],Z,SqT.of XS,B,λms Vs Sw p4 SR=>?_⟩;refine⟨p4,IL ms,Z,.inl ⟨SqL.of XS,λr9 hr=>?_⟩⟩;exact q hT hx ms (by rwa[e0]) Sw r9 _ (LX.trans<|Zu (XN SR) hr) ((LX.trans<|XN SR).free hr) XS
   .have AD:=LX.trans (XN (o:=.tup<|IL (wo ns o)++IL [z]) Qt);refine⟨p3,wo ns o++[z],Z,SqT.of (by rw[XS];congr 2;exact(YJ ..).symm),by simp only[Xt,Yq,TN];lia,λms Vs Sw p4 SR=>?_⟩;refine⟨p4,IL ms,Z,.inl ⟨SqL.of XS,λr9 hr=>?_⟩⟩;exact q hT hx ms Vs Sw r9 _ (AD.trans<|Zu (XN SR) hr) ((AD.trans<|XN SR).free hr) XS
  .exact q1 hT (λh=>hc h.2.2) H2 WL
noncomputable def i3(K:Ad)(C:Addr):Sp:=λvs H Q _=>∃w a b n ps I O,vs=[.ref w,.ref a,.ref b]/\WebAt C H w n ps/\Zw n ps/\SqT K H a (IL I)/\SqT K H b (IL O)/\I.Nodup/\(∀z∈I,0<=z/\z<(ps.length:Int))/\(∀z∈I,z∉O)/\
 (∀H':Hp,Same H H'->(∀U,¬With n ps I O U)->Q .non H')/\
 (∀r F H',Same H H'->H' r=some (.tup<|IL F)->With n ps I O F->(∀U,With n ps I O U->HT.lexLt U F=false)->Q (.ref r) H')
theorem AB(T:Txt K mg t):Xg P w base Xl T.q_least_in 4 (i3 K t.A_Web):=by
 refine T.q_least_in.ok ["web","inside","outside"] D (λvs H Q E h=>?_) (λXG A outer s H vs Q E hr h=>?_)
 .obtain⟨w,a,b,n,ps,I,O,rfl,_⟩:=h;rfl
 .obtain⟨w,a,b,n,ps,I,O,rfl,hW,hG,hA,hB,hIn,Xp,hd,q0,q1⟩:=h;refine⟨_,(XM<|Zi<|XC (AI T) hr T.q_grown_tree Zs<|XZ (pv 0)<|XZ (pv 1)<|XZ (XC (jY T) hr T.q_ties_beside Zs<|XZ (pv 0)<|XZ (pv 2) XY) XY),?_⟩;have g3:=hG.2.2.1
  refine⟨_,Z,_,Z,_,Z,_,Z,w,b,n,ps,true,O,Z,hW,J,hB,λum hDa hD dA H1 s1 AA=>?_⟩;have hDs:IsSet ps.length um:=XX.mpr ⟨λz hz=>((hD z).mp hz).1,hDa⟩
  have hb:∀z∈I++um,0<=z/\z<(ps.length:Int):=λz hz=>(Xz.mp hz).elim (Xp z) λh=>((hD z).mp h).1;have il:I.length<=ps.length:=by
   have:=Iu (m:=Wg ps.length) hIn λz hz=>XA.mpr (Xp z hz)
   rwa[ZM]at this
  have dl:=hDs.len;refine⟨w,a,dA,n,ps,true,true,I,um,Z,hW.same s1,hG,Li s1 hA,SqT.of AA,J,J,hb,λh H2 s2=>q0 H2 (s1.trans s2) λU hU=>?_,λht hl r ms H2 Vs Sw s2 VH hr=>?_⟩
  .have:=pG hG hU.1 hIn hU.2.1 (hU.sub hD) hb
   rcases h with h|h
   .exact h this.1
   .exact this.2 h
  .have hF:With n ps I O ms:=⟨Zd6 hG hb hl Vs Sw,λz hz=>Vs.mem_iff.mpr<|Fz<|ht▸hz,λz hz h=>(Xz.mp<|(xk _ _ _).subset (Vs.mem_iff.mp h)).elim (λh=>hd z h hz) λh=>((hD z).mp h).2 hz⟩;exact q1 r ms H2 (s1.trans s2) hr hF λU hU=>Zn7 hG hU.1 hU.2.1 (hU.sub hD) hb hDa hF.1 Vs hF.2.1
noncomputable def iZ(K:Ad)(C:Addr):Sp:=λvs H Q _=>∃w m n ps M z,vs=[.ref w,.ref m,.int z]/\WebAt C H w n ps/\Zw n ps/\H m=some (.lst<|IL M)/\M.length=n.toNat/\0<=z/\z<(ps.length:Int)/\
 ∀r l H',l.Perm [mk M (ps.getD z.toNat (0,0)).1.toNat,mk M (ps.getD z.toNat (0,0)).2.toNat]->l.Pairwise (·<=·)->Same H H'->H' r=some (.lst<|IL l)->Q (.ref r) H'
theorem iY:FnScope ["web","marks","tie","ends"] ["web","marks","tie"] (Xv (top 50)):=Wt D
theorem Az(T:Txt K mg t):Xg P w base Xl T.q_end_pieces 1 (iZ K t.A_Web):=by
 refine T.q_end_pieces.ok ["web","marks","tie","ends"] D (λvs H Q E h=>?_) (λXG A outer s H vs Q E hr h=>?_)
 .obtain⟨w,m,n,ps,M,z,rfl,_⟩:=h;rfl
 .obtain⟨w,m,n,ps,M,z,rfl,hW,hG,hM,Qp,z0,z1,q⟩:=h;refine⟨_,(XR (Zj (i:=3) iY.nd Z (Or.inl Z)<|Zy (Zb K) (Zp K (pv 0) Z) (pv 2) λ_ _=>rfl)
   (XM<|Zi<|Zf (qq K) uw T.n_sorted Boot.«sorted»<|XZ (Tc<|XZ (Zy (Zb K) (pv 1) (Zy (ZF K) (pv 3) Za λ_ _=>rfl) λ_ _=>rfl)<|XZ (Zy (Zb K) (pv 1) (Zy (ZF K) (pv 3) Za λ_ _=>rfl) λ_ _=>rfl) XY) XY)),?_⟩
  obtain⟨g1,g2,g3,g4⟩:=id hG;obtain⟨dx,tl,xs,h1,h2,h3⟩:=id hW;obtain⟨p,hp⟩:∃p,ps[z.toNat]?=some p:=⟨_,Xw J⟩;have ep:ps.getD z.toNat (0,0)=p:=VZ hp
  rw[ep]at q;obtain⟨v,hv,tt,rfl,Tj⟩:=h3.2 _ p hp;obtain⟨e1,e2,e3,e4⟩:=g4 p (Xf hp);have t0:Wo ([.int p.1,.int p.2]:List V) 0=some (.int p.1):=rfl
  have t1:Wo ([.int p.1,.int p.2]:List V) 1=some (.int p.2):=rfl;have iA:Wo (IL M) p.1=some (.int<|mk M p.1.toNat):=Zx (n:=p.1.toNat) J (UA<|NS uu)
  have iB:Wo (IL M) p.2=some (.int<|mk M p.2.toNat):=Zx (n:=p.2.toNat) J (UA<|NS uu);refine⟨_,Z,w,_,dx,_,_,Z,h1,T.cl_Web,T.n_Web_ties,Pu _ _,_,Z,tl,_,_,.ref tt,Z,Z,SqL.of h2,Zx (n:=z.toNat) J hv,?_⟩;refine nm ?_;refine⟨_,Z,_,Z,tt,_,0,_,Z,Z,SqT.of Tj,t0,m,_,p.1,_,Z,Z,SqL.of hM,iA,_,Z,_,Z,tt,_,1,_,Z,Z,SqT.of Tj,t1,m,_,p.2,_,Z,Z,SqL.of hM,iB,(by show 2<=sizeLine;decide),λa ha=>?_⟩;have s1:=XN (o:=.lst<|IL [mk M p.1.toNat,mk M p.2.toNat]) ha
  refine⟨a,[mk M p.1.toNat,mk M p.2.toNat],Z,SqL.of XS,(by show 2<64;decide),λl hl hs r hr=>?_⟩;exact q r l _ hl hs (s1.trans<|XN hr) XS
noncomputable def iX(K:Ad)(C:Addr):Sp:=λvs H Q _=>∃w m a n ps M g,vs=[.ref w,.ref m,.ref a]/\WebAt C H w n ps/\Zw n ps/\H m=some (.lst<|IL M)/\M.length=n.toNat/\SqT K H a (IL g)/\
 ∀r H',Same H H'->H r=none->H' r=some (.lst<|IL<|Mh M ps g ps.length)->Q (.ref r) H'
theorem Ay(T:Txt K mg t):Xg P w base Xl T.q_open_ties 1 (iX K t.A_Web):=by
 refine T.q_open_ties.ok ["web","marks","gone"] D (λvs H Q E h=>?_) (λXG A outer s H vs Q E hr h=>?_)
 .obtain⟨w,m,a,n,ps,M,g,rfl,_⟩:=h;rfl
 .obtain⟨w,m,a,n,ps,M,g,rfl,hW,hG,hM,Qp,hA,q⟩:=h;refine⟨_,(XM<|Zi<|TZ Z (sc0:=Xv<|top 51) (N0:=["web","marks","gone"]) (N':=["tie","ends","gone","marks"]) (o:=2) (fr:=[2,1]) ⟨Z,D,D,D,Z,D⟩ (Gn K Z T.n_enumerate<|XZ (Zp K (pv 0) Z) XY) (PD<|Oa S<|Oa S PF) (λ_ _ _ _=>(NT (n:=2) K Z<|ZA (Zg (i:=0) (show List.Nodup (["tie","ends","gone","marks"]:List Str) by decide +kernel) Z<|Or.inl Z)<|ZA (Zg (i:=1) (show List.Nodup (["tie","ends","gone","marks"]:List Str) by decide +kernel) Z<|Or.inl Z) Of)) (λ_ _ _ _=>(Rq<|PW.pt<|yn (Ze (ZW K) (pv 0) (pv 2) Z)<|Ng<|Ze SI (Zy (Zb K) (pv 3) (Zy (ZF K) (pv 1) Za λ_ _=>rfl) λ_ _=>rfl) (Zy (Zb K) (pv 3) (Zy (ZF K) (pv 1) Za λ_ _=>rfl) λ_ _=>rfl)<|Zq _)) λ_ _ _ _=>(pv 0)),?_⟩;obtain⟨g1,g2,g3,g4⟩:=id hG;obtain⟨dx,tl,xs,h1,h2,h3⟩:=id hW;have NO:=h3.1
  refine⟨_,Z,w,_,dx,_,_,Z,h1,T.cl_Web,T.n_Web_ties,Pu _ _,tl,Z,⟨_,SqL.of h2⟩,xy (K:=K) (a:=tl) (xs:=xs) (λi ys H3=>Same H H3/\i<=xs.length/\ys=IL (Mh M ps g i)) ⟨Same.refl _,Ym _,Z⟩ (Zl J)
   (λi ys H3 _ h=>by obtain⟨e,_,ey⟩:=h;exact⟨SqL.of<|e _ _ h2,by rw[ey,Xx];exact lu _ _ _ _⟩) ?_ ?_⟩
  .rintro i x ys H3 pt So hi ⟨s3,VC,rfl⟩ uo Xm;obtain⟨p,Pq,tt,rfl,Tj⟩:=h3.at hi;obtain⟨e1,e2,e3,e4⟩:=g4 p (Xf Pq);have Xo:i<xs.length:=(Xs.mp hi).1
   have s4:Same H3 (upd H3 pt<|.tup [.int i,.ref tt]):=XN So;have RO:=s3.trans s4
   have OF:=RO _ _ Tj;have AE:=RO _ _ hM
   have NH:=SqK.same (k:=true) RO hA;have ed:ps.getD i (0,0)=p:=VZ Pq
   have t0:Wo ([.int p.1,.int p.2]:List V) 0=some (.int p.1):=rfl;have t1:Wo ([.int p.1,.int p.2]:List V) 1=some (.int p.2):=rfl
   have iA:Wo (IL M) p.1=some (.int<|mk M p.1.toNat):=Zx (n:=p.1.toNat) J (UA<|NS uu);have iB:Wo (IL M) p.2=some (.int<|mk M p.2.toNat):=Zx (n:=p.2.toNat) J (UA<|NS uu)
   have hs:=lx M ps g i;rw[ed]at hs;refine⟨pt,_,Z,SqT.of XS,Z,_,_,Z,_,_,Z,Z,?_⟩;refine⟨_,Z,_,Z,a,_,Z,.inr NH,Z,ZI _,_,Z,?_⟩;rw[ZT];refine WN (λhe=>?_) (λhe=>?_)
   .refine Xm _ _ ⟨RO,Xo,?_⟩;rw[hs,if_neg λh=>h.1 he,YH]
   refine⟨_,Z,_,Z,tt,_,0,_,Z,Z,SqT.of OF,t0,m,_,p.1,_,Z,Z,SqL.of AE,iA,_,Z,_,Z,tt,_,1,_,Z,Z,SqT.of OF,t1,m,_,p.2,_,Z,Z,SqL.of AE,iB,Z,_,Z,?_⟩;rw[ZB];refine WN (λhx=>?_) (λhx=>?_)
   .refine Xm _ _ ⟨RO,Xo,?_⟩;rw[hs,if_neg λh=>h.2 hx,YH]
   .refine⟨_,Z,Xm _ _ ⟨RO,Xo,?_⟩⟩;rw[hs,if_pos ⟨he,hx⟩,ZN]
  .rintro ys H3 ⟨s3,_,rfl⟩ p hp;rw[NO];exact q p _ (s3.trans<|XN hp) (s3.free hp) XS
noncomputable def Ax(st:Stmt):Pos:=match (RY st).getD 9 (.Pass ⟨0,0,0,0⟩) with
 | .Assign _ (.Call _ _ [k] _) _=>(match k.value with
  | .Lambda _ _ _ p=>p
  |_=>⟨0,0,0,0⟩)
 |_=>⟨0,0,0,0⟩
noncomputable def iW:Str:=Str.ofString "Part.__init__"++Str.ofString ".<locals>."++Str.ofString "<lambda>"
noncomputable abbrev Xn(H:Hp)(Pt:Addr):Prop:=TabH H Pt (Ax sZx) iW
noncomputable def ZF2(K:Ad)(CP C Pt:Addr):Sp:=λvs H Q _=>∃x dx w a b n ps I O ld,vs=[.ref x,.ref w,.ref a,.ref b,Xa ld]/\H x=some (.ins CP dx [])/\WebAt C H w n ps/\Zw n ps/\Xn H Pt/\
 SqT K H a (IL I)/\SqT K H b (IL O)/\I.Nodup/\(∀z∈I,0<=z/\z<(ps.length:Int))/\(∀z∈I,z∉O)/\O.length<=30/\(∃U,With n ps I O U)/\(∀y,ld=some y->0<=y/\y<(ps.length:Int))/\(ld=none->∀F,With n ps I O F->(∀U,With n ps I O U->HT.lexLt U F=false)->WT n ps I O F=[])/\
 ∀F inc fu l i H',With n ps I O F->(∀U,With n ps I O U->HT.lexLt U F=false)->RR (λz=>PyProof.Rows.b2i<|decide<|ld=some z) (Tq n ps I O F ld) inc->(fu=none↔VO n ps I O F ld=[])->(∀y,fu=some y->y∈VO n ps I O F ld/\∀z∈VO n ps I O F ld,y<=z)->
  H' x=some (.ins CP dx<|wF (.ref w) (.ref a) (.ref b) (Xa ld) (.ref l) (.ref i)<|Xa fu)->H' l=some (.tup<|IL F)->H' i=some (.lst<|IL inc)->(∀b o,b≠x->b≠Pt->H b=some o->H' b=some o)->Xn H' Pt->Q .non H'
theorem OE:FnScope ["self","web","kept","shut","lead","marks","opened","alike","unlike"] ["self","web","kept","shut","lead"] (Xv sZx):=Wt D
theorem Hu {Pt:Addr} (T:Txt K mg t) (hB:SS K mg base t.dZx Pt):FnOk P w K mg base Xl 8 t.aZx t.dZx ["self","web","kept","shut","lead"] (ZF2 K t.A_Part t.A_Web Pt):=by
 obtain⟨cA,Ux,hC,hBa,BM⟩:=hB;refine T.fZx.okL Ux OE (λvs H Q E h=>?_) (λA outer s H vs Q E hr h=>?_)
 .obtain⟨x,dx,w,a,b,n,ps,I,O,ld,rfl,_⟩:=h;rfl
 .obtain⟨x,dx,w,a,b,n,ps,I,O,ld,rfl,hx,hW,hG,hT,hA,RM,hIn,Xp,UW,RL,⟨U0,LW⟩,Bj,SY,q⟩:=h;refine⟨_,(XR (MX (pv 0) (pv 1) Z)
   (XR (MX (pv 0) (pv 2) Z)
   (XR (MX (pv 0) (pv 3) Z)
   (XR (MX (pv 0) (pv 4) Z)
   (XR (MX (pv 0) (XC (AB T) hr T.q_least_in Zs<|XZ (pv 1)<|XZ (pv 2)<|XZ (pv 3) XY) Z)
   (XR (Zj (i:=5) OE.nd Z (Or.inr Z)<|XC (QQ T) hr T.q_piece_marks Zs<|XZ (pv 1)<|XZ (pv 2) XY)
   (XR (Zj (i:=6) OE.nd Z (Or.inl Z)<|XC (Ay T) hr T.q_open_ties Zs<|XZ (pv 1)<|XZ (pv 5)<|XZ (Zr (Iy K) (Zr (Iy K) (pv 2)<|pv 3)<|Zp K (pv 0) Z) XY)
   (XR (Zj (i:=7) OE.nd Z (Or.inr Z)<|TZ Z (sc0:=Xv sZx) (N0:=["self","web","kept","shut","lead","marks","opened","alike","unlike"]) (N':=["tie","web","marks","lead"]) (o:=1) (fr:=[1,5,4]) ⟨Z,D,D,D,Z,D⟩ (ZR K<|pv 6) (Zv S) (λ_ _ _ _=>(Zg (i:=0) (show List.Nodup (["tie","web","marks","lead"]:List Str) by decide +kernel) Z<|Or.inl Z)) (λ_ _ _ _=>(Rq<|Ze (qN K<|MN hr) (XC (Az T) hr T.q_end_pieces Zs<|XZ (pv 1)<|XZ (pv 2)<|XZ (pv 0) XY) (XC (Az T) hr T.q_end_pieces Zs<|XZ (pv 1)<|XZ (pv 2)<|XZ (pv 3) XY)<|Zq _)) λ_ _ _ _=>(pv 0))
   (XR (QA (i:=8) Z OE.nd Z Z (sc0:=Xv sZx) (N0:=["self","web","kept","shut","lead","marks","opened","alike","unlike"]) (N':=["tie","alike"]) (o:=1) (fr:=[7]) ⟨Z,D,D,D,Z,D⟩ (ZR K<|pv 6) (Zv S) (λ_ _ _ _=>(Zg (i:=0) (show List.Nodup (["tie","alike"]:List Str) by decide +kernel) Z<|Or.inl Z)) (λ_ _ _ _=>(Rq<|Ze (ZW K) (pv 0) (pv 1) Z)) λ_ _ _ _=>(pv 0))
   (XR (MX (pv 0) (lI (k:=0) (i:=4) (v:="tie") (x:="lead") (pv 7) uw T.n_sorted (hr.mono S) rfl rfl hC hBa BM (LamScope.of rfl rfl rfl (by first|exact .inl rfl|exact .inr rfl) S) rfl rfl (λ_ _ _ _=>rfl) rfl rfl rfl λ_ _ _ _ _ _ hr=>(Oe Sa (pv 0) (pv 1)<|Zq _)) rfl)
   (XM<|MX (pv 0) (Zr9 Z uw T.n_min<|pv 8) Z))))))))))),?_⟩
  obtain⟨g1,g2,g3,g4⟩:=id hG;refine⟨_,Z,_,Z,x,_,dx,[],Z,hx,T.cl_Part,T.n_Part_web,(by show 0<1000;decide),?_⟩;refine⟨_,Z,_,Z,x,_,dx,_,Z,XS,T.cl_Part,T.n_Part_kept,(by show 1<1000;decide),?_⟩;refine⟨_,Z,_,Z,x,_,dx,_,Z,XS,T.cl_Part,T.n_Part_shut,(by show 2<1000;decide),?_⟩;refine⟨_,Z,_,Z,x,_,dx,_,Z,XS,T.cl_Part,T.n_Part_lead,(by show 3<1000;decide),?_⟩;change TM _ _ _ [some (.ref x),some<|.ref w,some<|.ref a,some<|.ref b,some<|Xa ld,none,none,none,none] (upd (upd (upd (upd H x<|.ins t.A_Part dx<|XQ "web" (.ref w) []) x<|.ins t.A_Part dx<|XQ "kept" (.ref a)<|XQ "web" (.ref w) []) x<|.ins t.A_Part dx<|XQ "shut" (.ref b)<|XQ "kept" (.ref a)<|XQ "web" (.ref w) []) x<|.ins t.A_Part dx<|XQ "lead" (Xa ld)<|XQ "shut" (.ref b)<|XQ "kept" (.ref a)<|XQ "web" (.ref w) []);have SQ:SameX x H (upd (upd (upd (upd H x<|.ins t.A_Part dx<|XQ "web" (.ref w) []) x<|.ins t.A_Part dx<|XQ "kept" (.ref a)<|XQ "web" (.ref w) []) x<|.ins t.A_Part dx<|XQ "shut" (.ref b)<|XQ "kept" (.ref a)<|XQ "web" (.ref w) []) x<|.ins t.A_Part dx<|XQ "lead" (Xa ld)<|XQ "shut" (.ref b)<|XQ "kept" (.ref a)<|XQ "web" (.ref w) []):=((Wz.trans Wz).trans Wz).trans Wz
  have we:(upd (upd (upd (upd H x<|.ins t.A_Part dx<|XQ "web" (.ref w) []) x<|.ins t.A_Part dx<|XQ "kept" (.ref a)<|XQ "web" (.ref w) []) x<|.ins t.A_Part dx<|XQ "shut" (.ref b)<|XQ "kept" (.ref a)<|XQ "web" (.ref w) []) x<|.ins t.A_Part dx<|XQ "lead" (Xa ld)<|XQ "shut" (.ref b)<|XQ "kept" (.ref a)<|XQ "web" (.ref w) []) x=some (.ins t.A_Part dx [("web",.ref w),("kept",.ref a),("shut",.ref b),("lead",Xa ld)]):=XS;generalize upd (upd (upd (upd H x<|.ins t.A_Part dx<|XQ "web" (.ref w) []) x<|.ins t.A_Part dx<|XQ "kept" (.ref a)<|XQ "web" (.ref w) []) x<|.ins t.A_Part dx<|XQ "shut" (.ref b)<|XQ "kept" (.ref a)<|XQ "web" (.ref w) []) x (.ins t.A_Part dx<|XQ "lead" (Xa ld)<|XQ "shut" (.ref b)<|XQ "kept" (.ref a)<|XQ "web" (.ref w) [])=H4 at *;have iV:=hW.but hx SQ
  have NH:=BA hA hx SQ;have jq:=BA RM hx SQ
  have il:I.length<=ps.length:=by
   have:=Iu (m:=Wg ps.length) hIn λz hz=>XA.mpr (Xp z hz)
   rwa[ZM]at this
  refine⟨_,Z,_,Z,_,Z,w,a,b,n,ps,I,O,Z,iV,hG,NH,jq,hIn,Xp,UW,λH5 s5 h=>absurd LW<|h U0,λl F H5 s5 hl hF VB=>?_⟩;refine⟨_,Z,x,_,dx,_,Z,s5 _ _ we,T.cl_Part,T.n_Part_least,(by show 4<1000;decide),?_⟩;have ND:SameX x H H5:=SQ.trans (SameX.same s5)
  have LV:SameX x H (upd H5 x<|.ins t.A_Part dx<|XQ "least" (.ref l) [("web",.ref w),("kept",.ref a),("shut",.ref b),("lead",Xa ld)]):=ND.trans Wz;have hx6:(upd H5 x<|.ins t.A_Part dx<|XQ "least" (.ref l) [("web",.ref w),("kept",.ref a),("shut",.ref b),("lead",Xa ld)]) x=some (.ins t.A_Part dx [("web",.ref w),("kept",.ref a),("shut",.ref b),("lead",Xa ld),("least",.ref l)]):=XS
  have AS:(upd H5 x<|.ins t.A_Part dx<|XQ "least" (.ref l) [("web",.ref w),("kept",.ref a),("shut",.ref b),("lead",Xa ld)]) l=some (.tup<|IL F):=by rwa[Zc (λe=>by rw[e,s5 _ _ we]at hl;cases hl)]
  change TM _ _ _ [some (.ref x),some<|.ref w,some<|.ref a,some<|.ref b,some<|Xa ld,none,none,none,none] (upd H5 x<|.ins t.A_Part dx<|XQ "least" (.ref l) [("web",.ref w),("kept",.ref a),("shut",.ref b),("lead",Xa ld)]);generalize upd H5 x (.ins t.A_Part dx<|XQ "least" (.ref l) [("web",.ref w),("kept",.ref a),("shut",.ref b),("lead",Xa ld)])=H6 at *;refine⟨_,Z,_,Z,w,a,n,ps,I,Z,hW.but hx LV,hG,BA hA hx LV,Xp,λm H7 s7 Qr vZ=>?_⟩;refine nm ?_;dsimp only[List.set];have NC:SameX x H H7:=LV.trans (SameX.same s7)
  have iU:F.length<=ps.length:=hF.1.1.len;have Qp:(Xu n.toNat<|XT ps I).length=n.toNat:=ZD _ _
  refine⟨_,Z,_,Z,_,Z,_,Z,?_⟩;refine By (l:=I) (m:=O) (BA hA hx NC) (BA RM hx NC) J λr1 H8 s8 VX=>?_;have Kk:SameX x H H8:=NC.trans (SameX.same s8)
  have iT:=s7.trans s8;refine⟨_,Z,x,_,dx,_,.ref l,Z,iT _ _ hx6,T.cl_Part,T.n_Part_least,Z,?_⟩;refine By (l:=I++O) (m:=F) VX (SqT.of<|iT _ _ AS) (by rw[Xt];lia) λr2 H9 s9 VV=>?_;have s69:=iT.trans s9
  have QN:SameX x H H9:=Kk.trans (SameX.same s9);have wb:=s8.trans s9
  refine⟨w,m,r2,n,ps,Xu n.toNat<|XT ps I,I++O++F,Z,hW.but hx QN,hG,wb _ _ vZ,Qp,VV,λpA Hz LY hp0 OD=>?_⟩;have OD:Hz pA=some (.lst<|IL<|WT n ps I O F):=OD
  refine nm ?_;have sxA:SameX x H Hz:=QN.trans (SameX.same LY)
  have s6A:=s69.trans LY;have hmA:=(wb.trans LY) _ _ vZ
  have Rp:∀z∈WT n ps I O F,0<=z/\z<(ps.length:Int):=λz hz=>Zv9 hz;have QB:(WT n ps I O F).length<=ps.length:=lu _ _ _ _
  refine⟨_,Z,pA,Z,⟨_,SqL.of OD⟩,Rn (K:=K) (a:=pA) (xs:=IL<|WT n ps I O F) (λi ws QO=>Same Hz QO/\i<=(WT n ps I O F).length/\ws=IL (((WT n ps I O F).take i).filter λz=>decide<|∃y,ld=some y/\Uw (Xu n.toNat<|XT ps I) ps z=Uw (Xu n.toNat<|XT ps I) ps y)) ⟨Same.refl _,Ym _,Z⟩ (Zl<|by rw[Xx];lia)
   (λi ws QO hi h=>by obtain⟨e,Wb,ew⟩:=h;exact⟨SqL.of<|e _ _ OD,by rw[ew,Xx];exact Ys (YG ..)<|by rw[Yl];lia⟩) ?_ ?_⟩
  .rintro i v ws QO hi ⟨Hy,VC,rfl⟩ uo Xm;obtain⟨z,rfl,hz⟩:=Uz hi;obtain⟨z0,z1⟩:=Rp z (Xf hz);have Xo:i<(WT n ps I O F).length:=(Xs.mp hz).1
   obtain⟨y,rfl⟩:∃y,ld=some y:=by
    cases ld with
    |some y=>exact⟨y,Z⟩
    |none=>
     rw[SY Z F hF VB]at Xo;exact absurd Xo (Wk _)
   obtain⟨y0,y1⟩:=Bj y rfl;refine nm ?_;refine⟨_,Z,_,Z,_,Z,w,m,n,ps,_,z,Z,hW.but hx<|sxA.trans<|SameX.same Hy,hG,Hy _ _ hmA,Qp,z0,z1,λe1 l1 H12 To hs1 WL Ih=>?_⟩;have Ht:=Hy.trans WL
   refine⟨_,Z,_,Z,_,Z,w,m,n,ps,_,y,Z,hW.but hx<|sxA.trans<|SameX.same Ht,hG,Ht _ _ hmA,Qp,y0,y1,λe2 l2 H13 RZ Td vY Py=>?_⟩;refine⟨1,_,e1,e2,Z,Z,S,c9 (SqL.of<|vY _ _ Ih)<|SqL.of Py,_,Z,?_⟩;have ed:decide (l1=l2)=decide (∃y_1,some y=some y_1/\Uw (Xu n.toNat<|XT ps I) ps z=Uw (Xu n.toNat<|XT ps I) ps y_1):=by
    rw[ZR3 To hs1,ZR3 RZ Td,Fp];constructor
    .intro e;injection e with e1 e2
     injection e2 with e2 _;exact⟨y,Z,Prod.ext e1 e2⟩
    .rintro⟨y',e,e'⟩;cases e;obtain⟨e1,e2⟩:=Prod.mk.inj e';rw[e1,e2]
   have Aw:=Ht.trans vY;show(if decide (l1=l2)=true then _ else _)
   rw[ed];refine Xd (λhc=>?_) (λhc=>?_)
   .refine⟨_,Z,Xm _ _ ⟨Aw,Xo,?_⟩⟩;rw[ZJ hz,if_pos<|Yn hc,ZN]
   .refine Xm _ _ ⟨Aw,Xo,?_⟩;rw[ZJ hz,if_neg (by simpa using hc),YH]
  rintro ws QO ⟨Hy,_,rfl⟩ kA hkA;rw[Xx,YF];have ea:((WT n ps I O F).filter λz=>decide<|∃y,ld=some y/\Uw (Xu n.toNat<|XT ps I) ps z=Uw (Xu n.toNat<|XT ps I) ps y)=Tq n ps I O F ld:=rfl
  rw[ea];have hal:(Tq n ps I O F ld).length<=ps.length:=Ys (YG ..) QB
  have v1:=XN (o:=.lst<|IL<|Tq n ps I O F ld) hkA;have kK:(upd QO kA<|.lst<|IL<|Tq n ps I O F ld) kA=some (.lst<|IL<|Tq n ps I O F ld):=XS
  refine nm ?_;dsimp only[List.set];have sAB:=Hy.trans v1
  change TM _ _ _ _ (upd QO kA<|.lst<|IL<|Tq n ps I O F ld);generalize upd QO kA (.lst<|IL<|Tq n ps I O F ld)=H14 at *;have hpB:=sAB _ _ OD
  refine⟨_,Z,pA,Z,⟨_,SqL.of hpB⟩,Rn (K:=K) (a:=pA) (xs:=IL<|WT n ps I O F) (λi ws Kj=>Kj=H14/\i<=(WT n ps I O F).length/\ws=IL (((WT n ps I O F).take i).filter λz=>decide<|z∉Tq n ps I O F ld)) ⟨Z,Ym _,Z⟩ (Zl<|by rw[Xx];lia)
   (λi ws Kj hi h=>by obtain⟨e,Wb,ew⟩:=h;exact⟨e▸SqL.of hpB,by rw[ew,Xx];exact Ys (YG ..)<|by rw[Yl];lia⟩) ?_ ?_⟩
  .rintro i v ws Kj hi ⟨rfl,VC,rfl⟩ uo Xm;obtain⟨z,rfl,hz⟩:=Uz hi;have Xo:i<(WT n ps I O F).length:=(Xs.mp hz).1
   refine nm ?_;refine⟨_,Z,_,Z,kA,_,Z,.inl<|SqL.of kK,Z,ZI _,_,Z,?_⟩;rw[ZT];refine WN (λhe=>?_) (λhe=>?_)
   .refine Xm _ _ ⟨Z,Xo,?_⟩;rw[ZJ hz,if_neg (by simpa using he),YH]
   .refine⟨_,Z,Xm _ _ ⟨Z,Xo,?_⟩⟩;rw[ZJ hz,if_pos<|Yn he,ZN]
  rintro ws Kj ⟨rfl,_,rfl⟩ uA huA;rw[Xx,YF];have eu:((WT n ps I O F).filter λz=>decide<|z∉Tq n ps I O F ld)=VO n ps I O F ld:=rfl
  rw[eu];have v2:=XN (o:=.lst<|IL<|VO n ps I O F ld) huA
  have kU:(upd Kj uA<|.lst<|IL<|VO n ps I O F ld) uA=some (.lst<|IL<|VO n ps I O F ld):=XS;refine nm ?_;have iS:=(s6A.trans sAB).trans v2
  have kKU:=v2 _ _ kK;have sxU:SameX x H (upd Kj uA<|.lst<|IL<|VO n ps I O F ld):=LV.trans (SameX.same iS)
  have Iq:=iS _ _ hx6;have hlU:=iS _ _ AS
  change TM _ _ _ _ (upd Kj uA<|.lst<|IL<|VO n ps I O F ld);generalize upd Kj uA (.lst<|IL<|VO n ps I O F ld)=H16 at *;have LU:Xn H16 Pt:=Bz hT hx sxU
  refine⟨_,Z,kA,Tq n ps I O F ld,Xa ld,λz=>decide<|ld=some z,Z,SqL.of kKU,J,LU,Z,λAv OC z hz=>?_,λinc iA Av Wx OC Au iR=>?_⟩
  .refine⟨_,rfl,_,rfl,(by cases ld<;>rfl),?_,rfl⟩
   show V.bl (decide<|V.int z=Xa ld)=V.bl (decide<|ld=some z);cases ld with
   |none=>rfl
   |some y=>
    show V.bl (decide<|V.int z=V.int y)=V.bl (decide<|some y=some z);rw[ZB];congr 1;rw[Fp];exact⟨λe=>by rw[e],λe=>(Yh e).symm⟩
  have hxP:x≠Pt:=LU.ne Iq B;have v3:=XN (o:=.lst<|IL inc) iR
  have As:=v3 _ _ (OC _ _ hxP Iq);have Ar:=v3 _ _ (OC _ _ (LU.ne hlU B) hlU)
  have Aq:=v3 _ _ (OC _ _ (LU.ne kU B) kU);have Ap:(upd Av iA<|.lst<|IL inc) iA=some (.lst<|IL inc):=XS
  have Ao:Xn (upd Av iA<|.lst<|IL inc) Pt:=Au.same v3;have Hs:∀b o,b≠x->b≠Pt->H b=some o->(upd Av iA<|.lst<|IL inc) b=some o:=λb o h1 h2 e=>v3 _ _ (OC _ _ h2<|sxU _ _ h1 e)
  change ∃_,_;generalize upd Av iA (.lst<|IL inc)=An at *;refine⟨_,Z,x,_,dx,_,Z,As,T.cl_Part,T.n_Part_incoming,(by show 5<1000;decide),?_⟩;have OB:∀c o,An c=some o->(∀a b fs,o≠.ins a b fs)->c≠x:=λc o h ho e=>by rw[e,As]at h;exact ho _ _ _ (Yh h).symm
  have iQ:(upd An x<|.ins t.A_Part dx<|XQ "incoming" (.ref iA) [("web",.ref w),("kept",.ref a),("shut",.ref b),("lead",Xa ld),("least",.ref l)]) uA=some (.lst<|IL<|VO n ps I O F ld):=by rw[Zc (OB _ _ Aq B)];exact Aq
  have fin:∀fu:Option Int,(fu=none↔VO n ps I O F ld=[])->(∀y,fu=some y->y∈VO n ps I O F ld/\∀z∈VO n ps I O F ld,y<=z)->Q .non (upd (upd An x<|.ins t.A_Part dx<|XQ "incoming" (.ref iA) [("web",.ref w),("kept",.ref a),("shut",.ref b),("lead",Xa ld),("least",.ref l)]) x<|.ins t.A_Part dx<|wF (.ref w) (.ref a) (.ref b) (Xa ld) (.ref l) (.ref iA)<|Xa fu):=λfu h1 h2=>by
   have up:∀c o,c≠x->An c=some o->(upd (upd An x<|.ins t.A_Part dx<|XQ "incoming" (.ref iA) [("web",.ref w),("kept",.ref a),("shut",.ref b),("lead",Xa ld),("least",.ref l)]) x<|.ins t.A_Part dx<|wF (.ref w) (.ref a) (.ref b) (Xa ld) (.ref l) (.ref iA)<|Xa fu) c=some o:=λc o h e=>by rw[Zc h,Zc h];exact e
   obtain⟨tp,t1,t2,t3⟩:=id Ao;refine q F inc fu l iA _ hF VB Wx h1 h2 XS (up _ _ (OB _ _ Ar B) Ar) (up _ _ (OB _ _ Ap B) Ap) (λb o b1 b2 e=>up _ _ b1<|Hs b o b1 b2 e) ⟨tp,up _ _ (OB _ _ t1 B) t1,t2,?_⟩;rcases t3 with h|⟨c,h,h'⟩
   .exact .inl h
   .exact .inr ⟨c,h,up _ _ (OB _ _ h'<|by unfold FP;simp) h'⟩
  refine⟨_,Z,uA,VO n ps I O F ld,Z,SqL.of iQ,λe=>?_,λmn Tw VU=>?_⟩
  .refine⟨_,Z,x,_,dx,_,Z,XS,T.cl_Part,T.n_Part_further,(by show 6<1000;decide),?_⟩;exact fin none ⟨λ_=>e,λ_=>rfl⟩ λy h=>by cases h
  .refine⟨_,Z,x,_,dx,_,Z,XS,T.cl_Part,T.n_Part_further,(by show 6<1000;decide),?_⟩;exact fin (some mn) ⟨λh=>(by cases h),λh=>(by rw[h]at Tw;cases Tw)⟩ λy h=>(by cases h;exact⟨Tw,VU⟩)
noncomputable def iP(K:Ad)(CP C Pt:Addr):Sp:=λvs H Q _=>∃w n ps,vs=[.ref w]/\WebAt C H w n ps/\Zw n ps/\Xn H Pt/\(∃U,Zh n ps U)/\
 ∀x F inc ld fu H',PartOk n ps [] [] ld F inc fu->(ld=none↔WT n ps [] [] F=[])->(∀y,ld=some y->y∈WT n ps [] [] F/\∀z∈WT n ps [] [] F,y<=z)->PartAt K CP C H' x n ps [] [] F inc ld fu->SameX Pt H H'->Xn H' Pt->Q (.ref x) H'
theorem iO:FnScope ["web","opened"] ["web"] (Xv (top 53)):=Wt D
theorem Am{Pt:Addr}(T:Txt K mg t)(hB:SS K mg base t.dZx Pt):Xg P w base Xl T.q_whole_part 10 (iP K t.A_Part t.A_Web Pt):=by
 refine T.q_whole_part.ok ["web","opened"] D (λvs H Q E h=>?_) (λXG A outer s H vs Q E hr h=>?_)
 .obtain⟨w,n,ps,rfl,_⟩:=h;rfl
 .obtain⟨w,n,ps,rfl,hW,hG,hT,⟨U0,LW⟩,q⟩:=h;refine⟨_,(XR (Zj (i:=1) iO.nd Z (Or.inl Z)<|XC (Ay T) hr T.q_open_ties Zs<|XZ (pv 0)<|XZ (XC (QQ T) hr T.q_piece_marks Zs<|XZ (pv 0)<|XZ (UE XY) XY)<|XZ (XC (AB T) hr T.q_least_in Zs<|XZ (pv 0)<|XZ (UE XY)<|XZ (UE XY) XY) XY)
   (XM<|Zi<|PM T.k_Part (Hu T hB) (hr.mono S) Z T.c_Part T.bZx .nil Zs<|XZ (pv 0)<|XZ (UE XY)<|XZ (UE XY)<|XZ (Zr9 Z uw T.n_min<|pv 1) XY)),?_⟩
  have hU1:With n ps [] [] U0:=⟨LW,λz h=>(by cases h),λz h=>(by cases h)⟩;refine⟨_,Z,_,Z,Ym _,λe1 Ih=>?_⟩;have s1:=XN (o:=.tup []) Ih
  refine⟨w,e1,n,ps,[],Z,hW.same s1,hG,SqT.of XS,λz h=>(by cases h),λm H2 s2 Qr VU=>?_⟩;have WL:=s1.trans s2
  refine⟨_,Z,Ym _,λe2 Py=>⟨Ym _,λe3 he3=>?_⟩⟩;have s3:=XN (o:=.tup []) Py
  have s4:=XN (o:=.tup []) he3;have LX:=WL.trans (s3.trans s4)
  refine⟨w,e2,e3,n,ps,[],[],Z,hW.same LX,hG,SqT.of<|s4 _ _ XS,SqT.of XS,.nil,λz h=>(by cases h),λz h=>(by cases h),λH5 s5 h=>absurd hU1<|h U0,λl F H5 s5 hl hF VB=>?_⟩;have AD:=LX.trans s5
  have wa:=((s3.trans s4).trans s5) _ _ VU;have Qp:(Xu n.toNat<|XT ps []).length=n.toNat:=ZD _ _
  refine⟨w,m,l,n,ps,Xu n.toNat<|XT ps [],F,Z,hW.same AD,hG,wa,Qp,SqT.of hl,λpA H6 s6 hp0 iN=>?_⟩;have iN:H6 pA=some (.lst<|IL<|WT n ps [] [] F):=iN
  refine nm ?_;have s16:=AD.trans s6
  have Rp:∀z∈WT n ps [] [] F,0<=z/\z<(ps.length:Int):=λz hz=>Zv9 hz;refine⟨_,Z,Ym _,λf1 FJ=>⟨Ym _,λf2 Ma=>?_⟩⟩;have s7:=XN (o:=.tup []) FJ
  have s8:=XN (o:=.tup []) Ma;have Hr:(upd (upd H6 f1<|.tup []) f2<|.tup []) f1=some (.tup []):=s8 _ _ XS
  have Hq:(upd (upd H6 f1<|.tup []) f2<|.tup []) f2=some (.tup []):=XS;have vX:=s16.trans (s7.trans s8)
  have hp8:=(s7.trans s8) _ _ iN;generalize upd (upd H6 f1<|.tup []) f2 (.tup [])=H8 at *;have main:∀ld:Option Int,(ld=none↔WT n ps [] [] F=[])->(∀y,ld=some y->y∈WT n ps [] [] F/\∀z∈WT n ps [] [] F,y<=z)->∀x dx,H8 x=none->H8 dx=none->dx≠x->ZF2 K t.A_Part t.A_Web Pt [.ref x,.ref w,.ref f1,.ref f2,Xa ld] (upd (upd H8 dx<|.own x) x<|.ins t.A_Part dx []) (λv H2=>v=.non/\Q (.ref x) H2) E0:=by
   intro ld hn hs x dx nx NF SA;have s9:Same H8 (upd (upd H8 dx<|.own x) x<|.ins t.A_Part dx []):=Zu (XN NF) (by rwa[Zc (XI SA)])
   have s19:=vX.trans s9;refine⟨x,dx,w,f1,f2,n,ps,[],[],ld,Z,XS,hW.same s19,hG,hT.same s19,SqT.of<|s9 _ _ Hr,SqT.of<|s9 _ _ Hq,.nil,λz h=>(by cases h),λz h=>(by cases h),Ym _,⟨U0,hU1⟩,λy hy=>Rp y (hs y hy).1,λe F' Ki Ti=>?_,λF' inc fu l' i' H' Ki Ti Wx h1 h2 UO Qb Po keep OA=>⟨Z,?_⟩⟩
   .have eF:F'=F:=SW (VB F' Ki) (Ti F hF);rw[eF];exact hn.mp e
   .have eF:F'=F:=SW (VB F' Ki) (Ti F hF);subst eF;have sx:SameX Pt H8 H':=λb o hb e=>keep b o (Zd e nx) hb (s9 _ _ e)
    have VA:Xn H8 Pt:=hT.same vX;refine q x F' inc ld fu H' ⟨Ki,Ti,Wx,h1,h2⟩ hn hs ⟨dx,w,f1,f2,l',i',UO,(hW.same vX).samex VA sx,SqT.of<|sx _ _ (VA.ne Hr B) Hr,SqT.of<|sx _ _ (VA.ne Hq B) Hq,Qb,Po⟩ ((SameX.same vX).trans sx) OA
  refine⟨_,Z,pA,WT n ps [] [] F,Z,SqL.of hp8,λe=>?_,λmn h1 h2=>?_⟩
  .exact main none ⟨λ_=>e,λ_=>rfl⟩ λy h=>by cases h
  .exact main (some mn) ⟨λh=>(by cases h),λh=>(by rw[h]at h1;cases h1)⟩ λy h=>(by cases h;exact⟨h1,h2⟩)
noncomputable def iM(K:Ad)(CP C Pt:Addr):Sp:=λvs H Q _=>∃x n ps I O F inc z y,vs=[.ref x]/\PartAt K CP C H x n ps I O F inc (some z) (some y)/\Zw n ps/\Xn H Pt/\(I).Nodup/\(∀v∈I,0<=v/\v<(ps.length:Int))/\(∀v∈I,v∉O++[z])/\(O++[z]).length<=30/\(∃U,With n ps (I) (O++[z]) U)/\0<=y/\y<(ps.length:Int)/\
 ∀x' F' Wl fu H',PartOk n ps (I) (O++[z]) (some y) F' Wl fu->PartAt K CP C H' x' n ps (I) (O++[z]) F' Wl (some y) fu->SameX Pt H H'->Xn H' Pt->Q (.ref x') H'
theorem Al{Pt:Addr}(T:Txt K mg t)(hB:SS K mg base t.dZx Pt):Xg P w base Xl T.q_half_without 10 (iM K t.A_Part t.A_Web Pt):=by
 refine T.q_half_without.ok ["part"] D (λvs H Q E h=>?_) (λXG A outer s H vs Q E hr h=>?_)
 .obtain⟨x,n,ps,I,O,F,inc,z,y,rfl,_⟩:=h;rfl
 .obtain⟨x,n,ps,I,O,F,inc,z,y,rfl,⟨dx,w,a,b,l,i,hx,hW,hA,RM,hl,hi⟩,hG,hT,hIn,Xp,UW,RL,hex,y0,y1,q⟩:=h;refine⟨_,(XM<|Zi<|PM T.k_Part (Hu T hB) (hr.mono S) Z T.c_Part T.bZx .nil Zs<|XZ (Zp K (pv 0) Z)<|XZ (Zp K (pv 0) Z)<|XZ (Zr (Iy K) (Zp K (pv 0) Z)<|UE<|XZ (Zp K (pv 0) Z) XY)<|XZ (Zp K (pv 0) Z) XY),?_⟩;have iL:I.length<=30:=by
   have:=Iu (m:=Wg ps.length) hIn λv hv=>XA.mpr (Xp v hv)
   have e:=hG.2.2.1;rw[ZM]at this
   try simp only[Xt,Yr]at this
   lia
  have Sr:O.length<=30:=by
   have:=RL
   try simp only[Xt,Yr]at this
   lia
  refine⟨_,Z,x,_,dx,_,.ref w,Z,hx,T.cl_Part,T.n_Part_web,Z,_,Z,x,_,dx,_,.ref a,Z,hx,T.cl_Part,T.n_Part_kept,Z,_,Z,x,_,dx,_,.ref b,Z,hx,T.cl_Part,T.n_Part_shut,Z,_,Z,x,_,dx,_,.int z,Z,hx,T.cl_Part,T.n_Part_lead,Z,(by show 1<=sizeLine;decide),λp hp=>?_⟩;have s1:=XN (o:=.tup<|IL [z]) hp
  refine By (l:=O) (m:=[z]) (SqK.same (k:=true) s1 RM) (SqT.of XS) (by rw[Yr];lia) λr1 H2 s2 VX=>?_;have WL:=s1.trans s2
  refine⟨_,Z,x,_,dx,_,.int y,Z,WL _ _ hx,T.cl_Part,T.n_Part_further,Z,?_⟩;intro x' LS nx NF SA;have s9:Same H2 (upd (upd H2 LS<|.own x') x'<|.ins t.A_Part LS []):=Zu (XN NF) (by rwa[Zc (XI SA)])
  have WY:Xn H2 Pt:=hT.same WL;refine⟨x',LS,w,a,r1,n,ps,I,O++[z],some y,Z,XS,hW.same<|WL.trans s9,hG,WY.same s9,SqK.same (k:=true) (WL.trans s9) hA,SqK.same (k:=true) s9 VX,hIn,Xp,UW,RL,hex,λv e=>(by cases e;exact⟨y0,y1⟩),λe=>(by cases e),λF' Wl fu l' i' H' Ki Ti Wx h1 h2 UO Qb Po keep OA=>⟨Z,?_⟩⟩;have sx:SameX Pt H2 H':=λb o hb e=>keep b o (Zd e nx) hb (s9 _ _ e)
  exact q x' F' Wl fu H' ⟨Ki,Ti,Wx,h1,h2⟩ ⟨LS,w,a,r1,l',i',UO,(hW.same WL).samex WY sx,SqK.samex (kd:=true) (SqK.same (k:=true) WL hA) WY sx,SqK.samex (kd:=true) (VX) WY sx,Qb,Po⟩ ((SameX.same WL).trans sx) OA
noncomputable def iK(K:Ad)(CP C Pt:Addr):Sp:=λvs H Q _=>∃x n ps I O F inc z y,vs=[.ref x]/\PartAt K CP C H x n ps I O F inc (some z) (some y)/\Zw n ps/\Xn H Pt/\(I++[z]).Nodup/\(∀v∈I++[z],0<=v/\v<(ps.length:Int))/\(∀v∈I++[z],v∉O)/\(O).length<=30/\(∃U,With n ps (I++[z]) (O) U)/\0<=y/\y<(ps.length:Int)/\
 ∀x' F' Wl fu H',PartOk n ps (I++[z]) (O) (some y) F' Wl fu->PartAt K CP C H' x' n ps (I++[z]) (O) F' Wl (some y) fu->SameX Pt H H'->Xn H' Pt->Q (.ref x') H'
theorem Ak{Pt:Addr}(T:Txt K mg t)(hB:SS K mg base t.dZx Pt):Xg P w base Xl T.q_half_with 10 (iK K t.A_Part t.A_Web Pt):=by
 refine T.q_half_with.ok ["part"] D (λvs H Q E h=>?_) (λXG A outer s H vs Q E hr h=>?_)
 .obtain⟨x,n,ps,I,O,F,inc,z,y,rfl,_⟩:=h;rfl
 .obtain⟨x,n,ps,I,O,F,inc,z,y,rfl,⟨dx,w,a,b,l,i,hx,hW,hA,RM,hl,hi⟩,hG,hT,hIn,Xp,UW,RL,hex,y0,y1,q⟩:=h;refine⟨_,(XM<|Zi<|PM T.k_Part (Hu T hB) (hr.mono S) Z T.c_Part T.bZx .nil Zs<|XZ (Zp K (pv 0) Z)<|XZ (Zr (Iy K) (Zp K (pv 0) Z)<|UE<|XZ (Zp K (pv 0) Z) XY)<|XZ (Zp K (pv 0) Z)<|XZ (Zp K (pv 0) Z) XY),?_⟩;have iL:I.length<=30:=by
   have:=Iu (m:=Wg ps.length) hIn λv hv=>XA.mpr (Xp v hv)
   have e:=hG.2.2.1;rw[ZM]at this
   try simp only[Xt,Yr]at this
   lia
  have Sr:O.length<=30:=by
   have:=RL
   try simp only[Xt,Yr]at this
   lia
  refine⟨_,Z,x,_,dx,_,.ref w,Z,hx,T.cl_Part,T.n_Part_web,Z,_,Z,x,_,dx,_,.ref a,Z,hx,T.cl_Part,T.n_Part_kept,Z,_,Z,x,_,dx,_,.int z,Z,hx,T.cl_Part,T.n_Part_lead,Z,(by show 1<=sizeLine;decide),λp hp=>?_⟩;have s1:=XN (o:=.tup<|IL [z]) hp
  refine By (l:=I) (m:=[z]) (SqK.same (k:=true) s1 hA) (SqT.of XS) (by rw[Yr];lia) λr1 H2 s2 VX=>?_;have WL:=s1.trans s2
  refine⟨_,Z,x,_,dx,_,.ref b,Z,WL _ _ hx,T.cl_Part,T.n_Part_shut,Z,_,Z,x,_,dx,_,.int y,Z,WL _ _ hx,T.cl_Part,T.n_Part_further,Z,?_⟩;intro x' LS nx NF SA;have s9:Same H2 (upd (upd H2 LS<|.own x') x'<|.ins t.A_Part LS []):=Zu (XN NF) (by rwa[Zc (XI SA)])
  have WY:Xn H2 Pt:=hT.same WL;refine⟨x',LS,w,r1,b,n,ps,I++[z],O,some y,Z,XS,hW.same<|WL.trans s9,hG,WY.same s9,SqK.same (k:=true) s9 VX,SqK.same (k:=true) (WL.trans s9) RM,hIn,Xp,UW,RL,hex,λv e=>(by cases e;exact⟨y0,y1⟩),λe=>(by cases e),λF' Wl fu l' i' H' Ki Ti Wx h1 h2 UO Qb Po keep OA=>⟨Z,?_⟩⟩;have sx:SameX Pt H2 H':=λb o hb e=>keep b o (Zd e nx) hb (s9 _ _ e)
  exact q x' F' Wl fu H' ⟨Ki,Ti,Wx,h1,h2⟩ ⟨LS,w,r1,b,l',i',UO,(hW.same WL).samex WY sx,SqK.samex (kd:=true) (VX) WY sx,SqK.samex (kd:=true) (SqK.same (k:=true) WL RM) WY sx,Qb,Po⟩ ((SameX.same WL).trans sx) OA
noncomputable def iJ(K:Ad)(CP C:Addr):Sp:=λvs H Q _=>∃x n ps I O F inc ld fu,vs=[.ref x]/\PartAt K CP C H x n ps I O F inc ld fu/\Zw n ps/\I.Nodup/\(∀z∈I,0<=z/\z<(ps.length:Int))/\O.length<=30/\(∀z∈I,z∉O)/\∀c H',PC n ps I O c->Same H H'->Q (.int c) H'
theorem Aj(T:Txt K mg t):Xg P w base Xl T.q_part_size 8 (iJ K t.A_Part t.A_Web):=by
 refine T.q_part_size.ok ["part"] D (λvs H Q E h=>?_) (λXG A outer s H vs Q E hr h=>?_)
 .obtain⟨x,n,ps,I,O,F,inc,ld,fu,rfl,_⟩:=h;rfl
 .obtain⟨x,n,ps,I,O,F,inc,ld,fu,rfl,⟨dx,w,a,b,l,i,hx,hW,hA,RM,hl,hi⟩,hG,hI,Xp,hO,UW,q⟩:=h;refine⟨_,(XM<|Zi<|XC (jt T) hr T.q_part_count Zs<|XZ (Zp K (pv 0) Z)<|XZ (Zp K (pv 0) Z)<|XZ (Zp K (pv 0) Z) XY),?_⟩;refine⟨_,Z,x,_,dx,_,.ref w,Z,hx,T.cl_Part,T.n_Part_web,Z,_,Z,x,_,dx,_,.ref a,Z,hx,T.cl_Part,T.n_Part_kept,Z,_,Z,x,_,dx,_,.ref b,Z,hx,T.cl_Part,T.n_Part_shut,Z,?_⟩;exact⟨w,a,b,n,ps,I,O,Z,hW,hG,hA,RM,hI,Xp,hO,UW,q⟩
theorem iI{n:Int}{ps:Aa}{I F ms:Ac}{z:Int}(hF:Zh n ps F)(hz:z∉F)(hp:ms.Perm (TB n ps F z F++[z]))(hs:ms.Pairwise (·<=·)):(ms.filter λt=>decide (t≠z/\t∉I))=WE n ps I F z:=by
 refine Ri ((hp.filter _).trans ?_) (hs.filter _) ?_
 .rw[Ql,List.filter_cons_of_neg B,uW,YH];refine List.Perm.of_eq (LC λt ht=>?_)
  have:t≠z:=λe=>hz (e▸(VD.mp ht).1)
  simp[this]
 .exact((XX.mp hF.1).2.filter _).filter _ |>.imp λh=>J
noncomputable def iH(K:Ad)(CP C:Addr):Sp:=λvs H Q _=>∃x n ps I O F inc ld fu z,vs=[.ref x,.int z]/\PartAt K CP C H x n ps I O F inc ld fu/\Zw n ps/\Zh n ps F/\z∉F/\0<=z/\z<(ps.length:Int)/\
 ∀r xs H',Same H H'->H r=none->H' r=some (.lst xs)->Bears (WA H') xs ((WE n ps I F z).map λo=>xchT F o z)->Q (.ref r) H'
theorem iG:FnScope ["part","into","leaving"] ["part","into"] (Xv (top 57)):=Wt D
theorem iF(T:Txt K mg t):Xg P w base Xl T.q_trees_with_tie 9 (iH K t.A_Part t.A_Web):=by
 refine T.q_trees_with_tie.ok ["part","into","leaving"] D (λvs H Q E h=>?_) (λXG A outer s H vs Q E hr h=>?_)
 .obtain⟨x,n,ps,I,O,F,inc,ld,fu,z,rfl,_⟩:=h;rfl
 .obtain⟨x,n,ps,I,O,F,inc,ld,fu,z,rfl,⟨dx,w,a,b,l,i,hx,hW,hA,RM,hl,hi⟩,hG,hF,hz,z0,z1,q⟩:=h;refine⟨_,(XR (QA (i:=2) Z iG.nd Z Z (sc0:=Xv<|top 57) (N0:=["part","into","leaving"]) (N':=["tie","into","part"]) (o:=1) (fr:=[1,0]) ⟨Z,D,D,D,Z,D⟩ (DC K<|XC (i8 T) hr T.q_ring_of Zs<|XZ (Zp K (pv 0) Z)<|XZ (Zp K (pv 0) Z)<|XZ (pv 1) XY) (Zv S) (λ_ _ _ _=>(Zg (i:=0) (show List.Nodup (["tie","into","part"]:List Str) by decide +kernel) Z<|Or.inl Z)) (λ_ _ _ _=>(Rq<|PW.pt<|yn (Ze SI (pv 0) (pv 1)<|Zq _)<|Ng<|Ze (ZW K) (pv 0) (Zp K (pv 2) Z) Z)) λ_ _ _ _=>(pv 0))
   (XM<|Zi<|TZ Z (sc0:=Xv<|top 57) (N0:=["part","into","leaving"]) (N':=["out","part","into"]) (o:=1) (fr:=[0,1]) ⟨Z,D,D,D,Z,D⟩ (ZR K<|pv 2) (Zv S) (λ_ _ _ _=>(Zg (i:=0) (show List.Nodup (["out","part","into"]:List Str) by decide +kernel) Z<|Or.inl Z)) (λ_ _ _ _=>ZX) λ_ _ _ _=>(Zm (ZK K) uw T.n_tuple Boot.«tuple»<|XZ (Zf (Dg K) uw T.n_sorted Boot.«sorted»<|XZ (Zr (Iy K) (XC (HI T) hr T.q_ties_without Zs<|XZ (Zp K (pv 1) Z)<|XZ (pv 0) XY)<|UE<|XZ (pv 2) XY) XY) XY))),?_⟩
  have big:(30:Int)<10^70:=S;have g3:=hG.2.2.1
  refine⟨_,Z,x,_,dx,_,.ref w,Z,hx,T.cl_Part,T.n_Part_web,Z,_,Z,x,_,dx,_,.ref l,Z,hx,T.cl_Part,T.n_Part_least,Z,_,Z,?_⟩;refine⟨w,l,n,ps,true,F,z,Z,hW,hG,SqT.of hl,ur,J,λ_ _ _ _ ms Tw VU rA H1 s1 VH VI=>?_,λ_ h=>absurd h λh=>h.elim hz λh=>h ⟨z0,z1⟩,λh=>absurd hF h⟩;have hm30:ms.length<=40:=by
   rw[Tw.length_eq,Xt,Yr]
   have:=Gh n ps F z F
   have:=hF.1.len
   lia
  refine⟨rA,Z,⟨_,SqT.of VI⟩,DD (K:=K) (a:=rA) (xs:=IL ms) (λj ws H2=>H2=H1/\j<=ms.length/\ws=IL ((ms.take j).filter λt=>decide<|t≠z/\t∉I)) ⟨Z,Ym _,Z⟩ (Zl<|by rw[Xx];lia)
   (λj ws H2 hj h=>by obtain⟨e,Qx,ew⟩:=h;exact⟨e▸SqT.of VI,by rw[ew,Xx];exact Ys (YG ..)<|by rw[Yl];lia⟩) ?_ ?_⟩
  .rintro j v ws H2 hj ⟨rfl,MK,rfl⟩ uo Xm;obtain⟨y,rfl,hy⟩:=Uz hj;have VM:j<ms.length:=(Xs.mp hy).1
   refine nm ?_;refine⟨_,Z,_,Z,Z,_,Z,?_⟩;rw[ZB];refine WN (λhe=>?_) (λhe=>?_)
   .refine Xm _ _ ⟨Z,VM,?_⟩;rw[ZJ hy,if_neg (by simp[he]),YH]
   refine⟨_,Z,_,Z,x,_,dx,_,.ref a,Z,s1 _ _ hx,T.cl_Part,T.n_Part_kept,Z,a,_,Z,.inr<|SqK.same (k:=true) s1 hA,Z,ZI _,_,Z,?_⟩;rw[ZT];refine WN (λhc=>?_) (λhc=>?_)
   .refine Xm _ _ ⟨Z,VM,?_⟩;rw[ZJ hy,if_neg (by simp[hc]),YH]
   .refine⟨_,Z,Xm _ _ ⟨Z,VM,?_⟩⟩;rw[ZJ hy,if_pos<|Yn ⟨he,hc⟩,ZN]
  rintro ws H2 ⟨rfl,_,rfl⟩ lA FI;rw[Xx,YF,iI hF hz Tw VU];have u1:=XN (o:=.lst<|IL<|WE n ps I F z) FI
  have kL:(upd H2 lA<|.lst<|IL<|WE n ps I F z) lA=some (.lst<|IL<|WE n ps I F z):=XS;refine nm ?_;dsimp only[List.set];have s2:=s1.trans u1
  change EG _ _ _ (upd H2 lA<|.lst<|IL<|WE n ps I F z);generalize upd H2 lA (.lst<|IL<|WE n ps I F z)=H3 at *;have lvl:(WE n ps I F z).length<=30:=Ys (YG ..) (by have:=Gh n ps F z F;have:=hF.1.len;lia)
  have Ho:F.length<=30:=by have:=hF.1.len;lia
  refine⟨_,Z,lA,Z,⟨_,SqL.of kL⟩,Rn (K:=K) (a:=lA) (xs:=IL<|WE n ps I F z) (λj ys H4=>Same H3 H4/\j<=(WE n ps I F z).length/\Bears (WA H4) ys (((WE n ps I F z).take j).map λo=>xchT F o z)) ⟨Same.refl _,Ym _,⟨Z,λi l e=>by simp at e⟩⟩ (Zl<|by rw[Xx];lia)
   (λj ys H4 hj h=>by obtain⟨e,Qx,ey⟩:=h;exact⟨SqL.of<|e _ _ kL,by rw[ey.1,Yb,Yl];lia⟩) ?_ ?_⟩
  .rintro j v ys H4 hj ⟨s4,MK,hY⟩ uo Xm;obtain⟨o,rfl,ho⟩:=Uz hj;have VM:j<(WE n ps I F z).length:=(Xs.mp ho).1
   have Kl:=s2.trans s4;refine nm ?_;refine⟨_,Z,x,_,dx,_,.ref l,Z,Kl _ _ hx,T.cl_Part,T.n_Part_least,Z,_,Z,l,true,F,o,Z,SqT.of<|Kl _ _ hl,J,λr1 H5 s5 i5 VX=>?_⟩;have wl:=Pn F o
   refine⟨_,Z,(by show 1<=sizeLine;decide),λp2 VY=>?_⟩;have s6:=XN (o:=.tup<|IL [z]) VY
   refine By (l:=wo F o) (m:=[z]) (SqT.of<|s6 _ _ VX) (SqT.of XS) (by rw[Yr];lia) λr3 H7 s7 Uh=>?_;refine⟨r3,wo F o++[z],Z,Uh,by rw[Xt,Yr];lia,λns AM Od p4 SR=>?_⟩;have en:ns=xchT F o z:=Ri (AM.trans (Kx F o z).symm) Od (QS F o z)
   subst en;have s8:=XN (o:=.lst<|IL<|xchT F o z) SR
   refine⟨p4,_,Z,.inl ⟨SqL.of XS,λp5 wq=>?_⟩⟩;have s9:=XN (o:=.tup<|IL<|xchT F o z) wq
   have sA:=(s5.trans s6).trans (s7.trans<|s8.trans s9);refine Xm _ _ ⟨s4.trans sA,VM,?_⟩;rw[YL,ho,YJ];exact(hY.imp λ_ _ h=>by obtain⟨q,e,hq⟩:=h;exact⟨q,e,sA _ _ hq⟩).snoc ⟨p5,Z,XS⟩
  .rintro ys H4 ⟨s4,_,hY⟩ d hd;rw[Xx,YF]at hY;have s5:=XN (o:=.lst ys) hd
   exact q d ys _ (s2.trans<|s4.trans s5) ((s2.trans s4).free hd) XS (hY.imp λ_ _ h=>by obtain⟨q,e,hq⟩:=h;exact⟨q,e,s5 _ _ hq⟩)
theorem ZU5{α:Type}{R:V->α->Prop}{xs ys:List V}{l m:List α}(h1:Bears R xs l)(h2:Bears R ys m):Bears R (xs++ys) (l++m):=by
 refine⟨by rw[Xt,Xt,h1.1,h2.1],λi a e=>?_⟩;by_cases c:i<l.length
 .rw[Yw c]at e;obtain⟨v,hv,r⟩:=h1.2 i a e;exact⟨v,by rw[Yw (by rwa[h1.1])];exact hv,r⟩
 .rw[Yv J]at e;obtain⟨v,hv,r⟩:=h2.2 _ a e;exact⟨v,by rw[Yv (by rw[h1.1];lia),h1.1];exact hv,r⟩
theorem ZT5{α:Type}{R:V->α->Prop}{xs:List V}{l:List α}(h:Bears R xs l):Bears R xs.reverse l.reverse:=by
 refine⟨by rw[YM,YM,h.1],λi a e=>?_⟩;have hi:i<l.length:=by have:=(Xs.mp e).1;rwa[YM]at this
 rw[Ka hi]at e;obtain⟨v,hv,r⟩:=h.2 _ a e;exact⟨v,by rw[Ka (by rwa[h.1]),h.1];exact hv,r⟩
noncomputable def iE(K:Ad)(CP C:Addr):Sp:=λvs H Q _=>∃x n ps I O F inc ld fu,vs=[.ref x]/\PartAt K CP C H x n ps I O F inc ld fu/\Zw n ps/\Zh n ps F/\inc.length<=30/\(∀z∈inc,z∉F/\0<=z/\z<(ps.length:Int))/\
 ∀r xs H',Same H H'->H r=none->H' r=some (.lst xs)->Bears (WA H') xs (Bw n ps I F inc)->Q (.ref r) H'
theorem Oz:FnScope ["part","row","ascending","into","trees"] ["part"] (Xv (top 58)):=Wt D
theorem Ai(T:Txt K mg t):Xg P w base Xl T.q_undivided_row 10 (iE K t.A_Part t.A_Web):=by
 refine T.q_undivided_row.ok ["part","row","ascending","into","trees"] D (λvs H Q E h=>?_) (λXG A outer s H vs Q E hr h=>?_)
 .obtain⟨x,n,ps,I,O,F,inc,ld,fu,rfl,_⟩:=h;rfl
 .obtain⟨x,n,ps,I,O,F,inc,ld,fu,rfl,Sn,hG,hF,VC,Tp,q⟩:=h;refine⟨_,(XR (Zj (i:=1) Oz.nd Z (Or.inl Z)<|Tc<|XZ (Zp K (pv 0) Z) XY)
   (XR (Zj (i:=2) Oz.nd Z (Or.inl Z)<|Oe Sa (Zr ZP (Zf (Zk K) uw T.n_len Boot.«len»<|XZ (Zp K (pv 0) Z) XY) Za) Za<|Zq _)
   (XR (TK Wr Z (ZR K<|Zp K (pv 0) Z) (Zg (i:=3) Oz.nd Z<|Or.inl Z)
   (XR (Zj (i:=4) Oz.nd Z (Or.inl Z)<|XC (iF T) hr T.q_trees_with_tie Zs<|XZ (pv 0)<|XZ (pv 3) XY)
   (XR (ZS<|TY K YU fj fk dG (pv 1)<|XZ (EJ (Rw<|pv 2) (pv 4)<|Dl K Z Z T.n_list Z T.n_reversed<|XZ (pv 4) XY) XY)
   (XM<|Zj (i:=2) Oz.nd Z (Or.inl Z)<|t4<|pv 2))))
   (XM<|Zi<|pv 1)))),?_⟩
  obtain⟨dx,w,a,b,l,i,hx,hW,hA,RM,hl,hi⟩:=id Sn;refine⟨_,Z,x,_,dx,_,.ref l,Z,hx,T.cl_Part,T.n_Part_least,Z,(by show 1<=sizeLine;decide),λr hr=>?_⟩;have s1:=XN (o:=.lst [.ref l]) hr
  refine nm ?_;refine⟨_,Z,x,_,dx,_,.ref i,Z,s1 _ _ hx,T.cl_Part,T.n_Part_incoming,Z,i,_,Z,.inl<|SqL.of<|s1 _ _ hi,_,_,Z,Z,(by show(0:Int)<2;decide),Z,?_⟩;refine nm ?_;have ea:decide (V.int ((IL inc).length%2:Int)=V.int 1)=(inc.length%2 == 1):=by rw[ZB,Xx,QH,YT,Sd];omega
  change TM _ _ _ [some (.ref x),some<|.ref r,some<|.bl<|decide<|V.int ((IL inc).length%2:Int)=V.int 1,none,none] (upd H r<|.lst [.ref l]);rw[ea];generalize Ss:(inc.length%2 == 1)=asc at *;have kr:(upd H r<|.lst [.ref l]) r=some (.lst [.ref l]):=XS
  generalize upd H r (.lst [.ref l])=H1 at *;have pq:=s1 _ _ hi
  have fresh:∀b o,H b=some o->b≠r:=λb o e=>Zd e hr;refine⟨_,rfl,x,_,dx,_,.ref i,rfl,s1 _ _ hx,T.cl_Part,T.n_Part_incoming,rfl,i,rfl,⟨_,SqL.of pq⟩,tH (K:=K) (a:=i) (xs:=IL inc) (λj σ H2=>∃xs v3 v4,σ=[some (.ref x),some<|.ref r,some<|.bl<|asc != (j%2 == 1),v3,v4]/\Same H H2/\H2 r=some (.lst xs)/\Bears (WA H2) xs (F::Vr n ps I F (inc.take j) asc)) ⟨[.ref l],none,none,by cases asc<;>rfl,s1,kr,⟨rfl,λj m e=>by
   match j,e with
   |0,e=>exact⟨_,Z,l,Z,by rw[<-Yh e];exact s1 _ _ hl⟩⟩⟩ (λj σ H2 _ h=>by obtain⟨_,_,_,_,e,_⟩:=h;exact SqL.of<|e _ _ hi) ?_ ?_⟩
  rotate_left
  .rintro σ H2 ⟨xs,v3,v4,rfl,s2,VV,hX⟩;rw[Xx,YF]at hX;refine WG ?_;refine⟨_,Z,?_⟩;rw[<-Ss]at hX;exact q r xs H2 s2 hr VV hX
  rintro j v σ H2 hj ⟨xs,v3,v4,rfl,s2,VV,hX⟩;obtain⟨z,rfl,hz⟩:=Uz hj;obtain⟨zF,z0,z1⟩:=Tp z (Xf hz);have qk:j<inc.length:=(Xs.mp hz).1
  refine nm ?_;dsimp only[List.set];refine⟨_,Z,_,Z,x,n,ps,I,O,F,inc,ld,fu,z,Z,⟨dx,w,a,b,l,i,s2 _ _ hx,hW.same s2,SqK.same (k:=true) s2 hA,SqK.same (k:=true) s2 RM,s2 _ _ hl,s2 _ _ hi⟩,hG,hF,zF,z0,z1,λtA ys H3 s3 ht0 OK hY=>?_⟩;refine nm ?_;dsimp only[List.set];have Uh:=s3 _ _ VV
  have Ah:F.length<=30:=by have:=hF.1.len;have:=hG.2.2.1;lia
  have xl:xs.length<=1000:=by
   rw[hX.1,Yq];have h1:=Zi9 n ps I F (inc.take j) asc
   have h2:(inc.take j).length*F.length<=30*30:=JT (by rw[Yl];grind) Ah;lia
  have yl:ys.length<=30:=by rw[hY.1,Yb];exact Ys (YG ..) (Ys (Gh n ps F z F) Ah)
  have iC:Vr n ps I F (inc.take<|j+1) asc=Vr n ps I F (inc.take j) asc++VJ n ps I F (asc != (j%2 == 1)) z:=by
   have e:inc.take (j+1)=inc.take j++[z]:=by rw[YL,hz];rfl
   have el:(inc.take j).length=j:=by rw[Yl];lia
   rw[e,lp,el]
  have flip:(!(asc != (j%2 == 1)))=(asc != ((j+1)%2 == 1)):=by rcases(by grind:j%2=0/\(j+1)%2=1\/j%2=1/\(j+1)%2=0) with ⟨a,b⟩|⟨a,b⟩<;>rw[a,b]<;>cases asc<;>rfl
  have fin:∀zs H4,Same H3 H4->zs.length=ys.length->Bears (WA H4) zs (VJ n ps I F (asc != (j%2 == 1)) z)->Same H (upd H4 r<|.lst<|xs++zs)/\Bears (WA<|upd H4 r<|.lst<|xs++zs) (xs++zs) (F::Vr n ps I F (inc.take<|j+1) asc):=λzs H4 s4 jm hZ=>by
   have Kp:=s4 _ _ Uh;refine⟨Zz hr<|(s2.trans s3).trans s4,?_⟩;rw[iC];have hX4:Bears (WA H4) xs (F::Vr n ps I F (inc.take j) asc):=hX.imp λ_ _ h=>by obtain⟨c,e,hc⟩:=h;exact⟨c,e,(s3.trans s4) _ _ hc⟩
   exact(ZU5 hX4 hZ).imp λ_ _ h=>by obtain⟨c,e,hc⟩:=h;exact⟨c,e,by rwa[Zc (Nh hc Kp B)]⟩
  refine⟨_,Z,.inl ⟨Z,_,SqL.of Uh⟩,?_⟩;cases hb:(asc != (j%2 == 1)) with
  |true=>
   rw[hb]at fin flip;refine⟨_,Z,_,Z,?_⟩;refine We ?_;refine⟨_,Z,?_⟩;obtain⟨f1,f2⟩:=fin ys H3 (Same.refl _) Z hY;refine⟨r,tA,xs,ys,Z,Z,Uh,OK,MO J,?_⟩;refine⟨_,Z,_,Z,?_⟩;exact⟨xs++ys,_,_,by rw[<-flip];rfl,f1,XS,f2⟩
  |false=>
   rw[hb]at fin flip;refine⟨_,Z,_,Z,?_⟩;refine WB ?_;refine⟨_,Z,tA,ys,Z,SqL.of OK,λd hd=>?_⟩;have s4:=XN (o:=.lst ys.reverse) hd
   obtain⟨f1,f2⟩:=fin ys.reverse _ s4 (YM) (ZT5<|hY.imp λ_ _ h=>by obtain⟨c,e,hc⟩:=h;exact⟨c,e,s4 _ _ hc⟩);refine⟨r,d,xs,ys.reverse,Z,Z,s4 _ _ Uh,XS,MO (by rw[YM];lia),?_⟩;refine⟨_,Z,_,Z,?_⟩;exact⟨xs++ys.reverse,_,_,by rw[<-flip];rfl,f1,XS,f2⟩
noncomputable def Hn(K:Ad)(CP C Pt:Addr)(d:Nat):Sp:=λvs H Q _=>∃x n ps I O F inc ld fu R size start stop,vs=[.ref x,.int size,.int start,.int stop]/\PartAt K CP C H x n ps I O F inc ld fu/\PartOk n ps I O ld F inc fu/\Zw n ps/\Xn H Pt/\RowR n ps d I O ld R/\size=R.length/\0<=start/\stop<=size/\stop-start<=100000/\
 ∀r xs H',SameX Pt H H'->Xn H' Pt->H r=none->H' r=some (.lst xs)->Bears (WA H') xs ((R.drop start.toNat).take (stop-start).toNat)->Q (.ref r) H'
theorem ix(xs:List V){a b:Nat}(h2:b<=xs.length):Xi xs (some (a:Int)) (some (b:Int))=(xs.drop a).take (b-a):=by
 have e1:HT.Vu xs.length 0 (some (a:Int))=min a xs.length:=rfl;have e2:HT.Vu xs.length xs.length (some (b:Int))=min b xs.length:=rfl
 unfold Xi;rw[e1,e2,Fm h2];rcases Nat.le_total a xs.length with c|c
 .rw[Fm c]
 .rw[JG c,vt<|XO _,vt c,Fl,Fl]
theorem Zb9{α:Type}{R:V->α->Prop}{xs:List V}{l:List α}(h:Bears R xs l)(a b:Nat):Bears R ((xs.drop a).take b) ((l.drop a).take b):=by
 refine⟨by rw[Yl,Yl,YV,YV,h.1],λi x e=>?_⟩;rw[RB]at e;by_cases c:i<b
 .rw[if_pos c,Fv]at e;obtain⟨v,hv,r⟩:=h.2 _ x e;exact⟨v,by rw[RB,if_pos c,Fv];exact hv,r⟩
 .rw[if_neg c]at e;cases e
theorem iw{α:Type}(A uj:List α){a b:Nat}(h:b<=A.length):((A++uj).drop a).take (b-a)=(A.drop a).take (b-a):=by
 rcases Nat.le_total a A.length with c|c
 .rw[vG c,vH (by rw[YV];exact Nat.sub_le_sub_right h a)]
 .rw[Nat.sub_eq_zero_of_le (Ys h c),uP,uP]
theorem ZQ7{α:Type}(uj:List α){i k:Nat}(h:i+k<=uj.length):((uj.reverse).drop i).take k=((uj.drop (uj.length-i-k)).take k).reverse:=by rw[List.drop_reverse,List.take_reverse,Yl,Fm<|Nat.sub_le _ _,List.drop_take,Nat.sub_sub_self (Nat.le_sub_of_add_le' h)]
theorem iu{α:Type}(A uj:List α){a b c:Nat}(hc:(a<=A.length/\c=A.length)\/(A.length<=a/\c=a))(ir:c<=b)(hb:b<=A.length+uj.length):((A++uj.reverse).drop a).take (b-a)=A.drop a++((uj.drop (A.length+uj.length-b)).take (b-c)).reverse:=by
 rcases hc with ⟨h,rfl⟩|⟨h,rfl⟩
 .rw[vG h,List.take_append,YN (by rw[YV];exact Nat.sub_le_sub_right ir a),YV,Nat.sub_sub_sub_cancel_right h]
  have:=ZQ7 uj (i:=0) (k:=b-A.length) uu
  rw[uN]at this;rw[this,show uj.length-0-(b-A.length)=A.length+uj.length-b by grind]
 .rw[List.drop_append,vt h,Oj,Oj,ZQ7 uj uu,show uj.length-(c-A.length)-(b-c)=A.length+uj.length-b by grind]
theorem iq{x y:Int}:∃m,(if x<y then x else y)=m/\m<=x/\m<=y/\(x<y->m=x)/\(¬x<y->m=y):=by
 by_cases c:x<y
 .exact⟨x,if_pos c,Np _,JO c,λ_=>rfl,λh=>absurd c h⟩
 .exact⟨y,if_neg c,GB.mp c,Np _,λh=>absurd h c,λ_=>rfl⟩
theorem ZV3{H H2:Hp}{Pt r:Addr}{pos:Pos}{qual:Str}(t:TabH H2 Pt pos qual)(s:SameX Pt H H2)(h:H2 r=none):H r=none:=by
 cases e:H r with
 |none=>rfl
 |some o=>
  have XJ:r≠Pt:=λe'=>by obtain⟨p,h1,_⟩:=t;rw[<-e',h]at h1;cases h1
  rw[s _ _ XJ e]at h;cases h
theorem LR:FnScope ["part","size","start","stop","first","middle","trees","turned"] ["part","size","start","stop"] (Xv (top 59)):=Wt D
theorem ip{Pt:Addr}(T:Txt K mg t)(hB:SS K mg base t.dZx Pt)(d:Nat):Xg P w base Xl T.q_trees_between (11+d) (Hn K t.A_Part t.A_Web Pt d):=by
 have key:∀d k sp,Xg P w base Xl T.q_trees_between k sp->k<=10+d->(∀e,d=e+1->sp=Hn K t.A_Part t.A_Web Pt e)->Xg P w base Xl T.q_trees_between (11+d) (Hn K t.A_Part t.A_Web Pt d):=by
  intro d k sp ih hk UT;rw[show 11+d=10+d+1 by lia];refine T.q_trees_between.ok ["part","size","start","stop","first","middle","trees","turned"] D (λvs H Q E h=>?_) (λXG A outer s H vs Q E hr h=>?_)
  .obtain⟨x,n,ps,I,O,F,inc,ld,fu,R,size,start,stop,rfl,_⟩:=h;rfl
  .obtain⟨x,n,ps,I,O,F,inc,ld,fu,R,size,start,stop,rfl,Sn,Vw,hG,hT,hR,hsz,Gj,Ja,MZ,q⟩:=h;refine⟨_,(XR (WK (Ze Er (pv 2) (pv 3)<|Zq _)
   (XM<|Zi<|Tc XY)
   Zo)
   (XR (WK (Ze yh (Zp K (pv 0) Z) QG<|Zq _)
   (XM<|Zi<|ZZ (Vd K) (Rv (Ai T) (hr.mono ur) Z T.q_undivided_row.mm T.q_undivided_row.fn.kp T.q_undivided_row.bi .nil Zs<|XZ (pv 0) XY) (Ru<|pv 2)<|Ru<|pv 3)
   Zo)
   (XR (Zj (i:=4) LR.nd Z (Or.inl Z)<|Rv (Al T hB) (hr.mono ur) Z T.q_half_without.mm T.q_half_without.fn.kp T.q_half_without.bi .nil Zs<|XZ (pv 0) XY)
   (XR (Zj (i:=5) LR.nd Z (Or.inl Z)<|Rv (Aj T) (hr.mono ur) Z T.q_part_size.mm T.q_part_size.fn.kp T.q_part_size.bi .nil Zs<|XZ (pv 4) XY)
   (XR (Zj (i:=6) LR.nd Z (Or.inl Z)<|Rv ih (hr.mono ur) Z T.q_trees_between.mm T.q_trees_between.fn.kp T.q_trees_between.bi .nil Zs<|XZ (pv 4)<|XZ (pv 5)<|XZ (pv 2)<|XZ (Zf (PQ Z) uw T.n_min Boot.«min»<|XZ (pv 3)<|XZ (pv 5) XY) XY)
   (XR (WK (Ze UP (pv 3) (pv 5)<|Zq _)
   (XR (Zj (i:=7) LR.nd Z (Or.inl Z)<|Rv ih (hr.mono ur) Z T.q_trees_between.mm T.q_trees_between.fn.kp T.q_trees_between.bi .nil Zs<|XZ (Rv (Ak T hB) (hr.mono ur) Z T.q_half_with.mm T.q_half_with.fn.kp T.q_half_with.bi .nil Zs<|XZ (pv 0) XY)<|XZ (Zr WO (pv 1)<|pv 5)<|XZ (Zr WO (pv 1)<|pv 3)<|XZ (Zr WO (pv 1)<|Zf (yg Z) uw T.n_max Boot.«max»<|XZ (pv 2)<|XZ (pv 5) XY) XY)
   (XM<|ZS<|TY K YU fj fk dG (pv 6)<|XZ (Dl K Z Z T.n_list Z T.n_reversed<|XZ (pv 7) XY) XY))
   Zo)
   (XM<|Zi<|pv 6))))))),?_⟩
   obtain⟨dx,w0,a,b,l,i,hx,hW,hA,RM,hl,hi⟩:=id Sn;refine⟨_,Z,_,Z,_,_,Z,Z,_,Z,?_⟩;refine Xd (λOY=>?_) (λXh=>?_)
   .refine⟨Ym _,λr hr=>?_⟩;have s1:=XN (o:=.lst []) hr
    refine q r [] _ (SameX.same s1) (hT.same s1) hr XS ?_;rw[show(stop-start).toNat=0 by lia,uP];exact⟨Z,λi l e=>by simp at e⟩
   refine WG ?_;obtain⟨a0,rfl⟩:=vB Gj;obtain⟨b0,rfl⟩:=vB (show 0<=stop by lia);have Vy:a0<=b0:=J
   have ik:b0<=R.length:=by rw[hsz]at Ja;exact Int.ofNat_le.mp Ja
   have e0:((b0:Int)-(a0:Int)).toNat=b0-a0:=Int.toNat_sub _ _;rw[YD,e0]at q;subst hsz;refine⟨_,Z,x,_,dx,_,Xa fu,Z,hx,T.cl_Part,T.n_Part_further,Z,Z,_,Z,?_⟩;cases hR with
   |und VW VC ij=>
    obtain⟨rfl,rfl,rfl⟩:=Vw.uniq VW;refine We ?_;refine⟨_,Z,x,n,ps,I,O,F,inc,ld,none,Z,Sn,hG,Vw.tr.1,VC,ij,λr xs H1 s1 VH VX hX=>?_⟩;have Kq:=hX.1
    refine⟨_,Z,_,Z,_,Z,_,Z,r,xs,Z,SqL.of VX,λq1 hq1=>?_⟩;rw[ix xs (by rwa[Kq])];have s2:=XN (o:=.lst<|(xs.drop a0).take (b0-a0)) hq1
    have WL:=s1.trans s2;refine q q1 _ _ (SameX.same WL) (hT.same WL) (s1.free hq1) XS ?_;exact(Zb9 hX _ _).imp λ_ _ h=>by obtain⟨c,e,hc⟩:=h;exact⟨c,e,s2 _ _ hc⟩
   |div VW hIn Xp UW RL Hm Hl y0 y1 ig vW vV=>
    rename_i e F' Wl z y A' uj;obtain⟨rfl,rfl,rfl⟩:=Vw.uniq VW;have ie:=UT e rfl
    subst ie;refine WB ?_;refine WG ?_;have Tv:=YR.mp hIn
    have Oy:I.Nodup:=Tv.1;have Ox:∀v∈I,0<=v/\v<(ps.length:Int):=λv hv=>Xp v (Yd _ hv)
    have Ow:∀v∈I,v∉O++[z]:=λv hv h=>(Xz.mp h).elim (UW v<|Yd _ hv) λh=>Tv.2.2 v hv z B (XF.mp h);have Sr:O.length<=30:=by rw[Xt,Yr]at RL;lia
    rw[Xt,YM]at ik;have Qs:(((A'++uj.reverse).length:Nat):Int)=(A'.length:Int)+uj.length:=by rw[Xt,YM,Int.natCast_add]
    obtain⟨m,em,m1,m2,m3,m4⟩:=iq (x:=(A'.length:Int)) (y:=(b0:Int));refine⟨_,Z,x,n,ps,I,O,F,inc,z,y,Z,Sn,hG,hT,Oy,Ox,Ow,RL,Hl,y0,y1,λx1 F1 Sq HP H1 Mu Sx UR WS=>?_⟩;refine nm ?_;refine⟨_,Z,x1,n,ps,I,O++[z],F1,Sq,some y,HP,Z,Sx,hG,Oy,Ox,RL,Ow,λc H2 hc s2=>?_⟩;have ec:=hc.uniq ig
    subst ec;refine nm ?_;have Uu:SameX Pt H H2:=UR.trans (SameX.same s2)
    have WY:=WS.same s2;refine⟨_,Z,_,Z,_,Z,_,Z,_,Z,_,_,Z,?_⟩;refine⟨x1,n,ps,I,O++[z],F1,Sq,some y,HP,A',_,_,_,Z,Sx.samex WS<|SameX.same s2,Mu,hG,WY,vW,Z,Gj,(by rwa[em]),(by rw[em];exact RA (Int.sub_le_sub_right m2 _) MZ),λr xs H3 z9 Vz VH Uh hX=>?_⟩;refine nm ?_;have Ug:=Uu.trans z9
    have ic:H r=none:=ZV3 WY Uu VH;rw[YD,em]at hX;refine⟨_,Z,_,Z,_,_,Z,Z,_,Z,?_⟩;refine Xd (λhgt=>?_) λhle=>?_;rotate_left
    .show(_:Prop);refine WG ?_;refine⟨_,Z,?_⟩;have ib:¬(A'.length:Int)<(b0:Int):=hle
     rw[m4 ib,e0]at hX;rw[iw A' uj.reverse J]at q;exact q r xs H3 Ug Vz ic Uh hX
    have z8:(A'.length:Int)<(b0:Int):=hgt;rw[m3 z8,Int.toNat_sub,YN (by rw[YV];exact XO _)]at hX;clear m1 m2 m3 m4 em m;refine⟨_,Z,x,n,ps,I,O,F,inc,z,y,Z,Sn.samex hT Ug,hG,Vz,hIn,Xp,UW,Sr,Hm,y0,y1,λx2 F2 OO Bo H4 TU TX SQ UH=>?_⟩;refine⟨_,Z,_,Z,_,_,Z,Z,_,Z,_,Z,_,_,Z,Z,_,Z,_,Z,_,Z,_,_,Z,_,_,Z,Z,?_⟩;obtain⟨c0,ec,RN,ir⟩:∃c0:Nat,(if (A'.length:Int)>(a0:Int) then (A'.length:Int) else (a0:Int))=(c0:Int)/\((a0<=A'.length/\c0=A'.length)\/(A'.length<=a0/\c0=a0))/\c0<=b0:=by
     by_cases c:(A'.length:Int)>(a0:Int)
     .exact⟨A'.length,if_pos c,.inl ⟨Nt<|Int.ofNat_lt.mp c,Z⟩,Nt<|Int.ofNat_lt.mp z8⟩
     .exact⟨a0,if_neg c,.inr ⟨Int.ofNat_le.mp<|GB.mp c,Z⟩,Vy⟩
    rw[iu A' uj RN ir ik]at q;have hAc:A'.length<=c0:=by rcases RN with h|h<;>lia
    have hac:a0<=c0:=by rcases RN with h|h<;>lia
    clear RN;refine⟨x2,n,ps,I++[z],O,F2,OO,some y,Bo,uj,_,_,_,Z,TX,TU,hG,UH,vV,(by rw[Qs];lia),(by rw[Qs];lia),(by rw[ec,Qs];lia),(by rw[ec,Qs];lia),λr2 ys H5 ND Ue jd g9 hY=>?_⟩;refine nm ?_;have Kp:=SQ _ _ (Vz.ne Uh B) Uh
    have z7:=ND _ _ (UH.ne Kp B) Kp;have LQ:=(Ug.trans SQ).trans ND
    have e2:((A'.length:Int)+uj.length-(b0:Int)).toNat=A'.length+uj.length-b0:=uu;have e3:((A'.length:Int)+uj.length-(c0:Int)-((A'.length:Int)+uj.length-(b0:Int))).toNat=b0-c0:=uu
    rw[ec,Qs,e2,e3]at hY;have Kq:xs.length<=100000:=by rw[hX.1,YV];lia
    have HM:ys.length<=100000:=by rw[hY.1,Yl];lia
    refine⟨_,Z,.inl ⟨Z,_,SqL.of z7⟩,_,Z,r2,ys,Z,SqL.of g9,λdA hd=>?_⟩;have s6:=XN (o:=.lst ys.reverse) hd
    have Ko:=s6 _ _ z7;have z1:1000000<=sizeLine:=S
    refine⟨r,dA,xs,ys.reverse,Z,Z,Ko,XS,(by rw[YM];lia),?_⟩;refine⟨_,Z,?_⟩;refine q r (xs++ys.reverse) _ (λb o hb e=>?_) ((Ue.same s6).put Ko) ic XS ?_
    .rw[Zc (Zd e ic)];exact s6 _ _ (LQ _ _ hb e)
    .have f1:Bears (WA<|upd H5 dA<|.lst ys.reverse) xs (A'.drop a0):=hX.imp λ_ _ h=>by
      obtain⟨c,e,hc⟩:=h;have vU:=SQ _ _ (Vz.ne hc B) hc
      exact⟨c,e,s6 _ _<|ND _ _ (UH.ne vU B) vU⟩
     have f2:Bears (WA<|upd H5 dA<|.lst ys.reverse) ys.reverse ((uj.drop<|A'.length+uj.length-b0).take (b0-c0)).reverse:=ZT5 (hY.imp λ_ _ h=>by obtain⟨c,e,hc⟩:=h;exact⟨c,e,s6 _ _ hc⟩)
     exact(ZU5 f1 f2).imp λ_ _ h=>by obtain⟨c,e,hc⟩:=h;exact⟨c,e,by rwa[Zc (Nh hc Ko B)]⟩
 induction d with
 |zero=>exact key 0 0 _ ZT9 J λe h=>(by cases h)
 |succ d ih=>exact key (d+1) (11+d) _ ih J λe h=>(by cases h;rfl)
noncomputable def g8(N:Addr):Sp:=λvs H Q E=>∃z:Int,vs=[.int z]/\-(10^70)<z/\z<10^70/\(0<=z->Q .non H)/\(z<0->E (.ref N) none H)
theorem g7(T:Txt K mg t):Xg P w base (Vb P w) T.q_refuse_below_nought 1 (g8 t.A_NoSuch):=by
 refine T.q_refuse_below_nought.okX ["number"] D (λvs H Q E h=>?_) (λXG A outer s H vs Q E hr h=>?_)
 .obtain⟨z,rfl,_⟩:=h;rfl
 .obtain⟨z,rfl,z0,z1,q,qe⟩:=h;refine⟨_,(XM (WK (Ze SH (pv 0) Za<|Zq _)
   (XM<|cY T.x_NoSuch T.c_NoSuch<|XZ (cW<|Ds (pv 0)<|Dt Du) XY)
   Zo)),?_⟩
  refine⟨_,Z,_,_,Z,Z,_,Z,?_⟩;refine Xd (λh=>?_) (λh=>?_)
  .exact⟨_,Z,z,Z,z0,z1,λx=>⟨by show 1<=sizeLine;decide,qe h⟩⟩
  .exact q J
noncomputable def g6(K:Ad)(CP C Pt N:Addr):Sp:=λvs H Q E=>∃w n ps num most R,vs=[.ref w,.int num,.int most]/\WebAt C H w n ps/\Zw n ps/\Xn H Pt/\-(10^70)<num/\num<10^70/\0<=most/\most<=100000/\((∃U,Zh n ps U)->RowW n ps R)/\((∀U,¬Zh n ps U)->R=[])/\
 (0<=num->∀r xs H',SameX Pt H H'->Xn H' Pt->H r=none->H' r=some (.lst xs)->Bears (WA H') xs ((R.drop num.toNat).take most.toNat)->Q (.ref r) H')/\(num<0->E (.ref N) none H)
theorem gZ:FnScope ["web","number","most","size"] ["web","number","most"] (Xv (top 61)):=Wt D
theorem Hk{Pt:Addr}(T:Txt K mg t)(hB:SS K mg base t.dZx Pt):Xg P w base (Vb P w) T.q_row_from 44 (g6 K t.A_Part t.A_Web Pt t.A_NoSuch):=by
 refine T.q_row_from.okX ["web","number","most","size"] D (λvs H Q E h=>?_) (λXG A outer s H vs Q E hr h=>?_)
 .obtain⟨w,n,ps,num,most,R,rfl,_⟩:=h;rfl
 .obtain⟨w,n,ps,num,most,R,rfl,hW,hG,hT,n0,n1,m0,m1,hRw,Hj,q,qe⟩:=h;refine⟨_,(XR (ZS<|XC (g7 T) hr T.q_refuse_below_nought cZ<|XZ (pv 1) XY)
   (XR (Zj (i:=3) gZ.nd Z (Or.inl Z)<|XC (OI T) hr T.q_tree_count Zs<|XZ (pv 0) XY)
   (XR (WK (Ze Er (pv 1) (pv 3)<|Zq _)
   (XM<|Zi<|Tc XY)
   Zo)
   (XM<|Zi<|XC (ip T hB 31) hr T.q_trees_between Zs<|XZ (XC (Am T hB) hr T.q_whole_part Zs<|XZ (pv 0) XY)<|XZ (pv 3)<|XZ (pv 1)<|XZ (Zf (PQ Z) uw T.n_min Boot.«min»<|XZ (Zr UG (pv 1)<|pv 2)<|XZ (pv 3) XY) XY)))),?_⟩
  refine⟨_,Z,num,Z,n0,n1,λnp=>?_,qe⟩;have q:=q np
  refine⟨_,Z,w,n,ps,Z,hW,hG,λc H1 hc s1=>?_⟩;refine nm ?_;have Qs:R.length=c:=by
   by_cases hex:∃U,Zh n ps U
   .obtain⟨_,_,_,_,_,_,_,_,h⟩:=hRw hex;exact h.uniq hc
   .have SY:∀U,¬Zh n ps U:=λU hU=>hex ⟨U,hU⟩;rw[Hj SY,(lN hc).mpr SY];rfl
  refine⟨_,Z,_,Z,_,_,Z,Z,_,Z,?_⟩;refine Xd (λOY=>?_) (λXh=>?_)
  .refine⟨Ym _,λr hr=>?_⟩;have s2:=XN (o:=.lst []) hr
   have WL:=s1.trans s2;refine q r [] _ (SameX.same WL) (hT.same WL) (s1.free hr) XS ?_;rw[LH J,Fl];exact⟨Z,λi l e=>by simp at e⟩
  refine WG ?_;obtain⟨U0,LW⟩:∃U,Zh n ps U:=Yx λno=>by
   have:=(lN hc).mpr λU hU=>no ⟨U,hU⟩
   lia
  obtain⟨ld,F,inc,fu,Vw,hn,hs,Kr,_⟩:=hRw ⟨U0,LW⟩;have WS:=hT.same s1
  refine⟨_,Z,w,n,ps,Z,hW.same s1,hG,WS,⟨U0,LW⟩,λx F' Wl Ks Ku H2 VW Rx NY Sn Uu WY=>?_⟩;have eF:F'=F:=SW (Vw.least F' VW.tr) (VW.least F Vw.tr)
  subst eF;have el:=Zf7 Rx NY hn hs
  subst el;refine⟨_,rfl,_,rfl,_,rfl,_,rfl,_,_,rfl,rfl,_,rfl,_,_,rfl,?_⟩;refine⟨x,n,ps,[],[],F',Wl,Ks,Ku,R,_,_,_,rfl,Sn,VW,hG,WY,Kr,J,np,(by split<;>lia),(by split<;>lia),λr xs H3 z9 Vz VH Uh hX=>?_⟩
  have e1:((R.drop num.toNat).take ((if (c:Int)<num+most then (c:Int) else num+most)-num).toNat)=(R.drop num.toNat).take most.toNat:=by rw[List.take_eq_take_iff,YV];split<;>lia
  rw[e1]at hX;exact q r xs H3 ((SameX.same s1).trans (Uu.trans z9)) Vz (ZV3 WY ((SameX.same s1).trans Uu) VH) Uh hX
noncomputable def gY(K:Ad)(CP C Pt N:Addr):Sp:=λvs H Q E=>∃w n ps num R,vs=[.ref w,.int num]/\WebAt C H w n ps/\Zw n ps/\Xn H Pt/\-(10^70)<num/\num<10^70/\RowW n ps R/\
 (0<=num->num<R.length->∀r T H',R[num.toNat]?=some T->SameX Pt H H'->Xn H' Pt->H' r=some (.tup<|IL T)->Q (.ref r) H')/\((num<0\/(R.length:Int)<=num)->∀H':Hp,SameX Pt H H'->Xn H' Pt->E (.ref N) none H')
theorem gX{R:Ab}{j:Nat}{T:Ac}(h:R[j]?=some T):(R.drop j).take 1=[T]:=by have hj:=(Xs.mp h);rw[fq hj.1,hj.2];rfl
theorem gW:FnScope ["web","number","trees"] ["web","number"] (Xv (top 62)):=Wt D
theorem QM{Pt:Addr}(T:Txt K mg t)(hB:SS K mg base t.dZx Pt):Xg P w base (Vb P w) T.q_row_at 45 (gY K t.A_Part t.A_Web Pt t.A_NoSuch):=by
 refine T.q_row_at.okX ["web","number","trees"] D (λvs H Q E h=>?_) (λXG A outer s H vs Q E hr h=>?_)
 .obtain⟨w,n,ps,num,R,rfl,_⟩:=h;rfl
 .obtain⟨w,n,ps,num,R,rfl,hW,hG,hT,n0,n1,hR,q,qe⟩:=h;refine⟨_,(XR (Zj (i:=2) gW.nd Z (Or.inl Z)<|XC (Hk T hB) hr T.q_row_from cZ<|XZ (pv 0)<|XZ (pv 1)<|XZ Za XY)
   (XR (WK (Ze Sa (Zf (Zk K) uw T.n_len Boot.«len»<|XZ (pv 2) XY) Za<|Zq _)
   (XM<|cY T.x_NoSuch T.c_NoSuch<|XZ (cW<|Dt<|Ds (pv 1) Du) XY)
   Zo)
   (XM<|Zi<|Zy (Zb K) (pv 2) Za λ_ _=>rfl))),?_⟩
  obtain⟨ld,F,inc,fu,Vw,_,_,_,Sm⟩:=id hR;refine⟨_,Z,_,Z,w,n,ps,num,1,R,Z,hW,hG,hT,n0,n1,S,S,λ_=>hR,λno=>absurd Vw.tr.1<|no F,λnp r xs H1 UR WS VH VX hX=>?_,λh=>qe (.inl h) H (SameX.same<|Same.refl _) hT⟩;refine nm ?_;refine⟨_,Z,r,xs,Z,.inl<|SqL.of VX,Z,_,Z,?_⟩;rw[ZB];by_cases Xh:num<R.length
  .obtain⟨U,hU⟩:∃U,R[num.toNat]?=some U:=⟨_,Xw J⟩;rw[show(1:Int).toNat=1 from Z,gX hU]at hX;obtain⟨v,hv,c,rfl,hc⟩:=hX.2 0 U rfl;have hl:xs.length=1:=hX.1
   refine Xd (λh0=>J) λ_=>?_;refine WG ?_;exact⟨_,Z,r,xs,0,.ref c,Z,Z,SqL.of VX,Zx (n:=0) Z hv,q np Xh c U H1 hU UR WS hc⟩
  .rw[LH J,Fl]at hX;have hl:xs.length=0:=hX.1
   refine Xd (λ_=>?_) λh0=>J;exact⟨_,Z,num,Z,n0,n1,λx=>⟨by show 1<=sizeLine;decide,qe (.inr ur) H1 UR WS⟩⟩
noncomputable def gV(K:Ad)(CP C Pt:Addr):Sp:=λvs H Q _=>∃w n ps R,vs=[.ref w]/\WebAt C H w n ps/\Zw n ps/\Xn H Pt/\RowW n ps R/\
 ∀r T H',R[R.length-1]?=some T->SameX Pt H H'->Xn H' Pt->H' r=some (.tup<|IL T)->Q (.ref r) H'
theorem z6{n:Int}{ps:Aa}{T:Ac}(h:Zh n ps T):xn n ps:=λi j hi hj=>(h.2.2 i j hi hj).mono (ZC λz hz=>XA.mpr<|h.1.all z hz)
theorem gU{Pt:Addr}(T:Txt K mg t)(hB:SS K mg base t.dZx Pt):Xg P w base Xl T.q_row_last 46 (gV K t.A_Part t.A_Web Pt):=by
 refine T.q_row_last.ok ["web"] D (λvs H Q E h=>?_) (λXG A outer s H vs Q E hr h=>?_)
 .obtain⟨w,n,ps,R,rfl,_⟩:=h;rfl
 .obtain⟨w,n,ps,R,rfl,hW,hG,hT,hR,q⟩:=h;refine⟨_,(XR (ZS<|XC (AO T) hr T.q_refuse_parted Zs<|XZ (pv 0) XY)
   (XM<|Zi<|XC (QM T hB) hr T.q_row_at Sz<|XZ (pv 0)<|XZ (Zr WO (XC (OI T) hr T.q_tree_count Zs<|XZ (pv 0) XY) Za) XY)),?_⟩
  obtain⟨ld,F,inc,fu,Vw,_,_,_,Sm⟩:=id hR;have hJ:=z6 Vw.tr.1
  have c0:R.length≠0:=λe=>by rw[e]at Sm;exact(lN Sm).mp Z F Vw.tr.1
  refine⟨_,Z,w,n,ps,Z,hW,hG,λ_ H1 s1=>?_,λh=>absurd hJ h⟩;refine⟨_,Z,_,Z,w,n,ps,Z,hW.same s1,hG,λc H2 hc s2=>⟨_,_,Z,Z,?_⟩⟩;obtain rfl:=hc.uniq Sm;have WL:=s1.trans s2
  have vT:=Cj hG hc;refine⟨w,n,ps,(R.length:Int)-1,R,Z,hW.same WL,hG,hT.same WL,ur,ur,hR,λ_ _ r U H3 hU sx tab Uh=>?_,λh=>absurd h ur⟩;exact q r U H3 (by rwa[show((R.length:Int)-1).toNat=R.length-1 by omega]at hU) ((SameX.same WL).trans sx) tab Uh
noncomputable def Hi(K:Ad)(CP C Pt:Addr)(d:Nat):Sp:=λvs H Q _=>∃x a n ps I O F inc T ld fu R size,vs=[.ref x,.int size,.ref a]/\PartAt K CP C H x n ps I O F inc ld fu/\PartOk n ps I O ld F inc fu/\Zw n ps/\Xn H Pt/\RowR n ps d I O ld R/\size=R.length/\SqT K H a (IL T)/\T∈R/\
 ∀(j:Nat)(H':Hp),R[j]?=some T->SameX Pt H H'->Xn H' Pt->Q (.int j) H'
theorem z5:FnScope ["part","size","tree","first","middle"] ["part","size","tree"] (Xv (top 60)):=Wt D
theorem gT{Pt:Addr}(T:Txt K mg t)(hB:SS K mg base t.dZx Pt)(d:Nat):Xg P w base Xl T.q_number_in (11+d) (Hi K t.A_Part t.A_Web Pt d):=by
 have key:∀d k sp,Xg P w base Xl T.q_number_in k sp->k<=10+d->(∀e,d=e+1->sp=Hi K t.A_Part t.A_Web Pt e)->Xg P w base Xl T.q_number_in (11+d) (Hi K t.A_Part t.A_Web Pt d):=by
  intro d k sp ih hk UT;rw[show 11+d=10+d+1 by lia];refine T.q_number_in.ok ["part","size","tree","first","middle"] D (λvs H Q E h=>?_) (λXG A outer s H vs Q E hr h=>?_)
  .obtain⟨x,a,n,ps,I,O,F,inc,U,ld,fu,R,size,rfl,_⟩:=h;rfl
  .obtain⟨x,ta,n,ps,I,O,F,inc,U,ld,fu,R,size,rfl,Sn,Vw,hG,hT,hR,hsz,wz,hU,q⟩:=h;refine⟨_,(XR (WK (Ze yh (Zp K (pv 0) Z) QG<|Zq _)
   (XM<|Zi<|TY K YU e9 fb (Yz8 K<|MN hr) (Rv (Ai T) (hr.mono ur) Z T.q_undivided_row.mm T.q_undivided_row.fn.kp T.q_undivided_row.bi .nil Zs<|XZ (pv 0) XY)<|XZ (pv 2) XY)
   Zo)
   (XR (Zj (i:=3) z5.nd Z (Or.inl Z)<|Rv (Al T hB) (hr.mono ur) Z T.q_half_without.mm T.q_half_without.fn.kp T.q_half_without.bi .nil Zs<|XZ (pv 0) XY)
   (XR (Zj (i:=4) z5.nd Z (Or.inl Z)<|Rv (Aj T) (hr.mono ur) Z T.q_part_size.mm T.q_part_size.fn.kp T.q_part_size.bi .nil Zs<|XZ (pv 3) XY)
   (XR (WK (Ze (IU K) (Zp K (pv 0) Z) (pv 2) Z)
   (XM<|Zi<|Zr WO (Zr WO (pv 1) Za)<|Rv ih (hr.mono ur) Z T.q_number_in.mm T.q_number_in.fn.kp T.q_number_in.bi .nil Zs<|XZ (Rv (Ak T hB) (hr.mono ur) Z T.q_half_with.mm T.q_half_with.fn.kp T.q_half_with.bi .nil Zs<|XZ (pv 0) XY)<|XZ (Zr WO (pv 1)<|pv 4)<|XZ (pv 2) XY)
   Zo)
   (XM<|Zi<|Rv ih (hr.mono ur) Z T.q_number_in.mm T.q_number_in.fn.kp T.q_number_in.bi .nil Zs<|XZ (pv 3)<|XZ (pv 4)<|XZ (pv 2) XY))))),?_⟩
   obtain⟨dx,w0,a,b,l,i,hx,hW,hA,RM,hl,hi⟩:=id Sn;refine⟨_,Z,x,_,dx,_,Xa fu,Z,hx,T.cl_Part,T.n_Part_further,Z,Z,_,Z,?_⟩;have hwith:=ON hG hR
   cases hR with
   |und VW VC ij=>
    obtain⟨rfl,rfl,rfl⟩:=Vw.uniq VW;refine We ?_;refine⟨_,Z,x,n,ps,I,O,F,inc,ld,none,Z,Sn,hG,Vw.tr.1,VC,ij,λr xs H1 s1 VH VX hX=>?_⟩;obtain⟨e,j,c,h1,h2,h3,h4,h5⟩:=Zc8 (K:=K) hX (SqK.same (k:=true) s1 wz) hU;refine⟨.inl ⟨Z,_,SqL.of VX⟩,_,Z,1,r,xs,.ref ta,e,j,c,Z,Z,VX,S,h1,h2,h3,h4,?_⟩;exact q j H1 h5 (SameX.same s1) (hT.same s1)
   |div VW hIn Xp UW RL Hm Hl y0 y1 ig vW vV=>
    rename_i e F' Wl z y A' uj;obtain⟨rfl,rfl,rfl⟩:=Vw.uniq VW;have ie:=UT e rfl
    subst ie;refine WB ?_;refine WG ?_;have Tv:=YR.mp hIn
    have Oy:I.Nodup:=Tv.1;have Ox:∀v∈I,0<=v/\v<(ps.length:Int):=λv hv=>Xp v (Yd _ hv)
    have Ow:∀v∈I,v∉O++[z]:=λv hv h=>(Xz.mp h).elim (UW v<|Yd _ hv) λh=>Tv.2.2 v hv z B (XF.mp h);have Sr:O.length<=30:=by rw[Xt,Yr]at RL;lia
    have Qs:size=(A'.length:Int)+uj.length:=by rw[hsz,Xt,YM];lia
    refine⟨_,Z,x,n,ps,I,O,F,inc,z,y,Z,Sn,hG,hT,Oy,Ox,Ow,RL,Hl,y0,y1,λx1 F1 Sq HP H1 Mu Sx UR WS=>?_⟩;refine nm ?_;refine⟨_,Z,x1,n,ps,I,O++[z],F1,Sq,some y,HP,Z,Sx,hG,Oy,Ox,RL,Ow,λc H2 hc s2=>?_⟩;have ec:=hc.uniq ig
    subst ec;refine nm ?_;have Uu:SameX Pt H H2:=UR.trans (SameX.same s2)
    have WY:=WS.same s2;have jB:=Uu _ _ (hT.ne hx B) hx
    have Hh:SqT K H2 ta (IL U):=SqK.samex (kd:=true) wz hT Uu;refine⟨_,Z,x,_,dx,_,.int z,Z,jB,T.cl_Part,T.n_Part_lead,Z,_,Z,ta,_,Z,.inr Hh,Z,ZI _,_,Z,?_⟩;rw[ZT];refine Xd (λhz=>?_) (λhz=>?_)
    .have hUB:U∈uj:=by
      rcases Xz.mp hU with h|h
      .exact absurd hz ((ON hG vW U h).2.2 z B)
      .exact GJ.mp h
     refine⟨_,Z,_,_,Z,Z,_,Z,x,n,ps,I,O,F,inc,z,y,Z,Sn.samex hT Uu,hG,WY,hIn,Xp,UW,Sr,Hm,y0,y1,λx2 F2 OO Bo H4 TU TX SQ UH=>?_⟩;refine⟨_,Z,_,Z,_,_,Z,Z,_,Z,?_⟩;refine⟨x2,ta,n,ps,I++[z],O,F2,OO,U,some y,Bo,uj,_,Z,TX,TU,hG,UH,vV,J,SqK.samex (kd:=true) Hh WY SQ,hUB,λj H5 hj ND Ue=>?_⟩;have MK:=(Xs.mp hj).1
     refine⟨_,_,Z,Z,?_⟩;have e:size-1-(j:Int)=((A'.length+(uj.length-1-j):Nat):Int):=uu
     show Q (.int<|size-1-(j:Int)) H5;rw[e];refine q _ H5 ?_ ((Uu.trans SQ).trans ND) Ue;rwa[Yv J,Ka J,show uj.length-1-(A'.length+(uj.length-1-j)-A'.length)=j by lia]
    .have hUA:U∈A':=by
      rcases Xz.mp hU with h|h
      .exact h
      .exact absurd ((ON hG vV U<|GJ.mp h).2.1 z B) hz
     refine WG ?_;refine⟨_,Z,_,Z,_,Z,?_⟩;refine⟨x1,ta,n,ps,I,O++[z],F1,Sq,U,some y,HP,A',_,Z,Sx.samex WS<|SameX.same s2,Mu,hG,WY,vW,Z,Hh,hUA,λj H3 hj z9 Vz=>?_⟩;refine q j H3 ?_ (Uu.trans z9) Vz;rwa[Yw (Xs.mp hj).1]
 induction d with
 |zero=>exact key 0 0 _ ZT9 J λe h=>(by cases h)
 |succ d ih=>exact key (d+1) (11+d) _ ih J λe h=>(by cases h;rfl)
noncomputable def gS(K:Ad)(CP C Pt:Addr):Sp:=λvs H Q _=>∃w a n ps U R,vs=[.ref w,.ref a]/\WebAt C H w n ps/\Zw n ps/\Xn H Pt/\SqT K H a (IL U)/\Zh n ps U/\RowW n ps R/\U∈R/\
 ∀(j:Nat)(H':Hp),R[j]?=some U->SameX Pt H H'->Xn H' Pt->Q (.int j) H'
theorem LP{Pt:Addr}(T:Txt K mg t)(hB:SS K mg base t.dZx Pt):Xg P w base Xl T.q_row_number 44 (gS K t.A_Part t.A_Web Pt):=by
 refine T.q_row_number.ok ["web","tree"] D (λvs H Q E h=>?_) (λXG A outer s H vs Q E hr h=>?_)
 .obtain⟨w,a,n,ps,U,R,rfl,_⟩:=h;rfl
 .obtain⟨w,a,n,ps,U,R,rfl,hW,hG,hT,hA,hU,⟨ld,F,inc,fu,Vw,hn,hs,Kr,Sm⟩,hUR,q⟩:=h;refine⟨_,(XR (ZS<|XC (Hx T) hr T.q_refuse_no_tree Zs<|XZ (pv 0)<|XZ (pv 1) XY)
   (XM<|Zi<|XC (gT T hB 31) hr T.q_number_in Zs<|XZ (XC (Am T hB) hr T.q_whole_part Zs<|XZ (pv 0) XY)<|XZ (XC (OI T) hr T.q_tree_count Zs<|XZ (pv 0) XY)<|XZ (Zm (ZK K) uw T.n_tuple Boot.«tuple»<|XZ (pv 1) XY) XY)),?_⟩
  refine⟨_,Z,_,Z,w,a,n,ps,true,U,Z,hW,hG,hA,λ_ H1 s1=>?_,λh=>absurd hU h⟩;have WS:=hT.same s1
  refine⟨_,Z,w,n,ps,Z,hW.same s1,hG,WS,⟨U,hU⟩,λx F' Wl Ks Ku H2 VW Rx NY Sn Uu WY=>?_⟩;have eF:F'=F:=SW (Vw.least F' VW.tr) (VW.least F Vw.tr)
  subst eF;have el:=Zf7 Rx NY hn hs
  subst el;have Th:SameX Pt H H2:=(SameX.same s1).trans Uu
  refine⟨_,Z,w,n,ps,Z,hW.samex hT Th,hG,λc H3 hc s3=>?_⟩;have ec:=hc.uniq Sm
  have Ug:=Th.trans (SameX.same s3);have Vz:=WY.same s3
  have MH:SqT K H3 a (IL U):=SqK.samex (kd:=true) hA hT Ug;refine⟨_,Z,a,_,Z,.inr ⟨MH,?_⟩⟩;exact⟨x,a,n,ps,[],[],F',Wl,U,Ks,Ku,R,_,Z,Sn.samex WY<|SameX.same s3,VW,hG,Vz,Kr,by rw[ec],MH,hUR,λj H4 hj SQ UH=>q j H4 hj (Ug.trans SQ) UH⟩
noncomputable def gR(K:Ad)(CP C Pt:Addr):Sp:=λvs H Q _=>∃w a n ps U R j,vs=[.ref w,.ref a]/\WebAt C H w n ps/\Zw n ps/\Xn H Pt/\SqT K H a (IL U)/\Zh n ps U/\RowW n ps R/\R.Nodup/\R[j]?=some U/\
 ∀v H',CN H' v (R[j+1]?)->SameX Pt H H'->Xn H' Pt->Q v H'
theorem gQ:FnScope ["web","tree","trees"] ["web","tree"] (Xv (top 65)):=Wt D
theorem Hg{Pt:Addr}(T:Txt K mg t)(hB:SS K mg base t.dZx Pt):Xg P w base Xl T.q_row_next 45 (gR K t.A_Part t.A_Web Pt):=by
 refine T.q_row_next.ok ["web","tree","trees"] D (λvs H Q E h=>?_) (λXG A outer s H vs Q E hr h=>?_)
 .obtain⟨w,a,n,ps,U,R,j,rfl,_⟩:=h;rfl
 .obtain⟨w,a,n,ps,U,R,j,rfl,hW,hG,hT,hA,hU,hR,hN,hj,q⟩:=h;refine⟨_,(XR (Zj (i:=2) gQ.nd Z (Or.inl Z)<|XC (Hk T hB) hr T.q_row_from Sz<|XZ (pv 0)<|XZ (Zr UG (XC (LP T hB) hr T.q_row_number Zs<|XZ (pv 0)<|XZ (pv 1) XY) Za)<|XZ Za XY)
   (XM<|Zi<|EJ (Ze Sa (Zf (Zk K) uw T.n_len Boot.«len»<|XZ (pv 2) XY) Za<|Zq _) QG<|Zy (Zb K) (pv 2) Za λ_ _=>rfl)),?_⟩
  obtain⟨ld,F,inc,fu,Vw,_,_,_,Sm⟩:=id hR;have vT:=Cj hG Sm
  have jl:=(Xs.mp hj).1;refine⟨_,Z,_,Z,_,Z,w,a,n,ps,U,R,Z,hW,hG,hT,hA,hU,hR,Xf hj,λi H1 hi UR WS=>⟨_,_,Z,Z,?_⟩⟩;obtain rfl:i=j:=(JV (Xs.mp hi).1 hN).mp (hi.trans hj.symm);refine⟨w,n,ps,_,1,R,Z,hW.samex hT UR,hG,WS,(by show -(10^70)<(i:Int)+1;lia),(by show(i:Int)+1<10^70;lia),S,S,λ_=>hR,λno=>absurd Vw.tr.1<|no F,λ_ r xs H2 Uu WY VH VV hX=>?_,λh=>absurd h<|by show ¬(i:Int)+1<0;lia⟩;refine nm ?_;rw[show(1:Int).toNat=1 from Z,show((i:Int)+1).toNat=i+1 from Z]at hX;have Th:=UR.trans Uu
  refine⟨_,Z,r,xs,Z,.inl<|SqL.of VV,Z,_,Z,?_⟩;rw[ZB];cases hn:R[i+1]? with
  |none=>
   rw[hn]at q;rw[LH (vE.mp hn),Fl]at hX;refine Xd (λ_=>q .non H2 Z Th WY) (λh=>absurd (by rw[hX.1];rfl) h)
  |some U2=>
   rw[hn]at q;have e:(R.drop<|i+1).take 1=[U2]:=by obtain⟨h1,h2⟩:=Xs.mp hn;rw[fq h1,h2];rfl
   rw[e]at hX;obtain⟨v,hv,c,rfl,hc⟩:=hX.2 0 U2 rfl;refine Xd (λh=>absurd h<|by rw[hX.1];show ¬(1:Int)=0;decide) λ_=>?_;exact⟨_,Z,r,xs,0,.ref c,Z,Z,SqL.of VV,Zx (n:=0) Z hv,q (.ref c) H2 ⟨c,Z,hc⟩ Th WY⟩
noncomputable def gP(K:Ad)(CP C Pt:Addr):Sp:=λvs H Q _=>∃w a n ps U R j,vs=[.ref w,.ref a]/\WebAt C H w n ps/\Zw n ps/\Xn H Pt/\SqT K H a (IL U)/\Zh n ps U/\RowW n ps R/\R.Nodup/\R[j]?=some U/\
 ∀v H',CN H' v (if j=0 then none else R[j-1]?)->SameX Pt H H'->Xn H' Pt->Q v H'
theorem gO:FnScope ["web","tree","number"] ["web","tree"] (Xv (top 66)):=Wt D
theorem z4{Pt:Addr}(T:Txt K mg t)(hB:SS K mg base t.dZx Pt):Xg P w base Xl T.q_row_ahead 46 (gP K t.A_Part t.A_Web Pt):=by
 refine T.q_row_ahead.ok ["web","tree","number"] D (λvs H Q E h=>?_) (λXG A outer s H vs Q E hr h=>?_)
 .obtain⟨w,a,n,ps,U,R,j,rfl,_⟩:=h;rfl
 .obtain⟨w,a,n,ps,U,R,j,rfl,hW,hG,hT,hA,hU,hR,hN,hj,q⟩:=h;refine⟨_,(XR (Zj (i:=2) gO.nd Z (Or.inl Z)<|XC (LP T hB) hr T.q_row_number Zs<|XZ (pv 0)<|XZ (pv 1) XY)
   (XM<|Zi<|EJ (Ze Sa (pv 2) Za<|Zq _) QG<|XC (QM T hB) hr T.q_row_at Sz<|XZ (pv 0)<|XZ (Zr WO (pv 2) Za) XY)),?_⟩
  have jl:=(Xs.mp hj).1;obtain⟨_,_,_,_,_,_,_,_,Sm⟩:=id hR;have vT:=Cj hG Sm
  refine⟨_,Z,_,Z,w,a,n,ps,U,R,Z,hW,hG,hT,hA,hU,hR,Xf hj,λi H1 hi UR WS=>?_⟩;obtain rfl:i=j:=(JV (Xs.mp hi).1 hN).mp (hi.trans hj.symm);refine nm ?_;refine⟨_,Z,Z,_,Z,?_⟩;rw[ZB];refine Xd (λh0=>?_) (λh0=>?_)
  .rw[if_pos ur]at q;exact q .non H1 Z UR WS
  .rw[if_neg ur]at q;refine⟨_,Z,_,Z,_,_,Z,Z,w,n,ps,_,R,Z,hW.samex hT UR,hG,WS,(by show -(10^70)<(i:Int)-1;lia),(by show(i:Int)-1<10^70;lia),hR,λ_ _ r U2 H2 FH Uu WY VV=>?_,λh=>absurd h<|by show ¬((i:Int)-1<0\/(R.length:Int)<=(i:Int)-1);lia⟩;rw[show((i:Int)-1).toNat=i-1 by omega]at FH;rw[FH]at q;exact q (.ref r) H2 ⟨r,Z,VV⟩ (UR.trans Uu) WY
noncomputable def gN(H:Hp)(v:V)(U:Ac):Option Ac->Prop
 |none=>v=.non
 |some U2=>∃r o z,v=.ref r/\H r=some (.tup [.int o,.int z])/\o∈U/\o∉U2/\z∈U2/\z∉U
noncomputable def gM(K:Ad)(CP C Pt:Addr):Sp:=λvs H Q _=>∃w a n ps U R j,vs=[.ref w,.ref a]/\WebAt C H w n ps/\Zw n ps/\Xn H Pt/\SqT K H a (IL U)/\Zh n ps U/\RowW n ps R/\R.Nodup/\R[j]?=some U/\(∀T∈R,Zh n ps T)/\
 ∀v H',gN H' v U (R[j+1]?)->SameX Pt H H'->Xn H' Pt->Q v H'
theorem Zl5{n:Int}{ps:Aa}{U V:Ac}(g:Zw n ps)(hU:Zh n ps U)(hV:Zh n ps V)(ne:U≠V):∃z l,(U.filter λy=>decide (y∉V))=z::l/\z∈U/\z∉V:=by
 cases e:U.filter λy=>decide (y∉V) with
 |nil=>
  refine absurd (wH g hU hV λz hz=>Yx λno=>?_) ne
  have:z∈U.filter λy=>decide (y∉V):=Yg.mpr ⟨hz,Yn no⟩
  rw[e]at this;cases this
 |cons z l=>
  have:z∈U.filter λy=>decide (y∉V):=by rw[e];exact Ya
  obtain⟨h1,h2⟩:=Yg.mp this;exact⟨z,l,Z,h1,Yu h2⟩
theorem Hf:FnScope ["web","tree","behind","out","into"] ["web","tree"] (Xv (top 67)):=Wt D
theorem zZ{Pt:Addr}(T:Txt K mg t)(hB:SS K mg base t.dZx Pt):Xg P w base Xl T.q_row_step 46 (gM K t.A_Part t.A_Web Pt):=by
 refine T.q_row_step.ok ["web","tree","behind","out","into"] D (λvs H Q E h=>?_) (λXG A outer s H vs Q E hr h=>?_)
 .obtain⟨w,a,n,ps,U,R,j,rfl,_⟩:=h;rfl
 .obtain⟨w,a,n,ps,U,R,j,rfl,hW,hG,hT,hA,hU,hR,hN,hj,gL,q⟩:=h;refine⟨_,(XR (Zj (i:=2) Hf.nd Z (Or.inr Z)<|XC (Hg T hB) hr T.q_row_next Zs<|XZ (pv 0)<|XZ (pv 1) XY)
   (XR (WK (Ze yh (pv 2) QG<|Zq _)
   (XM<|Zi QG)
   Zo)
   (XR (QA (i:=3) Z Hf.nd Z Z (sc0:=Xv<|top 67) (N0:=["web","tree","behind","out","into"]) (N':=["tie","behind"]) (o:=1) (fr:=[2]) ⟨Z,D,D,D,Z,D⟩ (DC K<|pv 1) (Zv S) (λ_ _ _ _=>(Zg (i:=0) (show List.Nodup (["tie","behind"]:List Str) by decide +kernel) Z<|Or.inl Z)) (λ_ _ _ _=>(Rq<|Ze (ZW K) (pv 0) (pv 1) Z)) λ_ _ _ _=>(pv 0))
   (XR (QA (i:=4) Z Hf.nd Z Z (sc0:=Xv<|top 67) (N0:=["web","tree","behind","out","into"]) (N':=["tie","tree"]) (o:=1) (fr:=[1]) ⟨Z,D,D,D,Z,D⟩ (DC K<|pv 2) (Zv S) (λ_ _ _ _=>(Zg (i:=0) (show List.Nodup (["tie","tree"]:List Str) by decide +kernel) Z<|Or.inl Z)) (λ_ _ _ _=>(Rq<|Ze (ZW K) (pv 0) (pv 1) Z)) λ_ _ _ _=>(pv 0))
   (XM<|Zi<|UE<|XZ (Zy (Zb K) (pv 3) Za λ_ _=>rfl)<|XZ (Zy (Zb K) (pv 4) Za λ_ _=>rfl) XY))))),?_⟩
  have two:2<=sizeLine:=S;refine⟨_,Z,_,Z,w,a,n,ps,U,R,j,Z,hW,hG,hT,hA,hU,hR,hN,hj,λv H1 hv UR WS=>?_⟩;refine nm ?_;cases hn:R[j+1]? with
  |none=>
   rw[hn]at q hv;obtain rfl:v=.non:=hv;refine⟨_,Z,Z,_,Z,?_⟩;exact We (q .non H1 Z UR WS)
  |some U2=>
   rw[hn]at q hv;obtain⟨b,rfl,hb⟩:=(show WA H1 v U2 from hv);refine⟨_,Z,Z,_,Z,?_⟩;refine WB ?_;refine WG ?_;have FH:=gL U2 (Xf hn)
   have ne:U≠U2:=λe=>by
    have:=(JV (Xs.mp hj).1 hN).mp (hj.trans<|by rw[e];exact hn.symm)
    lia
   have Sx:SqT K H1 a (IL U):=SqK.samex (kd:=true) hA hT UR;have lU:U.length<=20:=by have:=hU.2.1;have:=hG.2.1;lia
   have lV:U2.length<=20:=by have:=FH.2.1;have:=hG.2.1;lia
   refine⟨_,Z,a,Z,⟨_,Sx⟩,DD (K:=K) (a:=a) (xs:=IL U) (λi ws H3=>H3=H1/\i<=U.length/\ws=IL ((U.take i).filter λy=>decide<|y∉U2)) ⟨Z,Ym _,Z⟩ (Zl<|by rw[Xx];lia)
    (λi ws H3 hi h=>by obtain⟨e,Wb,ew⟩:=h;exact⟨e▸Sx,by rw[ew,Xx];exact Ys (YG ..)<|by rw[Yl];lia⟩) ?_ ?_⟩
   .rintro i y ws H3 hi ⟨rfl,VC,rfl⟩ uo Xm;obtain⟨y,rfl,hy⟩:=Uz hi;have Xo:i<U.length:=(Xs.mp hy).1
    refine⟨_,Z,_,Z,b,_,Z,.inr<|SqT.of hb,Z,ZI _,_,Z,?_⟩;rw[ZT];refine WN (λhc=>?_) (λhc=>?_)
    .refine Xm _ _ ⟨Z,Xo,?_⟩;rw[ZJ hy,if_neg (by simpa using hc),YH]
    .refine⟨_,Z,Xm _ _ ⟨Z,Xo,?_⟩⟩;rw[ZJ hy,if_pos<|Yn hc,ZN]
   rintro ws H3 ⟨rfl,_,rfl⟩ oA hoA;rw[Xx,YF];obtain⟨o,lo,eo,o1,o2⟩:=Zl5 hG hU FH ne;rw[eo];have u4:=XN (o:=.lst<|IL<|o::lo) hoA
   have k4:=XS (H:=H3) (a:=oA) (o:=.lst<|IL<|o::lo);generalize upd H3 oA (.lst<|IL<|o::lo)=H4 at *;refine nm ?_;have hb4:=u4 _ _ hb
   have NH:SqT K H4 a (IL U):=SqK.same (k:=true) u4 Sx;refine⟨_,Z,b,Z,⟨_,SqT.of hb4⟩,DD (K:=K) (a:=b) (xs:=IL U2) (λi ws H5=>H5=H4/\i<=U2.length/\ws=IL ((U2.take i).filter λy=>decide<|y∉U)) ⟨Z,Ym _,Z⟩ (Zl<|by rw[Xx];lia)
    (λi ws H5 hi h=>by obtain⟨e,Wb,ew⟩:=h;exact⟨e▸SqT.of hb4,by rw[ew,Xx];exact Ys (YG ..)<|by rw[Yl];lia⟩) ?_ ?_⟩
   .rintro i y ws H5 hi ⟨rfl,VC,rfl⟩ uo Xm;obtain⟨y,rfl,hy⟩:=Uz hi;have Xo:i<U2.length:=(Xs.mp hy).1
    refine⟨_,Z,_,Z,a,_,Z,.inr NH,Z,ZI _,_,Z,?_⟩;rw[ZT];refine WN (λhc=>?_) (λhc=>?_)
    .refine Xm _ _ ⟨Z,Xo,?_⟩;rw[ZJ hy,if_neg (by simpa using hc),YH]
    .refine⟨_,Z,Xm _ _ ⟨Z,Xo,?_⟩⟩;rw[ZJ hy,if_pos<|Yn hc,ZN]
   rintro ws H5 ⟨rfl,_,rfl⟩ iA hiA;rw[Xx,YF];obtain⟨z,lz,ez,z1,z2⟩:=Zl5 hG FH hU (XI ne);rw[ez];have u6:=XN (o:=.lst<|IL<|z::lz) hiA
   have k6:=XS (H:=H5) (a:=iA) (o:=.lst<|IL<|z::lz);generalize upd H5 iA (.lst<|IL<|z::lz)=H6 at *;refine nm ?_;refine⟨_,Z,oA,_,0,.int o,Z,Z,SqL.of<|u6 _ _ k4,Zx (n:=0) Z Z,_,Z,iA,_,0,.int z,Z,Z,SqL.of k6,Zx (n:=0) Z Z,two,λr Ko=>?_⟩;have u7:=XN (o:=.tup [.int o,.int z]) Ko
   have s17:=u4.trans (u6.trans u7);exact q (.ref r) _ ⟨r,o,z,Z,XS,o1,o2,z1,z2⟩ (UR.trans<|SameX.same s17) (WS.same s17)
noncomputable def gK:Sp:=λvs H Q _=>∃w:Str,vs=[.str w]/\(w.cps.all λc=>decide<|c<128)=true/\w.length<=100000/\∀H':Hp,Same H H'->Q (.bl<|Ca w.cps.toList) H'
theorem ZZ9(x y:Str):decide (V.str x=V.str y)=decide (x.cps.toList=y.cps.toList):=Fp.mpr ⟨λe=>by cases e;rfl,λe=>by rw[aT e]⟩
theorem gJ{cs:List Nat}{c:Nat}(h:c∈Wf cs):c∈cs:=by
 unfold Wf at h;split at h
 .exact List.mem_of_mem_tail h
 .exact h
theorem gI(cs:List Nat):(Wf cs).length<=cs.length:=by
 unfold Wf;split
 .rw[yQ];omega
 .exact XO _
theorem RJ{l:List Nat}{f:Nat->Bool}:(l.map λc=>!f c).any id=false↔∀c∈l,f c=true:=by
 rw[List.any_eq_false];constructor
 .intro h c hc
  have:=h (!f c) (YA.mpr ⟨c,hc,Z⟩)
  cases e:f c with
  |true=>rfl
  |false=>rw[e]at this;exact absurd Z this
 .intro h b hb;obtain⟨c,hc,rfl⟩:=YA.mp hb;rw[h c hc];decide
theorem gH:FnScope ["word","figures"] ["word"] (Xv (top 71)):=Wt D
theorem gG(T:Txt K mg t):Xg P w base Xl T.q_is_number 1 gK:=by
 refine T.q_is_number.ok ["word","figures"] D (λvs H Q E h=>?_) (λXG A outer s H vs Q E hr h=>?_)
 .obtain⟨w,rfl,_⟩:=h;rfl
 .obtain⟨w,rfl,ha,hl,q⟩:=h;refine⟨_,(XR (Zj (i:=1) gH.nd Z (Or.inl Z)<|EJ (Rw<|TY K Qg PySem.F.slot_str_startswith PySem.F.type_str_startswith Zy8 (pv 0)<|XZ Qa XY) (ZZ mw (pv 0) (Ru Za) PL)<|pv 0)
   (XR (WK (PW.pt<|SM (QD<|tu SG SG Za (Zf ZU4 uw T.n_len Boot.«len»<|XZ (pv 1) XY)<|yq (v:=V.int 60) Z T.g_MOST_FIGURES.choose_spec ⟨_,Z⟩)<|QE<|Rw<|Zf (Za9 K Z) uw T.n_any Boot.«any»<|XZ (TZ Z (sc0:=Xv<|top 71) (N0:=["word","figures"]) (N':=["sign"]) (o:=1) (fr:=[]) ⟨Z,D,D,D,Z,D⟩ (my<|pv 1) (Zv S) (λ_ _ _ _=>(Zg (i:=0) (show List.Nodup (["sign"]:List Str) by decide +kernel) Z<|Or.inl Z)) (λ_ _ _ _=>ZX) λ_ _ _ _=>(Oe ZC4 (pv 0) (yq (v:=V.str "0123456789") Z T.g_FIGURES.choose_spec ⟨_,Z⟩) Z)) XY)
   (XM<|Zi VG)
   Zo)
   (XM<|Zi<|t5 (Oe Sa (pv 0) Qa<|Zq _)<|EL<|Oe SI (Zy sH (pv 1) Za λ_ _=>rfl) Qa<|Zq _))),?_⟩
  have hw:=Mo w;have z1:100000<=sizeLine:=S
  refine mM (λσ H'=>H'=H/\∃F:Str,σ=[some (.str w),some (.str F)]/\F.cps.toList=Wf w.cps.toList) ?_ ?_;rotate_left
  .intro Kn hK;refine⟨_,Z,Z,_,_,Z,Z,_,Z,?_⟩;rw[Zg8];refine Xd (λhs=>?_) (λhs=>?_)
   .have QX:1<=w.cps.toList.length:=by
     cases e:w.cps.toList with
     |nil=>rw[e]at hs;cases hs
     |cons c r=>simp
    have et:=ZI6 QX;refine⟨_,Z,_,Z,w,Z,?_,hK _ _ ⟨Z,_,Z,?_⟩⟩
    .rw[Mo,et,yQ];grind
    .rw[et];unfold Wf;rw[if_pos hs]
   .refine⟨_,Z,hK _ _ ⟨Z,_,Z,?_⟩⟩;unfold Wf;rw[if_neg hs]
  rintro σ H' ⟨rfl,F,rfl,hF⟩;have Ho:=Mo F
  have RW:=gI w.cps.toList;have hFs:F.length<=100000:=by rw[Ho,hF];lia
  have hFa:(F.cps.all λc=>decide<|c<128)=true:=by rw[<-Array.all_toList,RG]at ha ⊢;intro c hc;rw[hF]at hc;exact ha c (gJ hc)
  have bad:¬(1<=(Wf w.cps.toList).length/\(Wf w.cps.toList).length<=60/\∀c∈Wf w.cps.toList,48<=c/\c<=57)->∀H2:Hp,Same H' H2->Q (.bl false) H2:=λh H2 s2=>by
   have e:Ca w.cps.toList=false:=YW λz=>h ⟨z.1,z.2.1,z.2.2.1⟩
   have:=q H2 s2
   rwa[e]at this
  refine⟨_,Z,F,Z,J,_,_,Z,Z,_,Z,?_⟩;refine Xd (λh1=>?_) λh1=>?_;rotate_left
  .refine⟨_,Z,?_⟩;refine We ?_;refine We ?_;exact bad (λz=>h1 (by have:=z.1;rw[<-hF,<-Ho]at this;lia)) _ (Same.refl _)
  refine⟨_,_,Z,Z,_,Z,?_⟩;refine WN (λh60=>?_) λh60=>?_;rotate_left
  .refine We ?_;exact bad (λz=>h60 (by have:=z.2.1;rw[<-hF,<-Ho]at this;lia)) _ (Same.refl _)
  refine⟨_,Z,F,Z,hFa,mv (λi ys H2=>H2=H'/\ys=((F.cps.toList.take i).map λc=>!decide (48<=c/\c<=57)).map V.bl) ⟨Z,Z⟩ (by show F.length<sizeLine;grind) (λi ys H2 _ zz=>by obtain⟨_,e⟩:=zz;rw[e,Yb,Yb,Yl];grind) ?_ ?_⟩
  .rintro i c ys H2 hc ⟨rfl,rfl⟩ uo Xm;refine NU ?_;refine⟨_,Z,_,_,Z,Z,?_⟩;rw[md];refine Xm _ _ ⟨Z,?_⟩;have WI:F.cps.toList[i]?=some c:=by rwa[YS]
   rw[YL,WI,YJ,YJ];rfl
  rintro ys H2 ⟨rfl,rfl⟩ p hp;rw[YN (by rw[YC];exact XO _)];refine⟨p,_,Z,SqL.of XS,_,Z,?_⟩;have s3:=XN (o:=.lst<|(F.cps.toList.map λc=>!decide (48<=c/\c<=57)).map V.bl) hp
  generalize upd H2 p (.lst<|(F.cps.toList.map λc=>!decide (48<=c/\c<=57)).map V.bl)=H3 at *;cases hb:(F.cps.toList.map λc=>!decide (48<=c/\c<=57)).any id with
  |true=>
   refine We ?_;refine bad (λz=>?_) _ s3;rw[<-hF]at z;rw[RJ.mpr λc hc=>Yn (z.2.2 c hc)]at hb;cases hb
  |false=>
   refine WB ?_;have Wm:=RJ.mp hb
   rw[hF]at Wm Ho;refine WG ?_;cases hf:Wf w.cps.toList with
   |nil=>rw[hf]at Ho;simp at Ho;lia
   |cons c r=>
    have hF0:Wo F.cps.toList 0=some c:=by rw[hF,hf];exact Zx (n:=0) S rfl
    refine⟨_,Z,Z,_,Z,?_⟩;rw[ZZ9];have e0:(Str.ofString "0").cps.toList=[48]:=uw
    rw[e0];have fin:∀b:Bool,(b=true↔w.cps.toList=[48]\/c≠48)->Q (.bl b) H3:=λb Mj=>by
     have e:Ca w.cps.toList=b:=by
      rw[QH,Mj];unfold Ca;rw[YT];constructor
      .rintro⟨_,_,_,h⟩;rcases h with h|h
       .exact .inl h
       .exact .inr λe=>h (by rw[hf,e];rfl)
      .intro h;refine⟨J,J,λx hx=>Yu<|Wm x hx,?_⟩;rcases h with h|h
       .exact .inl h
       .exact .inr λe=>h (by rw[hf]at e;exact Yh e)
     have:=q H3 s3
     rwa[e]at this
    refine Xd (λh0=>?_) (λh0=>?_)
    .exact fin true ⟨λ_=>.inl h0,λ_=>rfl⟩
    .refine⟨_,Z,F,0,c,Z,Z,uu,hF0,Z,?_⟩;rw[ZZ9,e0];refine fin _ ⟨λh=>.inr λe=>?_,λh=>?_⟩
     .rw[e]at h;exact absurd h S
     .rcases h with h|h
      .exact absurd h h0
      .rw[YW λe=>h (Fi e).1];rfl
noncomputable def gF:Sp:=λvs H Q _=>∃i:Int,vs=[.str (nT i)]/\-(10^60)<i/\i<10^60/\∀H':Hp,Same H H'->Q (.int i) H'
theorem gE(T:Txt K mg t):Xg P w base Xl T.q_read_number 2 gF:=by
 refine T.q_read_number.ok ["word"] D (λvs H Q E h=>?_) (λXG A outer s H vs Q E hr h=>?_)
 .obtain⟨i,rfl,_⟩:=h;rfl
 .obtain⟨i,rfl,h1,h2,q⟩:=h;refine⟨_,(XR (WK (QD<|Rw<|XC (gG T) hr T.q_is_number Zs<|XZ (pv 0) XY)
   (XM Vj)
   Zo)
   (XM<|Zi<|Zm mC uw T.n_int Boot.«int»<|XZ (pv 0) XY)),?_⟩
  have hl:=OU (k:=60) S h1 h2;refine⟨_,Z,nT i,Z,mh i,J,λH1 s1=>⟨_,Z,?_⟩⟩;rw[OV,BZ h1 h2];refine WB ?_;refine WG ?_;exact⟨_,Z,nT i,i,Z,mq (k:=60) S S h1 h2,J,q H1 s1⟩
noncomputable def gD(K:Ad):Sp:=λvs H Q _=>∃name l,vs=[.str (Str.join Qu<|name::l.map nT),.str name,.int l.length]/\32∉name.cps.toList/\name.length<=100/\l.length<=10/\Told l/\∀r H',Same H H'->H' r=some (.lst<|IL l)->Q (.ref r) H'
theorem gC:FnScope ["line","name","many","words"] ["line","name","many"] (Xv (top 73)):=Wt D
theorem zY(T:Txt K mg t):Xg P w base Xl T.q_read_line 3 (gD K):=by
 refine T.q_read_line.ok ["line","name","many","words"] D (λvs H Q E h=>?_) (λXG A outer s H vs Q E hr h=>?_)
 .obtain⟨name,l,rfl,_⟩:=h;rfl
 .obtain⟨name,l,rfl,hn,hnl,US,hl,q⟩:=h;refine⟨_,(XR (Zj (i:=3) gC.nd Z (Or.inl Z)<|TY K Qg Qh eW Ce (pv 0)<|XZ Qa XY)
   (XR (WK (PW.pt<|SM (Ze SI (Zy (Zb K) (pv 3) Za λ_ _=>rfl) (pv 1)<|Zq _)<|QE<|Ze SI (Zf (Zk K) uw T.n_len Boot.«len»<|XZ (pv 3) XY) (Zr UG (pv 2) Za)<|Zq _)
   (XM Vj)
   Zo)
   (XM<|Zi<|TZ Z (sc0:=Xv<|top 73) (N0:=["line","name","many","words"]) (N':=["word"]) (o:=1) (fr:=[]) ⟨Z,D,D,D,Z,D⟩ (ZR K<|ZZ (Vd K) (pv 3) (Ru Za) PL) (Zv S) (λ_ _ _ _=>(Zg (i:=0) (show List.Nodup (["word"]:List Str) by decide +kernel) Z<|Or.inl Z)) (λ_ _ _ _=>ZX) λ_ _ _ _=>(XC (gE T) hr T.q_read_number Zs<|XZ (pv 0) XY)))),?_⟩
  have UT:=BW (l:=l) hn;have hlen:(Str.join Qu<|name::l.map nT).length<=2000:=by
   rw[OS];refine Ys (mf (uj:=100) λa ha=>?_) (by rw[Yq,Yb];lia);rcases Ye.mp ha with e|e
   .rw[e];exact hnl
   .have:=me hl a e;lia
  have z1:2000<=sizeLine:=S;refine⟨_,Z,Z,_,_,Z,Z,Z,J,?_,λp hp=>?_⟩
  .show(Txt.split _ Qu).length<=_;rw[UT,Yq,Yb];lia
  have e:Txt.split (Str.join Qu<|name::l.map nT) (Str.ofString " ")=name::l.map nT:=UT;rw[e];have u1:=XN (o:=.lst<|TL<|name::l.map nT) hp
  have Vm:(upd H p<|.lst<|TL<|name::l.map nT) p=some (.lst<|TL<|name::l.map nT):=XS;generalize upd H p (.lst<|TL<|name::l.map nT)=H1 at *;refine nm ?_;refine⟨_,Z,p,_,0,.str name,Z,Z,SqL.of Vm,Zx (n:=0) S Z,_,Z,Z,_,Z,?_⟩;refine Lh Z ?_;refine⟨_,Z,p,_,Z,.inl<|SqL.of Vm,_,Z,_,_,Z,Z,Z,_,Z,?_⟩;rw[FT,Yq,Yb,ZB];refine Lh J ?_;refine WG ?_;refine⟨_,Z,_,Z,p,_,Z,SqL.of Vm,λp2 VY=>?_⟩;rw[xh S];have e2:(TL<|name::l.map nT).drop (1:Int).toNat=TL (l.map nT):=rfl
  rw[e2];have u2:=XN (o:=.lst<|TL<|l.map nT) VY
  have Qt:(upd H1 p2<|.lst<|TL<|l.map nT) p2=some (.lst<|TL<|l.map nT):=XS;generalize upd H1 p2 (.lst<|TL<|l.map nT)=H2 at *;refine⟨p2,Z,⟨_,SqL.of Qt⟩,Rn (K:=K) (a:=p2) (xs:=TL<|l.map nT) (λi ys H3=>Same H2 H3/\ys=IL (l.take i)) ⟨Same.refl _,Z⟩ (Zl<|by rw[FT,Yb];lia) (λi ys H3 _ zz=>by obtain⟨e,ey⟩:=zz;exact⟨SqL.of<|e _ _ Qt,by rw[ey,Xx,Yl];lia⟩) ?_ ?_⟩
  .rintro i v ys H3 hi ⟨s3,rfl⟩ uo Xm;obtain⟨x,rfl,hx⟩:=Ky hi;rw[Yo]at hx;obtain⟨z,hz,rfl⟩:=eV.mp hx;have hb:=hl z (Xf hz)
   refine NU ?_;refine⟨_,Z,z,Z,hb.1,hb.2,λH4 s4=>Xm _ _ ⟨s3.trans s4,?_⟩⟩;rw[YL,hz];show IL (l.take i)++[V.int z]=IL (l.take i++[z])
   rw[ZN]
  rintro ys H3 ⟨s3,rfl⟩ p3 SR;rw[FT,Yb,YF];exact q p3 _ (u1.trans<|u2.trans<|s3.trans<|XN SR) XS
noncomputable def gB(K:Ad)(C:Addr):Sp:=λvs H Q _=>∃n ps ls,vs=[.str (Sv n ps ls)]/\Zw n ps/\ls.length=ps.length/\Told ls/\∀t w a H',Same H H'->H a=none->H' t=some (.tup [.ref w,.ref a])->WebAt C H' w n ps->H' a=some (.lst<|IL ls)->Q (.ref t) H'
theorem He:FnScope ["text","lines","places","ties"] ["text"] (Xv (top 74)):=Wt D
theorem gz(T:Txt K mg t):Xg P w base Xl T.q_read_web 4 (gB K t.A_Web):=by
 refine T.q_read_web.ok ["text","lines","places","ties"] D (λvs H Q E h=>?_) (λXG A outer s H vs Q E hr h=>?_)
 .obtain⟨n,ps,ls,rfl,_⟩:=h;rfl
 .obtain⟨n,ps,ls,rfl,hG,hl,hT,q⟩:=h;refine⟨_,(XR (Zj (i:=1) He.nd Z (Or.inl Z)<|TY K Qg Qh eW Ce (pv 0)<|XZ Qa XY)
   (XR (Zj (i:=2) He.nd Z (Or.inl Z)<|XC (zY T) hr T.q_read_line Zs<|XZ (Zy (Zb K) (pv 1) Za λ_ _=>rfl)<|XZ Qa<|XZ Za XY)
   (XR (QA (i:=3) Z He.nd Z Z (sc0:=Xv<|top 74) (N0:=["text","lines","places","ties"]) (N':=["line"]) (o:=1) (fr:=[]) ⟨Z,D,D,D,Z,D⟩ (ZR K<|ZZ (Vd K) (pv 1) (Ru Za) PL) (Zv S) (λ_ _ _ _=>(Zg (i:=0) (show List.Nodup (["line"]:List Str) by decide +kernel) Z<|Or.inl Z)) (λ_ _ _ _=>ZX) λ_ _ _ _=>(XC (zY T) hr T.q_read_line Zs<|XZ (pv 0)<|XZ Qa<|XZ Za XY))
   (XM<|Zi<|UE<|XZ (PM T.k_Web (AY T) (hr.mono S) Z T.c_Web T.bZ8 .nil Zs<|XZ (Zy (Zb K) (pv 2) Za λ_ _=>rfl)<|XZ (TZ Z (sc0:=Xv<|top 74) (N0:=["text","lines","places","ties"]) (N':=["tie"]) (o:=1) (fr:=[]) ⟨Z,D,D,D,Z,D⟩ (ZR K<|pv 3) (Zv S) (λ_ _ _ _=>(Zg (i:=0) (show List.Nodup (["tie"]:List Str) by decide +kernel) Z<|Or.inl Z)) (λ_ _ _ _=>ZX) λ_ _ _ _=>(UE<|XZ (Zy (Zb K) (pv 0) Za λ_ _=>rfl)<|XZ (Zy (Zb K) (pv 0) Za λ_ _=>rfl) XY)) XY)<|XZ (TZ Z (sc0:=Xv<|top 74) (N0:=["text","lines","places","ties"]) (N':=["tie"]) (o:=1) (fr:=[]) ⟨Z,D,D,D,Z,D⟩ (ZR K<|pv 3) (Zv S) (λ_ _ _ _=>(Zg (i:=0) (show List.Nodup (["tie"]:List Str) by decide +kernel) Z<|Or.inl Z)) (λ_ _ _ _=>ZX) λ_ _ _ _=>(Zy (Zb K) (pv 0) Za λ_ _=>rfl)) XY)))),?_⟩
  have gy:=hG.2.2.1;have AM:=hG.1
  have Od:=hG.2.1;have two:2<=sizeLine:=S
  have z1:100000<=sizeLine:=S;have wl:=l9 (n:=n) hl
  have UT:=BV (n:=n) (ps:=ps) (ls:=ls);have tlen:(Sv n ps ls).length<=100000:=by unfold Sv;rw[HY];refine Ys (mf (uj:=400)<|aM hG hT) (by rw[wl];lia)
  refine⟨_,Z,Z,_,_,Z,Z,Z,J,?_,λp hp=>?_⟩
  .show(Txt.split _ BY).length<=_;rw[UT,wl];lia
  have e:Txt.split (Sv n ps ls) (Str.ofString "\n")=Ww n ps ls:=UT;rw[e];have u1:=XN (o:=.lst<|TL<|Ww n ps ls) hp
  have Vm:(upd H p<|.lst<|TL<|Ww n ps ls) p=some (.lst<|TL<|Ww n ps ls):=XS;generalize upd H p (.lst<|TL<|Ww n ps ls)=H1 at *;refine nm ?_;refine⟨_,Z,p,_,0,.str<|Str.ofString "places "++nT n,Z,Z,SqL.of Vm,Zx (n:=0) S Z,Str.ofString "places",[n],by rw[aQ];rfl,S,S,(show 1<=10 by decide),λz hz=>by rw[XF.mp hz];omega,λpA H2 s2 kl=>?_⟩;refine nm ?_;have VY:=s2 _ _ Vm
  refine⟨_,Z,_,Z,p,_,Z,SqL.of VY,λp2 Qt=>?_⟩;rw[xh S];have e2:(TL<|Ww n ps ls).drop (1:Int).toNat=TL (List.zipWith QV ps ls):=rfl
  rw[e2];have u3:=XN (o:=.lst<|TL<|List.zipWith QV ps ls) Qt
  have h3:(upd H2 p2<|.lst<|TL<|List.zipWith QV ps ls) p2=some (.lst<|TL<|List.zipWith QV ps ls):=XS;have gx:=u3 _ _ kl
  generalize upd H2 p2 (.lst<|TL<|List.zipWith QV ps ls)=H3 at *;have zl:(List.zipWith QV ps ls).length=ps.length:=by rw[NA];grind
  obtain⟨R,hR⟩:∃R,R=List.zipWith (λ(p:Int×Int) l=>[p.1,p.2,l]) ps ls:=⟨_,Z⟩;have Rl:R.length=ps.length:=by rw[hR,NA];grind
  have Rat:∀(i:Nat)(p:Int×Int)(l:Int),ps[i]?=some p->ls[i]?=some l->R[i]?=some [p.1,p.2,l]:=λi p l h1 h2=>by rw[hR,LG,h1,h2]
  refine⟨p2,Z,⟨_,SqL.of h3⟩,Rn (K:=K) (a:=p2) (xs:=TL<|List.zipWith QV ps ls) (λi ys H4=>Same H3 H4/\i<=ps.length/\Bears (Rm H4) ys (R.take i)) ⟨Same.refl _,Ym _,⟨Z,λi a e=>by simp at e⟩⟩ (Zl<|by rw[FT,zl];lia) (λi ys H4 _ zz=>by obtain⟨e,hi,h⟩:=zz;exact⟨SqL.of<|e _ _ h3,by rw[h.1,Yl];lia⟩) ?_ ?_⟩
  .rintro i v ys H4 hi ⟨s4,VC,hB⟩ uo Xm;obtain⟨x,rfl,hx⟩:=Ky hi;have Wb:i<ps.length:=by rw[<-zl];exact(Xs.mp hx).1
   obtain⟨pp,Qn⟩:∃pp,ps[i]?=some pp:=⟨_,Xw Wb⟩;obtain⟨l,US⟩:∃l,ls[i]?=some l:=⟨_,Xw J⟩;rw[LG,Qn,US]at hx;obtain rfl:QV pp l=x:=Yh hx;refine NU ?_;refine⟨_,Z,Str.ofString "tie",[pp.1,pp.2,l],Z,S,S,(show 3<=10 by decide),l8 hG hT Qn US,λr H5 s5 hr=>Xm _ _ ⟨s4.trans s5,Wb,?_⟩⟩;rw[YL,Rat i pp l Qn US];exact(hB.imp λ_ _ zz=>by obtain⟨r,e,h⟩:=zz;exact⟨r,e,s5 _ _ h⟩).snoc ⟨r,Z,hr⟩
  rintro ys H4 ⟨s4,_,hB⟩ p3 SR;rw[FT,zl,YN J]at hB;have u5:=XN (o:=.lst ys) SR
  have h5:(upd H4 p3<|.lst ys) p3=some (.lst ys):=XS;have gu:Bears (Rm<|upd H4 p3<|.lst ys) ys R:=hB.imp λ_ _ zz=>by obtain⟨r,e,h⟩:=zz;exact⟨r,e,u5 _ _ h⟩
  have gr:=(s4.trans u5) _ _ gx;have vS:=u1.trans (s2.trans<|u3.trans<|s4.trans u5)
  generalize upd H4 p3 (.lst ys)=H5 at *;have HM:=gu.1
  refine nm ?_;have zX:∀i row,R[i]?=some row->∃(p:Int×Int)(l:Int),ps[i]?=some p/\ls[i]?=some l/\row=[p.1,p.2,l]:=λi row h=>by
   have Wb:i<ps.length:=by rw[<-Rl];exact(Xs.mp h).1
   obtain⟨pp,Qn⟩:∃pp,ps[i]?=some pp:=⟨_,Xw Wb⟩;obtain⟨l,US⟩:∃l,ls[i]?=some l:=⟨_,Xw J⟩;rw[Rat i pp l Qn US]at h;exact⟨pp,l,Qn,US,(Yh h).symm⟩
  refine⟨_,Z,pA,_,0,.int n,Z,Z,SqL.of gr,Zx (n:=0) S Z,_,Z,p3,Z,⟨_,SqL.of h5⟩,Rn (K:=K) (a:=p3) (xs:=ys) (λi us H6=>Same H5 H6/\i<=ys.length/\PairsV H6 us (ps.take i)) ⟨Same.refl _,Ym _,PairsV.nil⟩ (Zl J) (λi us H6 _ zz=>by obtain⟨e,hi,h⟩:=zz;exact⟨SqL.of<|e _ _ h5,by rw[h.1,Yl];lia⟩) ?_ ?_⟩
  .rintro i v us H6 hi ⟨s6,VC,hU⟩ uo Xm;obtain⟨row,Hd,r,rfl,hr⟩:=gu.at hi;obtain⟨pp,l,Qn,US,rfl⟩:=zX i row Hd;have Xo:=(Xs.mp hi).1
   refine NU ?_;refine⟨_,Z,r,_,0,.int pp.1,Z,Z,SqL.of<|s6 _ _ hr,Zx (n:=0) S Z,_,Z,r,_,1,.int pp.2,Z,Z,SqL.of<|s6 _ _ hr,Zx (n:=1) S Z,two,λc hc=>Xm _ _ ⟨s6.trans<|XN hc,Xo,?_⟩⟩;rw[YL,Qn];exact(hU.same<|XN hc).snoc ⟨c,Z,XS⟩
  rintro us H6 ⟨s6,_,hU⟩ lA FI;rw[HM,Rl,YF]at hU;have u7:=XN (o:=.lst us) FI
  have h7:(upd H6 lA<|.lst us) lA=some (.lst us):=XS;have vR:=hU.same u7
  have Qo:=s6.trans u7;generalize upd H6 lA (.lst us)=H7 at *;intro x dx nx NF SA;have t1:Same H7 (upd (upd H7 dx<|.own x) x<|.ins t.A_Web dx []):=Zu (XN NF) (by rwa[Zc (XI SA)])
  refine⟨x,dx,n,lA,false,us,ps,Z,XS,λo=>?_,vR.same t1,hG,λH8 hW k3=>⟨Z,?_⟩⟩
  .exact(Zz nx t1).seq (SqL.of h7)
  have s8:Same H7 H8:=λb o e=>k3 b o (t1 b o e) (Zd e nx);have h8:=(Qo.trans s8) _ _ h5
  have hB8:Bears (Rm H8) ys R:=gu.imp λ_ _ zz=>by obtain⟨r,e,h⟩:=zz;exact⟨r,e,(Qo.trans s8) _ _ h⟩
  refine⟨_,Z,p3,Z,⟨_,SqL.of h8⟩,Rn (K:=K) (a:=p3) (xs:=ys) (λi us H9=>H9=H8/\us=IL (ls.take i)) ⟨Z,Z⟩ (Zl J) (λi us H9 _ zz=>by obtain⟨e,h⟩:=zz;exact⟨e▸SqL.of h8,by rw[h,Xx,Yl];lia⟩) ?_ ?_⟩
  .rintro i v us H9 hi ⟨rfl,rfl⟩ uo Xm;obtain⟨row,Hd,r,rfl,hr⟩:=hB8.at hi;obtain⟨pp,l,Qn,US,rfl⟩:=zX i row Hd;refine NU ?_;refine⟨_,Z,r,_,2,.int l,Z,Z,SqL.of hr,Zx (n:=2) S Z,Xm _ _ ⟨Z,?_⟩⟩;rw[YL,US];show IL (ls.take i)++[V.int l]=IL (ls.take i++[l])
   rw[ZN]
  rintro us9 H9 ⟨rfl,rfl⟩ aA haA;rw[HM,Rl,<-hl,YF];have u9:=XN (o:=.lst<|IL ls) haA
  have sH9:=vS.trans (Qo.trans s8);refine⟨two,λtA OK=>?_⟩;have gq:=XN (o:=.tup [.ref x,.ref aA]) OK
  exact q tA x aA _ (sH9.trans<|u9.trans gq) (sH9.free haA) XS (hW.same<|u9.trans gq) (gq _ _ XS)
noncomputable def gp(K:Ad):Sp:=λvs H Q _=>∃a ns k,vs=[.ref a,.int k]/\SqL K H a (IL ns)/\0<=k/\∀r:Int,0<=r->r<10^60->Q (.int r) H
theorem gn(T:Txt K mg t):Xg P w base Xl T.q_law_cell 1 (gp K):=by
 refine T.q_law_cell.ok ["script","k"] D (λvs H Q E h=>?_) (λXG A outer s H vs Q E hr h=>?_)
 .obtain⟨a,ns,k,rfl,_⟩:=h;rfl
 .obtain⟨a,ns,k,rfl,hS,hk,q⟩:=h;refine⟨_,(XR (WK (Ze SH (pv 1) (Zf (Zk K) uw T.n_len Boot.«len»<|XZ (pv 0) XY)<|Zq _)
   (XM<|Zi<|Zr ZP (Zy (Zb K) (pv 0) (pv 1) λ_ _=>rfl)<|Zr TJ Za Za)
   Zo)
   (XM<|Zi Za)),?_⟩
  refine⟨_,Z,_,Z,a,_,Z,.inl hS,_,_,Z,Z,_,Z,?_⟩;refine DP (λhc=>?_) (λ_=>?_)
  .have hc:=Yu hc;rw[Xx]at hc;obtain⟨z,hz⟩:∃z,ns[k.toNat]?=some z:=⟨_,Xw J⟩;refine⟨_,Z,_,Z,a,_,k,.int z,Z,Z,hS,Zx (n:=k.toNat) J (by rw[Yo,hz];rfl),_,_,Z,Z,⟨S,S,S⟩,_,_,Z,Z,?_,?_⟩
   .show(0:Int)<10^60;decide
   .exact q _ (Ws _ S) (VT _ S)
  .exact q 0 S S
noncomputable def gm:Sp:=λvs H Q _=>∃c k,vs=[.int c,.int k]/\∀r:Int,0<=r->r<2147483587->Q (.int r) H
theorem zW:FnScope ["cell","k","first","second"] ["cell","k"] (Xv (top 77)):=Wt D
theorem zV(T:Txt K mg t):Xg P w base Xl T.q_law_mixed 1 gm:=by
 refine T.q_law_mixed.ok ["cell","k","first","second"] D (λvs H Q E h=>?_) (λXG A outer s H vs Q E hr h=>?_)
 .obtain⟨c,k,rfl,_⟩:=h;rfl
 .obtain⟨c,k,rfl,q⟩:=h;refine⟨_,(XR (Zj (i:=2) zW.nd Z (Or.inl Z)<|Zr ZP (Zr PU (Zr UG (Zr UG (pv 0)<|Zr PU Za<|pv 1) Za) Za) Za)
   (XR (Zj (i:=3) zW.nd Z (Or.inl Z)<|Zr ZP (Zr UG (Zr UG (Zr PU (pv 2)<|pv 2)<|Zr PU Za<|pv 1) Za) Za)
   (XM<|Zi<|Zr PR (Zr ZP (Zr PU (pv 3)<|pv 3) Za) Za))),?_⟩
  refine⟨_,Z,_,Z,_,_,Z,Z,.inl ⟨S,S⟩,_,_,Z,Z,_,_,Z,Z,_,_,Z,Z,.inr ⟨S,S⟩,_,_,Z,Z,(by show(0:Int)<2147483647;decide),?_⟩;have f0:0<=((c+7919*k+1)*48271)%2147483647:=Ws _ S
  have f1:((c+7919*k+1)*48271)%2147483647<2147483647:=VT _ S;refine⟨_,Z,_,Z,_,_,Z,Z,.inl ⟨uu,uu⟩,_,Z,_,_,Z,Z,.inl ⟨S,S⟩,_,_,Z,Z,_,_,Z,Z,_,_,Z,Z,(by show(0:Int)<2147483629;decide),?_⟩;generalize ((c+7919*k+1)*48271)%2147483647=u at *;have g0:0<=(u*u+40692*k+3)%2147483629:=Ws _ S
  have g1:(u*u+40692*k+3)%2147483629<2147483629:=VT _ S;refine⟨_,Z,_,Z,_,_,Z,Z,.inl ⟨uu,uu⟩,_,_,Z,Z,(by show(0:Int)<2147483587;decide),_,_,Z,Z,⟨S,S⟩,?_⟩;generalize (u*u+40692*k+3)%2147483629=v at *;have h0:0<=(v*v)%2147483587:=Ws _ S
  have h1:(v*v)%2147483587<2147483587:=VT _ S;generalize (v*v)%2147483587=x at *;exact q _ J J
theorem gk{p:Int->Prop}{l:Ac}{x:Int}(h:∀z∈l,p z)(hx:p x):∀z∈l++[x],p z:=λz hz=>by
 rcases Xz.mp hz with q|q
 .exact h z q
 .rw[XF.mp q];exact hx
noncomputable def gj(K:Ad):Sp:=λvs H Q _=>∃(a:Addr)(ns:Ac)(st c:Nat)(way:Int),vs=[.ref a,.int st,.int c,.int way]/\SqL K H a (IL ns)/\ns.length<=63/\st<=63/\c<=100/\
 ∀l ds H',Same H H'->H l=none->H' l=some (.lst<|IL ds)->ds.length=c->(∀z∈ds,0<=z)->Q (.ref l) H'
theorem Sl:FnScope ["script","start","count","way","total","folded","k","at","told"] ["script","start","count","way"] (Xv (top 78)):=Wt D
theorem gf(T:Txt K mg t):Xg P w base Xl T.q_law_draws 2 (gj K):=by
 refine T.q_law_draws.ok ["script","start","count","way","total","folded","k","at","told"] D (λvs H Q E h=>?_) (λXG A outer s H vs Q E hr h=>?_)
 .obtain⟨a,ns,st,c,way,rfl,_⟩:=h;rfl
 .obtain⟨a,ns,st,c,way,rfl,hS,hn,Wx,hc,q⟩:=h;refine⟨_,(XR (Zj (i:=4) Sl.nd Z (Or.inl Z)<|Zr ZP (Zf (qL K Z) uw T.n_sum Boot.«sum»<|XZ (TZ Z (sc0:=Xv<|top 78) (N0:=["script","start","count","way","total","folded","k","at","told"]) (N':=["cell"]) (o:=1) (fr:=[]) ⟨Z,D,D,D,Z,D⟩ (ZR K<|ZZ (Vd K) (pv 0) (Ru<|pv 1) PL) (Zv S) (λ_ _ _ _=>(Zg (i:=0) (show List.Nodup (["cell"]:List Str) by decide +kernel) Z<|Or.inl Z)) (λ_ _ _ _=>ZX) λ_ _ _ _=>(Zr ZP (pv 0)<|Zr TJ Za Za)) XY)<|Zr TJ Za Za)
   (XR (QA (i:=5) Z Sl.nd Z Z (sc0:=Xv<|top 78) (N0:=["script","start","count","way","total","folded","k","at","told"]) (N':=["k"]) (o:=1) (fr:=[]) ⟨Z,D,D,D,Z,D⟩ (ZV Z T.n_range<|XZ (pv 2) XY) (Zv S) (λ_ _ _ _=>(Zg (i:=0) (show List.Nodup (["k"]:List Str) by decide +kernel) Z<|Or.inl Z)) (λ_ _ _ _=>ZX) λ_ _ _ _=>(Zr UG (Zr PU Za<|pv 0) Za))
   (XR (TK Wr Z (Zr8 Z T.n_range<|XZ (pv 1)<|XZ (Zf (Zk K) uw T.n_len Boot.«len»<|XZ (pv 0) XY) XY) (Zg (i:=6) Sl.nd Z<|Or.inl Z)
   (XR (Zj (i:=7) Sl.nd Z (Or.inl Z)<|Zr ZP (pv 6)<|Zf (yg Z) uw T.n_max Boot.«max»<|XZ Za<|XZ (pv 2) XY)
   (XM (WK (Ze UP (pv 2) Za<|Zq _)
   (XM<|yk (Zr ZP (Zr UG (Zr PU (Zy (Zb K) (pv 5) (pv 7) λ_ _=>rfl) Za)<|Zy (Zb K) (pv 0) (pv 6) λ_ _=>rfl)<|Zr TJ Za Za)<|EB (pv 5) (pv 7) Rt)
   Zo))))
   (XR (Zj (i:=8) Sl.nd Z (Or.inl Z)<|Tc XY)
   (XR (TK Wr Z (ZV Z T.n_range<|XZ (pv 2) XY) (Zg (i:=6) Sl.nd Z<|Or.inl Z)
   (XM (WK (PW.pt<|yn (Ze Sa (pv 3) Za<|Zq _)<|Ng<|Ze UP (pv 4) Za<|Zq _)
   (XR (ZS<|TY K YU Kb Kc Jf (pv 8)<|XZ (Zr ZP (pv 4) Za) XY)
   (XM<|Zj (i:=4) Sl.nd Z (Or.inl Z)<|Zr PR (pv 4) Za))
   (XM<|ZS<|TY K YU Kb Kc Jf (pv 8)<|XZ (XC (zV T) hr T.q_law_mixed Zs<|XZ (Zy (Zb K) (pv 5) (pv 6) λ_ _=>rfl)<|XZ (pv 6) XY) XY))))
   (XM<|Zi<|pv 8)))))),?_⟩
  refine⟨_,Z,_,Z,(st:Int),Z,a,IL ns,Z,hS,λl1 To=>?_⟩;have s1:Same H (upd H l1<|.lst<|Xi (IL ns) (some (st:Int)) none):=XN To
  obtain⟨ms,vQ,NR⟩:∃ms:Ac,Xi (IL ns) (some (st:Int)) none=IL ms/\ms.length<=63:=by
   refine⟨(ns.drop<|HT.Vu (IL ns).length 0 (some (st:Int))).take (HT.Vu (IL ns).length (IL ns).length none-HT.Vu (IL ns).length 0 (some (st:Int))),?_,?_⟩
   .unfold Xi;rw[du,qS]
   .rw[Yl,YV];lia
  refine⟨l1,Z,⟨_,SqL.of XS⟩,Rn (K:=K) (a:=l1) (xs:=Xi (IL ns) (some (st:Int)) none) (λi ys H2=>H2=upd H l1 (.lst<|Xi (IL ns) (some (st:Int)) none)/\∃rs:Ac,ys=IL rs/\rs.length=i/\i<=ms.length) ⟨Z,[],Z,Z,Ym _⟩ (by rw[vQ,Xx];exact Zl J)
   (λi ys H2 _ zz=>by obtain⟨e,rs,ey,el,_⟩:=zz;exact⟨e▸SqL.of XS,by rw[ey,Xx];lia⟩) ?_ ?_⟩
  .rintro i x ys H2 hi ⟨rfl,rs,rfl,el,VC⟩ uo Xm;rw[vQ]at hi;obtain⟨z,rfl,hz⟩:=Uz hi;have Xh:=(Xs.mp hz).1
   refine NU ?_;refine⟨_,Z,_,_,Z,Z,⟨S,S,S⟩,_,_,Z,Z,(by show(0:Int)<10^60;decide),?_⟩;refine Xm _ _ ⟨Z,rs++[z%10^60],?_,?_,Xh⟩
   .exact(ZN _ _).symm
   .rw[Xt,el];rfl
  .rintro ys H2 ⟨rfl,rs,rfl,el,_⟩ l2 RZ;have s2:=Zu (o:=.lst<|IL rs) s1 RZ
   refine⟨l2,rs,Z,SqL.of XS,_,_,Z,Z,⟨S,S,S⟩,_,_,Z,Z,(by show(0:Int)<10^60;decide),?_⟩;have t0:0<=rs.sum%(10:Int)^((60:Int).toNat):=Ws _ S
   refine⟨_,Z,(c:Int),Z,J,J,xR (lo:=0) (n:=((c:Int)).toNat) (λi ys H3=>H3=upd (upd H l1<|.lst<|Xi (IL ns) (some (st:Int)) none) l2 (.lst<|IL rs)/\∃fs:Ac,ys=IL fs/\fs.length=i) ⟨Z,[],Z,Z⟩ (Zl J)
    (λi ys H3 _ zz=>by obtain⟨_,fs,e,el⟩:=zz;rw[e,Xx];lia) ?_ ?_⟩
   .rintro i ys H3 hi ⟨rfl,fs,rfl,La⟩ uo Xm;refine NU ?_;refine⟨_,Z,_,_,Z,Z,.inl ⟨S,S⟩,_,_,Z,Z,?_⟩;refine Xm _ _ ⟨Z,fs++[7*(0+(i:Int))+5],?_,?_⟩
    .exact(ZN _ _).symm
    .rw[Xt,La];rfl
   .rintro ys H3 ⟨rfl,fs,rfl,La⟩ l3 Qq;have s3:=Zu (o:=.lst<|IL fs) s2 Qq
    have gd:H l3=none:=s2.free Qq;refine⟨_,Z,_,Z,a,_,Z,.inl<|s3.seq hS,(st:Int),((IL ns).length:Int),Z,⟨J,J,J,by rw[Xx];lia⟩,?_⟩;refine Jt (lo:=(st:Int)) (n:=(((IL ns).length:Int)-(st:Int)).toNat) (λj σ H4=>∃fs v6 v7,σ=[some (.ref a),some<|.int st,some<|.int c,some<|.int way,some<|.int<|rs.sum%(10:Int)^((60:Int).toNat),some<|.ref l3,v6,v7,none]/\Same H H4/\H4 l3=some (.lst<|IL fs)/\fs.length=c)
     ⟨fs,none,none,Z,s3,XS,by rw[La];simp⟩ ?_ ?_
    .rintro j σ H4 hj ⟨gs,v6,v7,rfl,s4,h4,eg⟩;rw[Xx]at hj;refine⟨_,Z,_,Z,_,_,Z,_,_,Z,Z,?_,?_⟩
     .show(0:Int)<if (c:Int)>1 then (c:Int) else 1
      split<;>lia
     .refine⟨_,Z,_,_,Z,Z,_,Z,?_⟩;refine Xd (λRN=>?_) (λRN=>?_)
      .have HN:(if (c:Int)>1 then (c:Int) else 1)=(c:Int):=by split<;>lia
       have gc:0<=((st:Int)+(j:Int))%(c:Int):=Ws _ J;have xo:((st:Int)+(j:Int))%(c:Int)<(c:Int):=VT _ RN
       rw[HN];generalize vP:((st:Int)+(j:Int))%(c:Int)=at' at *;obtain⟨f,hf⟩:∃f,gs[at'.toNat]?=some f:=⟨_,Xw uu⟩;obtain⟨z,hz⟩:∃z,ns[st+j]?=some z:=⟨_,Xw J⟩;refine⟨_,Z,_,Z,l3,_,_,_,Z,Z,SqL.of h4,Zx (n:=at'.toNat) J (by rw[Yo,hf];rfl),_,_,Z,Z,.inr ⟨S,S⟩,_,Z,_,Z,a,_,_,_,Z,Z,s4.seq hS,Zx (n:=st+j) J (by rw[Yo,hz];rfl),_,_,Z,Z,_,_,Z,Z,⟨S,S,S⟩,_,_,Z,Z,(by show(0:Int)<10^60;decide),?_⟩;refine⟨_,Z,_,Z,l3,_,_,at'.toNat,Z,Z,h4,?_,?_⟩
       .rw[vP];unfold Oc;rw[if_pos gc,if_pos (by rw[Xx];grind)]
       .refine⟨gs.set at'.toNat<|(f*31+z)%(10:Int)^((60:Int).toNat),_,_,Z,Zz gd s4,?_,by rwa[Lx]⟩;rw[XS,DG]
      .exact⟨gs,_,_,Z,s4,h4,eg⟩
    .rintro σ H4 ⟨gs,v6,v7,rfl,s4,h4,eg⟩;refine⟨Ym _,λl5 Hc=>?_⟩;have Sk:H l5=none:=s4.free Hc
     have FG:l3≠l5:=Zd h4 Hc;refine⟨_,Z,(c:Int),Z,J,J,Jt (lo:=0) (n:=((c:Int)).toNat) (λj σ H6=>∃zU ds v6 v7,σ=[some (.ref a),some<|.int st,some<|.int c,some<|.int way,some<|.int zU,some<|.ref l3,v6,v7,some (.ref l5)]/\Same H H6/\H6 l3=some (.lst<|IL gs)/\H6 l5=some (.lst<|IL ds)/\ds.length=j/\(∀z∈ds,0<=z)/\0<=zU)
      ⟨_,[],_,_,Z,Zu s4 Hc,by rw[Zc FG];exact h4,XS,Z,λz hz=>(by cases hz),t0⟩ ?_ ?_⟩
     .rintro j σ H6 hj ⟨zU,ds,w6,w7,rfl,s6,FF,Kh,zS,NV,Hb⟩;have jc:j<c:=J
      have app:∀r:Int,(upd H6 l5<|.lst<|IL ds++[.int r]) l5=some (.lst<|IL<|ds++[r]):=λr=>by rw[XS,ZN]
      have Ha:(IL ds).length<sizeLine:=by rw[Xx];exact Zl J
      obtain⟨f,hf⟩:∃f,gs[j]?=some f:=⟨_,Xw J⟩;refine⟨_,Z,Z,_,Z,?_⟩;refine Xd (λhw=>?_) (λhw=>?_)
      .refine⟨_,Z,_,_,Z,Z,_,Z,?_⟩;refine Xd (λjW=>?_) (λjW=>?_)
       .refine⟨_,Z,.inl ⟨Z,_,SqL.of Kh⟩,_,Z,_,_,Z,Z,(by show(0:Int)<210;decide),l5,_,_,Z,Z,Kh,Ha,?_⟩;refine⟨_,Z,_,_,Z,Z,⟨S,S⟩,?_⟩;refine⟨_,ds++[zU%210],_,_,Z,Zz Sk s6,by rw[Zc FG];exact FF,app _,by rw[Xt,zS];rfl,gk NV<|Ws _ S,?_⟩;lia
       .refine⟨_,Z,.inl ⟨Z,_,SqL.of Kh⟩,_,Z,_,Z,l3,_,_,_,Z,Z,SqL.of FF,Zx (n:=j) J (by rw[Yo,hf];rfl),_,Z,_,_,Z,λr r0 r1=>?_⟩;refine⟨l5,_,_,Z,Z,Kh,Ha,?_⟩;exact⟨_,ds++[r],_,_,Z,Zz Sk s6,by rw[Zc FG];exact FF,app _,by rw[Xt,zS];rfl,gk NV r0,Hb⟩
      .refine⟨_,Z,.inl ⟨Z,_,SqL.of Kh⟩,_,Z,_,Z,l3,_,_,_,Z,Z,SqL.of FF,Zx (n:=j) J (by rw[Yo,hf];rfl),_,Z,_,_,Z,λr r0 r1=>?_⟩;refine⟨l5,_,_,Z,Z,Kh,Ha,?_⟩;exact⟨_,ds++[r],_,_,Z,Zz Sk s6,by rw[Zc FG];exact FF,app _,by rw[Xt,zS];rfl,gk NV r0,Hb⟩
     .rintro σ H6 ⟨zU,ds,w6,w7,rfl,s6,FF,Kh,zS,NV,Hb⟩;exact⟨_,Z,q l5 ds H6 s6 Sk Kh J NV⟩
theorem PairsV.good{H:Hp}{xs:List V}{ps:Aa}{v:V}{p:Int×Int}{n:Int}(h:∀p∈ps,0<=p.1/\p.1<n/\0<=p.2/\p.2<n)(hp:0<=p.1/\p.1<n/\0<=p.2/\p.2<n):∀q∈ps++[p],0<=q.1/\q.1<n/\0<=q.2/\q.2<n:=λq hq=>by
 rcases Xz.mp hq with z|z
 .exact h q z
 .rw[XF.mp z];exact hp
noncomputable def gb(K:Ad):Sp:=λvs H Q _=>∃a ds n hang,vs=[.ref a,.int n,.bl hang]/\SqL K H a (IL ds)/\ds.length<=100/\(∀z∈ds,0<=z)/\1<=n/\n<=1000/\
 ∀l xs ps H',Same H H'->H l=none->H' l=some (.lst xs)->PairsV H' xs ps->ps.length=ds.length->(∀p∈ps,0<=p.1/\p.1<n/\0<=p.2/\p.2<n)->Q (.ref l) H'
theorem Tg:FnScope ["draws","places","hang","ties","k","one","other","ends","turn"] ["draws","places","hang"] (Xv (top 79)):=Wt D
theorem f9(T:Txt K mg t):Xg P w base Xl T.q_law_ties 1 (gb K):=by
 refine T.q_law_ties.ok ["draws","places","hang","ties","k","one","other","ends","turn"] D (λvs H Q E h=>?_) (λXG A outer s H vs Q E hr h=>?_)
 .obtain⟨a,ds,n,hang,rfl,_⟩:=h;rfl
 .obtain⟨a,ds,n,hang,rfl,hS,nG,NV,n1,n2,q⟩:=h;refine⟨_,(XR (Zj (i:=3) Tg.nd Z (Or.inl Z)<|Tc XY)
   (XR (TK Wr Z (ZV Z T.n_range<|XZ (Zf (Zk K) uw T.n_len Boot.«len»<|XZ (pv 0) XY) XY) (Zg (i:=4) Tg.nd Z<|Or.inl Z)
   (XR (Zj (i:=5) Tg.nd Z (Or.inl Z)<|Zr ZP (Zy (Zb K) (pv 0) (pv 4) λ_ _=>rfl)<|pv 1)
   (XR (Zj (i:=6) Tg.nd Z (Or.inl Z)<|Zr ZP (Zr PR (Zy (Zb K) (pv 0) (pv 4) λ_ _=>rfl)<|pv 1)<|pv 1)
   (XR (WK (PW.pt<|yn (Rw<|pv 2)<|Ng<|Ze SH (pv 4) (Zr WO (pv 1) Za)<|Zq _)
   (XR (Zj (i:=7) Tg.nd Z (Or.inl Z)<|UE<|XZ (Zr ZP (Zy (Zb K) (pv 0) (pv 4) λ_ _=>rfl)<|Zr UG (pv 4) Za)<|XZ (Zr UG (pv 4) Za) XY)
   (XR (Zj (i:=5) Tg.nd Z (Or.inl Z)<|Zy (ZF K) (pv 7) (Zr ZP (Zr PR (Zy (Zb K) (pv 0) (pv 4) λ_ _=>rfl) Za) Za) λ_ _=>rfl)
   (XM<|Zj (i:=6) Tg.nd Z (Or.inl Z)<|Zy (ZF K) (pv 7) (Zr WO Za<|Zr ZP (Zr PR (Zy (Zb K) (pv 0) (pv 4) λ_ _=>rfl) Za) Za) λ_ _=>rfl)))
   Zo)
   (XM<|ZS<|TY K YU Kb Kc Jf (pv 3)<|XZ (UE<|XZ (pv 5)<|XZ (pv 6) XY) XY)))))
   (XR (Zj (i:=8) Tg.nd Z (Or.inl Z)<|Zr ZP (Zf (qL K Z) uw T.n_sum Boot.«sum»<|XZ (pv 0) XY)<|Zf (yg Z) uw T.n_max Boot.«max»<|XZ Za<|XZ (Zf (Zk K) uw T.n_len Boot.«len»<|XZ (pv 3) XY) XY)
   (XM<|Zi<|Zr DU (ZZ (Vd K) (pv 3) (Ru<|pv 8) PL)<|ZZ (Vd K) (pv 3) PL<|Ru<|pv 8)))),?_⟩
  refine⟨Ym _,λl hl=>?_⟩;refine⟨_,Z,a,_,Z,.inl<|(XN hl).seq hS,_,Z,J,by rw[Xx];omega,Jt (lo:=0) (n:=((IL ds).length:Int).toNat) (λi σ H2=>∃xs ps v4 v5 v6 v7,σ=[some (.ref a),some<|.int n,some<|.bl hang,some<|.ref l,v4,v5,v6,v7,none]/\Same H H2/\H2 l=some (.lst xs)/\PairsV H2 xs ps/\ps.length=i/\∀p∈ps,0<=p.1/\p.1<n/\0<=p.2/\p.2<n)
   ⟨[],[],none,none,none,none,Z,XN hl,XS,PairsV.nil,Z,λp hp=>(by cases hp)⟩ ?_ ?_⟩
  .rintro i σ H2 hi ⟨xs,ps,v4,v5,v6,v7,rfl,s2,h2,hP,FL,hb⟩;have Po:i<ds.length:=by rw[Xx]at hi;lia
   obtain⟨d,hd⟩:∃d,ds[i]?=some d:=⟨_,Xw Po⟩;have d0:0<=d:=NV d (Xf hd)
   have iD:Wo (IL ds) (0+(i:Int))=some (.int d):=Zx (n:=i) J (UA hd);have xl:xs.length<sizeLine:=Zl (by rw[hP.1];lia)
   have put:∀x y H3 r,Same H2 H3->H3 r=none->0<=x->x<n->0<=y->y<n->∀u5 u6 u7:Option V,∃xs' f7 v4 v5 v6 v7,
     ([some (.ref a),some<|.int n,some<|.bl hang,some<|.ref l,some<|.int<|0+(i:Int),u5,u6,u7,none]:List (Option V))=[some (.ref a),some<|.int n,some<|.bl hang,some<|.ref l,v4,v5,v6,v7,none]/\
     Same H (upd (upd H3 r<|.tup [.int x,.int y]) l<|.lst<|xs++[.ref r])/\(upd (upd H3 r<|.tup [.int x,.int y]) l<|.lst<|xs++[.ref r]) l=some (.lst xs')/\PairsV (upd (upd H3 r<|.tup [.int x,.int y]) l<|.lst<|xs++[.ref r]) xs' f7/\f7.length=i+1/\∀p∈f7,0<=p.1/\p.1<n/\0<=p.2/\p.2<n:=by
    intro x y H3 r s3 hr x0 x1 y0 y1 u5 u6 u7;have h3:=s3 _ _ h2
    have s4:=Zu (o:=.tup [.int x,.int y]) s3 hr;have nlr:l≠r:=Zd h3 hr
    refine⟨xs++[.ref r],ps++[(x,y)],_,_,_,_,Z,Zz hl<|s2.trans s4,XS,?_,by rw[Xt,FL];rfl,PairsV.good (H:=H) (xs:=[]) (v:=.non) hb ⟨x0,x1,y0,y1⟩⟩;have hP4:PairsV (upd H3 r<|.tup [.int x,.int y]) (xs++[.ref r]) (ps++[(x,y)]):=(hP.same s4).snoc ⟨r,Z,XS⟩
    refine⟨hP4.1,λj p e=>?_⟩;obtain⟨v,e1,tt,e2,e3⟩:=hP4.2 j p e;exact⟨v,e1,tt,e2,by rwa[Zc (Nh e3 (s4 _ _ h2) (λz=>nomatch z))]⟩
   refine⟨_,Z,_,Z,a,_,_,_,Z,Z,s2.seq hS,iD,_,Z,_,_,Z,Z,(by show 0<n;lia),?_⟩;refine⟨_,Z,_,Z,a,_,_,_,Z,Z,s2.seq hS,iD,_,Z,_,_,Z,Z,⟨by show 0<n;lia,by show n<1073741824;lia⟩,_,Z,_,_,Z,Z,(by show 0<n;omega),?_⟩;have o0:0<=d%n:=Ws _ J
   have o1:d%n<n:=VT _ ur;have q0:0<=d/n%n:=Ws _ J
   have q1:d/n%n<n:=VT _ ur;refine⟨_,Z,_,Z,?_⟩;refine dt (λhh=>?_) (λhh=>?_)
   .refine⟨_,Z,_,Z,_,_,Z,Z,_,_,Z,Z,_,Z,?_⟩;refine Xd (λhk=>?_) (λhk=>?_)
    .have k1:(0:Int)<0+(i:Int)+1:=J;have r0:0<=d%(0+(i:Int)+1):=Ws _ J
     have r1:d%(0+(i:Int)+1)<0+(i:Int)+1:=VT _ k1;refine⟨_,Z,_,Z,a,_,_,_,Z,Z,s2.seq hS,iD,_,Z,_,_,Z,Z,_,_,Z,Z,k1,_,Z,_,_,Z,Z,(by show 2<=sizeLine;decide),λe he=>?_⟩;have se:=XN (o:=.tup [.int (d%(0+(i:Int)+1)),.int (0+(i:Int)+1)]) he
     have m0:0<=d/105%2:=Ws _ S;have m1:d/105%2<2:=VT _ S
     obtain⟨x,hx,x0,x1⟩:∃x:Int,Wo ([.int (d%(0+(i:Int)+1)),.int (0+(i:Int)+1)]:List V) (d/105%2)=some (.int x)/\0<=x/\x<n:=by
      rcases(by lia:d/105%2=0\/d/105%2=1) with e|e
      .rw[e];exact⟨_,Z,r0,J⟩
      .rw[e];exact⟨_,Z,J,J⟩
     obtain⟨y,hy,y0,y1⟩:∃y:Int,Wo ([.int (d%(0+(i:Int)+1)),.int (0+(i:Int)+1)]:List V) (1-d/105%2)=some (.int y)/\0<=y/\y<n:=by
      rcases(by lia:d/105%2=0\/d/105%2=1) with e|e
      .rw[e];exact⟨_,Z,J,J⟩
      .rw[e];exact⟨_,Z,r0,J⟩
     have c2:Et d 105:=⟨S,S⟩;refine⟨_,Z,_,Z,_,Z,a,_,_,_,Z,Z,(s2.trans se).seq hS,iD,_,_,Z,Z,c2,_,_,Z,Z,(by show(0:Int)<2;decide),e,_,_,_,Z,Z,SqT.of XS,hx,?_⟩;refine⟨_,Z,_,Z,_,Z,a,_,_,_,Z,Z,(s2.trans se).seq hS,iD,_,_,Z,Z,c2,_,_,Z,Z,(by show(0:Int)<2;decide),_,_,Z,Z,e,_,_,_,Z,Z,SqT.of XS,hy,?_⟩;refine⟨_,Z,.inl ⟨Z,_,SqL.of<|se _ _ h2⟩,_,Z,_,Z,(by show 2<=sizeLine;decide),λr hr=>?_⟩;exact⟨l,xs,_,Z,Z,(Zu se hr) _ _ h2,xl,put x y _ r se hr x0 x1 y0 y1 _ _ _⟩
    .refine⟨_,Z,.inl ⟨Z,_,SqL.of h2⟩,_,Z,_,Z,(by show 2<=sizeLine;decide),λr hr=>?_⟩;exact⟨l,xs,_,Z,Z,(XN hr) _ _ h2,xl,put _ _ _ r (Same.refl _) hr o0 o1 q0 q1 _ _ _⟩
   .refine⟨_,Z,.inl ⟨Z,_,SqL.of h2⟩,_,Z,_,Z,(by show 2<=sizeLine;decide),λr hr=>?_⟩;exact⟨l,xs,_,Z,Z,(XN hr) _ _ h2,xl,put _ _ _ r (Same.refl _) hr o0 o1 q0 q1 _ _ _⟩
  .rintro σ H2 ⟨xs,ps,v4,v5,v6,v7,rfl,s2,h2,hP,FL,hb⟩;have FL:ps.length=ds.length:=by rw[FL,Xx];simp
   refine⟨_,Z,a,ds,Z,s2.seq hS,_,Z,l,xs,Z,.inl<|SqL.of h2,_,_,Z,_,_,Z,Z,?_,?_⟩
   .show(0:Int)<if (xs.length:Int)>1 then (xs.length:Int) else 1
    split<;>lia
   .generalize hT:ds.sum%(if (xs.length:Int)>1 then (xs.length:Int) else 1)=T0;have T1:0<=T0:=by rw[<-hT];exact Ws _ (by split<;>lia)
    have T2:T0.toNat<=xs.length:=by
     have:T0<(if (xs.length:Int)>1 then (xs.length:Int) else 1):=by rw[<-hT];exact VT _ (by split<;>lia)
     split at this<;>grind
    have e1:Xi xs (some T0) none=xs.drop T0.toNat:=qP T1 T2;have e2:Xi xs none (some T0)=xs.take T0.toNat:=qO T1 T2
    refine⟨_,Z,_,Z,T0,XB V.int hT,l,xs,Z,SqL.of h2,λr1 VX=>?_⟩;have s3:=XN (o:=.lst<|Xi xs (some T0) none) VX
    refine⟨_,Z,_,Z,T0,XB V.int hT,l,xs,Z,SqL.of<|s3 _ _ h2,λr2 VV=>?_⟩;have s4:=Zu (o:=.lst<|Xi xs none<|some T0) s3 VV
    have n12:r1≠r2:=Zd XS VV;refine⟨r1,r2,_,_,Z,Z,by rw[Zc n12,XS],XS,?_,λr hr=>?_⟩
    .rw[e1,e2,YV,Yl];exact MO (by rw[hP.1];grind)
    .have s5:=Zu (o:=.lst<|Xi xs (some T0) none++Xi xs none (some T0)) s4 hr;refine q r _ (ps.drop T0.toNat++ps.take T0.toNat) _ (s2.trans s5) ((s2.trans s4).free hr) XS ?_ ?_ λp hp=>?_
     .have z:=((hP.same s5).drop T0.toNat).app ((hP.same s5).take T0.toNat);rwa[<-e1,<-e2]at z
     .rw[Xt,YV,Yl,<-hP.1]
      have:=hP.1
      grind
     .rcases Xz.mp hp with z|z
      .exact hb p (List.mem_of_mem_drop z)
      .exact hb p (Fz z)
noncomputable def fZ(K:Ad):Sp:=λvs H Q _=>∃a ns most count,vs=[.ref a,.int most,.int count]/\SqL K H a (IL ns)/\ns.length<=63/\1<=most/\most<=14/\0<=count/\count<=30/\
 ∀r l n xs ps H',Same H H'->H' r=some (.tup [.int n,.ref l])->H l=none->H' l=some (.lst xs)->PairsV H' xs ps->Zw n ps->n<=most->(ps.length:Int)<=count->Q (.ref r) H'
theorem LO:FnScope ["script","most","count","head","places","many","draws"] ["script","most","count"] (Xv (top 80)):=Wt D
theorem fY(T:Txt K mg t):Xg P w base Xl T.q_law_web 3 (fZ K):=by
 refine T.q_law_web.ok ["script","most","count","head","places","many","draws"] D (λvs H Q E h=>?_) (λXG A outer s H vs Q E hr h=>?_)
 .obtain⟨a,ns,most,count,rfl,_⟩:=h;rfl
 .obtain⟨a,ns,most,count,rfl,hS,hn,m1,m2,c1,c2,q⟩:=h;refine⟨_,(XR (Zj (i:=3) LO.nd Z (Or.inl Z)<|XC (gn T) hr T.q_law_cell Zs<|XZ (pv 0)<|XZ Za XY)
   (XR (Zj (i:=4) LO.nd Z (Or.inl Z)<|Zr UG Za<|Zr ZP (pv 3)<|pv 1)
   (XR (Zj (i:=5) LO.nd Z (Or.inl Z)<|Zf (PQ Z) uw T.n_min Boot.«min»<|XZ (pv 2)<|XZ (Zr UG (Zr ZP (Zr PR (pv 3)<|pv 1)<|Zr UG (pv 2) Za)<|Zr PU (Zr ZP (Zr PR (pv 3) Za) Za)<|pv 4) XY)
   (XR (Zj (i:=6) LO.nd Z (Or.inl Z)<|XC (gf T) hr T.q_law_draws Zs<|XZ (pv 0)<|XZ Za<|XZ (pv 5)<|XZ (Zr ZP (Zr PR (pv 3) Za) Za) XY)
   (XM<|Zi<|UE<|XZ (pv 4)<|XZ (XC (f9 T) hr T.q_law_ties Zs<|XZ (pv 6)<|XZ (pv 4)<|XZ (Oe UP (Zr ZP (Zr PR (pv 3) Za) Za) Za<|Zq _) XY) XY))))),?_⟩
  refine⟨_,Z,a,ns,0,Z,hS,S,λhd h0 h1=>?_⟩;have n0:0<=hd%most:=Ws _ J
  have n1:hd%most<most:=VT _ J;refine⟨_,Z,_,Z,_,_,Z,Z,(by show 0<most;lia),_,_,Z,Z,?_⟩;refine⟨_,Z,_,Z,_,Z,_,_,Z,Z,⟨by show 0<most;omega,by show most<1073741824;lia⟩,_,Z,_,_,Z,Z,_,_,Z,Z,(by show 0<count+1;lia),_,Z,_,_,Z,Z,⟨S,S⟩,_,_,Z,Z,(by show(0:Int)<2;decide),_,Z,_,_,Z,Z,.inr ⟨by show -(2^64)<1+hd%most;lia,by show 1+hd%most<2^64;lia⟩,_,_,Z,Z,_,_,Z,?_⟩;have e0:0<=hd/most%(count+1):=Ws _ J
  have f0:0<=hd/97%2:=Ws _ S;have g0:0<=hd/97%2*(1+hd%most):=Int.mul_nonneg f0 J
  obtain⟨c,hc⟩:∃c:Nat,(if hd/most%(count+1)+hd/97%2*(1+hd%most)<count then hd/most%(count+1)+hd/97%2*(1+hd%most) else count)=(c:Int):=
   ⟨(if hd/most%(count+1)+hd/97%2*(1+hd%most)<count then hd/most%(count+1)+hd/97%2*(1+hd%most) else count).toNat,by split<;>lia⟩
  have k1:(c:Int)<=count:=by rw[<-hc];split<;>grind
  refine⟨_,Z,_,Z,_,Z,_,_,Z,Z,⟨S,S⟩,_,_,Z,Z,(by show(0:Int)<2;decide),a,ns,1,c,_,XB (λz:Int=>[V.ref a,V.int 1,V.int z,V.int (hd/194%2)]) hc,hS,hn,S,J,λl ds H1 s1 Qw To zS NV=>?_⟩;refine⟨_,Z,_,Z,_,Z,_,Z,_,_,Z,Z,⟨S,S⟩,_,_,Z,Z,(by show(0:Int)<3;decide),_,_,Z,Z,l,ds,_,_,Z,SqL.of To,J,NV,(by show 1<=1+hd%most;lia),(by show 1+hd%most<=1000;lia),λl2 xs ps H2 s2 fX fW hP ePl hb=>?_⟩;refine⟨(by show 2<=sizeLine;decide),λr hr=>?_⟩;have s3:=XN (o:=.tup [.int (1+hd%most),.ref l2]) hr
  exact q r l2 (1+hd%most) xs ps _ ((s1.trans s2).trans s3) XS (s1.free fX) (s3 _ _ fW) (hP.same s3) ⟨J,J,J,hb⟩ J J
noncomputable def fV(K:Ad):Sp:=λvs H Q _=>∃(a:Addr)(ns:Ac)(c:Nat),vs=[.ref a,.int c]/\SqL K H a (IL ns)/\ns.length<=63/\c<=30/\
 ∀r l H',Same H H'->H r=none->H' r=some (.lst<|IL l)->l.length=c->Told l->Q (.ref r) H'
theorem Ov:FnScope ["script","count","folded","k","told","m"] ["script","count"] (Xv (top 81)):=Wt D
theorem fU(T:Txt K mg t):Xg P w base Xl T.q_law_lengths 2 (fV K):=by
 refine T.q_law_lengths.ok ["script","count","folded","k","told","m"] D (λvs H Q E h=>?_) (λXG A outer s H vs Q E hr h=>?_)
 .obtain⟨a,ns,c,rfl,_⟩:=h;rfl
 .obtain⟨a,ns,c,rfl,hA,GZ,hc,q⟩:=h;refine⟨_,(XR (QA (i:=2) Z Ov.nd Z Z (sc0:=Xv<|top 81) (N0:=["script","count","folded","k","told","m"]) (N':=["k"]) (o:=1) (fr:=[]) ⟨Z,D,D,D,Z,D⟩ (ZV Z T.n_range<|XZ (pv 1) XY) (Zv S) (λ_ _ _ _=>(Zg (i:=0) (show List.Nodup (["k"]:List Str) by decide +kernel) Z<|Or.inl Z)) (λ_ _ _ _=>ZX) λ_ _ _ _=>(Zr UG (Zr PU Za<|pv 0) Za))
   (XR (TK Wr Z (ZV Z T.n_range<|XZ (Zf (Zk K) uw T.n_len Boot.«len»<|XZ (pv 0) XY) XY) (Zg (i:=3) Ov.nd Z<|Or.inl Z)
   (XM (WK (Ze UP (pv 1) Za<|Zq _)
   (XM<|yk (Zr ZP (Zr UG (Zr PU (Zy (Zb K) (pv 2) (Zr ZP (pv 3)<|pv 1) λ_ _=>rfl) Za)<|Zy (Zb K) (pv 0) (pv 3) λ_ _=>rfl)<|Zr TJ Za Za)<|EB (pv 2) (Zr ZP (pv 3)<|pv 1) Rt)
   Zo)))
   (XR (Zj (i:=4) Ov.nd Z (Or.inl Z)<|Tc XY)
   (XR (TK Wr Z (ZV Z T.n_range<|XZ (pv 1) XY) (Zg (i:=3) Ov.nd Z<|Or.inl Z)
   (XR (Zj (i:=5) Ov.nd Z (Or.inl Z)<|XC (zV T) hr T.q_law_mixed Zs<|XZ (Zy (Zb K) (pv 2) (pv 3) λ_ _=>rfl)<|XZ (Zr UG Za<|pv 3) XY)
   (XM<|ZS<|TY K YU Kb Kc Jf (pv 4)<|XZ (Zy (Zb K) (Tc<|XZ (Zr ZP (Zr PR (pv 5) Za) Za)<|XZ (Zr WO (Zr ZP (Zr PR (pv 5) Za) Za) Za)<|XZ Za<|XZ (Zr WO (Zr ZP (Zy (Zb K) (pv 2) (pv 3) λ_ _=>rfl)<|Zr PU Za<|Zr TJ Za Za)<|Zr TJ Za Za) XY) (Zr ZP (pv 5) Za) λ_ _=>rfl) XY)))
   (XM<|Zi<|pv 4))))),?_⟩
  have four:4<=sizeLine:=S;refine⟨_,Z,(c:Int),Z,J,J,xR (lo:=0) (n:=((c:Int)).toNat) (λi ys H3=>H3=H/\∃fs:Ac,ys=IL fs/\fs.length=i) ⟨Z,[],Z,Z⟩ (Zl J) (λi ys H3 _ zz=>by obtain⟨_,fs,e,el⟩:=zz;rw[e,Xx];lia) ?_ ?_⟩
  .rintro i ys H3 hi ⟨rfl,fs,rfl,La⟩ uo Xm;refine NU ?_;refine⟨_,Z,_,_,Z,Z,.inl ⟨S,S⟩,_,_,Z,Z,?_⟩;refine Xm _ _ ⟨Z,fs++[5*(0+(i:Int))+2],?_,?_⟩
   .exact(ZN _ _).symm
   .rw[Xt,La];rfl
  rintro ys H3 ⟨rfl,fs,rfl,La⟩ l3 Qq;have s3:=XN (o:=.lst<|IL fs) Qq
  refine nm ?_;refine⟨_,Z,a,_,Z,.inl<|s3.seq hA,_,Z,J,by rw[Xx];omega,Jt (lo:=0) (n:=((IL ns).length:Int).toNat) (λj σ H4=>∃fs v3,σ=[some (.ref a),some<|.int c,some<|.ref l3,v3,none,none]/\Same H3 H4/\H4 l3=some (.lst<|IL fs)/\fs.length=c) ⟨fs,none,Z,s3,XS,by rw[La];lia⟩ ?_ ?_⟩
  .rintro j σ H4 hj ⟨gs,v3,rfl,s4,h4,eg⟩;rw[Xx]at hj;refine nm ?_;dsimp only;refine⟨_,Z,_,_,Z,Z,_,Z,?_⟩;refine Xd (λRN=>?_) λ_=>⟨gs,_,Z,s4,h4,eg⟩;have gc:0<=(0+(j:Int))%(c:Int):=Ws _ J
   have xo:(0+(j:Int))%(c:Int)<(c:Int):=VT _ RN;generalize vP:(0+(j:Int))%(c:Int)=at' at *;obtain⟨f,hf⟩:∃f,gs[at'.toNat]?=some f:=⟨_,Xw uu⟩;obtain⟨z,hz⟩:∃z,ns[j]?=some z:=⟨_,Xw J⟩;refine⟨_,Z,_,Z,_,Z,_,_,Z,Z,RN,l3,_,_,_,Z,Z,SqL.of h4,by rw[vP];exact Zx (n:=at'.toNat) J<|UA hf,_,_,Z,Z,.inr ⟨S,S⟩,_,Z,_,Z,a,_,_,_,Z,Z,s4.seq hA,Zx (n:=j) J<|UA hz,_,_,Z,Z,_,_,Z,Z,⟨S,S,S⟩,_,_,Z,Z,(by show(0:Int)<10^60;decide),?_⟩;refine⟨_,Z,_,Z,_,Z,_,_,Z,Z,RN,l3,_,_,at'.toNat,Z,Z,h4,?_,?_⟩
   .rw[vP];unfold Oc;rw[if_pos gc,if_pos (by rw[Xx];grind)]
   .refine⟨gs.set at'.toNat<|(f*7+z)%(10:Int)^((60:Int).toNat),_,Z,Zz Qq s4,?_,by rwa[Lx]⟩;rw[XS,DG]
  rintro σ H4 ⟨gs,v3,rfl,s4,h4,eg⟩;refine⟨Ym _,λl5 Hc=>?_⟩;have FG:l3≠l5:=Zd h4 Hc
  have Sk:H3 l5=none:=s4.free Hc;have u5:=XN (o:=.lst []) Hc
  have s5:=s4.trans u5;have h35:=u5 _ _ h4
  have h55:(upd H4 l5<|.lst []) l5=some (.lst<|IL []):=XS;generalize upd H4 l5 (.lst [])=H5 at *;refine nm ?_;refine⟨_,Z,_,Z,J,J,Jt (lo:=0) (n:=((c:Int)).toNat) (λj σ H6=>∃L v3 v5,σ=[some (.ref a),some<|.int c,some<|.ref l3,v3,some<|.ref l5,v5]/\Same H3 H6/\H6 l3=some (.lst<|IL gs)/\H6 l5=some (.lst<|IL L)/\L.length=j/\Told L) ⟨[],v3,none,Z,s5,h35,h55,Z,λz hz=>(by cases hz)⟩ ?_ ?_⟩;rotate_left
  .rintro σ H6 ⟨L,w3,w5,rfl,s6,_,vN,hL,hT⟩;exact⟨_,Z,q l5 L H6 s6 Sk vN J hT⟩
  rintro j σ H6 hj ⟨L,w3,w5,rfl,s6,fS,vN,hL,hT⟩;obtain⟨f,hf⟩:∃f,gs[j]?=some f:=⟨_,Xw uu⟩;have hfa:Wo (IL gs) (0+(j:Int))=some (.int f):=Zx (n:=j) J (UA hf)
  refine nm ?_;dsimp only;refine⟨_,Z,_,Z,l3,_,_,_,Z,Z,SqL.of fS,hfa,_,Z,_,_,Z,Z,_,_,Z,λm m0 m1=>?_⟩;refine nm ?_;have d8:0<=m/8:=J
  refine⟨_,Z,.inl ⟨Z,_,SqL.of vN⟩,_,Z,_,_,Z,Z,⟨S,S⟩,_,_,Z,Z,(by show(0:Int)<5;decide),_,Z,_,_,Z,Z,⟨S,S⟩,_,_,Z,Z,(by show(0:Int)<19;decide),_,_,Z,Z,_,Z,_,Z,l3,_,_,_,Z,Z,SqL.of fS,hfa,_,_,Z,Z,⟨S,S,S⟩,_,_,Z,Z,.inl ⟨S,S⟩,_,_,Z,Z,(by show(0:Int)<2*10^59;decide),_,_,Z,Z,⟨S,S,S⟩,_,_,Z,Z,four,λc4 vU=>?_⟩;obtain⟨x,hx,hxb⟩:∃x:Int,Wo (IL [m/8%5,m/8%19-9,1,f%(2*10^(59:Int).toNat)-10^(59:Int).toNat]) (m%4)=some (.int x)/\(-(10^60)<x/\x<(10:Int)^60):=by
   have p59:(10:Int)^(59:Int).toNat=10^59:=rfl;have e4:0<=f%(2*10^59)/\f%(2*10^59)<2*10^59:=⟨Ws _ S,VT _ S⟩
   rcases(by lia:m%4=0\/m%4=1\/m%4=2\/m%4=3) with e|e|e|e<;>rw[e]
   .exact⟨_,Z,uu⟩
   .exact⟨_,Z,uu⟩
   .exact⟨_,Z,J⟩
   .refine⟨_,Z,?_⟩;rw[p59];lia
  have w1:=XN (o:=.lst<|IL [m/8%5,m/8%19-9,1,f%(2*10^(59:Int).toNat)-10^(59:Int).toNat]) vU;refine⟨_,Z,_,_,Z,Z,(by show(0:Int)<4;decide),c4,_,_,.int x,Z,Z,SqL.of XS,hx,?_⟩;refine⟨l5,_,_,Z,Z,w1 _ _ vN,Zl (by rw[Xx];grind),L++[x],_,_,Z,Zz Sk<|s6.trans w1,?_,by rw[XS,ZN],by rw[Xt,hL];rfl,λz hz=>(Xz.mp hz).elim (hT z) λh=>by rwa[XF.mp h]⟩;rw[Zc FG];exact w1 _ _ fS
noncomputable def fR(K:Ad):Sp:=λvs H Q _=>∃n a b xs ps ls,vs=[.int n,.ref a,.ref b]/\SqL K H a xs/\PairsV H xs ps/\SqL K H b (IL ls)/\Zw n ps/\ls.length=ps.length/\Told ls/\∀H':Hp,Same H H'->Q (.str<|Sv n ps ls) H'
theorem GY:FnScope ["places","ties","lengths","lines","k","words"] ["places","ties","lengths"] (Xv (top 82)):=Wt D
theorem fQ(T:Txt K mg t):Xg P w base Xl T.q_law_text 1 (fR K):=by
 refine T.q_law_text.ok ["places","ties","lengths","lines","k","words"] D (λvs H Q E h=>?_) (λXG A outer s H vs Q E hr h=>?_)
 .obtain⟨n,a,b,xs,ps,ls,rfl,_⟩:=h;rfl
 .obtain⟨n,a,b,xs,ps,ls,rfl,hA,hP,hB,hG,hl,hT,q⟩:=h;refine⟨_,(XR (Zj (i:=3) GY.nd Z (Or.inl Z)<|Tc<|XZ (Zr ZZ6 Qa<|Zm wN uw T.n_str Boot.«str»<|XZ (pv 0) XY) XY)
   (XR (TK Wr Z (ZV Z T.n_range<|XZ (Zf (Zk K) uw T.n_len Boot.«len»<|XZ (pv 1) XY) XY) (Zg (i:=4) GY.nd Z<|Or.inl Z)
   (XR (Zj (i:=5) GY.nd Z (Or.inl Z)<|Tc<|XZ Qa<|XZ (Zm wN uw T.n_str Boot.«str»<|XZ (Zy (ZF K) (Zy (Zb K) (pv 1) (pv 4) λ_ _=>rfl) Za λ_ _=>rfl) XY)<|XZ (Zm wN uw T.n_str Boot.«str»<|XZ (Zy (ZF K) (Zy (Zb K) (pv 1) (pv 4) λ_ _=>rfl) Za λ_ _=>rfl) XY) XY)
   (XM<|ZS<|TY K YU Kb Kc Jf (pv 3)<|XZ (TY K Qg eN eO (Cg K) Qa<|XZ (Zr DU (pv 5)<|Tc<|XZ (Zm wN uw T.n_str Boot.«str»<|XZ (Zy (Zb K) (pv 2) (pv 4) λ_ _=>rfl) XY) XY) XY) XY)))
   (XM<|Zi<|TY K Qg eN eO (Cg K) Qa<|XZ (pv 3) XY))),?_⟩
  have Kq:=hP.1;have gy:=hG.2.2.1
  have AM:=hG.1;have Od:=hG.2.1
  have one:1<=sizeLine:=S;have three:3<=sizeLine:=S
  have z1:100000<=sizeLine:=S;have nl:=OU (i:=n) (k:=60) S J J
  refine⟨_,Z,n,Z,J,J,_,_,Z,Z,?_,one,λd hd=>?_⟩
  .show 7+(nT n).length<=_;lia
  have u1:=XN (o:=.lst<|TL<|Ww n (ps.take 0)<|ls.take 0) hd;refine nm ?_;refine⟨_,Z,a,_,Z,.inl<|u1.seq hA,_,Z,J,J,Jt (lo:=0) (n:=(xs.length:Int).toNat) (λi σ H4=>∃v4 v5,σ=[some (.int n),some<|.ref a,some<|.ref b,some<|.ref d,v4,v5]/\Same H H4/\H4 d=some (.lst<|TL<|Ww n (ps.take i)<|ls.take i)) ⟨none,none,Z,u1,XS⟩ ?_ ?_⟩
  .rintro i σ H4 hi ⟨v4,v5,rfl,s4,h4⟩;have Wb:i<ps.length:=J
   obtain⟨v,hv⟩:∃v,xs[i]?=some v:=⟨_,Xw J⟩;obtain⟨p,hp,tt,rfl,Tj⟩:=hP.at hv;obtain⟨l,US⟩:∃l,ls[i]?=some l:=⟨_,Xw J⟩;have RI:=l8 hG hT hp US
   have b1:=RI p.1 B;have b2:=RI p.2 B
   have b3:=RI l B;refine nm ?_;dsimp only;have ia:Wo xs (0+(i:Int))=some (.ref tt):=Zx (n:=i) J hv
   refine⟨_,Z,_,Z,a,_,_,.ref tt,Z,Z,s4.seq hA,ia,tt,_,0,.int p.1,Z,Z,SqT.of<|s4 _ _ Tj,Z,p.1,Z,J,J,_,Z,_,Z,a,_,_,.ref tt,Z,Z,s4.seq hA,ia,tt,_,1,.int p.2,Z,Z,SqT.of<|s4 _ _ Tj,Z,p.2,Z,J,J,three,λc hc=>?_⟩;have u2:=XN (o:=.lst<|TL [Str.ofString "tie",nT p.1,nT p.2]) hc
   have s5:=s4.trans u2;have h5:=u2 _ _ h4
   have hc5:(upd H4 c<|.lst<|TL [Str.ofString "tie",nT p.1,nT p.2]) c=some (.lst<|TL [Str.ofString "tie",nT p.1,nT p.2]):=XS;refine nm ?_;dsimp only;change EH _ _ _ (upd H4 c<|.lst<|TL [Str.ofString "tie",nT p.1,nT p.2]);generalize upd H4 c (.lst<|TL [Str.ofString "tie",nT p.1,nT p.2])=H5 at *;refine⟨_,Z,.inl ⟨Z,_,SqL.of h5⟩,Z,_,Z,_,Z,_,Z,b,_,_,.int l,Z,Z,s5.seq hB,Zx (n:=i) J<|UA US,l,Z,J,J,one,λc2 Vi=>?_⟩;have u3:=XN (o:=.lst<|TL [nT l]) Vi
   refine⟨c,c2,_,TL [nT l],Z,Z,u3 _ _ hc5,XS,(show 3+1<=sizeLine by decide),λc3 hc3=>?_⟩;have u4:=XN (o:=.lst<|TL [Str.ofString "tie",nT p.1,nT p.2]++TL [nT l]) hc3
   have u34:=u3.trans u4;have wl:(Ww n (ps.take i)<|ls.take i).length<=31:=by rw[l9 (by rw[Yl,Yl];lia),Yl];grind
   refine⟨_,c3,[Str.ofString "tie",nT p.1,nT p.2,nT l],Z,Z,SqL.of XS,?_,?_⟩
   .show JoinOk Qu _=true;rw[OS];refine aO (uj:=61) (λa ha=>?_) (by show 4*61+4<=_;decide);rcases Ye.mp ha with e|e
    .rw[e];decide
    .exact me RI a e
   refine⟨d,_,_,Z,Z,u34 _ _ h5,Zl (by rw[FT];lia),_,_,Z,Zz hd<|s5.trans u34,?_⟩;rw[XS];show some (HO.lst<|TL (Ww n (ps.take i)<|ls.take i)++[.str (QV p l)])=_
   rw[BU,ma hp US]
  rintro σ H4 ⟨v4,v5,rfl,s4,h4⟩;rw[show(xs.length:Int).toNat=ps.length by lia,YF,<-hl,YF]at h4;refine⟨Z,_,Z,_,d,_,Z,Z,SqL.of h4,?_,q H4 s4⟩;show JoinOk BY _=true
  rw[HY];exact aO (uj:=400) (aM hG hT) (by rw[l9 hl];lia)
noncomputable def fP(K:Ad)(C Pt:Addr):Sp:=λvs H Q _=>∃w n ps num R,vs=[.ref w,.int num]/\WebAt C H w n ps/\Zw n ps/\Xn H Pt/\-(10^70)<num/\num<10^70/\RowW n ps R/\(num<0\/(R.length:Int)<=num)/\∀H':Hp,SameX Pt H H'->Xn H' Pt->Q (.bl true) H'
theorem zR:FnScope ["web","number","refused"] ["web","number"] (Xv (top 83)):=Wt D
theorem zQ{Pt:Addr}(T:Txt K mg t)(hB:SS K mg base t.dZx Pt):Xg P w base Xl T.q_law_none 46 (fP K t.A_Web Pt):=by
 refine T.q_law_none.ok ["web","number","refused"] D (λvs H Q E h=>?_) (λXG A outer s H vs Q E hr h=>?_)
 .obtain⟨w,n,ps,num,R,rfl,_⟩:=h;rfl
 .obtain⟨w,n,ps,num,R,rfl,hW,hG,hT,n0,n1,hR,SY,q⟩:=h;refine⟨_,(XR (Zj (i:=2) zR.nd Z (Or.inl Z) VG)
   (XR (mL Z Z Z T.c_NoSuch Z (λR _=>(XM<|ZS<|qu (QM T hB) (hr.mono S) Z T.q_row_at.mm T.q_row_at.fn.kp T.q_row_at.bi .nil pxT<|XZ (pv 0)<|XZ (pv 1) XY)) λe C oe _ Pm=>(XM<|Zj (i:=2) zR.nd Z (Or.inl Z) VG))
   (XM<|Zi<|pv 2))),?_⟩
  refine⟨_,Z,_,Z,w,n,ps,num,R,Z,hW,hG,hT,n0,n1,hR,λa b=>absurd SY J,λ_ H1 UR WS=>⟨_,Z,T.em_NoSuch,λe he=>?_⟩⟩;exact⟨_,Z,q H1 UR WS⟩
noncomputable def fO(K:Ad)(C Pt:Addr):Sp:=λvs H Q _=>∃w n ps R,vs=[.ref w,.int R.length]/\WebAt C H w n ps/\Zw n ps/\Xn H Pt/\RowW n ps R/\R.Nodup/\(∀V∈R,Zh n ps V)/\∀H':Hp,SameX Pt H H'->Xn H' Pt->Q (.bl true) H'
theorem zP:FnScope ["web","many","last"] ["web","many"] (Xv (top 84)):=Wt D
theorem fN{Pt:Addr}(T:Txt K mg t)(hB:SS K mg base t.dZx Pt):Xg P w base Xl T.q_law_ends_good 47 (fO K t.A_Web Pt):=by
 refine T.q_law_ends_good.ok ["web","many","last"] D (λvs H Q E h=>?_) (λXG A outer s H vs Q E hr h=>?_)
 .obtain⟨w,n,ps,R,rfl,_⟩:=h;rfl
 .obtain⟨w,n,ps,R,rfl,hW,hG,hT,hR,hN,trees,q⟩:=h;refine⟨_,(XR (Zj (i:=2) zP.nd Z (Or.inl Z)<|XC (gU T hB) hr T.q_row_last Zs<|XZ (pv 0) XY)
   (XR (WK (PW.pt<|SM (Ze (IT K<|MN hr) (XC (QM T hB) hr T.q_row_at Sz<|XZ (pv 0)<|XZ Za XY) (XC (Hv T) hr T.q_least_tree Zs<|XZ (pv 0) XY)<|Zq _)<|SM (Ze (IT K<|MN hr) (XC (QM T hB) hr T.q_row_at Sz<|XZ (pv 0)<|XZ (Zr WO (pv 1) Za) XY) (pv 2)<|Zq _)<|QE<|Ze SI (XC (LP T hB) hr T.q_row_number Zs<|XZ (pv 0)<|XZ (pv 2) XY) (Zr WO (pv 1) Za)<|Zq _)
   (XM<|Zi VG)
   Zo)
   (XR (WK (PW.pt<|SM (Ze tD (XC (Hg T hB) hr T.q_row_next Zs<|XZ (pv 0)<|XZ (pv 2) XY) QG<|Zq _)<|QE<|Ze tD (XC (zZ T hB) hr T.q_row_step Zs<|XZ (pv 0)<|XZ (pv 2) XY) QG<|Zq _)
   (XM<|Zi VG)
   Zo)
   (XR (WK (PW.pt<|SM (Ze tD (XC (z4 T hB) hr T.q_row_ahead Zs<|XZ (pv 0)<|XZ (XC (Hv T) hr T.q_least_tree Zs<|XZ (pv 0) XY) XY) QG<|Zq _)<|SM (QD<|Rw<|XC (zQ T hB) hr T.q_law_none Zs<|XZ (pv 0)<|XZ (pv 1) XY)<|QE<|QD<|Rw<|XC (zQ T hB) hr T.q_law_none Zs<|XZ (pv 0)<|XZ (Jq Jp Za) XY)
   (XM<|Zi VG)
   Zo)
   (XM<|Zi<|Oe Sa (Zf (Zk K) uw T.n_len Boot.«len»<|XZ (TZ Z (sc0:=Xv<|top 84) (N0:=["web","many","last"]) (N':=["tie","web"]) (o:=1) (fr:=[0]) ⟨Z,D,D,D,Z,D⟩ (DC K<|pv 2) (Zv S) (λ_ _ _ _=>(Zg (i:=0) (show List.Nodup (["tie","web"]:List Str) by decide +kernel) Z<|Or.inl Z)) (λ_ _ _ _=>(Rq<|Ze (ZW K) (pv 0) (XC (Hv T) hr T.q_least_tree Zs<|XZ (pv 1) XY) Z)) λ_ _ _ _=>(pv 0)) XY) (Zm tq uw T.n_int Boot.«int»<|XZ (Oe UP (pv 1) Za<|Zq _) XY)<|Zq _))))),?_⟩
  obtain⟨ld,F0,inc,fu,Vw,_,_,_,Sm⟩:=id hR;have vT:=Cj hG Sm
  have hg:=(cG hG).mp (z6 Vw.tr.1);have hF:=cM hG hg
  have VB:∀U,Zh n ps U->HT.lexLt U (WU n.toNat ps ps.length)=false:=λU hU=>ZV8 hG hU;refine⟨_,Z,w,n,ps,R,Z,hW,hG,hT,hR,λlA L H1 hL UR WS FI=>?_⟩;refine nm ?_;obtain⟨Sj,hAd,GX⟩:=ZW3 (L:=L) hG hR hF VB;generalize FE:WU n.toNat ps ps.length=F at *;have Rl:=(Xs.mp hL).1
  have hW1:=hW.samex hT UR;have vM:=trees L (Xf hL)
  refine⟨_,Z,w,n,ps,0,R,Z,hW1,hG,WS,S,S,hR,λ_ _ fA F1 H2 iU Uu WY js=>?_,λh=>absurd h J⟩;rw[show(0:Int).toNat=0 from Z,Sj]at iU;obtain rfl:=Yh iU;have Th:=UR.trans Uu
  have hW2:=hW.samex hT Th;have fM:=Uu _ _ (WS.ne FI B) FI
  refine⟨_,Z,w,n,ps,Z,hW2,hG,λ_ b H3 s3 hb=>?_,λh=>absurd h<|by rwa[FE]⟩;rw[FE]at hb;refine⟨1,_,fA,b,Z,Z,S,IK (SqT.of<|s3 _ _ js)<|SqT.of hb,_,Z,?_⟩;rw[Yn Z];refine WB ?_;have Ug:=Th.trans (SameX.same s3)
  have Vz:=WY.same s3;have zN:=s3 _ _ fM
  have hW3:=hW.samex hT Ug;refine⟨_,Z,_,Z,_,_,Z,Z,w,n,ps,(R.length:Int)-1,R,Z,hW3,hG,Vz,J,J,hR,λ_ _ gA L1 H4 NQ SQ UH hgA=>?_,λh=>absurd h J⟩;rw[show((R.length:Int)-1).toNat=R.length-1 by lia,hL]at NQ;obtain rfl:=Yh NQ;have LN:=SQ _ _ (Vz.ne zN B) zN
  have zM:=Ug.trans SQ;have iV:=hW.samex hT zM
  refine⟨_,Z,1,_,gA,lA,Z,Z,S,IK (SqT.of hgA)<|SqT.of LN,_,Z,?_⟩;rw[Yn Z];refine WB ?_;refine⟨_,Z,_,Z,w,lA,n,ps,L,R,Z,iV,hG,UH,SqT.of LN,vM,hR,Xf hL,λj H5 hj ND Ue=>?_⟩;obtain rfl:j=R.length-1:=(JV (Xs.mp hj).1 hN).mp (hj.trans hL.symm);have GW:=ND _ _ (UH.ne LN B) LN
  have LQ:=zM.trans ND;have vL:=hW.samex hT LQ
  refine⟨_,Z,_,_,Z,Z,Z,_,Z,?_⟩;rw[ZB];refine Lh J ?_;refine WG ?_;have out:R[R.length-1+1]?=none:=Vv J
  refine⟨_,Z,_,Z,w,lA,n,ps,L,R,R.length-1,Z,vL,hG,Ue,SqT.of GW,vM,hR,hN,hL,λv H6 hv LV WV=>?_⟩;rw[out]at hv;obtain rfl:v=.non:=hv;have GV:=LV _ _ (Ue.ne GW B) GW
  have zL:=LQ.trans LV;have NB:=hW.samex hT zL
  refine⟨Z,_,Z,?_⟩;refine WB ?_;refine⟨_,Z,_,Z,w,lA,n,ps,L,R,R.length-1,Z,NB,hG,WV,SqT.of GV,vM,hR,hN,hL,trees,λv H7 hv NC GU=>?_⟩;rw[out]at hv;obtain rfl:v=.non:=hv;have Tf:=NC _ _ (WV.ne GV B) GV
  have zK:=zL.trans NC;have hW7:=hW.samex hT zK
  refine⟨Z,_,Z,?_⟩;refine WB ?_;refine WG ?_;refine⟨_,Z,_,Z,w,n,ps,Z,hW7,hG,λ_ b8 H8 s8 hb8=>?_,λh=>absurd h<|by rwa[FE]⟩;rw[FE]at hb8;have VA:=GU.same s8
  have fL:=hW7.same s8;refine⟨w,b8,n,ps,F,R,0,Z,fL,hG,VA,SqT.of hb8,hF,hR,hN,Sj,λv H9 hv QN QL=>?_⟩;rw[if_pos Z]at hv;obtain rfl:v=.non:=hv;have zJ:=(zK.trans<|SameX.same s8).trans QN
  have hW9:=hW.samex hT zJ;refine⟨Z,_,Z,?_⟩;refine WB ?_;refine⟨_,Z,_,Z,w,n,ps,R.length,R,Z,hW9,hG,QL,J,J,hR,.inr<|Np _,λHz Ud Te=>⟨_,Z,?_⟩⟩;refine WB ?_;have zH:=zJ.trans Ud
  refine⟨_,Z,_,Z,w,n,ps,-1,R,Z,hW.samex hT zH,hG,Te,S,S,hR,.inl S,λQO Si RH=>⟨_,Z,?_⟩⟩;refine WB ?_;refine WG ?_;have hlB:=Si _ _ (Te.ne (Ud _ _ (QL.ne (QN _ _ (VA.ne (s8 _ _ Tf) B)<|s8 _ _ Tf) B)<|QN _ _ (VA.ne (s8 _ _ Tf) B)<|s8 _ _ Tf) B) (Ud _ _ (QL.ne (QN _ _ (VA.ne (s8 _ _ Tf) B)<|s8 _ _ Tf) B)<|QN _ _ (VA.ne (s8 _ _ Tf) B)<|s8 _ _ Tf)
  have zE:=zH.trans Si;have hWB:=hW.samex hT zE
  have lL:L.length<=20:=by have:=vM.2.1;have:=hG.2.1;lia
  refine⟨_,Z,lA,Z,⟨_,SqT.of hlB⟩,DD (K:=K) (a:=lA) (xs:=IL L) (λi ws HC=>Same QO HC/\i<=L.length/\ws=IL ((L.take i).filter λy=>decide<|y∉F)) ⟨Same.refl _,Ym _,Z⟩ (Zl<|by rw[Xx];lia) (λi ws HC hi h=>by obtain⟨e,Wb,ew⟩:=h;exact⟨SqT.of<|e _ _ hlB,by rw[ew,Xx];exact Ys (YG ..)<|by rw[Yl];lia⟩) ?_ ?_⟩
  .rintro i y ws HC hi ⟨sC,VC,rfl⟩ uo Xm;obtain⟨y,rfl,hy⟩:=Uz hi;have Xo:i<L.length:=(Xs.mp hy).1
   refine⟨_,Z,_,Z,w,n,ps,Z,hWB.same sC,hG,λ_ b HD sD hb=>?_,λh=>absurd h<|by rwa[FE]⟩;rw[FE]at hb;refine⟨b,_,Z,.inr<|SqT.of hb,Z,ZI _,_,Z,?_⟩;rw[ZT];refine WN (λhc=>?_) (λhc=>?_)
   .refine Xm _ _ ⟨sC.trans sD,Xo,?_⟩;rw[ZJ hy,if_neg (by simpa using hc),YH]
   .refine⟨_,Z,Xm _ _ ⟨sC.trans sD,Xo,?_⟩⟩;rw[ZJ hy,if_pos<|Yn hc,ZN]
  rintro ws HC ⟨sC,_,rfl⟩ dA AA;rw[Xx,YF];have uD:=XN (o:=.lst<|IL<|L.filter λy=>decide<|y∉F) AA
  refine⟨dA,_,Z,.inl<|SqL.of XS,_,Z,_,_,Z,Z,.inr ⟨_,Z,Z,?_⟩⟩;have e:((L.filter λy=>decide<|y∉F).length:Int)=if decide ((1:Int)<R.length)=true then 1 else 0:=by
   by_cases c:1<R.length
   .have s:(L.filter λy=>decide<|y∉F).length=1:=GX c hL;rw[if_pos (Yn J),s];rfl
   .have e0:L=F:=by rw[show R.length-1=0 by lia,Sj]at hL;exact(Yh hL).symm
    rw[if_neg (by simp;lia),e0]
    have:(F.filter λy=>decide<|y∉F)=[]:=eQ.mpr λy hy=>by simpa using hy
    rw[this];rfl
  show Q (.bl<|decide<|V.int _=V.int _) _;rw[ZB,Xx,Yn e];exact q _ (zE.trans<|SameX.same<|sC.trans uD) (RH.same<|sC.trans uD)
noncomputable def Kg(K:Ad)(Pt:Addr):Sp:=λvs H Q _=>∃a ns,vs=[.ref a]/\SqL K H a (IL ns)/\ns.length<=63/\Xn H Pt/\∀H',Q (.bl true) H'
theorem fK{n:Int}{ps:Aa}{U V:Ac}{o z:Int}(g:Zw n ps)(hU:Zh n ps U)(hV:Zh n ps V)(h:RP U V)(o1:o∈U)(o2:o∉V)(z1:z∈V)(z2:z∉U):exg n ps U o z/\∀ms:Ac,ms.Perm (wo U o++[z])->ms.Pairwise (·<=·)->ms=V:=by
 have one:∀{A uj:Ac}{x v:Int},RP A uj->x∈A->x∉uj->v∈A->v∉uj->v=x:=λ{A uj x v} h a1 a2 b1 b2=>by
  have m1:x∈A.filter λy=>decide (y∉uj):=Yg.mpr ⟨a1,Yn a2⟩;have m2:v∈A.filter λy=>decide (y∉uj):=Yg.mpr ⟨b1,Yn b2⟩
  obtain⟨c,e⟩:=eS.mp h;rw[e]at m1 m2;rw[XF.mp m1,XF.mp m2]
 have h':=kP hU hV h;have mem:∀v,v∈V↔(v∈U/\v≠o)\/v=z:=λv=>by
  constructor
  .intro hv;by_cases c:v∈U
   .exact .inl ⟨c,λe=>o2<|e▸hv⟩
   .exact .inr (one h' z1 z2 hv c)
  .rintro(⟨a,b⟩|rfl)
   .exact Yx λno=>b (one h o1 o2 a no)
   .exact z1
 obtain⟨z0,z3⟩:=hV.1.all z z1;refine⟨(Gg g hU).mpr ⟨o1,z2,z0,z3,λi j hi hj=>(hV.2.2 i j hi hj).mono (ZC λv hv=>?_)⟩,λms hp hs=>?_⟩
 .rw[Xz,Xq,XF];exact(mem v).mp hv
 .refine Ri (hp.trans<|(LI (YR.mpr ⟨hU.1.nodup.filter _,B,λa ha b hb e=>z2<|by rw[<-XF.mp hb,<-e];exact(Yg.mp ha).1⟩) hV.1.nodup).mpr λv=>?_) hs ((XX.mp hV.1).2.imp λh=>JO h);show v∈wo U o++[z]↔v∈V
  rw[Xz,Xq,XF,mem v]
theorem VL:FnScope ["script","places","ties","web","lengths","many","first","row","k","step"] ["script"] (Xv sZ11):=Wt D
theorem zD{Pt:Addr}(T:Txt K mg t)(hB:SS K mg base t.dZx Pt):Xg P w base Xl T.q_law 48 (Kg K Pt):=by
 refine T.q_law.ok ["script","places","ties","web","lengths","many","first","row","k","step"] D (λvs H Q E h=>?_) (λXG A outer s H vs Q E hr h=>?_)
 .obtain⟨a,ns,rfl,_⟩:=h;rfl
 .obtain⟨a,ns,rfl,hS,GZ,hTb,k⟩:=h;refine⟨_,(XR (yk (XC (fY T) hr T.q_law_web Zs<|XZ (pv 0)<|XZ Za<|XZ Za XY)<|NT (n:=2) K Z<|ZA (Zg (i:=1) VL.nd Z<|Or.inl Z)<|ZA (Zg (i:=2) VL.nd Z<|Or.inl Z) Of)
   (XR (yk (XC (gz T) hr T.q_read_web Zs<|XZ (XC (fQ T) hr T.q_law_text Zs<|XZ (pv 1)<|XZ (pv 2)<|XZ (XC (fU T) hr T.q_law_lengths Zs<|XZ (pv 0)<|XZ (Zf (Zk K) uw T.n_len Boot.«len»<|XZ (pv 2) XY) XY) XY) XY)<|NT (n:=2) K Z<|ZA (Zg (i:=3) VL.nd Z<|Or.inl Z)<|ZA (Zg (i:=4) VL.nd Z<|Or.inl Z) Of)
   (XR (Zj (i:=5) VL.nd Z (Or.inl Z)<|XC (OI T) hr T.q_tree_count Zs<|XZ (pv 3) XY)
   (XR (WK (Ze Sa (pv 5) Za<|Zq _)
   (XM<|Zi VG)
   Zo)
   (XR (Zj (i:=6) VL.nd Z (Or.inl Z)<|Zr ZP (Zr ZP (Zf (qL K Z) uw T.n_sum Boot.«sum»<|XZ (pv 0) XY)<|Zr TJ Za Za)<|pv 5)
   (XR (Zj (i:=7) VL.nd Z (Or.inl Z)<|XC (Hk T hB) hr T.q_row_from Sz<|XZ (pv 3)<|XZ (pv 6)<|XZ Za XY)
   (XR (WK (PW.pt<|SM (Ze SI (Zf (Zk K) uw T.n_len Boot.«len»<|XZ (pv 7) XY) (Zf (PQ Z) uw T.n_min Boot.«min»<|XZ Za<|XZ (Zr WO (pv 5)<|pv 6) XY)<|Zq _)<|QE<|Ze (IT K<|MN hr) (Zy (Zb K) (pv 7) Za λ_ _=>rfl) (XC (QM T hB) hr T.q_row_at Sz<|XZ (pv 3)<|XZ (pv 6) XY)<|Zq _)
   (XM<|Zi VG)
   Zo)
   (XR (TK Wr Z (ZV Z T.n_range<|XZ (Zf (Zk K) uw T.n_len Boot.«len»<|XZ (pv 7) XY) XY) (Zg (i:=8) VL.nd Z<|Or.inl Z)
   (XR (WK (PW.pt<|SM (QD<|Rw<|XC (AJ T) hr T.q_is_tree Zs<|XZ (pv 3)<|XZ (Zy (Zb K) (pv 7) (pv 8) λ_ _=>rfl) XY)<|QE<|Ze SI (XC (LP T hB) hr T.q_row_number Zs<|XZ (pv 3)<|XZ (Zy (Zb K) (pv 7) (pv 8) λ_ _=>rfl) XY) (Zr UG (pv 6)<|pv 8)<|Zq _)
   (XM<|Zi VG)
   Zo)
   (XM (WK (Ze UP (pv 8) Za<|Zq _)
   (XR (Zj (i:=9) VL.nd Z (Or.inl Z)<|XC (zZ T hB) hr T.q_row_step Zs<|XZ (pv 3)<|XZ (Zy (Zb K) (pv 7) (Zr WO (pv 8) Za) λ_ _=>rfl) XY)
   (XR (WK (PW.pt<|SM (Ze (IT K<|MN hr) (XC (Hg T hB) hr T.q_row_next Zs<|XZ (pv 3)<|XZ (Zy (Zb K) (pv 7) (Zr WO (pv 8) Za) λ_ _=>rfl) XY) (Zy (Zb K) (pv 7) (pv 8) λ_ _=>rfl)<|Zq _)<|QE<|Ze (IT K<|MN hr) (XC (z4 T hB) hr T.q_row_ahead Zs<|XZ (pv 3)<|XZ (Zy (Zb K) (pv 7) (pv 8) λ_ _=>rfl) XY) (Zy (Zb K) (pv 7) (Zr WO (pv 8) Za) λ_ _=>rfl)<|Zq _)
   (XM<|Zi VG)
   Zo)
   (XM (WK (Ze (IT K<|MN hr) (XC (i6 T) hr T.q_exchanged Zs<|XZ (pv 3)<|XZ (Zy (Zb K) (pv 7) (Zr WO (pv 8) Za) λ_ _=>rfl)<|XZ (Zy (ZF K) (pv 9) Za λ_ _=>rfl)<|XZ (Zy (ZF K) (pv 9) Za λ_ _=>rfl) XY) (Zy (Zb K) (pv 7) (pv 8) λ_ _=>rfl)<|Zq _)
   (XM<|Zi VG)
   Zo))))
   Zo))))
   (XM<|Zi<|XC (fN T hB) hr T.q_law_ends_good Zs<|XZ (pv 3)<|XZ (pv 5) XY))))))))),?_⟩
  refine⟨_,Z,a,ns,6,10,Z,hS,GZ,S,S,S,S,λr l n xs ps H1 s1 VX Qw To hP hG hnm ud=>?_⟩;refine⟨r,_,Z,SqT.of VX,Z,_,_,Z,_,_,Z,Z,?_⟩;have NO:=hP.1
  obtain⟨g1,g2,g3,g4⟩:=id hG;refine⟨_,Z,_,Z,_,Z,_,Z,l,xs,Z,.inl<|SqL.of To,a,ns,xs.length,Z,s1.seq hS,GZ,J,λb ls H2 s2 _ hb US hTl=>?_⟩;have hl:ls.length=ps.length:=J
  refine⟨n,l,b,xs,ps,ls,Z,SqL.of<|s2 _ _ To,hP.same s2,SqL.of hb,hG,hl,hTl,λH3 s3=>?_⟩;have vY:=s2.trans s3
  refine⟨n,ps,ls,Z,hG,hl,hTl,λtA x LA H4 s4 ha0 OK hW hLA=>?_⟩;refine⟨tA,_,Z,SqT.of OK,Z,_,_,Z,_,_,Z,Z,?_⟩;have sH4:=s1.trans (vY.trans s4)
  refine⟨_,Z,x,n,ps,Z,hW,hG,λc H5 hc s5=>?_⟩;refine nm ?_;refine⟨_,Z,Z,_,Z,?_⟩;rw[ZB];have vS:=sH4.trans s5
  refine Xd (λ_=>k _) λc0=>?_;refine WG ?_;obtain⟨F,hF⟩:∃F,Zh n ps F:=by
   obtain⟨L,_,hm,hl⟩:=hc;cases L with
   |nil=>exact absurd (XB Int.ofNat hl.symm) c0
   |cons F L=>exact⟨F,(hm F).mp Ya⟩
  obtain⟨R,hR,Hj,hRm⟩:=kW hG ⟨F,hF⟩;obtain⟨_,_,_,_,_,_,_,_,Sm⟩:=id hR;obtain rfl:=hc.uniq Sm;have trees:∀V∈R,Zh n ps V:=λV hV=>(hRm V).mp hV
  have vT:=Cj hG Sm;have cp:(0:Int)<R.length:=J
  refine⟨_,Z,a,ns,Z,vS.seq hS,_,_,Z,Z,⟨S,S⟩,_,_,Z,Z,(by show(0:Int)<10^Int.toNat 60;decide),_,Z,_,_,Z,Z,cp,?_⟩;refine nm ?_;dsimp only[List.set];have i0:=Ws (ns.sum%10^Int.toNat 60) (by lia:(R.length:Int)≠0)
  have i1:=VT (ns.sum%10^Int.toNat 60) cp;generalize ns.sum%10^Int.toNat 60%R.length=I at *;obtain⟨I,rfl⟩:=vB i0;have Ue:=hTb.same vS
  have vL:=hW.same s5;refine⟨_,Z,_,Z,x,n,ps,I,8,R,Z,vL,hG,Ue,J,J,S,S,λ_=>hR,λno=>absurd hF<|no F,λ_ rA rs H6 LV WV VH VI hX=>?_,λh=>absurd h J⟩;rw[show(8:Int).toNat=8 from Z,YD]at hX;refine nm ?_;have hTr:rs.length=min 8 (R.length-I):=by rw[hX.1,Yl,YV]
  have NB:=vL.samex Ue LV;have at':∀(m:Nat)(hm:m<rs.length),∃c U,rs[m]?=some (.ref c)/\H6 c=some (.tup<|IL U)/\R[I+m]?=some U:=λm hm=>by
   have hU:=Xw (show I+m<R.length by lia);have e:((R.drop I).take 8)[m]?=some (R[I+m]'(by lia)):=by rwa[RB,if_pos J,Fv]
   obtain⟨v,hv,c,rfl,hc⟩:=hX.2 m _ e;exact⟨c,_,hv,hc,hU⟩
  have fJ:∀(m:Nat)(v:V),rs[m]?=some v->Wo rs (m:Int)=some v:=λm v h=>Zx (n:=m) rfl h;obtain⟨c0,U0,RN,LW,hR0⟩:=at' 0 J;refine⟨_,rfl,rA,rs,rfl,.inl<|SqL.of VI,_,rfl,_,rfl,_,_,rfl,rfl,_,_,rfl,rfl,_,rfl,?_⟩;rw[ZB];refine Lh (by split<;>lia) ?_
  refine⟨_,Z,rA,rs,0,.ref c0,Z,Z,SqL.of VI,fJ 0 _ RN,_,Z,_,Z,x,n,ps,I,R,Z,NB,hG,WV,J,J,hR,λ_ _ q7 U7 H7 vR NC GU hq7=>?_,λh=>absurd h J⟩;rw[YD]at vR;rw[Nat.add_zero,vR]at hR0;cases hR0;refine⟨1,_,c0,q7,Z,Z,S,IK (SqT.of<|NC _ _ (WV.ne LW B) LW)<|SqT.of hq7,_,Z,?_⟩;rw[Yn Z];refine WB ?_;show(_:Prop)
  refine WG ?_;have fI:=NC _ _ (WV.ne VI B) VI
  have hAd:Adj RP R:=by obtain⟨ld,F2,inc,fu,TU,_⟩:=id hR;exact(ZW3 (L:=F2) hG hR TU.tr.1 λU hU=>TU.least U<|Uv.mpr hU).2.1
  refine⟨_,Z,rA,rs,Z,.inl<|SqL.of fI,_,Z,J,J,Jt (lo:=0) (n:=(rs.length:Int).toNat) (λi σ H8=>∃v8 v9,σ=[some (.ref a),some<|.int n,some<|.ref l,some<|.ref x,some<|.ref LA,some<|.int R.length,some<|.int I,some<|.ref rA,v8,v9]/\SameX Pt H6 H8/\Xn H8 Pt) ⟨_,_,Z,NC,GU⟩ ?_ ?_⟩;rotate_left
  .rintro σ H8 ⟨v8,v9,rfl,Kk,VA⟩;refine WG ?_;exact⟨_,Z,_,Z,x,n,ps,R,Z,NB.samex WV Kk,hG,VA,hR,Hj,trees,λH9 QN QL=>k _⟩
  rintro i σ H8 hi ⟨v8,v9,rfl,Kk,VA⟩;obtain⟨c,U,hci,FC,vK⟩:=at' i J;have tU:=trees U (Xf vK)
  have fH:=SqL.of (K:=K) (Kk _ _ (WV.ne VI B) VI);have hc8:=Kk _ _ (WV.ne FC B) FC
  have fL:=NB.samex WV Kk;have iz:Wo rs (0+(i:Int))=some (.ref c):=by rw[JQ];exact fJ i _ hci
  refine nm ?_;dsimp only[List.set];refine⟨_,Z,_,Z,_,Z,rA,rs,_,.ref c,Z,Z,fH,iz,x,c,n,ps,true,U,Z,fL,hG,SqT.of hc8,λb H9 s9 hb=>⟨_,Z,?_⟩⟩;obtain rfl:b=true:=hb.mpr tU;refine WB ?_;have QL:=VA.same s9
  have QN:=Kk.trans (SameX.same s9);have fG:=SqL.of (K:=K) (QN _ _ (WV.ne VI B) VI)
  refine⟨_,Z,_,Z,_,Z,rA,rs,_,.ref c,Z,Z,fG,iz,x,c,n,ps,U,R,Z,NB.samex WV QN,hG,QL,SqT.of<|s9 _ _ hc8,tU,hR,Xf vK,λj Hz hj zC Te=>?_⟩;obtain rfl:j=I+i:=(JV (Xs.mp hj).1 Hj).mp (hj.trans vK.symm);have Ud:=QN.trans zC
  refine⟨_,Z,_,Z,_,_,Z,Z,Z,_,Z,?_⟩;rw[ZB];refine Lh J ?_;show(_:Prop)
  refine WG ?_;refine⟨_,Z,_,_,Z,Z,_,Z,?_⟩;refine Xd (λQX=>?_) λ_=>⟨_,_,Z,Ud,Te⟩;obtain⟨m,rfl⟩:∃m,i=m+1:=⟨i-1,J⟩;obtain⟨d,W,hdi,FA,zB⟩:=at' m J;have tW:=trees W (Xf zB)
  have iy:Wo rs (0+((m+1:Nat):Int)-1)=some (.ref d):=by rw[show(0+((m+1:Nat):Int)-1)=(m:Int) by lia];exact fJ m _ hdi
  have vJ:R[I+m+1]?=some U:=vK;have fF:=SqL.of (K:=K) (Ud _ _ (WV.ne VI B) VI)
  have AA:=Ud _ _ (WV.ne FA B) FA;refine⟨_,Z,_,Z,_,Z,_,_,Z,Z,rA,rs,_,.ref d,Z,Z,fF,iy,x,d,n,ps,W,R,I+m,Z,NB.samex WV Ud,hG,Te,SqT.of AA,tW,hR,Hj,zB,trees,λv QO hv zA RH=>?_⟩;rw[vJ]at hv;obtain⟨p,o,z,rfl,hp,o1,o2,z1,z2⟩:=(show ∃r o z,v=.ref r/\QO r=some (.tup [.int o,.int z])/\o∈W/\o∉U/\z∈U/\z∉W from hv);have Si:=Ud.trans zA
  refine nm ?_;dsimp only[List.set];have fE:=SqL.of (K:=K) (Si _ _ (WV.ne VI B) VI)
  refine⟨_,Z,_,Z,_,Z,_,_,Z,Z,rA,rs,_,.ref d,Z,Z,fE,iy,x,d,n,ps,W,R,I+m,Z,NB.samex WV Si,hG,RH,SqT.of<|Si _ _ (WV.ne FA B) FA,tW,hR,Hj,zB,λv H12 hv Kf Ke=>?_⟩;rw[vJ]at hv;obtain⟨e1,rfl,Ih⟩:=(show WA H12 v U from hv);have LM:=Si.trans Kf
  have zy:=SqL.of (K:=K) (LM _ _ (WV.ne VI B) VI);have zx:=LM _ _ (WV.ne FC B) FC
  have zw:=Kf _ _ (RH.ne hp B) hp;refine⟨_,Z,_,Z,rA,rs,_,.ref c,Z,Z,zy,iz,1,_,e1,c,Z,Z,S,IK (SqT.of Ih)<|SqT.of zx,_,Z,?_⟩;rw[Yn Z];refine WB ?_;refine⟨_,Z,_,Z,_,Z,rA,rs,_,.ref c,Z,Z,zy,iz,x,c,n,ps,U,R,I+m+1,Z,NB.samex WV LM,hG,Ke,SqT.of zx,tU,hR,Hj,vJ,λv H13 hv Kd zv=>?_⟩;rw[if_neg (Nat.succ_ne_zero _),show I+m+1-1=I+m from Z,zB]at hv;obtain⟨f1,rfl,FJ⟩:=(show WA H13 v W from hv);have LL:=LM.trans Kd
  have zu:=SqL.of (K:=K) (LL _ _ (WV.ne VI B) VI);have zt:=LL _ _ (WV.ne FA B) FA
  have zr:=Kd _ _ (Ke.ne zw B) zw;refine⟨_,Z,_,Z,_,_,Z,Z,rA,rs,_,.ref d,Z,Z,zu,iy,1,_,f1,d,Z,Z,S,IK (SqT.of FJ)<|SqT.of zt,_,Z,?_⟩;rw[Yn Z];refine WB ?_;show(_:Prop)
  refine WG ?_;obtain⟨hx,vQ⟩:=fK hG tW tU (hAd (I+m) W U zB vJ) o1 o2 z1 z2;have ob:=tW.1.all o o1
  have zb:=tU.1.all z z1;refine⟨_,Z,_,Z,_,Z,_,_,Z,Z,rA,rs,_,.ref d,Z,Z,zu,iy,_,Z,p,_,0,.int o,Z,Z,SqT.of zr,Z,_,Z,p,_,1,.int z,Z,Z,SqT.of zr,Z,x,d,n,ps,true,W,o,z,Z,NB.samex WV LL,hG,SqT.of zt,J,J,J,J,λ_ _ ms Vs Sw r5 H14 LX hr50 g9=>?_,λ_ h=>absurd hx h,λh=>absurd tW h⟩;obtain rfl:=vQ ms Vs Sw;have GS:=LL.trans (SameX.same LX)
  have fD:=SqL.of (K:=K) (GS _ _ (WV.ne VI B) VI);have fC:=GS _ _ (WV.ne FC B) FC
  refine⟨_,Z,_,Z,rA,rs,_,.ref c,Z,Z,fD,iz,1,_,r5,c,Z,Z,S,IK (SqT.of g9)<|SqT.of fC,_,Z,?_⟩;rw[Yn Z];refine WB ?_;show(_:Prop)
  refine WG ?_;exact⟨_,_,Z,GS,zv.same LX⟩
end
end My
namespace My
open PySem L2
theorem QK {K:Ad} {f:Addr} {fd:FuncData} (F:Fun K "law" "law" sZ11 f fd) (s:Shared) (u:Value):BindsTo s fd ⟨[u],[]⟩ [("script",u)]:=by obtain⟨oc,od,kV,doc,pm,an,XG,ct,Uo,rfl,lk,Ub⟩:=F.ex;exact .of_eq rfl
end My
open PySem PySem.W PyProof.Rows
set_option maxRecDepth 100000 in
set_option maxHeartbeats 0 in
theorem PySem.Challenge.cw_spanrow_k91_whole_row_step_by_step_holds : PySem.Challenge.rw_spanrow_k91_whole_row_step_by_step.Holds := by
 w_on;o_law;k_head;(case hw=>w_witness2)
 k_fill
 refine L2.OQ (l:=PySem.Challenge.rw_spanrow_k91_whole_row_step_by_step) (n:=63) (k:=48) (x:="script") (CX:=L2.Xl) (sp:=λK=>My.Kg K 360) (c:=362) (Pt:=360) rfl (by decide) rfl ⟨rfl,by decide,by decide⟩ (λw h Y=>⟨PySem.W.km_in_of Y,PySem.W.km_tabs_of Y 360 (XF.mpr rfl)⟩) ?C ?P ?F (λ_ H a ns hl hO hS=>⟨a,ns,rfl,hS,hl,⟨#[],hO.1,trivial,.inl rfl⟩,λ_=>rfl⟩) (λ_ _ _ _ z=>z)
 case C=>intro w;kernel_rfl
 case P=>intro w;kernel_rfl
 case F =>
  intro w mg fa h KX G DQ;obtain⟨⟨aZ0,dZ0,q_refuse_not_square⟩,⟨aZ1,dZ1,q_row_taken_off⟩,⟨aZ2,dZ2,q_first_with_some⟩,⟨aZ3,dZ3,q_determinant⟩,⟨aZ4,dZ4,q_row_without⟩,⟨aZ5,dZ5,q_table_without⟩,⟨aZ6,dZ6,q_is_tie⟩,⟨aZ7,dZ7,q_refuse_bad_web⟩,⟨aZ9,dZ9,q_all_ties⟩,⟨aZa,dZa,q_ties_beside⟩,⟨aZb,dZb,q_ties_without⟩,⟨aZc,dZc,q_is_set⟩,⟨aZd,dZd,q_made_set⟩,⟨aZe,dZe,q_merged_marks⟩,⟨aZf,dZf,q_piece_marks⟩,⟨aZg,dZg,q_pieces_of⟩,⟨aZh,dZh,q_is_joined⟩,⟨aZi,dZi,q_refuse_parted⟩,⟨aZj,dZj,q_weighted_table⟩,⟨aZk,dZk,q_pull_table⟩,⟨aZl,dZl,q_tree_count⟩,⟨aZm,dZm,q_part_count⟩,⟨aZn,dZn,q_is_tree⟩,⟨aZo,dZo,q_refuse_no_tree⟩,⟨aZp,dZp,q_grown_tree⟩,⟨aZq,dZq,q_least_tree⟩,⟨aZr,dZr,q_tree_cut⟩,⟨aZs,dZs,q_ring_of⟩,⟨aZt,dZt,q_exchanged⟩,⟨aZu,dZu,q_least_in⟩,⟨aZv,dZv,q_end_pieces⟩,⟨aZw,dZw,q_open_ties⟩,⟨aZy,dZy,q_whole_part⟩,⟨aZz,dZz,q_half_without⟩,⟨aZA,dZA,q_half_with⟩,⟨aZB,dZB,q_part_size⟩,⟨aZC,dZC,q_trees_with_tie⟩,⟨aZD,dZD,q_undivided_row⟩,⟨aZE,dZE,q_trees_between⟩,⟨aZF,dZF,q_refuse_below_nought⟩,⟨aZG,dZG,q_row_from⟩,⟨aZH,dZH,q_row_at⟩,⟨aZI,dZI,q_row_last⟩,⟨aZJ,dZJ,q_number_in⟩,⟨aZK,dZK,q_row_number⟩,⟨aZL,dZL,q_row_next⟩,⟨aZM,dZM,q_row_ahead⟩,⟨aZN,dZN,q_row_step⟩,⟨aZO,dZO,q_is_number⟩,⟨aZP,dZP,q_read_number⟩,⟨aZQ,dZQ,q_read_line⟩,⟨aZR,dZR,q_read_web⟩,⟨aZS,dZS,q_law_cell⟩,⟨aZT,dZT,q_law_mixed⟩,⟨aZU,dZU,q_law_draws⟩,⟨aZV,dZV,q_law_ties⟩,⟨aZW,dZW,q_law_web⟩,⟨aZX,dZX,q_law_lengths⟩,⟨aZY,dZY,q_law_text⟩,⟨aZZ,dZZ,q_law_none⟩,⟨aZ01,dZ01,q_law_ends_good⟩,⟨aZ11,dZ11,q_law⟩⟩:My.FQ (L2.Xj KX) mg "refuse_not_square" (My.top 11) ["table"]/\My.FQ (L2.Xj KX) mg "row_taken_off" (My.top 12) ["row","pivot","last"]/\My.FQ (L2.Xj KX) mg "first_with_some" (My.top 13) ["rows"]/\My.FQ (L2.Xj KX) mg "determinant" (My.top 14) ["table"]/\My.FQ (L2.Xj KX) mg "row_without" (My.top 15) ["row","number"]/\My.FQ (L2.Xj KX) mg "table_without" (My.top 16) ["table","number"]/\My.FQ (L2.Xj KX) mg "is_tie" (My.top 22) ["web","number"]/\My.FQ (L2.Xj KX) mg "refuse_bad_web" (My.top 21) ["places","ties"]/\My.FQ (L2.Xj KX) mg "all_ties" (My.top 23) ["web"]/\My.FQ (L2.Xj KX) mg "ties_beside" (My.top 24) ["web","ties"]/\My.FQ (L2.Xj KX) mg "ties_without" (My.top 25) ["ties","left_out"]/\My.FQ (L2.Xj KX) mg "is_set" (My.top 26) ["web","ties"]/\My.FQ (L2.Xj KX) mg "made_set" (My.top 27) ["web","ties"]/\My.FQ (L2.Xj KX) mg "merged_marks" (My.top 28) ["web","marks","ties"]/\My.FQ (L2.Xj KX) mg "piece_marks" (My.top 29) ["web","ties"]/\My.FQ (L2.Xj KX) mg "pieces_of" (My.top 30) ["web","ties"]/\My.FQ (L2.Xj KX) mg "is_joined" (My.top 31) ["web","ties"]/\My.FQ (L2.Xj KX) mg "refuse_parted" (My.top 32) ["web"]/\My.FQ (L2.Xj KX) mg "weighted_table" (My.top 34) ["web","weights"]/\My.FQ (L2.Xj KX) mg "pull_table" (My.top 35) ["web"]/\My.FQ (L2.Xj KX) mg "tree_count" (My.top 36) ["web"]/\My.FQ (L2.Xj KX) mg "part_count" (My.top 37) ["web","inside","outside"]/\My.FQ (L2.Xj KX) mg "is_tree" (My.top 39) ["web","ties"]/\My.FQ (L2.Xj KX) mg "refuse_no_tree" (My.top 40) ["web","tree"]/\My.FQ (L2.Xj KX) mg "grown_tree" (My.top 41) ["web","inside","order"]/\My.FQ (L2.Xj KX) mg "least_tree" (My.top 42) ["web"]/\My.FQ (L2.Xj KX) mg "tree_cut" (My.top 43) ["web","tree","tie"]/\My.FQ (L2.Xj KX) mg "ring_of" (My.top 44) ["web","tree","tie"]/\My.FQ (L2.Xj KX) mg "exchanged" (My.top 45) ["web","tree","out","into"]/\My.FQ (L2.Xj KX) mg "least_in" (My.top 47) ["web","inside","outside"]/\My.FQ (L2.Xj KX) mg "end_pieces" (My.top 50) ["web","marks","tie"]/\My.FQ (L2.Xj KX) mg "open_ties" (My.top 51) ["web","marks","gone"]/\My.FQ (L2.Xj KX) mg "whole_part" (My.top 53) ["web"]/\My.FQ (L2.Xj KX) mg "half_without" (My.top 54) ["part"]/\My.FQ (L2.Xj KX) mg "half_with" (My.top 55) ["part"]/\My.FQ (L2.Xj KX) mg "part_size" (My.top 56) ["part"]/\My.FQ (L2.Xj KX) mg "trees_with_tie" (My.top 57) ["part","into"]/\My.FQ (L2.Xj KX) mg "undivided_row" (My.top 58) ["part"]/\My.FQ (L2.Xj KX) mg "trees_between" (My.top 59) ["part","size","start","stop"]/\My.FQ (L2.Xj KX) mg "refuse_below_nought" (My.top 48) ["number"]/\My.FQ (L2.Xj KX) mg "row_from" (My.top 61) ["web","number","most"]/\My.FQ (L2.Xj KX) mg "row_at" (My.top 62) ["web","number"]/\My.FQ (L2.Xj KX) mg "row_last" (My.top 63) ["web"]/\My.FQ (L2.Xj KX) mg "number_in" (My.top 60) ["part","size","tree"]/\My.FQ (L2.Xj KX) mg "row_number" (My.top 64) ["web","tree"]/\My.FQ (L2.Xj KX) mg "row_next" (My.top 65) ["web","tree"]/\My.FQ (L2.Xj KX) mg "row_ahead" (My.top 66) ["web","tree"]/\My.FQ (L2.Xj KX) mg "row_step" (My.top 67) ["web","tree"]/\My.FQ (L2.Xj KX) mg "is_number" (My.top 71) ["word"]/\My.FQ (L2.Xj KX) mg "read_number" (My.top 72) ["word"]/\My.FQ (L2.Xj KX) mg "read_line" (My.top 73) ["line","name","many"]/\My.FQ (L2.Xj KX) mg "read_web" (My.top 74) ["text"]/\My.FQ (L2.Xj KX) mg "_law_cell" (My.top 76) ["script","k"]/\My.FQ (L2.Xj KX) mg "_law_mixed" (My.top 77) ["cell","k"]/\My.FQ (L2.Xj KX) mg "_law_draws" (My.top 78) ["script","start","count","way"]/\My.FQ (L2.Xj KX) mg "_law_ties" (My.top 79) ["draws","places","hang"]/\My.FQ (L2.Xj KX) mg "_law_web" (My.top 80) ["script","most","count"]/\My.FQ (L2.Xj KX) mg "_law_lengths" (My.top 81) ["script","count"]/\My.FQ (L2.Xj KX) mg "_law_text" (My.top 82) ["places","ties","lengths"]/\My.FQ (L2.Xj KX) mg "_law_none" (My.top 83) ["web","number"]/\My.FQ (L2.Xj KX) mg "_law_ends_good" (My.top 84) ["web","many"]/\My.FQ (L2.Xj KX) mg "law" My.sZ11 ["script"]:=by
   dsimp only [L2.Xj];refine⟨?_,?_,?_,?_,?_,?_,?_,?_,?_,?_,?_,?_,?_,?_,?_,?_,?_,?_,?_,?_,?_,?_,?_,?_,?_,?_,?_,?_,?_,?_,?_,?_,?_,?_,?_,?_,?_,?_,?_,?_,?_,?_,?_,?_,?_,?_,?_,?_,?_,?_,?_,?_,?_,?_,?_,?_,?_,?_,?_,?_,?_,?_⟩
   all_goals (refine' My.Bi KX G ?a ?l ?c ?k ?b;(case a | l | c | k=>k_is);(case b=>first | exact λ_ _ _ _ _ _=>My.un1 λ_=>rfl | exact λ_ _ _ _ _ _=>My.rG λ_ _=>rfl | exact λ_ _ _ _ _ _=>My.ai λ_ _ _=>rfl | exact λ_ _ _ _ _ _=>My.un4 λ_ _ _ _=>rfl))
  have zq:My.dr (L2.Xj KX) mg "Web" "Web.__init__" My.sZ8 ["places","ties"]:=by
   dsimp only [L2.Xj];refine' My.DE KX G ?aC ?a ?i ?l ?c ?k ?pg ?hd ?po ?sa ?mk ?kc ?na
   (case aC=>k_is);(case a=>k_is);(case i=>k_is);(case l=>k_is);(case c=>k_is);(case k=>k_is)
   (case pg=>k_is);(case hd=>k_is);(case po=>k_is);(case sa=>k_is);(case mk=>k_is);(case kc=>k_is)
   (case na=>(intro f hf;simp only [Ye,JF,or_false]at hf;rcases hf with rfl | rfl <;> k_is))
  have GR:My.BB (L2.Xj KX) mg "Part" "Part.__init__" My.sZx ["web","kept","shut","lead","least","incoming","further"] 360:=by
   dsimp only [L2.Xj];refine' My.HQ KX G ?aC ?a ?i ?l ?c ?k ?pg ?hd ?po ?sa ?mk ?kc ?na ?z
   (case aC=>k_is);(case a=>k_is);(case i=>k_is);(case l=>k_is);(case c=>k_is);(case k=>k_is)
   (case pg=>k_is);(case hd=>k_is);(case po=>k_is);(case sa=>k_is);(case mk=>k_is);(case kc=>k_is)
   (case na=>(intro f hf;simp only [Ye,JF,or_false]at hf;rcases hf with rfl | rfl | rfl | rfl | rfl | rfl | rfl <;> k_is))
   (case z=>kernel_rfl)
  have hX:∃ A_NoSuch:Addr,mg "NoSuch"=some (.ref A_NoSuch)/\L2.XCls (L2.Xj KX) (A_NoSuch)/\PySem.W.exmOne (L2.Xj KX) (.ref (A_NoSuch)) (.ref (A_NoSuch))=some true:=by
   dsimp only [L2.Xj];refine' My.xI (⟨GD KX G ?m_NoSuch,⟨?x_NoSuch_ex,?x_NoSuch_ga,?x_NoSuch_gh,?x_NoSuch_cl,?x_NoSuch_ob,?x_NoSuch_bx⟩,?em_NoSuch⟩)
   (case m_NoSuch=>k_is)
   (case x_NoSuch_ex=>k_exc);(case x_NoSuch_ga=>k_is);(case x_NoSuch_gh=>k_is);(case x_NoSuch_cl=>k_is);(case x_NoSuch_ob=>k_is);(case x_NoSuch_bx=>k_is)
   (case em_NoSuch=>kts_exm)
  have h_MOST_PLACES:∃ tk,mg "MOST_PLACES"=some (.int 14 tk):=by
   refine' My.Ve KX G ?a ?b
   (case a=>k_is);(case b=>exact⟨_,rfl⟩)
  have h_MOST_TIES:∃ tk,mg "MOST_TIES"=some (.int 30 tk):=by
   refine' My.Ve KX G ?a ?b
   (case a=>k_is);(case b=>exact⟨_,rfl⟩)
  have h_FIGURES:∃ tk,mg "FIGURES"=some (.str "0123456789" tk):=by
   refine' My.QW KX G ?a ?b
   (case a=>k_is);(case b=>exact⟨_,rfl⟩)
  have h_MOST_FIGURES:∃ tk,mg "MOST_FIGURES"=some (.int 60 tk):=by
   refine' My.Ve KX G ?a ?b
   (case a=>k_is);(case b=>exact⟨_,rfl⟩)
  have zp:mg "any"=none:=by refine' YX KX G ?a;case a=>k_is
  have h_enumerate:mg "enumerate"=none:=by refine' YX KX G ?a;case a=>k_is
  have zm:mg "int"=none:=by refine' YX KX G ?a;case a=>k_is
  have zk:mg "len"=none:=by refine' YX KX G ?a;case a=>k_is
  have GQ:mg "list"=none:=by refine' YX KX G ?a;case a=>k_is
  have zj:mg "max"=none:=by refine' YX KX G ?a;case a=>k_is
  have zh:mg "min"=none:=by refine' YX KX G ?a;case a=>k_is
  have LK:mg "range"=none:=by refine' YX KX G ?a;case a=>k_is
  have h_reversed:mg "reversed"=none:=by refine' YX KX G ?a;case a=>k_is
  have zg:mg "set"=none:=by refine' YX KX G ?a;case a=>k_is
  have Ou:mg "sorted"=none:=by refine' YX KX G ?a;case a=>k_is
  have zf:mg "str"=none:=by refine' YX KX G ?a;case a=>k_is
  have ze:mg "sum"=none:=by refine' YX KX G ?a;case a=>k_is
  have LJ:mg "tuple"=none:=by refine' YX KX G ?a;case a=>k_is
  have zd:mg "zip"=none:=by refine' YX KX G ?a;case a=>k_is
  obtain⟨A_Web,aZ8,dZ8,c_Web,fZ8,cl_Web,k_Web,Ot⟩:=zq;obtain⟨A_Part,aZx,dZx,y9,c_Part,fZx,cl_Part,k_Part,Wv,y8,y7⟩:=GR;obtain⟨A_NoSuch,c_NoSuch,x_NoSuch,em_NoSuch⟩:=hX;have T:My.Txt (L2.Xj KX) mg ⟨aZ0,aZ1,aZ2,aZ3,aZ4,aZ5,aZ6,aZ7,aZ8,aZ9,aZa,aZb,aZc,aZd,aZe,aZf,aZg,aZh,aZi,aZj,aZk,aZl,aZm,aZn,aZo,aZp,aZq,aZr,aZs,aZt,aZu,aZv,aZw,aZx,aZy,aZz,aZA,aZB,aZC,aZD,aZE,aZF,aZG,aZH,aZI,aZJ,aZK,aZL,aZM,aZN,aZO,aZP,aZQ,aZR,aZS,aZT,aZU,aZV,aZW,aZX,aZY,aZZ,aZ01,aZ11,A_Web,A_Part,A_NoSuch,dZ0,dZ1,dZ2,dZ3,dZ4,dZ5,dZ6,dZ7,dZ8,dZ9,dZa,dZb,dZc,dZd,dZe,dZf,dZg,dZh,dZi,dZj,dZk,dZl,dZm,dZn,dZo,dZp,dZq,dZr,dZs,dZt,dZu,dZv,dZw,dZx,dZy,dZz,dZA,dZB,dZC,dZD,dZE,dZF,dZG,dZH,dZI,dZJ,dZK,dZL,dZM,dZN,dZO,dZP,dZQ,dZR,dZS,dZT,dZU,dZV,dZW,dZX,dZY,dZZ,dZ01,dZ11⟩:=⟨q_refuse_not_square,q_row_taken_off,q_first_with_some,q_determinant,q_row_without,q_table_without,q_is_tie,q_refuse_bad_web,fZ8,fZ8.binds (λ_ _ _ _ _ _=>My.ai λ_ _ _=>rfl),q_all_ties,q_ties_beside,q_ties_without,q_is_set,q_made_set,q_merged_marks,q_piece_marks,q_pieces_of,q_is_joined,q_refuse_parted,q_weighted_table,q_pull_table,q_tree_count,q_part_count,q_is_tree,q_refuse_no_tree,q_grown_tree,q_least_tree,q_tree_cut,q_ring_of,q_exchanged,q_least_in,q_end_pieces,q_open_ties,fZx,fZx.binds (λ_ _ _ _ _ _=>My.un5 λ_ _ _ _ _=>rfl),q_whole_part,q_half_without,q_half_with,q_part_size,q_trees_with_tie,q_undivided_row,q_trees_between,q_refuse_below_nought,q_row_from,q_row_at,q_row_last,q_number_in,q_row_number,q_row_next,q_row_ahead,q_row_step,q_is_number,q_read_number,q_read_line,q_read_web,q_law_cell,q_law_mixed,q_law_draws,q_law_ties,q_law_web,q_law_lengths,q_law_text,q_law_none,q_law_ends_good,q_law,c_Web,cl_Web,k_Web,Ot _ (by simp),Ot _ (by simp),c_Part,cl_Part,k_Part,Wv _ (by simp),Wv _ (by simp),Wv _ (by simp),Wv _ (by simp),Wv _ (by simp),Wv _ (by simp),Wv _ (by simp),c_NoSuch,x_NoSuch,em_NoSuch,h_MOST_PLACES,h_MOST_TIES,h_FIGURES,h_MOST_FIGURES,zp,h_enumerate,zm,zk,GQ,zj,zh,LK,h_reversed,zg,Ou,zf,ze,LJ,zd⟩
  have e0:=DQ.symm.trans q_law.mm;cases e0;exact⟨dZ11,λs u=>My.QK q_law.fn s u,λbase _ _ HB=>My.zD T ⟨y9,y8,y7,HB,by decide⟩⟩
#print axioms PySem.Challenge.cw_spanrow_k91_whole_row_step_by_step_holds
